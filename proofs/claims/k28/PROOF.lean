import PyProof.Rows.All
import Wide.All
import OpenK.AllK
import Wide.FinOn
import HandS.Evl
import HandS.ForMost
import HandS.IsInst
import HandS.Zip
import HandS.Wide
import HandS.TupMul
import HandS.EndBits
import HandS.Steps
import HandS.SetFor
import HandS.Strs
import HandS.DictComp
import HandS.SetKeys
import HandS.Deep
import KE.GoesMore
import KE.GoesEnum
import KE.DataCmp
import KE.SortData
import HandS.Lambda
import HandS.Style
import HandS.EndTab
import KE.SortKeyHeap
import HandS.SortKw
import HandS.EndOwn
import KE.KDictPairs
import KE.KDictCopyH
import KE.DatumOrd
import HandS.More
import HandS.HeadHook3
import HandS.TupLen
import PySem.Challenge.RW_commonage_k28_locks_and_barriers
set_option Elab.async false
set_option linter.all false
set_option maxRecDepth 100000
set_option maxHeartbeats 4000000
namespace G
open PySem PySem.Spec PyProof.Rows L2
open Evl (Ex ex_rd ex_l ex_t rMax2)
theorem ex_none {H H' : Hp} {p : Addr} (e : Ex H H') (h : H' p = none) : H p = none := Evl.fresh_back e h
section
variable {K : PySem.W.Frag} {H H' : Hp}
mutual
theorem dpx (e : Ex H H') : ∀ {v : V} {d : PyData}, Dp K H v d → Dp K H' v d
  | _, _, .non => .non
  | _, _, .bl b => .bl b
  | _, _, .int i => .int i
  | _, _, .str x => .str x
  | _, _, .lst h a => .lst (ex_l e h) (dpax e a)
  | _, _, .tup h a => .tup (ex_t e h) (dpax e a)
theorem dpax (e : Ex H H') : ∀ {vs : List V} {ds : List PyData}, DpAll K H vs ds → DpAll K H' vs ds
  | _, _, .nil => .nil
  | _, _, .cons h t => .cons (dpx e h) (dpax e t)
end
theorem dpa_len : ∀ {vs : List V} {ds : List PyData}, DpAll K H vs ds → vs.length = ds.length
  | _, _, .nil => rfl
  | _, _, .cons _ t => congrArg (· + 1) (dpa_len t)
theorem dpa_get : ∀ {vs : List V} {ds : List PyData} {i : Nat} {d : PyData}, DpAll K H vs ds → ds[i]? = some d → ∃ v, vs[i]? = some v ∧ Dp K H v d
  | _, _, _, _, .nil, e => by simp at e
  | _, _, 0, _, .cons r _, e => by simp at e; subst e; exact ⟨_, rfl, r⟩
  | _, _, i + 1, d, .cons _ t, e => by
    obtain ⟨u, h1, h2⟩ := dpa_get (i := i) (d := d) t (by simpa using e)
    exact ⟨u, by simpa using h1, h2⟩
theorem dpa_app : ∀ {vs ws : List V} {ds es : List PyData}, DpAll K H vs ds → DpAll K H ws es → DpAll K H (vs ++ ws) (ds ++ es)
  | _, _, _, _, .nil, s => s
  | _, _, _, _, .cons r t, s => .cons r (dpa_app t s)
theorem dpa_set {v : V} {d : PyData} (r : Dp K H v d) : ∀ {vs : List V} {ds : List PyData} (i : Nat), DpAll K H vs ds → DpAll K H (vs.set i v) (ds.set i d)
  | _, _, _, .nil => .nil
  | _, _, 0, .cons _ t => .cons r t
  | _, _, i + 1, .cons q t => .cons q (dpa_set r i t)
theorem dpa_ints : ∀ {xs : List Int}, DpAll K H (xs.map V.int) (xs.map PyData.int)
  | [] => .nil
  | x :: xs => .cons (.int x) (dpa_ints)
end
/-! ### slots -/
inductive Sl where
  | no
  | dat (d : PyData)
  | ownq (z : Option Addr) (ds : List PyData)
abbrev Sl.own (ds : List PyData) : Sl := .ownq none ds
abbrev Sl.int (i : Int) : Sl := .dat (.int i)
abbrev Sl.bl (b : Bool) : Sl := .dat (.bool b)
inductive Has (K : PySem.W.Frag) (C H : Hp) : List Sl → L2.St → List Addr → Prop
  | nil : Has K C H [] [] []
  | no {Γ : List Sl} {σ : L2.St} {ps : List Addr} {x : Option V} : Has K C H Γ σ ps → Has K C H (.no :: Γ) (x :: σ) ps
  | dat {Γ : List Sl} {σ : L2.St} {ps : List Addr} {v : V} {d : PyData} : Dp K C v d → Has K C H Γ σ ps → Has K C H (.dat d :: Γ) (some v :: σ) ps
  | own {Γ : List Sl} {σ : L2.St} {ps : List Addr} {p : Addr} {vs : List V} {ds : List PyData} {z : Option Addr} : (∀ r, z = some r → r = p) → H p = some (.lst vs) → DpAll K C vs ds → Has K C H Γ σ ps → Has K C H (.ownq z ds :: Γ) (some (.ref p) :: σ) (p :: ps)
section
variable {K : PySem.W.Frag} {C C' H H' : Hp} {Γ : List Sl} {σ : L2.St} {ps : List Addr}
theorem Has.own_some (h : Has K C H Γ σ ps) : ∀ p ∈ ps, ∃ xs, H p = some (.lst xs) := by
  induction h with
  | nil => intro p hp; cases hp
  | no _ ih => exact ih
  | dat _ _ ih => exact ih
  | own _ e _ _ ih =>
    intro p hp
    rcases List.mem_cons.mp hp with rfl | hp
    · exact ⟨_, e⟩
    · exact ih p hp
theorem Has.mono (h : Has K C H Γ σ ps) (e : Ex C C') (f : ∀ p ∈ ps, ∀ o, H p = some o → H' p = some o) : Has K C' H' Γ σ ps := by
  induction h with
  | nil => exact .nil
  | no _ ih => exact .no (ih f)
  | dat d _ ih => exact .dat (dpx e d) (ih f)
  | own y q d _ ih => exact .own y (f _ List.mem_cons_self _ q) (dpax e d) (ih fun p hp => f p (List.mem_cons_of_mem _ hp))
theorem Has.len (h : Has K C H Γ σ ps) : Γ.length = σ.length := by
  induction h with
  | nil => rfl
  | no _ ih => simp [ih]
  | dat _ _ ih => simp [ih]
  | own _ _ _ _ ih => simp [ih]
theorem Has.get_dat (h : Has K C H Γ σ ps) : ∀ {i : Nat} {d : PyData}, Γ[i]? = some (.dat d) → ∃ v, σ[i]? = some (some v) ∧ Dp K C v d := by
  induction h with
  | nil => intro i d e; simp at e
  | no _ ih => intro i d e; cases i with
    | zero => simp at e
    | succ i => exact ih (by simpa using e)
  | dat q _ ih => intro i d e; cases i with
    | zero => simp at e; subst e; exact ⟨_, rfl, q⟩
    | succ i => exact ih (by simpa using e)
  | own _ _ _ _ ih => intro i d e; cases i with
    | zero => simp at e
    | succ i => exact ih (by simpa using e)
/-- a slot is given another content -/
theorem Has.set {s : Sl} {x : Option V} {rs : List Addr} (h : Has K C H Γ σ ps) (r : Has K C H [s] [x] rs) : ∀ (i : Nat), ∃ qs, Has K C H (Γ.set i s) (σ.set i x) qs ∧ (∀ p ∈ qs, p ∈ rs ∨ p ∈ ps) ∧ ((rs ++ ps).Nodup → qs.Nodup) := by
  have keep : ∀ {Γ : List Sl} {σ : L2.St} {ps : List Addr}, Has K C H Γ σ ps → ∃ qs, Has K C H (s :: Γ) (x :: σ) qs ∧ qs = rs ++ ps := by
    intro Γ σ ps q
    cases r with
    | no r => cases r; exact ⟨_, .no q, rfl⟩
    | dat d r => cases r; exact ⟨_, .dat d q, rfl⟩
    | own y e d r => cases r; exact ⟨_, .own y e d q, rfl⟩
  induction h with
  | nil => intro i; exact ⟨[], .nil, (fun p hp => by cases hp), fun _ => List.nodup_nil⟩
  | no q ih => intro i; cases i with
    | zero => obtain ⟨qs, h1, rfl⟩ := keep q; exact ⟨_, h1, fun p hp => List.mem_append.mp hp, fun n => n⟩
    | succ i => obtain ⟨qs, h1, h2, h3⟩ := ih i; exact ⟨qs, .no h1, h2, h3⟩
  | dat d q ih => intro i; cases i with
    | zero => obtain ⟨qs, h1, rfl⟩ := keep q; exact ⟨_, h1, fun p hp => List.mem_append.mp hp, fun n => n⟩
    | succ i => obtain ⟨qs, h1, h2, h3⟩ := ih i; exact ⟨qs, .dat d h1, h2, h3⟩
  | own y e d q ih => intro i; cases i with
    | zero =>
      obtain ⟨qs, h1, rfl⟩ := keep q
      refine ⟨_, h1, fun p hp => ?_, fun n => ?_⟩
      · rcases List.mem_append.mp hp with z | z
        · exact .inl z
        · exact .inr (List.mem_cons_of_mem _ z)
      · exact n.sublist (List.Sublist.append_left (List.sublist_cons_self _ _) rs)
    | succ i =>
      obtain ⟨qs, h1, h2, h3⟩ := ih i
      refine ⟨_, .own y e d h1, fun p hp => ?_, fun n => ?_⟩
      · rcases List.mem_cons.mp hp with rfl | z
        · exact .inr List.mem_cons_self
        · rcases h2 p z with z | z
          · exact .inl z
          · exact .inr (List.mem_cons_of_mem _ z)
      · have n' := (List.perm_middle.nodup_iff).mp n
        refine List.nodup_cons.mpr ⟨fun hm => ?_, h3 (List.nodup_cons.mp n').2⟩
        rcases h2 _ hm with z | z
        · exact (List.nodup_cons.mp n').1 (List.mem_append_left _ z)
        · exact (List.nodup_cons.mp n').1 (List.mem_append_right _ z)
end
/-! ### the state: what is known of slots and heap -/
structure Bs where
  K : PySem.W.Frag
  H0 : Hp
  B : Hp
structure Cfg (b : Bs) (C H : Hp) (ps : List Addr) : Prop where
  bc : Ex b.B C
  ch : Ex C H
  h0 : Ex b.H0 H
  fr : ∀ a, b.H0 a ≠ none → b.B a = none → C a = none
  ow : ∀ p ∈ ps, C p = none ∧ b.H0 p = none
  nd : ps.Nodup
def HsC (b : Bs) (C : Hp) (T : List Sl) (τ : L2.St) (Γ : List Sl) (σ : L2.St) (H : Hp) : Prop := ∃ ps qs, Cfg b C H (ps ++ qs) ∧ Has b.K C H T τ ps ∧ Has b.K C H Γ σ qs
def Hs (b : Bs) (T : List Sl) (τ : L2.St) (Γ : List Sl) (σ : L2.St) (H : Hp) : Prop := ∃ C, HsC b C T τ Γ σ H
/-- from a heap H of which C is known: the value v, told by s, in H' -/
def Ret (K : PySem.W.Frag) (H C : Hp) (s : Sl) (v : V) (H' : Hp) : Prop :=
  ∃ C' ps, Ex C C' ∧ Ex C' H' ∧ Ex H H' ∧ (∀ a, H a ≠ none → C a = none → C' a = none) ∧ Has K C' H' [s] [some v] ps ∧ ∀ p ∈ ps, C' p = none ∧ H p = none
section
variable {K : PySem.W.Frag} {C H H' : Hp} {s : Sl} {v : V} {d : PyData} {ds : List PyData} {vs : List V} {p : Addr}
theorem Ret.same (e : Ex C H) (h : Dp K C v d) : Ret K H C (.dat d) v H := ⟨C, [], Ex.refl C, e, Ex.refl H, fun _ _ z => z, .dat h .nil, fun p hp => by cases hp⟩
theorem ret_fresh (hp : H p = none) {o : HO} (e : Ex C H) : Ex (upd C p o) (upd H p o) := fun a u h => by
  by_cases z : a = p
  · subst z; rw [upd_same] at h ⊢; exact h
  · rw [upd_ne z] at h ⊢; exact e a u h
theorem Ret.tup (e : Ex C H) (h : DpAll K C vs ds) (hp : H p = none) : Ret K H C (.dat (.tuple ds)) (.ref p) (upd H p (.tup vs)) := by
  have hc : C p = none := ex_none e hp
  refine ⟨upd C p (.tup vs), [], Ex.new hc, ret_fresh hp e, Ex.new hp, fun a z c => ?_, .dat (.tup (.inl (.inl upd_same)) (dpax (Ex.new hc) h)) .nil, fun p hp => by cases hp⟩
  rw [upd_ne (fun q => z (by rw [q]; exact hp))]; exact c
theorem Ret.lst (e : Ex C H) (h : DpAll K C vs ds) (hp : H p = none) : Ret K H C (.own ds) (.ref p) (upd H p (.lst vs)) :=
  ⟨C, [p], Ex.refl C, e.trans (Ex.new hp), Ex.new hp, fun _ _ z => z, .own (fun _ q => nomatch q) upd_same h .nil, fun q hq => by
    rcases List.mem_singleton.mp hq with rfl
    exact ⟨ex_none e hp, hp⟩⟩
theorem Ret.list (e : Ex C H) (h : DpAll K C vs ds) (hp : H p = none) : Ret K H C (.dat (.list ds)) (.ref p) (upd H p (.lst vs)) := by
  have hc : C p = none := ex_none e hp
  refine ⟨upd C p (.lst vs), [], Ex.new hc, ret_fresh hp e, Ex.new hp, fun a z c => ?_, .dat (.lst (.inl (.inl upd_same)) (dpax (Ex.new hc) h)) .nil, fun p hp => by cases hp⟩
  rw [upd_ne (fun q => z (by rw [q]; exact hp))]; exact c
theorem Ret.freeze {z : Option Addr} (r : Ret K H C (.ownq z ds) v H') : Ret K H C (.dat (.list ds)) v H' := by
  obtain ⟨C', ps, e1, e2, e3, fr, h, ow⟩ := r
  cases h with
  | own y e d r =>
    cases r
    rename_i q vs
    obtain ⟨o1, o2⟩ := ow q List.mem_cons_self
    refine ⟨upd C' q (.lst vs), [], e1.trans (Ex.new o1), fun a u h => ?_, e3, fun a z c => ?_, .dat (.lst (.inl (.inl upd_same)) (dpax (Ex.new o1) d)) .nil, fun p hp => by cases hp⟩
    · by_cases z : a = q
      · subst z; rw [upd_same] at h; cases h; exact e
      · rw [upd_ne z] at h; exact e2 a u h
    · rw [upd_ne (fun y => z (by rw [y]; exact o2))]; exact fr a z c
end
section
variable {b : Bs} {C : Hp} {T Γ Γ' Γ1 Γ2 : List Sl} {τ σ : L2.St} {H H' : Hp} {s s' : Sl} {v : V} {d e : PyData} {ds es : List PyData} {vs : List V}
theorem HsC.ch (h : HsC b C T τ Γ σ H) : Ex C H := by obtain ⟨ps, qs, c, _⟩ := h; exact c.ch
/-- a computation's result is put on the pile -/
theorem HsC.step (h : HsC b C T τ Γ σ H) (r : Ret b.K H C s v H') : Hs b (s :: T) (some v :: τ) Γ σ H' := by
  obtain ⟨ps, qs, c, h1, h2⟩ := h
  obtain ⟨C', rs, e1, e2, e3, fr, h3, ow⟩ := r
  have hsome : ∀ p ∈ ps ++ qs, ∃ xs, H p = some (.lst xs) := fun p hp => by
    rcases List.mem_append.mp hp with z | z
    · exact h1.own_some p z
    · exact h2.own_some p z
  have hT : Has b.K C' H' (s :: T) (some v :: τ) (rs ++ ps) := by
    have h1' := h1.mono e1 (fun p _ o q => e3 p o q)
    cases h3 with
    | no z => cases z; exact .no h1'
    | dat q z => cases z; exact .dat q h1'
    | own y q q2 z => cases z; exact .own y q q2 h1'
  refine ⟨C', rs ++ ps, qs, ⟨c.bc.trans e1, e2, c.h0.trans e3, fun a z y => ?_, fun p hp => ?_, ?_⟩, hT, h2.mono e1 (fun p _ o q => e3 p o q)⟩
  · refine fr a (fun q => ?_) (c.fr a z y)
    cases z1 : b.H0 a with
    | none => exact z z1
    | some o => rw [c.h0 a o z1] at q; cases q
  · rw [List.append_assoc] at hp
    rcases List.mem_append.mp hp with z | z
    · exact ⟨(ow p z).1, ex_none c.h0 (ow p z).2⟩
    · obtain ⟨xs, hx⟩ := hsome p z
      exact ⟨fr p (by rw [hx]; intro q; cases q) (c.ow p z).1, (c.ow p z).2⟩
  · rw [List.append_assoc]
    refine List.nodup_append.mpr ⟨?_, c.nd, fun p hp q hq e => ?_⟩
    · cases h3 with
      | no z => cases z; exact List.nodup_nil
      | dat _ z => cases z; exact List.nodup_nil
      | own _ _ _ z => cases z; simp
    · subst e
      obtain ⟨xs, hx⟩ := hsome p hq
      rw [(ow p hp).2] at hx; cases hx
theorem HsC.sub {T' : List Sl} {τ' : L2.St} {ps' qs' : List Addr} (c : Cfg b C H ps') (h1 : Has b.K C H T' τ' qs') (h2 : ∀ p ∈ qs', p ∈ ps') (h3 : qs'.Nodup) : Cfg b C H qs' :=
  ⟨c.bc, c.ch, c.h0, c.fr, fun p hp => c.ow p (h2 p hp), h3⟩
theorem Cfg.sub {ps' qs' : List Addr} (c : Cfg b C H ps') (h2 : ∀ p ∈ qs', p ∈ ps') (h3 : qs'.Nodup) : Cfg b C H qs' :=
  ⟨c.bc, c.ch, c.h0, c.fr, fun p hp => c.ow p (h2 p hp), h3⟩
/-- the top of the pile is read, data -/
theorem HsC.pop (h : HsC b C (.dat d :: T) (some v :: τ) Γ σ H) : Dp b.K C v d ∧ HsC b C T τ Γ σ H := by
  obtain ⟨ps, qs, c, h1, h2⟩ := h
  cases h1 with
  | dat q h1 => exact ⟨q, ps, qs, c, h1, h2⟩
theorem HsC.drop {x : Option V} (h : HsC b C (s :: T) (x :: τ) Γ σ H) : HsC b C T τ Γ σ H := by
  obtain ⟨ps, qs, c, h1, h2⟩ := h
  cases h1 with
  | no h1 => exact ⟨ps, qs, c, h1, h2⟩
  | dat q h1 => exact ⟨ps, qs, c, h1, h2⟩
  | own y q q2 h1 => exact ⟨_, qs, c.sub (fun p hp => List.mem_cons_of_mem _ hp) (List.nodup_cons.mp c.nd).2, h1, h2⟩
theorem HsC.push (h : HsC b C T τ Γ σ H) (q : Dp b.K C v d) : HsC b C (.dat d :: T) (some v :: τ) Γ σ H := by
  obtain ⟨ps, qs, c, h1, h2⟩ := h
  exact ⟨ps, qs, c, .dat q h1, h2⟩
theorem HsC.pushAll (h : HsC b C T τ Γ σ H) : ∀ {vs : List V} {ds : List PyData}, DpAll b.K C vs ds → HsC b C (ds.map Sl.dat ++ T) (vs.map some ++ τ) Γ σ H
  | _, _, .nil => h
  | _, _, .cons r t => (h.pushAll t).push r
theorem HsC.popAll : ∀ {vs : List V} {ds : List PyData}, vs.length = ds.length → HsC b C (ds.map Sl.dat ++ T) (vs.map some ++ τ) Γ σ H → DpAll b.K C vs ds ∧ HsC b C T τ Γ σ H
  | [], [], _, h => ⟨.nil, h⟩
  | v :: vs, d :: ds, e, h => by
    obtain ⟨q, h⟩ := HsC.pop (T := ds.map Sl.dat ++ T) (τ := vs.map some ++ τ) h
    obtain ⟨q2, h⟩ := HsC.popAll (vs := vs) (ds := ds) (by simpa using e) h
    exact ⟨.cons q q2, h⟩
/-- the top of the pile is stored in a slot -/
theorem Hs.store {x : Option V} (h : Hs b (s :: T) (x :: τ) Γ σ H) (i : Nat) : Hs b T τ (Γ.set i s) (σ.set i x) H := by
  obtain ⟨C, ps, qs, c, h1, h2⟩ := h
  have main : ∀ {rs ps' : List Addr}, Has b.K C H [s] [x] rs → Has b.K C H T τ ps' → ps = rs ++ ps' → Hs b T τ (Γ.set i s) (σ.set i x) H := by
    clear h1
    rintro rs ps' r h1 rfl
    obtain ⟨qs', g1, g2, g3⟩ := h2.set r i
    have nd := c.nd
    refine ⟨C, ps', qs', c.sub (fun p hp => ?_) ?_, h1, g1⟩
    · rcases List.mem_append.mp hp with z | z
      · exact List.mem_append_left _ (List.mem_append_right _ z)
      · rcases g2 p z with z | z
        · exact List.mem_append_left _ (List.mem_append_left _ z)
        · exact List.mem_append_right _ z
    · rw [List.append_assoc] at nd
      have n1 := List.nodup_append.mp nd
      have n2 := List.nodup_append.mp n1.2.1
      refine List.nodup_append.mpr ⟨n2.1, g3 (List.nodup_append.mpr ⟨n1.1, n2.2.1, fun p hp q hq => n1.2.2 p hp q (List.mem_append_right _ hq)⟩), fun p hp q hq => ?_⟩
      rcases g2 q hq with z | z
      · exact fun e => n1.2.2 q z p (List.mem_append_left _ hp) e.symm
      · exact n2.2.2 p hp q z
  cases h1 with
  | no h1 => exact main (.no .nil) h1 rfl
  | dat q h1 => exact main (.dat q .nil) h1 rfl
  | own y q q2 h1 => exact main (.own y q q2 .nil) h1 rfl
theorem Hs.pop (h : Hs b (.dat d :: T) (some v :: τ) Γ σ H) : ∃ C, Dp b.K C v d ∧ HsC b C T τ Γ σ H := by
  obtain ⟨C, h⟩ := h
  exact ⟨C, h.pop⟩
theorem Hs.drop {x : Option V} (h : Hs b (s :: T) (x :: τ) Γ σ H) : Hs b T τ Γ σ H := by
  obtain ⟨C, h⟩ := h
  exact ⟨C, h.drop⟩
/-- a list of one's own becomes data -/
theorem Hs.freeze {z : Option Addr} (h : Hs b (.ownq z ds :: T) (some v :: τ) Γ σ H) : Hs b (.dat (.list ds) :: T) (some v :: τ) Γ σ H := by
  obtain ⟨C, ps, qs, c, h1, h2⟩ := h
  cases h1 with
  | own y e d h1 =>
    rename_i ps q vs
    obtain ⟨o1, o2⟩ := c.ow q (List.mem_append_left _ List.mem_cons_self)
    have hne : ∀ p ∈ ps ++ qs, p ≠ q := fun p hp z => by
      subst z
      exact (List.nodup_cons.mp c.nd).1 hp
    refine ⟨upd C q (.lst vs), ps, qs, ⟨c.bc.trans (Ex.new o1), fun a u h => ?_, c.h0, fun a z y => ?_, fun p hp => ?_, (List.nodup_cons.mp c.nd).2⟩, .dat (.lst (.inl (.inl upd_same)) (dpax (Ex.new o1) d)) (h1.mono (Ex.new o1) fun _ _ _ z => z), h2.mono (Ex.new o1) fun _ _ _ z => z⟩
    · by_cases z : a = q
      · subst z; rw [upd_same] at h; cases h; exact e
      · rw [upd_ne z] at h; exact c.ch a u h
    · rw [upd_ne (fun y => z (by rw [y]; exact o2))]; exact c.fr a z y
    · rw [upd_ne (hne p hp)]; exact c.ow p (List.mem_cons_of_mem _ hp)
/-- the end of a def: what its caller gets -/
theorem Hs.ret {τ' : L2.St} {x : V} (h : Hs b (s :: T) (some x :: τ') Γ σ H) : Ret b.K b.H0 b.B s x H := by
  obtain ⟨C, ps, qs, c, h1, h2⟩ := h
  have main : ∀ {rs ps' : List Addr}, Has b.K C H [s] [some x] rs → ps = rs ++ ps' → Ret b.K b.H0 b.B s x H := by
    rintro rs ps' r rfl
    exact ⟨C, rs, c.bc, c.ch, c.h0, c.fr, r, fun p hp => c.ow p (List.mem_append_left _ (List.mem_append_left _ hp))⟩
  cases h1 with
  | no h1 => exact main (.no .nil) rfl
  | dat q h1 => exact main (.dat q .nil) rfl
  | own y q q2 h1 => exact main (.own y q q2 .nil) rfl
/-! ### expressions -/
def EvS (b : Bs) (te : TE) (Γ Γ' : List Sl) (s : Sl) : Prop := ∀ T τ σ H, Hs b T τ Γ σ H → ∀ Q : VK, (∀ v H', Hs b (s :: T) (some v :: τ) Γ' σ H' → Q v H') → te σ H Q
def EvT (b : Bs) (tt : TT) (Γ Γ' : List Sl) (k : Bool) : Prop := ∀ T τ σ H, Hs b T τ Γ σ H → ∀ Q : Bool → Hp → Prop, (∀ H', Hs b T τ Γ' σ H' → Q k H') → tt σ H Q
def EvA (b : Bs) (ta : TA) (Γ Γ' : List Sl) (ds : List PyData) : Prop := ∀ T τ σ H, Hs b T τ Γ σ H → ∀ Q : List V → Hp → Prop, (∀ vs H' C, HsC b C T τ Γ' σ H' → DpAll b.K C vs ds → Q vs H') → ta σ H Q
def RD (K : PySem.W.Frag) (r : R2) (d e : PyData) (s : Sl) : Prop := ∀ C H x y, Ex C H → Dp K C x d → Dp K C y e → ∀ Q : VK, (∀ v H', Ret K H C s v H' → Q v H') → r x y H Q
def UD (K : PySem.W.Frag) (r : V → Hp → VK → Prop) (d : PyData) (s : Sl) : Prop := ∀ C H x, Ex C H → Dp K C x d → ∀ Q : VK, (∀ v H', Ret K H C s v H' → Q v H') → r x H Q
def CD (K : PySem.W.Frag) (r : List V → Hp → VK → Prop) (ds : List PyData) (s : Sl) : Prop := ∀ C H vs, Ex C H → DpAll K C vs ds → ∀ Q : VK, (∀ v H', Ret K H C s v H' → Q v H') → r vs H Q
theorem s_var {i : Nat} (h : Γ[i]? = some (.dat d)) : EvS b (tVar i) Γ Γ (.dat d) := fun T τ σ H hs Q q => by
  obtain ⟨C, ps, qs, c, h1, h2⟩ := hs
  obtain ⟨v, e, dv⟩ := h2.get_dat h
  exact ⟨v, e, q v H ⟨C, ps, qs, c, .dat dv h1, h2⟩⟩
theorem s_ret {v : V} {te : TE} (h : ∀ σ H Q, Q v H → te σ H Q) (hd : ∀ C, Dp b.K C v d) : EvS b te Γ Γ (.dat d) := fun T τ σ H hs Q q => by
  obtain ⟨C, hs⟩ := hs
  exact h σ H Q (q v H ⟨C, hs.push (hd C)⟩)
theorem s_int {i : Int} : EvS b (tC (.int i)) Γ Γ (.dat (.int i)) := s_ret (v := .int i) (fun _ _ _ q => q) fun _ => .int i
theorem s_bl {k : Bool} : EvS b (tC (.bl k)) Γ Γ (.dat (.bool k)) := s_ret (v := .bl k) (fun _ _ _ q => q) fun _ => .bl k
theorem s_str {x : Str} : EvS b (tC (.str x)) Γ Γ (.dat (.str x)) := s_ret (v := .str x) (fun _ _ _ q => q) fun _ => .str x
theorem s_non : EvS b (tC .non) Γ Γ (.dat .none) := s_ret (v := .non) (fun _ _ _ q => q) fun _ => .non
theorem s_op {ta tb : TE} {r : R2} (ha : EvS b ta Γ Γ1 (.dat d)) (hb : EvS b tb Γ1 Γ2 (.dat e)) (hr : RD b.K r d e s) : EvS b (tOp r ta tb) Γ Γ2 s := fun T τ σ H hs Q q =>
  ha T τ σ H hs _ fun x H1 h1 => hb _ _ σ H1 h1 _ fun y H2 h2 => by
    obtain ⟨C, dy, h3⟩ := h2.pop
    obtain ⟨dx, h4⟩ := h3.pop
    exact hr C H2 x y h4.ch dx dy Q fun v H3 rt => q v H3 (h4.step rt)
theorem s_un {ta : TE} {r : V → Hp → VK → Prop} (ha : EvS b ta Γ Γ1 (.dat d)) (hr : UD b.K r d s) : EvS b (tUn r ta) Γ Γ1 s := fun T τ σ H hs Q q =>
  ha T τ σ H hs _ fun x H1 h1 => by
    obtain ⟨C, dx, h4⟩ := h1.pop
    exact hr C H1 x h4.ch dx Q fun v H3 rt => q v H3 (h4.step rt)
theorem a_nil : EvA b tNil Γ Γ [] := fun T τ σ H hs Q q => by
  obtain ⟨C, hs⟩ := hs
  exact q [] H C hs .nil
theorem a_cons {ta : TE} {tr : TA} (ha : EvS b ta Γ Γ1 (.dat d)) (hr : EvA b tr Γ1 Γ2 ds) : EvA b (tCons ta tr) Γ Γ2 (d :: ds) := fun T τ σ H hs Q q =>
  ha T τ σ H hs _ fun x H1 h1 => hr _ _ σ H1 h1 _ fun xs H2 C h2 dxs => by
    obtain ⟨dx, h3⟩ := h2.pop
    exact q _ H2 C h3 (.cons dx dxs)
theorem s_cb {ta : TA} {r : List V → Hp → VK → Prop} (ha : EvA b ta Γ Γ1 ds) (hr : CD b.K r ds s) : EvS b (tCB r ta) Γ Γ1 s := fun T τ σ H hs Q q =>
  ha T τ σ H hs _ fun vs H1 C h1 dv => hr C H1 vs h1.ch dv Q fun v H2 rt => q v H2 (h1.step rt)
theorem s_tup {ta : TA} (ha : EvA b ta Γ Γ1 ds) (hl : ds.length ≤ 100000 := by decide) : EvS b (tTup ta) Γ Γ1 (.dat (.tuple ds)) := fun T τ σ H hs Q q =>
  ha T τ σ H hs _ fun vs H1 C h1 dv => ⟨by rw [dpa_len dv]; exact Nat.le_trans hl (by decide), fun p hp => q _ _ (h1.step (Ret.tup h1.ch dv hp))⟩
theorem s_lst {ta : TA} (ha : EvA b ta Γ Γ1 ds) (hl : ds.length ≤ 100000 := by decide) : EvS b (tLst ta) Γ Γ1 (.own ds) := fun T τ σ H hs Q q =>
  ha T τ σ H hs _ fun vs H1 C h1 dv => ⟨by rw [dpa_len dv]; exact Nat.le_trans hl (by decide), fun p hp => q _ _ (h1.step (Ret.lst h1.ch dv hp))⟩
theorem s_weak {te : TE} {z : Option Addr} (h : EvS b te Γ Γ1 (.ownq z ds)) : EvS b te Γ Γ1 (.dat (.list ds)) := fun T τ σ H hs Q q => h T τ σ H hs Q fun v H' h' => q v H' h'.freeze
theorem s_lstD {ta : TA} (ha : EvA b ta Γ Γ1 ds) (hl : ds.length ≤ 100000 := by decide) : EvS b (tLst ta) Γ Γ1 (.dat (.list ds)) := s_weak (s_lst ha hl)
theorem s_is {te : TE} (h : EvS b te Γ Γ1 s) (e : s = s') : EvS b te Γ Γ1 s' := e ▸ h
theorem s_dat {te : TE} {d d' : PyData} (h : EvS b te Γ Γ1 (.dat d)) (e : d = d') : EvS b te Γ Γ1 (.dat d') := e ▸ h
theorem t_is {tt : TT} {k k' : Bool} (h : EvT b tt Γ Γ1 k) (e : k = k') : EvT b tt Γ Γ1 k' := e ▸ h
/-! ### promises of pure defs -/
def spP (K : PySem.W.Frag) (f : List PyData → Sl → Prop) : Sp := fun vs H Q _ => ∃ C ds s, Ex C H ∧ DpAll K C vs ds ∧ f ds s ∧ ∀ v H', Ret K H C s v H' → Q v H'
theorem s_call {ta : TA} {f : List PyData → Sl → Prop} {E : XK} (ha : EvA b ta Γ Γ1 ds) (hf : f ds s) : EvS b (tCall (spP b.K f) [] E ta) Γ Γ1 s := fun T τ σ H hs Q q =>
  ha T τ σ H hs _ fun vs H1 C h1 dv => by
    rw [List.append_nil]
    exact ⟨C, ds, s, h1.ch, dv, hf, fun v H2 rt => q v H2 (h1.step rt)⟩
/-! ### tests -/
theorem t_test {te : TE} {k : Bool} (h : EvS b te Γ Γ1 (.dat (.bool k))) : EvT b (tTest te) Γ Γ1 k := fun T τ σ H hs Q q =>
  h T τ σ H hs _ fun v H' h' => by
    obtain ⟨C, dv, h2⟩ := h'.pop
    cases dv
    exact ⟨k, rfl, q H' ⟨C, h2⟩⟩
theorem t_B {te : TE} {k : Bool} (h : EvS b te Γ Γ1 (.dat (.bool k))) : EvT b (tB te) Γ Γ1 k := t_test h
theorem t_yes : EvT b tYes Γ Γ true := fun T τ σ H hs Q q => q H hs
theorem t_not {t : TT} {k : Bool} (h : EvT b t Γ Γ1 k) : EvT b (tNot t) Γ Γ1 (!k) := fun T τ σ H hs Q q => h T τ σ H hs _ fun H' h' => q H' h'
theorem t_and {t u : TT} {k l : Bool} (h : EvT b t Γ Γ k) (h2 : k = true → EvT b u Γ Γ l) : EvT b (tAnd t u) Γ Γ (k && l) := fun T τ σ H hs Q q => h T τ σ H hs _ fun H' h' => by
  cases k with
  | true => exact (iteT (h2 rfl T τ σ H' h' Q q))
  | false => exact (iteF (q H' h'))
theorem t_or {t u : TT} {k l : Bool} (h : EvT b t Γ Γ k) (h2 : k = false → EvT b u Γ Γ l) : EvT b (tOr t u) Γ Γ (k || l) := fun T τ σ H hs Q q => h T τ σ H hs _ fun H' h' => by
  cases k with
  | true => exact (iteT (q H' h'))
  | false => exact (iteF (h2 rfl T τ σ H' h' Q q))
theorem s_andV {ta tb : TE} {k l : Bool} (h : EvS b ta Γ Γ (.dat (.bool k))) (h2 : k = true → EvS b tb Γ Γ (.dat (.bool l))) : EvS b (tAndV ta tb) Γ Γ (.dat (.bool (k && l))) := fun T τ σ H hs Q q => h T τ σ H hs _ fun v H' h' => by
  obtain ⟨C, dv, h3⟩ := h'.pop
  cases dv
  refine ⟨k, rfl, ?_⟩
  cases k with
  | true => exact (iteT (h2 rfl T τ σ H' ⟨C, h3⟩ Q q))
  | false => exact (iteF (q _ H' h'))
theorem s_orV {ta tb : TE} {k l : Bool} (h : EvS b ta Γ Γ (.dat (.bool k))) (h2 : k = false → EvS b tb Γ Γ (.dat (.bool l))) : EvS b (tOrV ta tb) Γ Γ (.dat (.bool (k || l))) := fun T τ σ H hs Q q => h T τ σ H hs _ fun v H' h' => by
  obtain ⟨C, dv, h3⟩ := h'.pop
  cases dv
  refine ⟨k, rfl, ?_⟩
  cases k with
  | true => exact (iteT (q _ H' h'))
  | false => exact (iteF (h2 rfl T τ σ H' ⟨C, h3⟩ Q q))
theorem s_notV {ta : TE} {k : Bool} (h : EvS b ta Γ Γ1 (.dat (.bool k))) : EvS b (tNotV ta) Γ Γ1 (.dat (.bool (!k))) := fun T τ σ H hs Q q => h T τ σ H hs _ fun v H' h' => by
  obtain ⟨C, dv, h3⟩ := h'.pop
  cases dv
  exact ⟨k, rfl, q _ H' ⟨C, h3.push (.bl _)⟩⟩
theorem s_if {t : TT} {ta tb : TE} {k : Bool} (h : EvT b t Γ Γ1 k) (h1 : k = true → EvS b ta Γ1 Γ2 s) (h2 : k = false → EvS b tb Γ1 Γ2 s) : EvS b (tIf t ta tb) Γ Γ2 s := fun T τ σ H hs Q q => h T τ σ H hs _ fun H' h' => by
  cases k with
  | true => exact iteT (h1 rfl T τ σ H' h' Q q)
  | false => exact iteF (h2 rfl T τ σ H' h' Q q)
/-! ### statements: N is shown in every state that is so -/
def Nx (b : Bs) (N : L2.St → Hp → Prop) (T : List Sl) (τ : L2.St) (Γ : List Sl) : Prop := ∀ σ H, Hs b T τ Γ σ H → N σ H
variable {D : Ends} {t u : TS} {te : TE}
theorem n_seq (h : Nx b (t { D with nx := u D }) T τ Γ) : Nx b (tSeq t u D) T τ Γ := h
theorem n_set {i : Nat} (h : EvS b te Γ Γ1 s) (k : Nx b D.nx T τ (Γ1.set i s)) : Nx b (tAsg te (gName i) D) T τ Γ := fun σ H hs => h T τ σ H hs _ fun v H' h' => k _ _ (h'.store i)
theorem n_drop (h : EvS b te Γ Γ1 s) (k : Nx b D.nx T τ Γ1) : Nx b (tDrop te D) T τ Γ := fun σ H hs => h T τ σ H hs _ fun v H' h' => k _ _ h'.drop
theorem n_ret (h : EvS b te Γ Γ1 s) (k : ∀ v H', Ret b.K b.H0 b.B s v H' → D.rt v H') : Nx b (tRet te D) T τ Γ := fun σ H hs => h T τ σ H hs _ fun v H' h' => k v H' h'.ret
theorem n_if {tt : TT} {k : Bool} (h : EvT b tt Γ Γ1 k) (h1 : k = true → Nx b (t D) T τ Γ1) (h2 : k = false → Nx b (u D) T τ Γ1) : Nx b (tIfS tt t u D) T τ Γ := fun σ H hs => h T τ σ H hs _ fun H' h' => by
  cases k with
  | true => exact iteT (h1 rfl σ H' h')
  | false => exact iteF (h2 rfl σ H' h')
theorem n_next (k : Nx b D.nx T τ Γ) : Nx b (tNext D) T τ Γ := k
theorem n_hs : Nx b (fun σ H => Hs b T τ Γ σ H) T τ Γ := fun _ _ h => h
/-! ### what is walked -/
def ItOk (K : PySem.W.Frag) (J : It) (vs : List V) (ds its : List PyData) : Prop := ∀ C H, Ex C H → DpAll K C vs ds → J.stop its.length H ∧ ∀ i di, its[i]? = some di → J.go i H ∧ ∀ x H', J.yld i H x H' → Ret K H C (.dat di) x H'
def EvI (b : Bs) (wi : TI) (Γ Γ' : List Sl) (ds its : List PyData) : Prop := ∀ T τ σ H, Hs b T τ Γ σ H → ∀ R : It → Hp → Prop, (∀ J vs H' C, ItOk b.K J vs ds its → HsC b C T τ Γ' σ H' → DpAll b.K C vs ds → R J H') → wi σ H R
/-- what a target does -/
def EvG (b : Bs) (g : TG) (d : PyData) (Γ Γ' : List Sl) : Prop := ∀ T τ σ H x, Hs b (.dat d :: T) (some x :: τ) Γ σ H → ∀ Q : L2.St → Hp → Prop, (∀ σ', Hs b T τ Γ' σ' H → σ'.length = σ.length → Q σ' H) → g x σ H Q
theorem g_name {i : Nat} : EvG b (gName i) d Γ (Γ.set i (.dat d)) := fun T τ σ H x hs Q q => q _ (hs.store i) (by simp)
theorem g_tup2 {K : PySem.W.Frag} (hK : b.K = K) {i j : Nat} {d e : PyData} : EvG b (gTup K 2 (gCons (gName i) (gCons (gName j) gNil))) (.tuple [d, e]) Γ ((Γ.set i (.dat d)).set j (.dat e)) := fun T τ σ H x hs Q q => by
  obtain ⟨C, dx, h⟩ := hs.pop
  subst hK
  cases dx with
  | tup hq ha =>
    rename_i a xs
    cases ha with
    | cons r1 ha =>
      cases ha with
      | cons r2 ha =>
        cases ha
        rename_i v1 v2
        refine ⟨a, _, rfl, ex_t h.ch hq, rfl, v1, _, rfl, v2, _, rfl, rfl, ?_⟩
        have s1 : Hs b (.dat d :: .dat e :: T) (some v1 :: some v2 :: τ) Γ σ H := ⟨C, (h.push r2).push r1⟩
        exact q _ ((s1.store i).store j) (by simp)
theorem n_for {wi : TI} {g : TG} {tb : TS} {its : List PyData} (hI : EvI b wi Γ Γ1 ds its) (G G' : Nat → List Sl) (h0 : G 0 = Γ1)
    (hg : ∀ i di, its[i]? = some di → EvG b g di (G i) (G' i))
    (hb : ∀ i di (vs : List V), vs.length = ds.length → its[i]? = some di → Nx b (tb { D with nx := fun σ H => Hs b (ds.map Sl.dat ++ T) (vs.map some ++ τ) (G (i + 1)) σ H, ct := fun σ H => Hs b (ds.map Sl.dat ++ T) (vs.map some ++ τ) (G (i + 1)) σ H, bk := D.nx }) (ds.map Sl.dat ++ T) (vs.map some ++ τ) (G' i))
    (hd : Nx b D.nx T τ (G its.length)) : Nx b (tFor wi g tb D) T τ Γ := fun σ H hs => hI T τ σ H hs _ fun J vs H1 C ok h1 dv => by
  have hl := dpa_len dv
  refine ⟨fun i m σ' H' => i ≤ its.length ∧ m = its.length - i ∧ Hs b (ds.map Sl.dat ++ T) (vs.map some ++ τ) (G i) σ' H', ⟨_, Nat.zero_le _, rfl, h0 ▸ ⟨C, h1.pushAll dv⟩⟩, ?_⟩
  rintro i m σ' H' ⟨hi, rfl, C', h2⟩
  obtain ⟨dv', h3⟩ := HsC.popAll hl h2
  obtain ⟨st, go⟩ := ok C' H' h3.ch dv'
  by_cases hlt : i < its.length
  · obtain ⟨g1, g2⟩ := go i its[i] (by simp [hlt])
    refine .inr ⟨g1, _, fun σ2 H2 n => ⟨its.length - (i + 1), by omega, hlt, rfl, n⟩, fun x H2 y => ?_⟩
    exact hg i its[i] (by simp [hlt]) _ _ _ _ _ (h2.step (g2 x H2 y)) _ fun σ3 h5 _ => hb i its[i] vs hl (by simp [hlt]) σ3 H2 h5
  · have e : i = its.length := by omega
    subst e
    exact .inl ⟨st, hd σ' H' ⟨C', h3⟩⟩
/-- wiped slots -/
def wipeG : List Sl → List Nat → List Sl
  | Γ, [] => Γ
  | Γ, v :: vs => (wipeG Γ vs).set v .no
theorem hs_wipe (h : Hs b T τ Γ σ H) : ∀ vs : List Nat, Hs b T τ (wipeG Γ vs) (wipe σ vs) H
  | [] => h
  | v :: vs => by
    have h1 := hs_wipe h vs
    have h2 : Hs b (.no :: T) (none :: τ) (wipeG Γ vs) (wipe σ vs) H := by
      obtain ⟨C, ps, qs, c, g1, g2⟩ := h1
      exact ⟨C, ps, qs, c, .no g1, g2⟩
    exact h2.store v
end
end G
namespace G
open PySem PySem.Spec PyProof.Rows L2
open Evl (Ex ex_rd ex_l ex_t rMax2)
section
variable {K : PySem.W.Frag} {C H : Hp} {i j : Int} {d e : PyData} {ds es : List PyData} {s : Sl}
/-! ### operations on data -/
theorem rd_int {g : Int → Int → Int} : RD K (rI0 fun i j => V.int (g i j)) (.int i) (.int j) (.dat (.int (g i j))) := fun C H x y e dx dy Q q => by
  cases dx; cases dy
  exact ⟨i, j, rfl, rfl, q _ _ (.same e (.int _))⟩
theorem rd_bl {g : Int → Int → Bool} : RD K (rI0 fun i j => V.bl (g i j)) (.int i) (.int j) (.dat (.bool (g i j))) := fun C H x y e dx dy Q q => by
  cases dx; cases dy
  exact ⟨i, j, rfl, rfl, q _ _ (.same e (.bl _))⟩
theorem rd_intC {c : Int → Int → Prop} {g : Int → Int → Int} (hc : c i j) : RD K (rI c fun i j => V.int (g i j)) (.int i) (.int j) (.dat (.int (g i j))) := fun C H x y e dx dy Q q => by
  cases dx; cases dy
  exact ⟨i, j, rfl, rfl, hc, q _ _ (.same e (.int _))⟩
theorem rd_eqD (h1 : SeqAt.shaped d = true) (h2 : SeqAt.shaped e = true) : RD K (rEqD K) d e (.dat (.bool (PyData.eqv d e))) := fun C H x y ex dx dy Q q =>
  ⟨d, e, dpx ex dx, dpx ex dy, h1, h2, q _ _ (.same ex (.bl _))⟩
theorem rd_neD (h1 : SeqAt.shaped d = true) (h2 : SeqAt.shaped e = true) : RD K (rNeD K) d e (.dat (.bool (!PyData.eqv d e))) := fun C H x y ex dx dy Q q =>
  ⟨d, e, dpx ex dx, dpx ex dy, h1, h2, q _ _ (.same ex (.bl _))⟩
theorem atI_dpa {vs : List V} (h : DpAll K C vs ds) (a : atI ds i = some d) : ∃ v, atI vs i = some v ∧ Dp K C v d := by
  unfold atI at a ⊢
  rw [dpa_len h]
  cases hx : ixN ds.length i with
  | none => rw [hx] at a; cases a
  | some j =>
    rw [hx] at a
    exact dpa_get h a
theorem rd_ixL (a : atI ds i = some d) : RD K (rIx K) (.list ds) (.int i) (.dat d) := fun C H x y ex dx dy Q q => by
  cases dy
  cases dx with
  | lst hq ha =>
    obtain ⟨v, h1, h2⟩ := atI_dpa ha a
    exact .inl ⟨_, _, i, v, rfl, rfl, ex_l ex hq, h1, q _ _ (.same ex h2)⟩
theorem rd_ixT (a : atI ds i = some d) : RD K (rIx K) (.tuple ds) (.int i) (.dat d) := fun C H x y ex dx dy Q q => by
  cases dy
  cases dx with
  | tup hq ha =>
    obtain ⟨v, h1, h2⟩ := atI_dpa ha a
    exact .inr (.inl ⟨_, _, i, v, rfl, rfl, ex_t ex hq, h1, q _ _ (.same ex h2)⟩)
theorem ud_neg : UD K (rU fun i => V.int (-i)) (.int i) (.dat (.int (-i))) := fun C H x ex dx Q q => by
  cases dx
  exact ⟨i, rfl, q _ _ (.same ex (.int _))⟩
/-! ### built-in calls -/
def rLen (K : PySem.W.Frag) : List V → Hp → VK → Prop := fun xs H Q => ∃ p ys, xs = [.ref p] ∧ (SqL K H p ys ∨ SqT K H p ys) ∧ Q (.int ys.length) H
def rMin2 : List V → Hp → VK → Prop := fun xs H Q => ∃ i j, xs = [.int i, .int j] ∧ Q (.int (if j < i then j else i)) H
def rInt1 : List V → Hp → VK → Prop := fun xs H Q => (∃ i, xs = [.int i] ∧ Q (.int i) H) ∨ ∃ k, xs = [.bl k] ∧ Q (.int (if k then 1 else 0)) H
def rAbs : List V → Hp → VK → Prop := fun xs H Q => ∃ i, xs = [.int i] ∧ Q (.int (if i < 0 then -i else i)) H
def rTupOf (K : PySem.W.Frag) : List V → Hp → VK → Prop := fun xs H Q => ∃ p ys, xs = [.ref p] ∧ ((SqL K H p ys ∧ ∀ l, H l = none → Q (.ref l) (upd H l (.tup ys))) ∨ (SqT K H p ys ∧ Q (.ref p) H))
def rListOf (K : PySem.W.Frag) : List V → Hp → VK → Prop := fun xs H Q => ∃ p ys, xs = [.ref p] ∧ (SqL K H p ys ∨ SqT K H p ys) ∧ ∀ l, H l = none → Q (.ref l) (upd H l (.lst ys))
theorem cr_len {X : Cx} : CallR X (.builtin "len") (rLen X.K) := call_len_seq
theorem cr_max2 {X : Cx} (hc : X.calm = true) : CallR X (.builtin "max") rMax2 := call_max2 hc
theorem cr_min2 {X : Cx} (hc : X.calm = true) : CallR X (.builtin "min") rMin2 := call_min2 hc
theorem cr_int1 {X : Cx} : CallR X (.type "int") rInt1 := call_int1
theorem cr_abs {X : Cx} : CallR X (.builtin "abs") rAbs := call_abs
theorem cr_tup {X : Cx} : CallR X (.type "tuple") (rTupOf X.K) := call_tuple_of
theorem cr_list {X : Cx} : CallR X (.type "list") (rListOf X.K) := call_list_of
theorem cd_lenL : CD K (rLen K) [.list ds] (.dat (.int ds.length)) := fun C H vs ex dv Q q => by
  cases dv with | cons dx dv => cases dv; cases dx with
    | lst hq ha => exact ⟨_, _, rfl, .inl (ex_l ex hq), by rw [dpa_len ha]; exact q _ _ (.same ex (.int _))⟩
theorem cd_lenT : CD K (rLen K) [.tuple ds] (.dat (.int ds.length)) := fun C H vs ex dv Q q => by
  cases dv with | cons dx dv => cases dv; cases dx with
    | tup hq ha => exact ⟨_, _, rfl, .inr (ex_t ex hq), by rw [dpa_len ha]; exact q _ _ (.same ex (.int _))⟩
theorem cd_max2 : CD K rMax2 [.int i, .int j] (.dat (.int (max i j))) := fun C H vs ex dv Q q => by
  cases dv with | cons dx dv => cases dv with | cons dy dv => cases dv; cases dx; cases dy; exact ⟨i, j, rfl, by
    have e : (if j > i then j else i) = max i j := by by_cases h : j > i <;> simp [h] <;> omega
    rw [e]; exact q _ _ (.same ex (.int _))⟩
theorem cd_min2 : CD K rMin2 [.int i, .int j] (.dat (.int (min i j))) := fun C H vs ex dv Q q => by
  cases dv with | cons dx dv => cases dv with | cons dy dv => cases dv; cases dx; cases dy; exact ⟨i, j, rfl, by
    have e : (if j < i then j else i) = min i j := by by_cases h : j < i <;> simp [h] <;> omega
    rw [e]; exact q _ _ (.same ex (.int _))⟩
theorem cd_int : CD K rInt1 [.int i] (.dat (.int i)) := fun C H vs ex dv Q q => by
  cases dv with | cons dx dv => cases dv; cases dx; exact .inl ⟨i, rfl, q _ _ (.same ex (.int _))⟩
theorem cd_intB {k : Bool} : CD K rInt1 [.bool k] (.dat (.int (if k then 1 else 0))) := fun C H vs ex dv Q q => by
  cases dv with | cons dx dv => cases dv; cases dx; exact .inr ⟨k, rfl, q _ _ (.same ex (.int _))⟩
theorem cd_abs : CD K rAbs [.int i] (.dat (.int (i.natAbs : Int))) := fun C H vs ex dv Q q => by
  cases dv with | cons dx dv => cases dv; cases dx; exact ⟨i, rfl, by
    have e : (if i < 0 then -i else i) = (i.natAbs : Int) := by by_cases h : i < 0 <;> simp [h] <;> omega
    rw [e]; exact q _ _ (.same ex (.int _))⟩
theorem cd_tupL : CD K (rTupOf K) [.list ds] (.dat (.tuple ds)) := fun C H vs ex dv Q q => by
  cases dv with | cons dx dv => cases dv; cases dx with
    | lst hq ha => exact ⟨_, _, rfl, .inl ⟨ex_l ex hq, fun l hl => q _ _ (.tup ex ha hl)⟩⟩
theorem cd_tupT : CD K (rTupOf K) [.tuple ds] (.dat (.tuple ds)) := fun C H vs ex dv Q q => by
  cases dv with | cons dx dv => cases dv; cases dx with
    | tup hq ha => exact ⟨_, _, rfl, .inr ⟨ex_t ex hq, q _ _ (.same ex (.tup hq ha))⟩⟩
theorem cd_listL : CD K (rListOf K) [.list ds] (.own ds) := fun C H vs ex dv Q q => by
  cases dv with | cons dx dv => cases dv; cases dx with
    | lst hq ha => exact ⟨_, _, rfl, .inl (ex_l ex hq), fun l hl => q _ _ (.lst ex ha hl)⟩
theorem cd_listT : CD K (rListOf K) [.tuple ds] (.own ds) := fun C H vs ex dv Q q => by
  cases dv with | cons dx dv => cases dv; cases dx with
    | tup hq ha => exact ⟨_, _, rfl, .inr (ex_t ex hq), fun l hl => q _ _ (.lst ex ha hl)⟩
theorem dpa_bools : ∀ {bs : List Bool} {vs : List V}, DpAll K C vs (bs.map PyData.bool) → vs = bs.map V.bl
  | [], _, .nil => rfl
  | b :: bs, _, .cons r t => by
    cases r
    rw [dpa_bools t]; rfl
theorem cd_all {bs : List Bool} : CD K (rAll K) [.list (bs.map .bool)] (.dat (.bool (bs.all id))) := fun C H vs ex dv Q q => by
  cases dv with | cons dx dv => cases dv; cases dx with
    | lst hq ha => exact ⟨_, bs, rfl, by rw [← dpa_bools ha]; exact ex_l ex hq, q _ _ (.same ex (.bl _))⟩
theorem cd_any {bs : List Bool} : CD K (rAny K) [.list (bs.map .bool)] (.dat (.bool (bs.any id))) := fun C H vs ex dv Q q => by
  cases dv with | cons dx dv => cases dv; cases dx with
    | lst hq ha => exact ⟨_, bs, rfl, by rw [← dpa_bools ha]; exact ex_l ex hq, q _ _ (.same ex (.bl _))⟩
/-- the kind of data -/
def kindOf : PyData → String
  | .bool _ => "bool" | .int _ => "int" | .none => "NoneType"
  | .list _ => "list" | .tuple _ => "tuple"
  | .str _ => "str" | .dict _ => "dict"
theorem tyx (h : Dp K H x d) : TyX K H x (.type (kindOf d)) := by
  cases h with
  | non => exact .base .non
  | bl b => exact .base (.bl b)
  | int i => exact .base (.int i)
  | str z => exact .base (.str z)
  | lst hq ha =>
    rcases hq with (h | ⟨o, h⟩) | ⟨o, its, n, h, c, _⟩
    · exact .base (.lst h)
    · exact .base (.frz h)
    · exact .kList h c
  | tup hq ha =>
    rcases hq with (h | ⟨o, h⟩) | ⟨o, its, n, h, c, _⟩
    · exact .base (.tup h)
    · exact .fTuple h
    · exact .kTuple h c
/-- isinstance(x, T), T the name of a built-in type -/
def tIsi (K : PySem.W.Frag) (ta : TE) (T : String) : TE := tCB (rIsi K) (tCons ta (tCons (tC (.ty T)) tNil))
end
section
variable {b : Bs} {C : Hp} {T Γ Γ' Γ1 Γ2 : List Sl} {τ σ : L2.St} {H H' : Hp} {s s' : Sl} {v : V} {d e : PyData} {ds es : List PyData} {vs : List V}
theorem s_isi {ta : TE} {n : String} {k : Bool} (h : EvS b ta Γ Γ1 (.dat d)) (hk : kitB (kindOf d) n = some k) : EvS b (tIsi b.K ta n) Γ Γ1 (.dat (.bool k)) := fun T τ σ H hs Q q =>
  h T τ σ H hs _ fun v H1 h1 => by
    obtain ⟨C, dv, h2⟩ := h1.pop
    exact ⟨v, .ty n, _, .type n, k, rfl, .ty n, tyx (dpx h2.ch dv), kit_ty hk, q _ _ ⟨C, h2.push (.bl k)⟩⟩
/-! ### a list of one's own in a slot -/
theorem Has.own_at {K : PySem.W.Frag} {ps : List Addr} (h : Has K C H Γ σ ps) : ∀ {i : Nat} {z : Option Addr} {ds : List PyData}, Γ[i]? = some (.ownq z ds) → ps.Nodup →
    ∃ p vs, σ[i]? = some (some (.ref p)) ∧ p ∈ ps ∧ H p = some (.lst vs) ∧ DpAll K C vs ds ∧ ∀ vs' ds', DpAll K C vs' ds' → Has K C (upd H p (.lst vs')) (Γ.set i (.ownq z ds')) σ ps := by
  induction h with
  | nil => intro i z ds e; simp at e
  | no q ih =>
    intro i z ds e n
    cases i with
    | zero => simp at e
    | succ i =>
      obtain ⟨p, vs, h1, h2, h3, h4, h5⟩ := ih (by simpa using e) n
      exact ⟨p, vs, by simpa using h1, h2, h3, h4, fun vs' ds' q => .no (h5 vs' ds' q)⟩
  | dat dd q ih =>
    intro i z ds e n
    cases i with
    | zero => simp at e
    | succ i =>
      obtain ⟨p, vs, h1, h2, h3, h4, h5⟩ := ih (by simpa using e) n
      exact ⟨p, vs, by simpa using h1, h2, h3, h4, fun vs' ds' q => .dat dd (h5 vs' ds' q)⟩
  | own y0 e0 d0 q ih =>
    rename_i Γ σ ps p0 vs0 ds0 z0
    intro i z ds e n
    have n2 := List.nodup_cons.mp n
    cases i with
    | zero =>
      simp at e; obtain ⟨rfl, rfl⟩ := e
      refine ⟨p0, vs0, rfl, List.mem_cons_self, e0, d0, fun vs' ds' r => .own y0 upd_same r (q.mono (Ex.refl C) fun p hp o z => ?_)⟩
      rw [upd_ne (fun y => n2.1 (by rw [← y]; exact hp))]; exact z
    | succ i =>
      obtain ⟨p, vs, h1, h2, h3, h4, h5⟩ := ih (by simpa using e) n2.2
      refine ⟨p, vs, by simpa using h1, List.mem_cons_of_mem _ h2, h3, h4, fun vs' ds' r => .own y0 ?_ d0 (h5 vs' ds' r)⟩
      rw [upd_ne (fun y => n2.1 (by rw [y]; exact h2))]; exact e0
theorem Cfg.upd {ps : List Addr} {p : Addr} {o : HO} (c : Cfg b C H ps) (hp : p ∈ ps) : Cfg b C (upd H p o) ps :=
  ⟨c.bc, fun a u h => by rw [upd_ne (fun z => by rw [z, (c.ow p hp).1] at h; cases h)]; exact c.ch a u h,
   fun a u h => by rw [upd_ne (fun z => by rw [z, (c.ow p hp).2] at h; cases h)]; exact c.h0 a u h, c.fr, c.ow, c.nd⟩
theorem HsC.own_at {i : Nat} {z : Option Addr} (h : HsC b C T τ Γ σ H) (e : Γ[i]? = some (.ownq z ds)) : ∃ p vs, σ[i]? = some (some (.ref p)) ∧ H p = some (.lst vs) ∧ DpAll b.K C vs ds ∧
    ∀ vs' ds', DpAll b.K C vs' ds' → HsC b C T τ (Γ.set i (.ownq z ds')) σ (upd H p (.lst vs')) := by
  obtain ⟨ps, qs, c, h1, h2⟩ := h
  have nd := List.nodup_append.mp c.nd
  obtain ⟨p, vs, g1, g2, g3, g4, g5⟩ := h2.own_at e nd.2.1
  refine ⟨p, vs, g1, g3, g4, fun vs' ds' r => ⟨ps, qs, c.upd (List.mem_append_right _ g2), h1.mono (Ex.refl C) fun q hq o z => ?_, g5 vs' ds' r⟩⟩
  rw [upd_ne (nd.2.2 q hq p g2)]; exact z
/-- on top of the pile -/
theorem HsC.own_top {x : Option V} {z : Option Addr} (h : HsC b C (.ownq z ds :: T) (x :: τ) Γ σ H) : ∃ p vs, x = some (.ref p) ∧ H p = some (.lst vs) ∧ DpAll b.K C vs ds ∧
    ∀ vs' ds', DpAll b.K C vs' ds' → HsC b C (.ownq z ds' :: T) (x :: τ) Γ σ (upd H p (.lst vs')) := by
  obtain ⟨ps, qs, c, h1, h2⟩ := h
  cases h1 with
  | own y0 e0 d0 h1 =>
    rename_i ps p vs
    have n2 := List.nodup_cons.mp c.nd
    refine ⟨p, vs, rfl, e0, d0, fun vs' ds' r => ⟨p :: ps, qs, Cfg.upd c List.mem_cons_self, .own y0 upd_same r (h1.mono (Ex.refl C) fun q hq o z => ?_), h2.mono (Ex.refl C) fun q hq o z => ?_⟩⟩
    · rw [upd_ne (fun y => n2.1 (by rw [← y]; exact List.mem_append_left _ hq))]; exact z
    · rw [upd_ne (fun y => n2.1 (by rw [← y]; exact List.mem_append_right _ hq))]; exact z
theorem Has.take {K : PySem.W.Frag} {ps : List Addr} (h : Has K C H Γ σ ps) : ∀ {i : Nat} {z : Option Addr} {ds : List PyData}, Γ[i]? = some (.ownq z ds) →
    ∃ p qs vs, (∀ r, z = some r → r = p) ∧ σ[i]? = some (some (.ref p)) ∧ H p = some (.lst vs) ∧ DpAll K C vs ds ∧ Has K C H (Γ.set i .no) σ qs ∧ ps.Perm (p :: qs) := by
  induction h with
  | nil => intro i z ds e; simp at e
  | no q ih =>
    intro i z ds e
    cases i with
    | zero => simp at e
    | succ i =>
      obtain ⟨p, qs, vs, h0, h1, h2, h3, h4, h5⟩ := ih (by simpa using e)
      exact ⟨p, qs, vs, h0, by simpa using h1, h2, h3, .no h4, h5⟩
  | dat dd q ih =>
    intro i z ds e
    cases i with
    | zero => simp at e
    | succ i =>
      obtain ⟨p, qs, vs, h0, h1, h2, h3, h4, h5⟩ := ih (by simpa using e)
      exact ⟨p, qs, vs, h0, by simpa using h1, h2, h3, .dat dd h4, h5⟩
  | own y0 e0 d0 q ih =>
    intro i z ds e
    cases i with
    | zero => simp at e; obtain ⟨rfl, rfl⟩ := e; exact ⟨_, _, _, y0, rfl, e0, d0, .no q, List.Perm.refl _⟩
    | succ i =>
      obtain ⟨p, qs, vs, h0, h1, h2, h3, h4, h5⟩ := ih (by simpa using e)
      exact ⟨p, _, vs, h0, by simpa using h1, h2, h3, .own y0 e0 d0 h4, (h5.cons _).trans (List.Perm.swap _ _ _)⟩
/-- the slot gives its list away -/
theorem s_own {i : Nat} {z : Option Addr} (h : Γ[i]? = some (.ownq z ds)) : EvS b (tVar i) Γ (Γ.set i .no) (.ownq z ds) := fun T τ σ H hs Q q => by
  obtain ⟨C, ps, qs, c, h1, h2⟩ := hs
  obtain ⟨p, rs, vs, g0, g1, g2, g3, g4, g5⟩ := h2.take h
  refine ⟨.ref p, g1, q _ H ⟨C, p :: ps, rs, ?_, .own g0 g2 g3 h1, g4⟩⟩
  have pm : (ps ++ qs).Perm (p :: ps ++ rs) := (g5.append_left ps).trans List.perm_middle
  exact ⟨c.bc, c.ch, c.h0, c.fr, fun a ha => c.ow a (pm.mem_iff.mpr ha), (pm.nodup_iff).mp c.nd⟩
/-- the slot's list is read as data, for good -/
theorem s_frz {i : Nat} {z : Option Addr} (h : Γ[i]? = some (.ownq z ds)) : EvS b (tVar i) Γ (Γ.set i .no) (.dat (.list ds)) := s_weak (s_own h)
theorem s_ixO {i : Nat} {k : Int} {tb : TE} {z : Option Addr} (h : Γ[i]? = some (.ownq z ds)) (hb : EvS b tb Γ Γ (.dat (.int k))) (ha : atI ds k = some d) : EvS b (tOp (rIx b.K) (tVar i) tb) Γ Γ (.dat d) := fun T τ σ H hs Q q => by
  obtain ⟨C, hs⟩ := hs
  obtain ⟨p, vs, g1, g2, g3, _⟩ := hs.own_at h
  refine ⟨.ref p, g1, hb T τ σ H ⟨C, hs⟩ _ fun v H1 h1 => ?_⟩
  obtain ⟨C1, dv, h2⟩ := h1.pop
  cases dv
  obtain ⟨p', vs', f1, f2, f3, _⟩ := h2.own_at h
  rw [g1] at f1
  cases f1
  obtain ⟨y, y1, y2⟩ := atI_dpa f3 ha
  exact .inl ⟨p, vs', k, y, rfl, rfl, .inl (.inl f2), y1, q _ _ ⟨C1, h2.push y2⟩⟩
theorem s_lenO {i : Nat} {z : Option Addr} (h : Γ[i]? = some (.ownq z ds)) : EvS b (tCB (rLen b.K) (tCons (tVar i) tNil)) Γ Γ (.dat (.int ds.length)) := fun T τ σ H hs Q q => by
  obtain ⟨C, hs⟩ := hs
  obtain ⟨p, vs, g1, g2, g3, _⟩ := hs.own_at h
  exact ⟨.ref p, g1, p, vs, rfl, .inl (.inl (.inl g2)), by rw [dpa_len g3]; exact q _ _ ⟨C, hs.push (.int _)⟩⟩
variable {D : Ends} {t u : TS} {te : TE}
theorem n_append {i : Nat} {z : Option Addr} (h : Γ[i]? = some (.ownq z ds)) (he : EvS b te Γ Γ (.dat d)) (hz : ds.length < 100000) (k : Nx b D.nx T τ (Γ.set i (.ownq z (ds ++ [d])))) :
    Nx b (tDrop (tBM b.K "list" rAppend (tVar i) (tCons te tNil)) D) T τ Γ := fun σ H hs => by
  obtain ⟨C, hs⟩ := hs
  obtain ⟨p, vs, g1, g2, g3, _⟩ := hs.own_at h
  refine ⟨.ref p, g1, .inl ⟨rfl, vs, .inl (.inl g2)⟩, he T τ σ H ⟨C, hs⟩ _ fun v H1 h1 => ?_⟩
  obtain ⟨C1, dv, h2⟩ := h1.pop
  obtain ⟨p', vs', f1, f2, f3, f4⟩ := h2.own_at h
  rw [g1] at f1
  cases f1
  exact ⟨p, vs', v, rfl, rfl, f2, by rw [dpa_len f3]; exact Nat.lt_of_lt_of_le hz (by decide), k _ _ ⟨C1, f4 _ _ (dpa_app f3 (.cons dv .nil))⟩⟩
theorem ixN_ok {n : Nat} {i : Int} (h0 : 0 ≤ i) (h1 : i < n) : ixN n i = some i.toNat := by
  unfold ixN
  rw [if_pos h0, if_pos h1]
theorem atI_ok {α : Type} {xs : List α} {i : Int} {x : α} (h0 : 0 ≤ i) (h : xs[i.toNat]? = some x) : atI xs i = some x := by
  have := atI_nat (xs := xs) (j := i.toNat) h
  rwa [Int.toNat_of_nonneg h0] at this
theorem n_setL {i j : Nat} {k : Int} {tb : TE} {z : Option Addr} (h : Γ[i]? = some (.ownq z ds)) (he : EvS b te Γ Γ (.dat d)) (hb : EvS b tb Γ Γ (.dat (.int k))) (hj : ixN ds.length k = some j) (kk : Nx b D.nx T τ (Γ.set i (.ownq z (ds.set j d)))) :
    Nx b (tAsg te (gSub (tVar i) tb rSetL) D) T τ Γ := fun σ H hs => by
  refine he T τ σ H hs _ fun v H1 h1 => ?_
  have hs1 := h1
  obtain ⟨C, hs1⟩ := hs1
  obtain ⟨p, vs, g1, g2, g3, _⟩ := hs1.own_at h
  refine ⟨.ref p, g1, hb _ _ σ H1 h1 _ fun y H2 h2 => ?_⟩
  obtain ⟨C2, dy, h3⟩ := h2.pop
  cases dy
  obtain ⟨dv, h4⟩ := h3.pop
  obtain ⟨p', vs', f1, f2, f3, f4⟩ := h4.own_at h
  rw [g1] at f1
  cases f1
  exact ⟨p, vs', k, j, rfl, rfl, f2, by rw [dpa_len f3]; exact hj, kk _ _ ⟨C2, f4 _ _ (dpa_set dv j f3)⟩⟩
/-! ### iterators -/
theorem dpa1 {K : PySem.W.Frag} {d : PyData} (h : DpAll K C vs [d]) : ∃ v, vs = [v] ∧ Dp K C v d := by
  cases h with | cons r t => cases t; exact ⟨_, rfl, r⟩
theorem dpa2 {K : PySem.W.Frag} {d e : PyData} (h : DpAll K C vs [d, e]) : ∃ v v', vs = [v, v'] ∧ Dp K C v d ∧ Dp K C v' e := by
  cases h with | cons r t => cases t with | cons r2 t => cases t; exact ⟨_, _, rfl, r, r2⟩
theorem i_range1 {ta : TA} {n : Int} (h : EvA b ta Γ Γ1 [.int n]) (hn : n ≤ 100000000) (h0 : -100000000 ≤ n) : EvI b (iRng1 ta) Γ Γ1 [] ((List.range n.toNat).map fun (k : Nat) => .int (k : Int)) := fun T τ σ H hs R r =>
  h T τ σ H hs _ fun vs H1 C h1 dv => by
    obtain ⟨v, rfl, dx⟩ := dpa1 dv
    cases dx
    refine ⟨n, rfl, by omega, by omega, r _ [] H1 C (fun C' H' ex _ => ?_) h1 .nil⟩
    refine ⟨(by show _ ≤ _; simp only [List.length_map, List.length_range]; exact Nat.le_refl _), fun i di e => ?_⟩
    rw [List.getElem?_map] at e
    obtain ⟨k, hk, rfl⟩ := Option.map_eq_some_iff.mp e
    obtain ⟨hlt, rfl⟩ := List.getElem?_eq_some_iff.mp hk
    refine ⟨(by show i < _; simpa only [List.length_range] using hlt), fun x H' y => ?_⟩
    obtain ⟨rfl, rfl⟩ := y
    have : (0 : Int) + (i : Int) = (i : Int) := Int.zero_add _
    rw [this, List.getElem_range]
    exact .same ex (.int _)
theorem i_range2 {ta : TA} {m n : Int} (h : EvA b ta Γ Γ1 [.int m, .int n]) (hn : -100000000 ≤ m ∧ m ≤ 100000000 ∧ -100000000 ≤ n ∧ n ≤ 100000000) : EvI b (iRng2 ta) Γ Γ1 [] ((List.range (n - m).toNat).map fun (k : Nat) => .int (m + (k : Int))) := fun T τ σ H hs R r =>
  h T τ σ H hs _ fun vs H1 C h1 dv => by
    obtain ⟨v, v', rfl, dx, dy⟩ := dpa2 dv
    cases dx
    cases dy
    refine ⟨m, n, rfl, by omega, r _ [] H1 C (fun C' H' ex _ => ?_) h1 .nil⟩
    refine ⟨(by show _ ≤ _; simp only [List.length_map, List.length_range]; exact Nat.le_refl _), fun i di e => ?_⟩
    rw [List.getElem?_map] at e
    obtain ⟨k, hk, rfl⟩ := Option.map_eq_some_iff.mp e
    obtain ⟨hlt, rfl⟩ := List.getElem?_eq_some_iff.mp hk
    refine ⟨(by show i < _; simpa only [List.length_range] using hlt), fun x H' y => ?_⟩
    obtain ⟨rfl, rfl⟩ := y
    rw [List.getElem_range]
    exact .same ex (.int _)
theorem i_list {tl : TE} (h : EvS b tl Γ Γ1 (.dat (.list ds))) : EvI b (iList b.K tl) Γ Γ1 [.list ds] ds := fun T τ σ H hs R r =>
  h T τ σ H hs _ fun v H1 h1 => by
    obtain ⟨C, dv, h2⟩ := h1.pop
    have dv2 := dv
    cases dv with
    | lst hq ha =>
      rename_i a xs
      refine ⟨a, rfl, ⟨xs, ex_l h2.ch hq⟩, r _ [.ref a] H1 C (fun C' H' ex dw => ?_) h2 (.cons dv2 .nil)⟩
      cases dw with | cons dz _ => cases dz with
        | lst hq' ha' =>
          have hl := dpa_len ha'
          refine ⟨⟨_, ex_l ex hq', by rw [hl]; exact Nat.le_refl _⟩, fun i di e => ?_⟩
          obtain ⟨y, y1, y2⟩ := dpa_get ha' e
          refine ⟨⟨_, y, ex_l ex hq', y1⟩, fun x H2 z => ?_⟩
          obtain ⟨rfl, z⟩ := z
          have := (z _ (ex_l ex hq')).symm.trans y1
          cases this
          exact .same ex y2
theorem i_tup {tl : TE} (h : EvS b tl Γ Γ1 (.dat (.tuple ds))) : EvI b (iTup b.K tl) Γ Γ1 [.tuple ds] ds := fun T τ σ H hs R r =>
  h T τ σ H hs _ fun v H1 h1 => by
    obtain ⟨C, dv, h2⟩ := h1.pop
    have dv2 := dv
    cases dv with
    | tup hq ha =>
      rename_i a xs
      refine ⟨a, rfl, ⟨xs, ex_t h2.ch hq⟩, r _ [.ref a] H1 C (fun C' H' ex dw => ?_) h2 (.cons dv2 .nil)⟩
      cases dw with | cons dz _ => cases dz with
        | tup hq' ha' =>
          have hl := dpa_len ha'
          refine ⟨⟨_, ex_t ex hq', by rw [hl]; exact Nat.le_refl _⟩, fun i di e => ?_⟩
          obtain ⟨y, y1, y2⟩ := dpa_get ha' e
          refine ⟨⟨_, y, ex_t ex hq', y1⟩, fun x H2 z => ?_⟩
          obtain ⟨rfl, z⟩ := z
          have := (z _ (ex_t ex hq')).symm.trans y1
          cases this
          exact .same ex y2
def pairT (p : PyData × PyData) : PyData := .tuple [p.1, p.2]
theorem i_zipT {ta : TA} (h : EvA b ta Γ Γ1 [.tuple ds, .tuple es]) : EvI b (RZ.iZipA b.K ta) Γ Γ1 [.tuple ds, .tuple es] ((ds.zip es).map pairT) := fun T τ σ H hs R r =>
  h T τ σ H hs _ fun vs H1 C h1 dv => by
    have dv2 := dv
    cases dv with | cons dx dv => cases dv with | cons dy dv => cases dv; cases dx with
      | tup hq ha => cases dy with
        | tup hq2 ha2 =>
          rename_i a xs a2 xs2
          refine ⟨a, a2, xs, xs2, rfl, .inr ⟨ex_t h1.ch hq, ex_t h1.ch hq2, r _ [.ref a, .ref a2] H1 C (fun C' H' ex dw => ?_) h1 dv2⟩⟩
          cases dw with | cons dz dw => cases dw with | cons dz2 _ => cases dz with
            | tup hq' ha' => cases dz2 with
              | tup hq2' ha2' =>
                have hl := dpa_len ha'
                have hl2 := dpa_len ha2'
                refine ⟨⟨_, _, ex_t ex hq', ex_t ex hq2', by simp; omega⟩, fun i di e => ?_⟩
                rw [List.getElem?_map] at e
                obtain ⟨⟨u1, u2⟩, e1, rfl⟩ := Option.map_eq_some_iff.mp e
                obtain ⟨e2, e3⟩ := List.getElem?_zip_eq_some.mp e1
                obtain ⟨y, y1, y2⟩ := dpa_get ha' e2
                obtain ⟨y', y1', y2'⟩ := dpa_get ha2' e3
                refine ⟨⟨_, _, y, y', ex_t ex hq', ex_t ex hq2', y1, y1'⟩, fun x H2 z => ?_⟩
                obtain ⟨P, z1, z2, rfl, nP, rfl, f1, f2⟩ := z
                have w1 := (f1 _ (ex_t ex hq')).symm.trans y1
                have w2 := (f2 _ (ex_t ex hq2')).symm.trans y1'
                cases w1; cases w2
                exact .tup ex (.cons y2 (.cons y2' .nil)) nP
end
end G
namespace G
open PySem PySem.Spec PyProof.Rows L2
open Evl (Ex ex_rd ex_l ex_t rMax2)
section
variable {b : Bs} {C : Hp} {T Γ Γ' Γ1 Γ2 : List Sl} {τ σ : L2.St} {H H' : Hp} {s s' : Sl} {v : V} {d e : PyData} {ds es : List PyData} {vs : List V}
/-! ### comprehensions -/
theorem wipe_get (σ : L2.St) : ∀ (vs : List Nat) (k : Nat), (wipe σ vs)[k]? = if k ∈ vs then (if k < σ.length then some none else none) else σ[k]?
  | [], k => by simp [wipe]
  | v :: vs, k => by
    unfold wipe
    rw [List.getElem?_set, wipe_get σ vs k, wipe_length]
    by_cases h : v = k
    · subst h; simp
    · rw [if_neg h]
      have : (k ∈ v :: vs) ↔ k ∈ vs := by simp [Ne.symm h]
      simp only [this]
theorem wipe_eq {σ σ' : L2.St} {vs : List Nat} (hl : σ'.length = σ.length) (h : ∀ k, k ∉ vs → σ'[k]? = σ[k]?) : wipe σ' vs = wipe σ vs := by
  refine List.ext_getElem? fun k => ?_
  rw [wipe_get, wipe_get, hl]
  by_cases hk : k ∈ vs
  · rw [if_pos hk, if_pos hk]
  · rw [if_neg hk, if_neg hk, h k hk]
theorem wipe_wipe (σ : L2.St) (vs : List Nat) : wipe (wipe σ vs) vs = wipe σ vs := wipe_eq (wipe_length _ _) fun k hk => by rw [wipe_get, if_neg hk]
/-- a target with the slots that it stores -/
def EvGv (b : Bs) (g : TG) (d : PyData) (js : List Nat) (Γ Γ' : List Sl) : Prop := ∀ T τ σ H x, Hs b (.dat d :: T) (some x :: τ) Γ σ H → ∀ Q : L2.St → Hp → Prop, (∀ σ', Hs b T τ Γ' σ' H → wipe σ' js = wipe σ js → Q σ' H) → g x σ H Q
theorem gv_name {i : Nat} : EvGv b (gName i) d [i] Γ (Γ.set i (.dat d)) := fun T τ σ H x hs Q q => q _ (hs.store i) (wipe_eq (by simp) fun k hk => by
  rw [List.getElem?_set_ne]
  simpa [eq_comm] using hk)
theorem gv_tup2 {K : PySem.W.Frag} (hK : b.K = K) {i j : Nat} {d e : PyData} : EvGv b (gTup K 2 (gCons (gName i) (gCons (gName j) gNil))) (.tuple [d, e]) [i, j] Γ ((Γ.set i (.dat d)).set j (.dat e)) := fun T τ σ H x hs Q q => by
  obtain ⟨C, dx, h⟩ := hs.pop
  subst hK
  cases dx with
  | tup hq ha =>
    rename_i a xs
    cases ha with
    | cons r1 ha =>
      cases ha with
      | cons r2 ha =>
        cases ha
        rename_i v1 v2
        refine ⟨a, _, rfl, ex_t h.ch hq, rfl, v1, _, rfl, v2, _, rfl, rfl, ?_⟩
        have s1 : Hs b (.dat d :: .dat e :: T) (some v1 :: some v2 :: τ) Γ σ H := ⟨C, (h.push r2).push r1⟩
        refine q _ ((s1.store i).store j) (wipe_eq (by simp) fun k hk => ?_)
        simp at hk
        rw [List.getElem?_set_ne (by omega), List.getElem?_set_ne (by omega)]
/-- slots of which nothing is said may hold anything -/
theorem has_unwipe {K : PySem.W.Frag} : ∀ {Γ : List Sl} {σ : L2.St} {ps : List Addr} {σ' : L2.St}, Has K C H Γ σ ps → σ'.length = σ.length → (∀ k : Nat, Γ[k]? ≠ some Sl.no → σ'[k]? = σ[k]?) → Has K C H Γ σ' ps
  | _, _, _, [], .nil, _, _ => .nil
  | _, _, _, y :: σ', .no h, l, f => .no (has_unwipe h (by simpa using l) fun k z => by simpa using f (k + 1) (by simpa using z))
  | _, _, _, y :: σ', .dat d h, l, f => by
    have e := f 0 (by simp)
    simp at e
    subst e
    exact .dat d (has_unwipe h (by simpa using l) fun k z => by simpa using f (k + 1) (by simpa using z))
  | _, _, _, y :: σ', .own y0 q d h, l, f => by
    have e := f 0 (by simp)
    simp at e
    subst e
    exact .own y0 q d (has_unwipe h (by simpa using l) fun k z => by simpa using f (k + 1) (by simpa using z))
theorem wipeG_get (Γ : List Sl) : ∀ (vs : List Nat) (k : Nat), k ∈ vs → (wipeG Γ vs)[k]? = some .no ∨ (wipeG Γ vs)[k]? = none
  | [], k, h => by cases h
  | v :: vs, k, h => by
    unfold wipeG
    rw [List.getElem?_set]
    by_cases e : v = k
    · subst e
      simp only [if_true]
      by_cases hl : v < (wipeG Γ vs).length
      · rw [if_pos hl]; exact .inl rfl
      · rw [if_neg hl]; exact .inr rfl
    · rw [if_neg e]
      rcases List.mem_cons.mp h with z | z
      · exact absurd z.symm e
      · exact wipeG_get Γ vs k z
theorem hs_unwipe {vs : List Nat} (h : Hs b T τ (wipeG Γ vs) (wipe σ vs) H) : Hs b T τ (wipeG Γ vs) σ H := by
  obtain ⟨C, ps, qs, c, h1, h2⟩ := h
  have hl := h2.len
  refine ⟨C, ps, qs, c, h1, has_unwipe h2 (wipe_length σ vs).symm fun k z => ?_⟩
  rw [wipe_get]
  by_cases hk : k ∈ vs
  · rcases wipeG_get Γ vs k hk with q | q
    · exact absurd q z
    · rw [List.getElem?_eq_none_iff, hl, wipe_length] at q
      rw [if_pos hk, if_neg (by omega), List.getElem?_eq_none_iff]; exact q
  · rw [if_neg hk]
theorem s_lc {wi : TI} {g : TG} {tt : TT} {te : TE} {vs : List Nat} {its : List PyData} (hI : EvI b wi Γ Γ1 ds its) (G G' G'' : Nat → List Sl) (c : Nat → Bool) (e : Nat → PyData) (h0 : G 0 = wipeG Γ1 vs)
    (hg : ∀ i di, its[i]? = some di → EvGv b g di vs (G i) (G' i)) (ht : ∀ i di, its[i]? = some di → EvT b tt (G' i) (G' i) (c i)) (he : ∀ i di, its[i]? = some di → c i = true → EvS b te (G' i) (G'' i) (.dat (e i)))
    (hs : ∀ i, i < its.length → wipeG (if c i then G'' i else G' i) vs = wipeG (G (i + 1)) vs ∧ wipeG (G (i + 1)) vs = G (i + 1)) (hz : its.length ≤ 100000) :
    EvS b (tLc wi g tt te vs) Γ (G its.length) (.own (((List.range its.length).filter c).map e)) := fun T τ σ H hs0 Q q => hI T τ σ H hs0 _ fun J ws H1 C ok h1 dv D hD => by
  have hl := dpa_len dv
  let acc : Nat → List PyData := fun i => ((List.range i).filter c).map e
  have hw : wipeG (G 0) vs = G 0 := by
    rw [h0]
    have aux : ∀ (Γ : List Sl) (us : List Nat) (k : Nat), k ∈ us → (wipeG Γ us).set k .no = wipeG Γ us := fun Γ us k hk => by
      refine List.ext_getElem? fun j => ?_
      rw [List.getElem?_set]
      by_cases ej : k = j
      · subst ej
        rw [if_pos rfl]
        rcases wipeG_get Γ us k hk with z | z
        · have := (List.getElem?_eq_some_iff.mp z).1
          rw [if_pos this, z]
        · have := List.getElem?_eq_none_iff.mp z
          rw [if_neg (by omega), z]
      · rw [if_neg ej]
    have aux2 : ∀ (ws us : List Nat) (Γ : List Sl), (∀ k ∈ ws, k ∈ us) → wipeG (wipeG Γ us) ws = wipeG Γ us := by
      intro ws
      induction ws with
      | nil => intro us Γ _; rfl
      | cons w ws ih =>
        intro us Γ hk
        show (wipeG (wipeG Γ us) ws).set w .no = _
        rw [ih us Γ fun k z => hk k (List.mem_cons_of_mem _ z)]
        exact aux Γ us w (hk w List.mem_cons_self)
    exact aux2 vs vs Γ1 fun _ z => z
  have hwi : ∀ i, i ≤ its.length → wipeG (G i) vs = G i := fun i hi => by
    cases i with
    | zero => exact hw
    | succ i => exact (hs i (by omega)).2
  have start : Hs b (ds.map Sl.dat ++ (.own [] :: T)) (ws.map some ++ (some (.ref D) :: τ)) (G 0) (wipe σ vs) (upd H1 D (.lst [])) := by
    rw [h0]
    have a1 : Hs b (.own [] :: T) (some (.ref D) :: τ) Γ1 σ (upd H1 D (.lst [])) := h1.step (Ret.lst h1.ch .nil hD)
    obtain ⟨C1, ps, qs, c1, g1, g2⟩ := hs_wipe a1 vs
    -- the walked data, still known
    have : ∃ C2, HsC b C2 (.own [] :: T) (some (.ref D) :: τ) (wipeG Γ1 vs) (wipe σ vs) (upd H1 D (.lst [])) ∧ DpAll b.K C2 ws ds := by
      have a2 : Hs b (.own [] :: (ds.map Sl.dat ++ T)) (some (.ref D) :: (ws.map some ++ τ)) Γ1 σ (upd H1 D (.lst [])) := (h1.pushAll dv).step (Ret.lst h1.ch .nil hD)
      obtain ⟨C2, ps2, qs2, c2, k1, k2⟩ := hs_wipe a2 vs
      cases k1 with
      | own y0 e0 d0 k1 =>
        have hh : HsC b C2 (ds.map Sl.dat ++ T) (ws.map some ++ τ) (wipeG Γ1 vs) (wipe σ vs) (upd H1 D (.lst [])) := ⟨_, qs2, c2.sub (fun p hp => List.mem_cons_of_mem _ hp) (List.nodup_cons.mp c2.nd).2, k1, k2⟩
        obtain ⟨dw, ps3, qs3, c3, m1, m2⟩ := HsC.popAll hl hh
        have popHas : ∀ {ws : List V} {ds : List PyData} {ps : List Addr}, ws.length = ds.length → Has b.K C2 (upd H1 D (.lst [])) (ds.map Sl.dat ++ T) (ws.map some ++ τ) ps → Has b.K C2 (upd H1 D (.lst [])) T τ ps := by
          intro ws
          induction ws with
          | nil => intro ds ps l h; cases ds with
            | nil => exact h
            | cons _ _ => cases l
          | cons w ws ih => intro ds ps l h; cases ds with
            | nil => cases l
            | cons d ds => cases h with
              | dat _ h => exact ih (by simpa using l) h
        exact ⟨C2, ⟨_, qs2, c2, .own y0 e0 d0 (popHas hl k1), k2⟩, dw⟩
    obtain ⟨C2, a3, dw⟩ := this
    exact ⟨C2, a3.pushAll dw⟩
  refine ⟨fun i m H' => i ≤ its.length ∧ m = its.length - i ∧ Hs b (ds.map Sl.dat ++ (.own (acc i) :: T)) (ws.map some ++ (some (.ref D) :: τ)) (G i) (wipe σ vs) H', ⟨_, Nat.zero_le _, rfl, start⟩, ?_⟩
  rintro i m H' ⟨hi, rfl, C', h2⟩
  obtain ⟨dv', h3⟩ := HsC.popAll hl h2
  obtain ⟨st, go⟩ := ok C' H' h3.ch dv'
  by_cases hlt : i < its.length
  · have hdi : its[i]? = some its[i] := by simp [hlt]
    obtain ⟨g1, g2⟩ := go i its[i] hdi
    refine .inr ⟨g1, fun H2 => Hs b (ds.map Sl.dat ++ (.own (acc (i + 1)) :: T)) (ws.map some ++ (some (.ref D) :: τ)) (G (i + 1)) (wipe σ vs) H2, fun H2 n => ⟨its.length - (i + 1), by omega, hlt, rfl, n⟩, fun x H2 y => ?_⟩
    refine hg i its[i] hdi _ _ _ _ _ (h2.step (g2 x H2 y)) _ fun σ2 h5 hw2 => ⟨by rw [hw2, wipe_wipe], ?_⟩
    refine ht i its[i] hdi _ _ σ2 H2 h5 _ fun H3 h6 => ?_
    have hsi := hs i hlt
    cases hc : c i with
    | true =>
      rw [hc] at hsi
      refine iteT (he i its[i] hdi hc _ _ σ2 H3 h6 _ fun y H4 h7 => ?_)
      obtain ⟨C4, dy, h8⟩ := h7.pop
      obtain ⟨dv4, h9⟩ := HsC.popAll hl h8
      obtain ⟨p, us, f1, f2, f3, f4⟩ := h9.own_top
      cases f1
      refine ⟨us, f2, ?_, ?_⟩
      · rw [dpa_len f3]
        refine Nat.lt_of_le_of_lt (?_ : _ ≤ 100000) (by decide)
        show (((List.range i).filter c).map e).length ≤ 100000
        rw [List.length_map]
        have := List.length_filter_le c (List.range i)
        rw [List.length_range] at this
        omega
      · have ea : acc (i + 1) = acc i ++ [e i] := by
          show ((List.range (i + 1)).filter c).map e = ((List.range i).filter c).map e ++ [e i]
          rw [List.range_succ, List.filter_append, List.map_append, List.filter_cons, if_pos hc]; rfl
        rw [ea]
        have h10 := hs_wipe ⟨C4, (f4 _ _ (dpa_app f3 (.cons dy .nil))).pushAll dv4⟩ vs
        rw [hw2, wipe_wipe] at h10
        have e2 : wipeG (G'' i) vs = G (i + 1) := by simpa using hsi.1.trans hsi.2
        rw [e2] at h10
        exact h10
    | false =>
      rw [hc] at hsi
      refine iteF ?_
      have ea : acc (i + 1) = acc i := by
        show ((List.range (i + 1)).filter c).map e = ((List.range i).filter c).map e
        rw [List.range_succ, List.filter_append, List.map_append, List.filter_cons, if_neg (by rw [hc]; decide)]; simp
      have h10 := hs_wipe h6 vs
      rw [hw2, wipe_wipe] at h10
      have e2 : wipeG (G' i) vs = G (i + 1) := by simpa using hsi.1.trans hsi.2
      rw [e2] at h10
      show Hs b (ds.map Sl.dat ++ (.own (acc (i + 1)) :: T)) _ (G (i + 1)) (wipe σ vs) H3
      rw [ea]
      exact h10
  · have e1 : i = its.length := by omega
    subst e1
    refine .inl ⟨st, q _ _ ?_⟩
    have := hs_unwipe (Γ := G its.length) (σ := σ) (vs := vs) (T := .own (acc its.length) :: T) (τ := some (.ref D) :: τ) (b := b) (H := H') ⟨C', by rw [hwi _ (Nat.le_refl _)]; exact h3⟩
    rw [hwi _ (Nat.le_refl _)] at this
    exact this
/-- no test, nothing changes: one item a turn -/
theorem s_map {α : Type} {wi : TI} {g : TG} {te : TE} {vs : List Nat} {ks : List α} {φ : α → PyData} (hI : EvI b wi Γ Γ1 ds (ks.map φ)) (G' : α → List Sl) (f : α → PyData)
    (hg : ∀ k ∈ ks, EvGv b g (φ k) vs (wipeG Γ1 vs) (G' k)) (he : ∀ k ∈ ks, EvS b te (G' k) (G' k) (.dat (f k))) (hs : ∀ k ∈ ks, wipeG (G' k) vs = wipeG (wipeG Γ1 vs) vs) (hw : wipeG (wipeG Γ1 vs) vs = wipeG Γ1 vs) (hz : ks.length ≤ 100000) :
    EvS b (tLc wi g tYes te vs) Γ (wipeG Γ1 vs) (.own (ks.map f)) := by
  cases ks with
  | nil =>
    have := s_lc (b := b) (tt := tYes) (te := te) (g := g) (vs := vs) hI (fun _ => wipeG Γ1 vs) (fun _ => []) (fun _ => []) (fun _ => true) (fun _ => .none) rfl (fun i di e => by simp at e) (fun i di e => by simp at e) (fun i di e => by simp at e) (fun i hi => by simp at hi) (by simp)
    simpa using this
  | cons k0 kr =>
    have hget : ∀ i di, ((k0 :: kr).map φ)[i]? = some di → ∃ k, (k0 :: kr)[i]? = some k ∧ φ k = di := fun i di e => by
      rw [List.getElem?_map] at e
      obtain ⟨k, hk, r⟩ := Option.map_eq_some_iff.mp e
      exact ⟨k, hk, r⟩
    have hD : ∀ i k, (k0 :: kr)[i]? = some k → (k0 :: kr).getD i k0 = k := fun i k e => by rw [List.getD_eq_getElem?_getD, e]; rfl
    have := s_lc (b := b) (tt := tYes) (te := te) (g := g) (vs := vs) hI (fun _ => wipeG Γ1 vs) (fun i => G' ((k0 :: kr).getD i k0)) (fun i => G' ((k0 :: kr).getD i k0)) (fun _ => true) (fun i => f ((k0 :: kr).getD i k0)) rfl
      (fun i di e => by obtain ⟨k, hk, rfl⟩ := hget i di e; rw [hD i k hk]; exact hg k (List.mem_of_getElem? hk)) (fun i di e => t_yes)
      (fun i di e _ => by obtain ⟨k, hk, rfl⟩ := hget i di e; rw [hD i k hk]; exact he k (List.mem_of_getElem? hk))
      (fun i hi => by
        have hi' : i < (k0 :: kr).length := by simpa using hi
        have hk : (k0 :: kr)[i]? = some (k0 :: kr)[i] := by simp [hi']
        refine ⟨?_, hw⟩
        simp only [if_true]
        rw [hD i _ hk]
        exact hs _ (List.getElem_mem hi')) (by simpa using hz)
    refine s_is this ?_
    congr 1
    refine List.ext_getElem? fun i => ?_
    rw [List.filter_eq_self.mpr (fun _ _ => rfl)]
    simp only [List.getElem?_map]
    by_cases hi : i < (k0 :: kr).length
    · have hk : (k0 :: kr)[i]? = some (k0 :: kr)[i] := by simp [hi]
      rw [hk, List.getElem?_range (by simpa using hi)]
      simp only [Option.map_some]
      rw [hD i _ hk]
    · rw [List.getElem?_eq_none_iff.mpr (by simpa using hi), List.getElem?_eq_none_iff.mpr (by simpa using hi)]; rfl
theorem range_getD {α : Type} (ks : List α) (k0 : α) : (List.range ks.length).map (fun i => ks.getD i k0) = ks := by
  refine List.ext_getElem? fun i => ?_
  rw [List.getElem?_map]
  by_cases hi : i < ks.length
  · rw [List.getElem?_range hi]
    simp [List.getD_eq_getElem?_getD, hi]
  · rw [List.getElem?_eq_none_iff.mpr (by simpa using hi), List.getElem?_eq_none_iff.mpr (by simpa using hi)]; rfl
theorem filt_getD {α β : Type} (ks : List α) (k0 : α) (c : α → Bool) (f : α → β) : ((List.range ks.length).filter (fun i => c (ks.getD i k0))).map (fun i => f (ks.getD i k0)) = (ks.filter c).map f := by
  have h := range_getD ks k0
  have e : (ks.filter c).map f = (((List.range ks.length).map (fun i => ks.getD i k0)).filter c).map f := by rw [h]
  rw [e, List.filter_map, List.map_map]
  rfl
/-- with a test -/
theorem s_filt {α : Type} {wi : TI} {g : TG} {tt : TT} {te : TE} {vs : List Nat} {ks : List α} {φ : α → PyData} (hI : EvI b wi Γ Γ1 ds (ks.map φ)) (G' : α → List Sl) (c : α → Bool) (f : α → PyData)
    (hg : ∀ k ∈ ks, EvGv b g (φ k) vs (wipeG Γ1 vs) (G' k)) (ht : ∀ k ∈ ks, EvT b tt (G' k) (G' k) (c k)) (he : ∀ k ∈ ks, c k = true → EvS b te (G' k) (G' k) (.dat (f k))) (hs : ∀ k ∈ ks, wipeG (G' k) vs = wipeG (wipeG Γ1 vs) vs) (hw : wipeG (wipeG Γ1 vs) vs = wipeG Γ1 vs) (hz : ks.length ≤ 100000) :
    EvS b (tLc wi g tt te vs) Γ (wipeG Γ1 vs) (.own ((ks.filter c).map f)) := by
  cases ks with
  | nil =>
    have := s_lc (b := b) (tt := tt) (te := te) (g := g) (vs := vs) hI (fun _ => wipeG Γ1 vs) (fun _ => []) (fun _ => []) (fun _ => true) (fun _ => .none) rfl (fun i di e => by simp at e) (fun i di e => by simp at e) (fun i di e => by simp at e) (fun i hi => by simp at hi) (by simp)
    simpa using this
  | cons k0 kr =>
    have hget : ∀ i di, ((k0 :: kr).map φ)[i]? = some di → ∃ k, (k0 :: kr)[i]? = some k ∧ φ k = di := fun i di e => by
      rw [List.getElem?_map] at e
      obtain ⟨k, hk, r⟩ := Option.map_eq_some_iff.mp e
      exact ⟨k, hk, r⟩
    have hD : ∀ i k, (k0 :: kr)[i]? = some k → (k0 :: kr).getD i k0 = k := fun i k e => by rw [List.getD_eq_getElem?_getD, e]; rfl
    have := s_lc (b := b) (tt := tt) (te := te) (g := g) (vs := vs) hI (fun _ => wipeG Γ1 vs) (fun i => G' ((k0 :: kr).getD i k0)) (fun i => G' ((k0 :: kr).getD i k0)) (fun i => c ((k0 :: kr).getD i k0)) (fun i => f ((k0 :: kr).getD i k0)) rfl
      (fun i di e => by obtain ⟨k, hk, rfl⟩ := hget i di e; rw [hD i k hk]; exact hg k (List.mem_of_getElem? hk)) (fun i di e => by obtain ⟨k, hk, rfl⟩ := hget i di e; rw [hD i k hk]; exact ht k (List.mem_of_getElem? hk))
      (fun i di e hc => by obtain ⟨k, hk, rfl⟩ := hget i di e; rw [hD i k hk] at hc ⊢; exact he k (List.mem_of_getElem? hk) hc)
      (fun i hi => by
        have hi' : i < (k0 :: kr).length := by simpa using hi
        have hk : (k0 :: kr)[i]? = some (k0 :: kr)[i] := by simp [hi']
        refine ⟨?_, hw⟩
        rw [ite_self, hD i _ hk]
        exact hs _ (List.getElem_mem hi')) (by simpa using hz)
    refine s_is this ?_
    rw [List.length_map]
    exact congrArg Sl.own (filt_getD (k0 :: kr) k0 c f)
end
end G
namespace PySem
open Sem (wp)
open AutoSeq1 (wpAny_loadPart')
theorem g_enumerate_newT (l : Addr) (items : Array Value) (n : Nat) (dct : Option Addr) (sl : Array (Option Value)) :
    Meets (Builtin.«enumerate.__new__» ⟨[.type "enumerate", .ref l], []⟩) (fun _ R s => s.heap.get? l = some { cls := .type "tuple", dict := dct, data := .seq items n, slots := sl } ∧
      R (.ok (.ret (.ref (s.heap.push { cls := .type "tuple_iterator", data := .fields #[.ref l, .int 0 0] }).objs.size)))
        { s with heap := (s.heap.push { cls := .type "tuple_iterator", data := .fields #[.ref l, .int 0 0] }).push { cls := .type "enumerate", data := .fields #[.none, .bool false, .ref s.heap.objs.size, rawInt 0, .none, .none] } }) :=
  .of_wp fun prog w A R s h => by
    obtain ⟨hp0, g, d, tkq, os⟩ := s; obtain ⟨ll, h⟩ := h
    have hsub := sub_enumerate
    have hLt : Heap.IsTuple (Shared.heap ⟨hp0, g, d, tkq, os⟩) l items := ⟨_, ll, rfl, n, rfl⟩
    wp_walk using wpAny_loadPart' ll
    refine wpAny_stack_any fun st => wpAny_pure ?_
    split
    · rename_i c _ _ _ _ _
      cases (c == Value.type "enumerate")
      · wp_walk using wpAny_loadPart' ll, wpAny_pyIter_tuple hLt
        exact ⟨_, rfl, h⟩
      · wp_walk using wpAny_loadPart' ll, wpAny_pyIter_tuple hLt
        exact ⟨_, rfl, h⟩
    · wp_walk using wpAny_loadPart' ll, wpAny_pyIter_tuple hLt
      exact ⟨_, rfl, h⟩
theorem g_call_enumerate_tuple {prog : Program} {w : World} {A : Around} {E : Value → Shared → Prop} {s : Shared} {l : Addr} {items : Array Value} {Q : Value → Shared → Prop} (hLt : s.heap.IsTuple l items)
    (h : ∀ hh, IsEnum hh (s.heap.objs.size + 1) s.heap.objs.size 0 .none → hh.IsTupleIter s.heap.objs.size l 0 → hh.objs.size = s.heap.objs.size + 2 →
      (∀ b o, s.heap.get? b = some o → hh.get? b = some o) → Q (.ref (s.heap.objs.size + 1)) { s with heap := hh }) :
    wpAny (model prog w) A (call (.type "enumerate") [.ref l]) Q E s := by
  obtain ⟨⟨c, dct, dt, sl⟩, ll, hcq, n, hdq⟩ := hLt
  replace hcq : c = .type "tuple" := hcq
  replace hdq : dt = .seq items n := hdq
  subst hcq hdq
  refine callType_new F.called_enumerate (by decide) (F.typeCall_enumerate_1 _) (F.newCall_enumerate_1 _) (fun obj => F.args_object_init_2 obj _) F.entry_enumerate_new
    (g_enumerate_newT l items n dct sl) ⟨ll, ?_⟩
  have zz : (s.heap.push { cls := .type "tuple_iterator", data := .fields #[.ref l, .int 0 0] }).objs.size = s.heap.objs.size + 1 := Heap.size_push ..
  show _ ∧ _
  rw [zz]
  have eE : IsEnum ((s.heap.push { cls := .type "tuple_iterator", data := .fields #[.ref l, .int 0 0] }).push
      { cls := .type "enumerate", data := .fields #[.none, .bool false, .ref s.heap.objs.size, rawInt 0, .none, .none] }) (s.heap.objs.size + 1) s.heap.objs.size 0 .none := by
    have := Heap.get?_push_size (s.heap.push { cls := .type "tuple_iterator", data := .fields #[.ref l, .int 0 0] })
      (o := { cls := .type "enumerate", data := .fields #[.none, .bool false, .ref s.heap.objs.size, rawInt 0, .none, .none] }) rfl
    rw [zz] at this; exact this
  refine ⟨⟨_, eE, rfl⟩, h _ eE ⟨_, Heap.get?_push_of_some _ (Heap.get?_push_size _ rfl), rfl, rfl⟩ (by rw [Heap.size_push, zz]) fun b o x => Heap.get?_push_of_some _ (Heap.get?_push_of_some _ x)⟩
end PySem
namespace G
open PySem PySem.Spec PyProof.Rows L2
open Evl (Ex ex_rd ex_l ex_t rMax2)
section
variable {X : Cx}
/-! ### a tuple times k, k from 1 on -/
theorem tuple_mul1 (l : Addr) (items : Array Value) (n : Nat) (dd : Option Addr) (sl : Array (Option Value)) (u : Tok) :
    Meets (Builtin.«tuple.__mul__» ⟨[.ref l, .int 1 u], []⟩) (fun _ R s => s.heap.get? l = some { cls := .type "tuple", dict := dd, data := .seq items n, slots := sl } ∧ R (.ok (.ret (Value.ref l))) s) :=
  .of_wp fun prog w A R s h => by
    obtain ⟨hp0, g, d, tkq, os⟩ := s
    obtain ⟨ll, h⟩ := h
    have w1 := AutoSeq1.idx_int
    have c1x : (items.isEmpty || (1 : Int) == 1) = true := by simp
    wp_walk using PySem.AutoSeq1.wpAny_loadPart' ll
    exact ⟨_, rfl, h⟩
def rRepA (K : PySem.W.Frag) : R2 := fun x y H Q => ∃ l k xs, x = .ref l ∧ y = .int k ∧ SqT K H l xs ∧ xs ≠ [] ∧ 1 ≤ k ∧ k ≤ 1000 ∧ xs.length ≤ 1000 ∧ (k = 1 → Q (.ref l) H) ∧ (k ≠ 1 → ∀ p, H p = none → Q (.ref p) (upd H p (.tup (List.replicate k.toNat xs).flatten)))
theorem op_repA : OpR X (binaryOp .Mult) (rRepA X.K) := by
  intro pins s σ H x y v u Q I rx ry h
  obtain ⟨l, k, xs, rfl, rfl, tyE, neE, h1, h2, zz, q1x, q2⟩ := h
  by_cases kk : k = 1
  · subst kk
    have q := q1x rfl
    cases rx
    obtain ⟨t, rfl⟩ := ry
    obtain ⟨uu, r, ⟨⟨cls, dd, data, sl⟩, oq, hcq, n, hdq⟩, hs⟩ := I.tuple tyE
    simp only at hcq hdq
    subst hcq hdq
    exact wpAny_binaryOp_repeat_ref (T := "tuple") (U := "int") (by decide) ⟨_, oq, rfl⟩ (fun s' => typeIs_int s' 1 t) noFill_tuple_mul F.fills_int_mul F.slot_int_rmul repeat_tuple F.slot_int_index.lookup
      (call_meets F.slot_int_rmul (typeIs_int s 1 t) F.entry_int_rmul (F.args_int_rmul_2 _ _) (int_rmul_tuple 1 t l uu.toArray n dd sl)
        ⟨oq, rfl, ⟨_, oq, rfl⟩, call_meets F.slot_tuple_mul ⟨_, oq, rfl⟩ F.entry_tuple_mul (F.args_tuple_mul_2 _ _) (tuple_mul1 l uu.toArray n dd sl t) ⟨oq, ⟨.ref l, H, I, rfl, q⟩⟩⟩)
  · exact op_repT pins s σ H _ _ v u Q I rx ry ⟨l, k, xs, rfl, rfl, tyE, neE, by omega, h2, zz, q2 kk⟩
/-! ### enumerate of a list or a tuple -/
def IteT (K : PySem.W.Frag) (a : Addr) : It :=
  ⟨fun i H => ∃ (xs : List V) (x : V), SqT K H a xs ∧ xs[i]? = some x, fun i H v H' => ∃ T x, v = .ref T ∧ H T = none ∧ H' = upd H T (.tup [.int (i : Nat), x]) ∧ ∀ xs, SqT K H a xs → xs[i]? = some x, fun i H => ∃ xs : List V, SqT K H a xs ∧ xs.length ≤ i⟩
theorem turn_enumT {P : Program} {w : World} {K : PySem.W.Frag} {elts : List Expr} {kk : Nat} {tpos : Pos} (a e it : Addr) :
    Turn P w K (.Tuple elts kk tpos) (IteT K a) [e, it] e (fun i h => (∃ prev, IsEnum h e it ((i : Nat) : Int) prev) ∧ h.IsTupleIter it a i ∧ e ≠ it) where
  mem := by simp
  obj := fun i h st b hbm => by
    obtain ⟨⟨prev, eE⟩, ⟨o, oq, hcq, hdq⟩, _⟩ := st
    have eq1 : b = e ∨ b = it := by simpa using hbm
    rcases eq1 with z | z
    · rw [z]; exact ⟨_, eE, fun v q => nomatch q⟩
    · rw [z]; exact ⟨o, oq, fun v q => by rw [hdq] at q; cases q⟩
  keep := fun i h hh st k => let ⟨⟨prev, eE⟩, hi, neE⟩ := st; ⟨⟨prev, k e (by simp) _ eE⟩, hi.at fun o q => k it (by simp) o q, neE⟩
  item := by
    intro X eP eW eK hcq i pins s σ H E I hfp st hgo
    subst eP eW eK
    obtain ⟨⟨prev, eE⟩, itE, neE⟩ := st
    obtain ⟨xs, x, rdq, atx⟩ := hgo
    obtain ⟨uu, pr, p, zz⟩ := I.tuple rdq
    obtain ⟨u, atu, rlu⟩ := pr.get atx
    have ltE : e < s.heap.objs.size := Heap.lt_size eE
    have ltI : it < s.heap.objs.size := by obtain ⟨_, q, _⟩ := itE; exact Heap.lt_size q
    have nai : a ≠ it := fun z => by
      subst z
      obtain ⟨o1, e1x, c1x, _⟩ := p
      obtain ⟨o2, e2, c2, _⟩ := itE
      rw [e1x] at e2; cases e2; rw [c1x] at c2; exact absurd c2 (by decide)
    have nae : a ≠ e := fun z => by
      subst z
      obtain ⟨o1, e1x, c1x, _⟩ := p
      have h2 : s.heap.get? a = some _ := eE
      rw [e1x] at h2; cases h2
      have c2 : Value.type "enumerate" = Value.type "tuple" := c1x
      exact absurd c2 (by decide)
    have tupA : s.heap.IsTuple a uu.toArray := p
    refine wpAny_pyNext_enum_itemD (Draws.tuple (A := X.A.in1) (I.ok.hd hcq) it a nai uu.toArray) eE ⟨itE, tupA⟩ (n := uu.toArray.size) (i := i) ?_ neE (by simp [neE, Ne.symm nae]) fun x' hh tkq pxq oq stq tyE szq kk => ?_
    · have := (List.getElem?_eq_some_iff.mp atu).1
      simpa using this
    · have exx : x' = u := by
        have q : uu.toArray[i]? = some x' := pxq
        have q2 : uu.toArray[i]? = some u := by simpa using atu
        rw [q] at q2; exact Option.some.inj q2
      subst exx
      refine ⟨_, rfl, wpAny_letOwnedTupleGo_enum (s := { s with heap := hh, toks := tkq + 1 }) oq fun hhh he' sbq => ?_⟩
      have tyE2 : hhh.get? s.heap.objs.size = some { cls := .type "tuple", data := .seq #[.int i tkq, x'] } := (sbq.2 _ (Nat.ne_of_gt ltE)).trans tyE
      have newq : ObjOk X.prog X.w (upd H s.heap.objs.size (.tup [.int (i : Nat), x])) hhh s.heap.objs.size (.tup [.int (i : Nat), x]) :=
        ⟨by show 2 ≤ sizeLine; decide, [.int i tkq, x'], .cons ⟨_, rfl⟩ (.cons rlu .nil), ⟨_, tyE2, rfl, _, rfl⟩⟩
      have J1 : Inv X pins σ (upd H s.heap.objs.size (.tup [.int (i : Nat), x])) { s with heap := hhh, toks := tkq + 1 } :=
        I.turnedNew (ch := [e, it]) (fun b ob hbm q => (sbq.2 b (fun z => hbm (by simp [z]))).trans (kk b ob (fun z => hbm (by simp [z])) (fun z => hbm (by simp [z])) q)) hfp (Nat.le_refl _) newq
      refine ⟨.ref s.heap.objs.size, _, J1, rfl, ⟨_, x, rfl, I.hok.fresh (Nat.le_refl _), rfl, fun ys hy => by rw [I.tuple_inj hy rdq]; exact atx⟩, ⟨⟨x', ?_⟩, stq.1.at fun o q => (sbq.2 it (Ne.symm neE)).trans q, neE⟩, fun b hbm => ?_⟩
      · have e1x : ((i + 1 : Nat) : Int) = (i : Int) + 1 := by omega
        rw [e1x]; exact he'
      · have hbq : b < s.heap.objs.size := by
          have eq1 : b = e ∨ b = it := by simpa using hbm
          rcases eq1 with z | z
          · rw [z]; exact ltE
          · rw [z]; exact ltI
        rw [upd_ne (Nat.ne_of_lt hbq)]
        exact (hfp b hbm).1
  done := by
    intro X eP eW eK hcq i pins s σ H E I hfp st hgo
    subst eP eW eK
    obtain ⟨⟨prev, eE⟩, itE, neE⟩ := st
    obtain ⟨xs, rdq, atx⟩ := hgo
    obtain ⟨uu, pr, p, zz⟩ := I.tuple rdq
    obtain ⟨w0, w1, w2, w3, w4, w5⟩ := hfp it (by simp)
    have ll := pr.length
    have tyE : s.TypeIs (.ref e) "enumerate" := ⟨_, eE, rfl⟩
    have tupA : s.heap.IsTuple a uu.toArray := p
    unfold pyNext
    refine wpAny_bind (wpAny_attempt (wpAny_callSpecial?_slot (name := Str.ofString "__next__") tyE F.slot_enumerate_next
      (wpAny_call_entry F.slot_enumerate_next tyE F.entry_enumerate_next ?_ (F.args_enumerate_next_1 _))))
    show wpAny _ _ (field (.ref e) 2 >>= _) _ _ _
    refine wpAny_bind (wpAny_field eE rfl (x := .ref it) rfl ?_)
    refine wpAny_bind (wpAny_nextOf_tuple_end (by exact I.ok.hd hcq) itE tupA (by simp; omega) fun hh x he' hx' => ?_)
    obtain ⟨o, oq, hc'⟩ := hx'
    refine wpAny_bind (wpAny_isInstance (T := "StopIteration") (b := true) ⟨o, oq, hc'⟩ isSubtype_stop ?_)
    exact wpAny_pure ⟨rfl, I.turned (t' := s.toks) (fun b o hbm q => he' b o hbm q) w0 w1 w3 w4 w5⟩
  self := fun A i s Q E st h => let ⟨⟨_, eE⟩, _⟩ := st; wpAny_pyIter_enum eE h
def iEnumA (K : PySem.W.Frag) (ta : TA) : TI := fun σ H R => ta σ H fun vs H1 => ∃ a xs, vs = [.ref a] ∧ ((SqL K H1 a xs ∧ R (Ite K a) H1) ∨ (SqT K H1 a xs ∧ R (IteT K a) H1))
theorem pi_enumA {e : Expr} {ta : TA} {p pos tpos : Pos} {elts : List Expr} {kk : Nat} (hgo : Gl X "enumerate") (mgx : X.mg "enumerate" = none) (hargs : PA X [e] ta) (hs : starEach [e] X.env = [(false, eval e X.env)] := by rfl) :
    PI X (.Tuple elts kk tpos) (.Call (.Name "enumerate" p) [e] [] pos) (iEnumA X.K ta) := by
  refine ⟨fun pins s σ H R I h => ?_⟩
  refine Call_ (ld_blt I hgo mgx boot_enumerate (PyProof.Rows.callWith_type1 (thn (hargs.run pos pins s σ H _ I h) fun us s1 ⟨vs, H1, J1, r1q, q1x⟩ => ?_) hs rfl))
  obtain ⟨a, xs, exx, q1x⟩ := q1x
  subst exx
  cases r1q with
  | cons r rrq =>
    cases rrq
    cases r
    have fin : ∀ b, b ∈ [s1.heap.objs.size + 1, s1.heap.objs.size] → FpOk X pins H1 b := fun b hbm => by
      have eq1 : b = s1.heap.objs.size + 1 ∨ b = s1.heap.objs.size := by simpa using hbm
      have leq1 : s1.heap.objs.size ≤ b := by
        rcases eq1 with z | z
        · rw [z]; exact Nat.le_add_right _ _
        · rw [z]; exact Nat.le_refl _
      exact J1.fpOk leq1 (J1.hok.fresh leq1)
    rcases q1x with ⟨rdq, q⟩ | ⟨rdq, q⟩
    · obtain ⟨uu, pr, p', zz⟩ := J1.list rdq
      refine call_enumerate_list p'.isList fun hh eE itE szq kk => wpAny_pyIter_enum eE ?_
      have J2 : Inv X pins σ H1 { s1 with heap := hh } := J1.kept (t' := s1.toks) kk
      exact ⟨s1.heap.objs.size + 1, [s1.heap.objs.size + 1, s1.heap.objs.size], _, _, H1, rfl, J2, turn_enum a (s1.heap.objs.size + 1) s1.heap.objs.size, ⟨⟨.none, eE⟩, itE, Nat.succ_ne_self _⟩, fin, q⟩
    · obtain ⟨uu, pr, p', zz⟩ := J1.tuple rdq
      refine g_call_enumerate_tuple (show s1.heap.IsTuple a uu.toArray from p') fun hh eE itE szq kk => wpAny_pyIter_enum eE ?_
      have J2 : Inv X pins σ H1 { s1 with heap := hh } := J1.kept (t' := s1.toks) kk
      exact ⟨s1.heap.objs.size + 1, [s1.heap.objs.size + 1, s1.heap.objs.size], _, _, H1, rfl, J2, turn_enumT a (s1.heap.objs.size + 1) s1.heap.objs.size, ⟨⟨.none, eE⟩, itE, Nat.succ_ne_self _⟩, fin, q⟩
/-! ### a product, one factor below 2 ^ 64 or both below a million bits together -/
theorem op_mulA : OpR X (binaryOp .Mult) (rI (fun i j => CMul i j ∨ CMulW i j) fun i j => .int (i * j)) := opI fun _ _ _ _ _ _ _ hc q => hc.elim (fun h => mul_int q h.ok) (fun h => mul_int q h.ok)
end
section
variable {b : Bs} {C : Hp} {T Γ Γ' Γ1 Γ2 : List Sl} {τ σ : L2.St} {H H' : Hp} {s s' : Sl} {v : V} {d e : PyData} {ds es : List PyData} {vs : List V}
theorem rd_repA {K : PySem.W.Frag} {k : Int} (h : ds ≠ []) (hz : ds.length ≤ 1000) (h1 : 1 ≤ k) (h2 : k ≤ 1000) : RD K (rRepA K) (.tuple ds) (.int k) (.dat (.tuple (List.replicate k.toNat ds).flatten)) := fun C H x y ex dx dy Q q => by
  cases dy
  have dx2 := dx
  cases dx with
  | tup hq ha =>
    rename_i a xs
    have hl := dpa_len ha
    refine ⟨a, k, xs, rfl, rfl, ex_t ex hq, fun z => h (by subst z; simpa using hl.symm), h1, h2, by omega, fun z => ?_, fun _ p hp => ?_⟩
    · subst z
      have : (List.replicate (1 : Int).toNat ds).flatten = ds := by simp
      rw [this] at q
      exact q _ _ (.same ex dx2)
    · refine q _ _ (.tup ex ?_ hp)
      generalize k.toNat = n
      induction n with
      | zero => exact .nil
      | succ n ih =>
        rw [List.replicate_succ, List.replicate_succ, List.flatten_cons, List.flatten_cons]
        exact dpa_app ha ih
def enumT (p : PyData × Nat) : PyData := .tuple [.int (p.2 : Int), p.1]
theorem i_enumT {ta : TA} (h : EvA b ta Γ Γ1 [.tuple ds]) : EvI b (iEnumA b.K ta) Γ Γ1 [.tuple ds] (ds.zipIdx.map enumT) := fun T τ σ H hs R r =>
  h T τ σ H hs _ fun vs H1 C h1 dv => by
    have dv2 := dv
    obtain ⟨v, rfl, dx⟩ := dpa1 dv
    cases dx with
    | tup hq ha =>
      rename_i a xs
      refine ⟨a, xs, rfl, .inr ⟨ex_t h1.ch hq, r _ [.ref a] H1 C (fun C' H' ex dw => ?_) h1 dv2⟩⟩
      obtain ⟨v', e1, dz⟩ := dpa1 dw
      cases e1
      cases dz with
      | tup hq' ha' =>
        have hl := dpa_len ha'
        refine ⟨⟨_, ex_t ex hq', by simp; omega⟩, fun i di e => ?_⟩
        rw [List.getElem?_map] at e
        obtain ⟨⟨u1, u2⟩, e1, rfl⟩ := Option.map_eq_some_iff.mp e
        rw [List.getElem?_zipIdx] at e1
        obtain ⟨z, e2, e3⟩ := Option.map_eq_some_iff.mp e1
        cases e3
        obtain ⟨y, y1, y2⟩ := dpa_get ha' e2
        refine ⟨⟨_, y, ex_t ex hq', y1⟩, fun x H2 z2 => ?_⟩
        obtain ⟨P, z1, rfl, nP, rfl, f1⟩ := z2
        have w1 := (f1 _ (ex_t ex hq')).symm.trans y1
        cases w1
        have : ((0 + i : Nat) : Int) = (i : Int) := by omega
        exact .tup ex (.cons (this ▸ .int _) (.cons y2 .nil)) nP
end
end G
namespace G
open PySem PySem.Spec PyProof.Rows L2
open Evl (Ex ex_rd ex_l ex_t rMax2)
abbrev ti (xs : List Int) : PyData := .tuple (xs.map .int)
abbrev li (xs : List Int) : PyData := .list (xs.map .int)
theorem eqv_int (i j : Int) : PyData.eqv (.int i) (.int j) = decide (i = j) := by
  rw [PyData.eqv]
  by_cases h : i = j <;> simp [h]
theorem eqv_bool (i j : Bool) : PyData.eqv (.bool i) (.bool j) = decide (i = j) := by
  rw [PyData.eqv]
  cases i <;> cases j <;> rfl
theorem eqv_str (i j : Str) : PyData.eqv (.str i) (.str j) = decide (i = j) := by
  rw [PyData.eqv]
  by_cases h : i = j <;> simp [h]
theorem eqvAll_ints : ∀ xs ys : List Int, PyData.eqvAll (xs.map .int) (ys.map .int) = decide (xs = ys)
  | [], [] => by simp [PyData.eqvAll]
  | [], _ :: _ => by simp [PyData.eqvAll]
  | _ :: _, [] => by simp [PyData.eqvAll]
  | x :: xs, y :: ys => by
    rw [List.map_cons, List.map_cons, PyData.eqvAll, eqv_int, eqvAll_ints xs ys]
    by_cases h : x = y <;> by_cases h2 : xs = ys <;> simp [h, h2]
theorem eqv_ti (xs ys : List Int) : PyData.eqv (ti xs) (ti ys) = decide (xs = ys) := by rw [PyData.eqv]; exact eqvAll_ints xs ys
theorem eqv_li (xs ys : List Int) : PyData.eqv (li xs) (li ys) = decide (xs = ys) := by rw [PyData.eqv]; exact eqvAll_ints xs ys
theorem lay_ints : ∀ xs : List Int, PyData.canLayAll0 (xs.map .int) = true
  | [] => by simp [PyData.canLayAll0]
  | x :: xs => by rw [List.map_cons, PyData.canLayAll0, lay_ints xs]; simp [PyData.canLay0]
theorem dep_ints : ∀ xs : List Int, PyData.depthAll (xs.map .int) ≤ 1
  | [] => by simp [PyData.depthAll]
  | x :: xs => by
    rw [List.map_cons, PyData.depthAll]
    have := dep_ints xs
    simp only [PyData.depth]
    omega
theorem sh_int (i : Int) : SeqAt.shaped (.int i) = true := by simp [SeqAt.shaped, PyData.canLay0, PyData.depth]
theorem sh_bool (i : Bool) : SeqAt.shaped (.bool i) = true := by simp [SeqAt.shaped, PyData.canLay0, PyData.depth]
theorem sh_none : SeqAt.shaped .none = true := by simp [SeqAt.shaped, PyData.canLay0, PyData.depth]
theorem sh_ti (xs : List Int) : SeqAt.shaped (ti xs) = true := by
  have := dep_ints xs
  unfold SeqAt.shaped
  rw [PyData.canLay0, lay_ints, PyData.depth]
  simp; omega
theorem sh_li (xs : List Int) : SeqAt.shaped (li xs) = true := by
  have := dep_ints xs
  unfold SeqAt.shaped
  rw [PyData.canLay0, lay_ints, PyData.depth]
  simp; omega
section
variable {K : PySem.W.Frag} {i j : Int} {xs ys : List Int}
theorem rd_eqI : RD K (rEqD K) (.int i) (.int j) (.dat (.bool (decide (i = j)))) := by
  have := rd_eqD (K := K) (sh_int i) (sh_int j)
  rwa [eqv_int] at this
theorem rd_neI : RD K (rNeD K) (.int i) (.int j) (.dat (.bool (!decide (i = j)))) := by
  have := rd_neD (K := K) (sh_int i) (sh_int j)
  rwa [eqv_int] at this
theorem rd_eqB {i j : Bool} : RD K (rEqD K) (.bool i) (.bool j) (.dat (.bool (decide (i = j)))) := by
  have := rd_eqD (K := K) (sh_bool i) (sh_bool j)
  rwa [eqv_bool] at this
theorem rd_neB {i j : Bool} : RD K (rNeD K) (.bool i) (.bool j) (.dat (.bool (!decide (i = j)))) := by
  have := rd_neD (K := K) (sh_bool i) (sh_bool j)
  rwa [eqv_bool] at this
theorem rd_eqT : RD K (rEqD K) (ti xs) (ti ys) (.dat (.bool (decide (xs = ys)))) := by
  have := rd_eqD (K := K) (sh_ti xs) (sh_ti ys)
  rwa [eqv_ti] at this
theorem rd_neT : RD K (rNeD K) (ti xs) (ti ys) (.dat (.bool (!decide (xs = ys)))) := by
  have := rd_neD (K := K) (sh_ti xs) (sh_ti ys)
  rwa [eqv_ti] at this
theorem rd_eqL : RD K (rEqD K) (li xs) (li ys) (.dat (.bool (decide (xs = ys)))) := by
  have := rd_eqD (K := K) (sh_li xs) (sh_li ys)
  rwa [eqv_li] at this
theorem rd_neL : RD K (rNeD K) (li xs) (li ys) (.dat (.bool (!decide (xs = ys)))) := by
  have := rd_neD (K := K) (sh_li xs) (sh_li ys)
  rwa [eqv_li] at this
theorem atI_ints (h0 : 0 ≤ i) (h1 : i < xs.length) : atI (xs.map PyData.int) i = some (.int (xs.getD i.toNat 0)) := by
  refine atI_ok h0 ?_
  rw [List.getElem?_map, List.getElem?_eq_getElem (by omega), Option.map_some, List.getD_eq_getElem?_getD, List.getElem?_eq_getElem (by omega)]
  rfl
theorem rd_ixTi (h0 : 0 ≤ i) (h1 : i < xs.length) : RD K (rIx K) (ti xs) (.int i) (.dat (.int (xs.getD i.toNat 0))) := rd_ixT (atI_ints h0 h1)
theorem rd_ixLi (h0 : 0 ≤ i) (h1 : i < xs.length) : RD K (rIx K) (li xs) (.int i) (.dat (.int (xs.getD i.toNat 0))) := rd_ixL (atI_ints h0 h1)
theorem cd_lenTi : CD K (rLen K) [ti xs] (.dat (.int xs.length)) := by
  have := cd_lenT (K := K) (ds := xs.map .int)
  rwa [List.length_map] at this
theorem cd_lenLi : CD K (rLen K) [li xs] (.dat (.int xs.length)) := by
  have := cd_lenL (K := K) (ds := xs.map .int)
  rwa [List.length_map] at this
end
/-! ### less is known -/
def wk : List Sl → List Sl → Prop
  | [], [] => True
  | s :: Γ, s' :: Γ' => (s' = s ∨ s' = .no) ∧ wk Γ Γ'
  | _, _ => False
theorem has_wk {K : PySem.W.Frag} {C H : Hp} : ∀ {Γ Γ' : List Sl} {σ : L2.St} {ps : List Addr}, wk Γ Γ' → Has K C H Γ σ ps → ∃ qs, Has K C H Γ' σ qs ∧ qs.Sublist ps
  | [], [], _, _, _, h => ⟨_, h, List.Sublist.refl _⟩
  | s :: Γ, s' :: Γ', _, _, ⟨e, w⟩, h => by
    have go : ∀ {x : Option V} {σ : L2.St} {ps : List Addr}, Has K C H Γ σ ps → ∃ qs, Has K C H (.no :: Γ') (x :: σ) qs ∧ qs.Sublist ps := fun h => by
      obtain ⟨qs, h1, h2⟩ := has_wk w h
      exact ⟨qs, .no h1, h2⟩
    rcases e with rfl | rfl
    · cases h with
      | no h => exact go h
      | dat d h => obtain ⟨qs, h1, h2⟩ := has_wk w h; exact ⟨qs, .dat d h1, h2⟩
      | own y e d h => obtain ⟨qs, h1, h2⟩ := has_wk w h; exact ⟨_, .own y e d h1, h2.cons_cons _⟩
    · cases h with
      | no h => exact go h
      | dat d h => exact go h
      | own y e d h => obtain ⟨qs, h1, h2⟩ := go h; exact ⟨qs, h1, h2.cons _⟩
theorem hs_wk {b : Bs} {T Γ Γ' : List Sl} {τ σ : L2.St} {H : Hp} (w : wk Γ Γ') (h : Hs b T τ Γ σ H) : Hs b T τ Γ' σ H := by
  obtain ⟨C, ps, qs, c, h1, h2⟩ := h
  obtain ⟨rs, h3, h4⟩ := has_wk w h2
  exact ⟨C, ps, rs, c.sub (fun p hp => (List.Sublist.append_left h4 ps).subset hp) (c.nd.sublist (List.Sublist.append_left h4 ps)), h1, h3⟩
theorem n_end {b : Bs} {T Γ Γ' : List Sl} {τ : L2.St} (w : wk Γ Γ') : Nx b (fun σ H => Hs b T τ Γ' σ H) T τ Γ := fun _ _ h => hs_wk w h
theorem n_wk {b : Bs} {T Γ Γ' : List Sl} {τ : L2.St} {N : L2.St → Hp → Prop} (w : wk Γ Γ') (k : Nx b N T τ Γ') : Nx b N T τ Γ := fun _ _ h => k _ _ (hs_wk w h)
/-! ### statements that go on -/
def StS (b : Bs) (t : TS) (Γ Γ' : List Sl) : Prop := ∀ (D : Ends) (T : List Sl) (τ : L2.St), Nx b D.nx T τ Γ' → Nx b (t D) T τ Γ
section
variable {b : Bs} {T Γ Γ' Γ1 Γ2 : List Sl} {τ : L2.St} {D : Ends} {t u : TS} {te : TE} {s : Sl} {d : PyData} {ds : List PyData}
theorem n_go (h : StS b t Γ Γ1) (k : Nx b (u D) T τ Γ1) : Nx b (tSeq t u D) T τ Γ := h { D with nx := u D } T τ k
theorem n_stop {c : TT} (h : EvT b c Γ Γ1 false) (k : Nx b (u D) T τ Γ1) : Nx b (tSeq (tIfS c t tNext) u D) T τ Γ := n_if (D := { D with nx := u D }) h (fun z => by cases z) fun _ => k
theorem n_leave {c : TT} (h : EvT b c Γ Γ1 true) (k : Nx b (tRet te D) T τ Γ1) : Nx b (tSeq (tIfS c (tRet te) t) u D) T τ Γ := n_if (t := tRet te) (D := { D with nx := u D }) h (fun _ => k) fun z => by cases z
theorem n_fork {c : TT} {k : Bool} (h : EvT b c Γ Γ1 k) (h1 : k = true → Nx b (tRet te D) T τ Γ1) (h2 : k = false → Nx b (u D) T τ Γ1) : Nx b (tSeq (tIfS c (tRet te) tNext) u D) T τ Γ :=
  n_if (t := tRet te) (u := tNext) (D := { D with nx := u D }) h (fun z => h1 z) fun z => h2 z
theorem st_set {i : Nat} (h : EvS b te Γ Γ1 s) : StS b (tAsg te (gName i)) Γ (Γ1.set i s) := fun D T τ k => n_set h k
theorem st_drop (h : EvS b te Γ Γ1 s) : StS b (tDrop te) Γ Γ1 := fun D T τ k => n_drop h k
theorem st_append {i : Nat} {z : Option Addr} (h : Γ[i]? = some (.ownq z ds)) (he : EvS b te Γ Γ (.dat d)) (hz : ds.length < 100000) : StS b (tDrop (tBM b.K "list" rAppend (tVar i) (tCons te tNil))) Γ (Γ.set i (.ownq z (ds ++ [d]))) := fun D T τ k => n_append h he hz k
theorem st_setL {i j : Nat} {k : Int} {tb : TE} {z : Option Addr} (h : Γ[i]? = some (.ownq z ds)) (he : EvS b te Γ Γ (.dat d)) (hb : EvS b tb Γ Γ (.dat (.int k))) (hj : ixN ds.length k = some j) :
    StS b (tAsg te (gSub (tVar i) tb rSetL)) Γ (Γ.set i (.ownq z (ds.set j d))) := fun D T τ k => n_setL h he hb hj k
theorem st_seq (h : StS b t Γ Γ1) (h2 : StS b u Γ1 Γ2) : StS b (tSeq t u) Γ Γ2 := fun D T τ k => h { D with nx := u D } T τ (h2 D T τ k)
theorem st_next : StS b tNext Γ Γ := fun D T τ k => k
theorem st_if {c : TT} {k : Bool} (h : EvT b c Γ Γ1 k) (h1 : k = true → StS b t Γ1 Γ2) (h2 : k = false → StS b u Γ1 Γ2) : StS b (tIfS c t u) Γ Γ2 := fun D T τ q => n_if h (fun z => h1 z D T τ q) fun z => h2 z D T τ q
theorem st_wk (w : wk Γ1 Γ2) (h : StS b t Γ Γ1) : StS b t Γ Γ2 := fun D T τ k => h D T τ (n_wk w k)
theorem st_is (h : StS b t Γ Γ1) (e : Γ1 = Γ2) : StS b t Γ Γ2 := e ▸ h
theorem st_for {wi : TI} {g : TG} {tb : TS} {ds its : List PyData} (hI : EvI b wi Γ Γ1 ds its) (G G' : Nat → List Sl) (h0 : wk Γ1 (G 0)) (hg : ∀ i di, its[i]? = some di → EvG b g di (G i) (G' i))
    (hb : ∀ i di, its[i]? = some di → StS b tb (G' i) (G (i + 1))) : StS b (tFor wi g tb) Γ (G its.length) := fun D T τ k => by
  have hI' : EvI b wi Γ (G 0) ds its := fun T τ σ H hs R r => hI T τ σ H hs R fun J vs H' C ok h dv => by
    obtain ⟨ps, qs, c, h1, h2⟩ := h
    obtain ⟨rs, h3, h4⟩ := has_wk h0 h2
    exact r J vs H' C ok ⟨ps, rs, c.sub (fun p hp => (List.Sublist.append_left h4 ps).subset hp) (c.nd.sublist (List.Sublist.append_left h4 ps)), h1, h3⟩ dv
  exact n_for hI' G G' rfl hg (fun i di vs hv e => hb i di e _ _ _ n_hs) k
end
/-! ### a def -/
def Γ0 (n : Nat) (ds : List PyData) : List Sl := ds.map Sl.dat ++ List.replicate (n - ds.length) Sl.no
theorem has_dats {K : PySem.W.Frag} {C H : Hp} {Γ : List Sl} {σ : L2.St} {ps : List Addr} (h : Has K C H Γ σ ps) : ∀ {vs : List V} {ds : List PyData}, DpAll K C vs ds → Has K C H (ds.map Sl.dat ++ Γ) (vs.map some ++ σ) ps
  | _, _, .nil => h
  | _, _, .cons r t => .dat r (has_dats h t)
theorem has_no {K : PySem.W.Frag} {C H : Hp} : ∀ n : Nat, Has K C H (List.replicate n Sl.no) (List.replicate n none) []
  | 0 => .nil
  | n + 1 => .no (has_no n)
theorem fn_ok {P : Program} {w : World} {K : PySem.W.Frag} {mg : Str → Option Value} {base : Heap} {x qual : Str} {st : Stmt} {f : Addr} {fd : FuncData} {N ps : List Str} {k : Nat} {gr : List PyData → Sl → Prop} {tr : PySem.W.Frag → TS}
    (F : Fun K x qual st f fd) (S : FnScope N ps (defScope st)) (len : ∀ ds s, gr ds s → ds.length = ps.length)
    (pst : ∀ (cdv : Value) (A : Around) (outer : List Env) (s : Shared) (H : Hp) (E : XK), Room k (A.deeper (envOfC qual (defScope st) s.heap.objs.size f cdv)) → PSs (cxOf CX0 P w K mg base N qual (defScope st) f cdv A outer s H E).nox (defBody st) (tr K))
    (rd : ∀ (b : Bs) (D : Ends) ds s, gr ds s → (∀ v H', Ret b.K b.H0 b.B s v H' → D.rt v H') → (∀ σ H, D.rt .non H → D.nx σ H) → Nx b (tr b.K D) [] [] (Γ0 N.length ds)) :
    FnOk P w K mg base CX0 (k + 1) f fd ps (spP K gr) := by
  refine F.ok S (fun vs H Q E h => ?_) (fun cdv A outer s H vs Q E hr h => ?_)
  · obtain ⟨C, ds, s, e, dv, g, q⟩ := h
    rw [dpa_len dv]; exact len ds s g
  · obtain ⟨C, ds, sl, e, dv, g, q⟩ := h
    refine ⟨_, pst cdv A outer s H E hr, ?_⟩
    refine rd ⟨K, H, C⟩ _ ds sl g q (fun _ _ h => h) _ _ ⟨C, [], [], ⟨Ex.refl C, e, Ex.refl H, fun _ _ z => z, (fun p hp => by cases hp), List.nodup_nil⟩, .nil, ?_⟩
    unfold L2.start Γ0
    rw [dpa_len dv]
    exact has_dats (has_no _) dv
end G
namespace G
open PySem PySem.Spec PyProof.Rows L2
open Evl (Ex ex_rd ex_l ex_t rMax2)
/-! ### a def that is lent a list (its first argument) and changes it -/
def RetM (K : PySem.W.Frag) (H C : Hp) (p : Addr) (ds' : List PyData) (s : Sl) (v : V) (H' : Hp) : Prop :=
  ∃ C' rs vs', Ex C C' ∧ Ex C' H' ∧ (∀ a o, a ≠ p → H a = some o → H' a = some o) ∧ (∀ a, H a ≠ none → C a = none → C' a = none) ∧ Has K C' H' [s] [some v] rs ∧ (∀ q ∈ rs, C' q = none ∧ H q = none) ∧ H' p = some (.lst vs') ∧ DpAll K C' vs' ds'
def RetB (b : Bs) (p : Addr) (ds' : List PyData) (s : Sl) (v : V) (H' : Hp) : Prop :=
  ∃ C' rs vs', Ex b.B C' ∧ Ex C' H' ∧ Ex b.H0 H' ∧ (∀ a, b.H0 a ≠ none → b.B a = none → C' a = none) ∧ C' p = none ∧ Has b.K C' H' [s] [some v] rs ∧ (∀ q ∈ rs, C' q = none ∧ b.H0 q = none ∧ q ≠ p) ∧ H' p = some (.lst vs') ∧ DpAll b.K C' vs' ds'
def spM (K : PySem.W.Frag) (f : List PyData → List PyData → List PyData → Sl → Prop) : Sp := fun vs H Q _ => ∃ C p vs0 rest ds args ds' s, vs = .ref p :: rest ∧ H p = some (.lst vs0) ∧ C p = none ∧ Ex C H ∧ DpAll K C vs0 ds ∧ DpAll K C rest args ∧
  f ds args ds' s ∧ ∀ v H', RetM K H C p ds' s v H' → Q v H'
theorem Has.own_z {K : PySem.W.Frag} {C H : Hp} {Γ : List Sl} {σ : L2.St} {ps : List Addr} (h : Has K C H Γ σ ps) : ∀ {i : Nat} {z : Option Addr} {ds : List PyData}, Γ[i]? = some (.ownq z ds) → ∃ p, σ[i]? = some (some (.ref p)) ∧ p ∈ ps ∧ ∀ r, z = some r → r = p := by
  induction h with
  | nil => intro i z ds e; simp at e
  | no q ih =>
    intro i z ds e
    cases i with
    | zero => simp at e
    | succ i => obtain ⟨p, h1, h2, h3⟩ := ih (by simpa using e); exact ⟨p, by simpa using h1, h2, h3⟩
  | dat dd q ih =>
    intro i z ds e
    cases i with
    | zero => simp at e
    | succ i => obtain ⟨p, h1, h2, h3⟩ := ih (by simpa using e); exact ⟨p, by simpa using h1, h2, h3⟩
  | own y0 e0 d0 q ih =>
    intro i z ds e
    cases i with
    | zero => simp at e; obtain ⟨rfl, rfl⟩ := e; exact ⟨_, rfl, List.mem_cons_self, y0⟩
    | succ i => obtain ⟨p, h1, h2, h3⟩ := ih (by simpa using e); exact ⟨p, by simpa using h1, List.mem_cons_of_mem _ h2, h3⟩
section
variable {b : Bs} {C : Hp} {T Γ Γ' Γ1 Γ2 : List Sl} {τ σ : L2.St} {H H' : Hp} {s s' : Sl} {v : V} {d e : PyData} {ds ds' es args : List PyData} {vs : List V}
theorem HsC.stepM {i : Nat} {z : Option Addr} {p : Addr} (h : HsC b C T τ Γ σ H) (e : Γ[i]? = some (.ownq z ds)) (ep : σ[i]? = some (some (.ref p))) (r : RetM b.K H C p ds' s v H') : Hs b (s :: T) (some v :: τ) (Γ.set i (.ownq z ds')) σ H' := by
  obtain ⟨ps, qs, c, h1, h2⟩ := h
  obtain ⟨C', rs, vs', e1, e2, e3, fr, h3, ow, hp', dv'⟩ := r
  have nd := List.nodup_append.mp c.nd
  obtain ⟨p1, g1, g2, g3⟩ := h2.own_z e
  have ep1 : p1 = p := by
    rw [ep] at g1
    injection g1 with g1; injection g1 with g1; injection g1 with g1; exact g1.symm
  subst ep1
  have hsome : ∀ q ∈ ps ++ qs, ∃ xs, H q = some (.lst xs) := fun q hq => by
    rcases List.mem_append.mp hq with y | y
    · exact h1.own_some q y
    · exact h2.own_some q y
  have hCn : ∀ q ∈ ps ++ qs, C' q = none := fun q hq => by
    obtain ⟨xs, hx⟩ := hsome q hq
    exact fr q (by rw [hx]; intro y; cases y) (c.ow q hq).1
  have hpT : ∀ q ∈ ps, q ≠ p1 := fun q hq => nd.2.2 q hq p1 g2
  have hT : Has b.K C' H' (s :: T) (some v :: τ) (rs ++ ps) := by
    have h1' := h1.mono e1 (fun q hq o y => e3 q o (hpT q hq) y)
    cases h3 with
    | no y => cases y; exact .no h1'
    | dat q y => cases y; exact .dat q h1'
    | own y0 q q2 y => cases y; exact .own y0 q q2 h1'
  have h2' := h2.mono (C' := C') (H' := H) e1 (fun _ _ _ y => y)
  obtain ⟨p2, vs2, k1, k2, k3, k4, k5⟩ := h2'.own_at e nd.2.1
  have ep2 : p2 = p1 := by
    rw [ep] at k1
    injection k1 with k1; injection k1 with k1; injection k1 with k1; exact k1.symm
  subst ep2
  have h5 := (k5 vs' ds' dv').mono (C' := C') (H' := H') (Ex.refl C') (fun q hq o y => by
    by_cases hqp : q = p2
    · subst hqp; rw [upd_same] at y; cases y; exact hp'
    · rw [upd_ne hqp] at y; exact e3 q o hqp y)
  refine ⟨C', rs ++ ps, qs, ⟨c.bc.trans e1, e2, fun a o y => e3 a o (fun y2 => ?_) (c.h0 a o y), fun a y1 y2 => ?_, fun q hq => ?_, ?_⟩, hT, h5⟩
  · rw [y2, (c.ow p2 (List.mem_append_right _ g2)).2] at y; cases y
  · refine fr a (fun q => ?_) (c.fr a y1 y2)
    cases z1 : b.H0 a with
    | none => exact y1 z1
    | some o => rw [c.h0 a o z1] at q; cases q
  · rw [List.append_assoc] at hq
    rcases List.mem_append.mp hq with y | y
    · exact ⟨(ow q y).1, ex_none c.h0 (ow q y).2⟩
    · exact ⟨hCn q y, (c.ow q y).2⟩
  · rw [List.append_assoc]
    refine List.nodup_append.mpr ⟨?_, c.nd, fun q hq q' hq' eq => ?_⟩
    · cases h3 with
      | no y => cases y; exact List.nodup_nil
      | dat _ y => cases y; exact List.nodup_nil
      | own _ _ _ y => cases y; simp
    · subst eq
      obtain ⟨xs, hx⟩ := hsome q hq'
      rw [(ow q hq).2] at hx; cases hx
theorem s_callM {i : Nat} {z : Option Addr} {ta : TA} {f : List PyData → List PyData → List PyData → Sl → Prop} {E : XK} (h : Γ[i]? = some (.ownq z ds)) (ha : EvA b ta Γ Γ args) (hf : f ds args ds' s) :
    EvS b (tCall (spM b.K f) [] E (tCons (tVar i) ta)) Γ (Γ.set i (.ownq z ds')) s := fun T τ σ H hs Q q => by
  obtain ⟨C0, hs0⟩ := hs
  obtain ⟨p, vs0, g1, g2, g3, _⟩ := hs0.own_at h
  refine ⟨.ref p, g1, ha T τ σ H ⟨C0, hs0⟩ _ fun rest H1 C h1 dv => ?_⟩
  obtain ⟨p', vs1, f1, f2, f3, _⟩ := h1.own_at h
  rw [g1] at f1
  cases f1
  have hC : C p = none := by
    obtain ⟨ps, qs, c, k1, k2⟩ := h1
    obtain ⟨p1, m1, m2, _⟩ := k2.own_z h
    rw [g1] at m1
    cases m1
    exact (c.ow p (List.mem_append_right _ m2)).1
  rw [List.append_nil]
  exact ⟨C, p, vs1, rest, ds, args, ds', s, rfl, f2, hC, h1.ch, f3, dv, hf, fun v H' r => q v H' (h1.stepM h g1 r)⟩
theorem n_retM {te : TE} {D : Ends} {p : Addr} {i : Nat} (h : EvS b te Γ Γ1 s) (e : Γ1[i]? = some (.ownq (some p) ds')) (k : ∀ v H', RetB b p ds' s v H' → D.rt v H') : Nx b (tRet te D) T τ Γ := fun σ H hs => h T τ σ H hs _ fun v H' h' => by
  refine k v H' ?_
  obtain ⟨C, ps, qs, c, h1, h2⟩ := h'
  have nd := List.nodup_append.mp c.nd
  obtain ⟨p1, vs1, g1, g2, g3, g4, _⟩ := h2.own_at e nd.2.1
  obtain ⟨p2, k1, k2, k3⟩ := h2.own_z e
  have e2 := k3 p rfl
  subst e2
  rw [k1] at g1
  cases g1
  have main : ∀ {rs ps' : List Addr}, Has b.K C H' [s] [some v] rs → ps = rs ++ ps' → RetB b p ds' s v H' := by
    rintro rs ps' r rfl
    refine ⟨C, rs, vs1, c.bc, c.ch, c.h0, c.fr, (c.ow p (List.mem_append_right _ k2)).1, r, fun q hq => ⟨(c.ow q (List.mem_append_left _ (List.mem_append_left _ hq))).1, (c.ow q (List.mem_append_left _ (List.mem_append_left _ hq))).2, nd.2.2 q (List.mem_append_left _ hq) p k2⟩, g3, g4⟩
  cases h1 with
  | no h1 => exact main (.no .nil) rfl
  | dat q h1 => exact main (.dat q .nil) rfl
  | own y q q2 h1 => exact main (.own y q q2 .nil) rfl
end
def Γ0M (n : Nat) (p : Addr) (ds args : List PyData) : List Sl := .ownq (some p) ds :: (args.map Sl.dat ++ List.replicate (n - (args.length + 1)) Sl.no)
theorem fn_okM {P : Program} {w : World} {K : PySem.W.Frag} {mg : Str → Option Value} {base : Heap} {x qual : Str} {st : Stmt} {f : Addr} {fd : FuncData} {N ps : List Str} {k : Nat} {gr : List PyData → List PyData → List PyData → Sl → Prop} {tr : PySem.W.Frag → TS}
    (F : Fun K x qual st f fd) (S : FnScope N ps (defScope st)) (len : ∀ ds args ds' s, gr ds args ds' s → args.length + 1 = ps.length)
    (pst : ∀ (cdv : Value) (A : Around) (outer : List Env) (s : Shared) (H : Hp) (E : XK), Room k (A.deeper (envOfC qual (defScope st) s.heap.objs.size f cdv)) → PSs (cxOf CX0 P w K mg base N qual (defScope st) f cdv A outer s H E).nox (defBody st) (tr K))
    (rd : ∀ (b : Bs) (D : Ends) (p : Addr) ds args ds' s, gr ds args ds' s → (∀ v H', RetB b p ds' s v H' → D.rt v H') → Nx b (tr b.K D) [] [] (Γ0M N.length p ds args)) :
    FnOk P w K mg base CX0 (k + 1) f fd ps (spM K gr) := by
  refine F.ok S (fun vs H Q E h => ?_) (fun cdv A outer s H vs Q E hr h => ?_)
  · obtain ⟨C, p, vs0, rest, ds, args, ds', s, rfl, _, _, _, _, da, g, _⟩ := h
    rw [List.length_cons, dpa_len da]; exact len ds args ds' s g
  · obtain ⟨C, p, vs0, rest, ds, args, ds', sl, rfl, hp, hC, ex, dv, da, g, q⟩ := h
    refine ⟨_, pst cdv A outer s H E hr, ?_⟩
    let Hd : Hp := fun a => if a = p then none else H a
    have hd : Ex Hd H := fun a o y => by
      show H a = some o
      have y2 : (if a = p then none else H a) = some o := y
      by_cases hap : a = p
      · rw [if_pos hap] at y2; cases y2
      · rw [if_neg hap] at y2; exact y2
    have hdp : Hd p = none := if_pos rfl
    refine rd ⟨K, Hd, C⟩ _ p ds args ds' sl g (fun v H' r => q v H' ?_) _ _ ⟨C, [], [p], ⟨Ex.refl C, ex, hd, fun _ _ y => y, fun a ha => ?_, by simp⟩, .nil, ?_⟩
    · obtain ⟨C', rs, vs', a1, a2, a3, a4, a5, a6, a7, a8, a9⟩ := r
      refine ⟨C', rs, vs', a1, a2, fun a o hap y => a3 a o ?_, fun a y1 y2 => ?_, a6, fun c hc => ⟨(a7 c hc).1, ?_⟩, a8, a9⟩
      · show (if a = p then none else H a) = some o
        rw [if_neg hap]; exact y
      · by_cases hap : a = p
        · rw [hap]; exact a5
        · exact a4 a (by show (if a = p then none else H a) ≠ none; rw [if_neg hap]; exact y1) y2
      · have h0 : (if c = p then none else H c) = none := (a7 c hc).2.1
        rw [if_neg (a7 c hc).2.2] at h0; exact h0
    · rcases List.mem_singleton.mp ha with rfl
      exact ⟨hC, hdp⟩
    · have := has_dats (K := K) (C := C) (H := H) (has_no (N.length - (args.length + 1))) da
      unfold L2.start Γ0M
      rw [List.length_cons, dpa_len da]
      exact .own (fun r y => (Option.some.inj y).symm ▸ rfl) hp dv this
end G
namespace G
open PySem PySem.Spec PyProof.Rows L2
open Evl (Ex ex_rd ex_l ex_t rMax2)
/-! ### a set made of a list of ints -/
section
variable {P : Program} {w : World} {A : Around} {E : Value → Shared → Prop} {s : Shared}
abbrev nakedSet (w : World) : Obj := { cls := .type "set", dict := none, data := .set #[] 0 (.fresh 0 0 (!w.params.followText "set-order")) }
theorem g_set_list {l : Addr} {items : Array Value} (ns : List Int) {Q : Value → Shared → Prop} (calm : A.handled = none) (isl : s.heap.IsList l items) (allI : IntsAre items.toList ns) (room : ns.length + 1 < scanBound)
    (go : ∀ (g : Heap) (k c : Nat), SetR w g s.heap.objs.size (fun j => decide (j ∈ ns)) c → c ≤ ns.length → (∀ b o, s.heap.get? b = some o → g.get? b = some o) → Q (.ref s.heap.objs.size) { s with heap := g, toks := k }) :
    wpAny (model P w) A (call (.type "set") [.ref l]) Q E s := by
  have size : items.size = ns.length := by
    have z := IntsAre.length allI
    rwa [Array.length_toList] at z
  obtain ⟨c, tl, mro⟩ := F.called_set.mro
  have made := F.called_set.made
  have sub := F.called_set.sub
  refine wpAny_call (codeAny_of_tree ?_)
  show wpAny _ _ (callAny (.type "set") _) _ _ _
  refine wpAny_pure ⟨Code.quiet_builtin _ (by decide +kernel), codeAny_builtin F.entry_type_call ?_⟩
  rw [Around.under_plain (weight_type_call_type "set" [.ref l] []) rfl]
  have n1 := F.called_set.notType
  have n2 := F.called_set.canCreate
  have n3 := F.typeCall_set_1 (.ref l)
  repeat (any_goals (first | assumption | wp_step))
  refine codeAny_mono (code_set_led1 (.ref l) (E := E) (Q₁ := fun obj s₁ => obj = .ref s.heap.objs.size ∧ s₁ = { s with heap := s.heap.push (nakedSet w) }) ⟨rfl, rfl⟩) fun r s₁ hr => ?_
  cases r with
  | error e => exact hr
  | ok fl =>
    cases fl with
    | ret obj =>
      obtain ⟨rfl, rfl⟩ := hr
      have at0 : (s.heap.push (nakedSet w)).get? s.heap.objs.size = some (nakedSet w) := Heap.get?_push_size _ rfl
      have ty0 : Shared.TypeIs { s with heap := s.heap.push (nakedSet w) } (.ref s.heap.objs.size) "set" := ⟨_, at0, rfl⟩
      have i1 := F.called_set.init.lookup
      have i2 := F.called_set.init.bind (.ref s.heap.objs.size)
      repeat (any_goals (first | assumption | wp_step))
      refine codeAny_mono (codeAny_call_builtin (R := wants (fun r s₂ => r = .none ∧ ∃ g k c, s₂ = { s with heap := g, toks := k } ∧ SetR w g s.heap.objs.size (fun j => decide (j ∈ ns)) c ∧ c ≤ ns.length ∧
          (∀ b o, s.heap.get? b = some o → g.get? b = some o)) E) F.called_set.init.plain F.entry_set_init (check_set_init_1 ty0 ?_)) fun r₂ s₂ hr₂ => ?_
      · obtain ⟨ol, gl, cl, nl, dl⟩ := isl
        obtain ⟨ocls, odict, odata, oslots⟩ := ol
        simp only at cl dl
        subst cl; subst dl
        have gl1 : (s.heap.push (nakedSet w)).get? l = some { cls := .type "list", dict := odict, data := .seq items nl, slots := oslots } := Heap.get?_push_of_some _ gl
        have u1 := F.sub_list_set
        have u2 := F.sub_list_frozenset
        have u3 : (Value.type "list" == Value.type "dict") = false := by decide
        have list1 : (s.heap.push (nakedSet w)).IsList l items := ⟨_, gl1, rfl, nl, rfl⟩
        unfold Builtin.«set.__init__» noKeywords Builtin.Frozenset.updateFrom
        generalize hPI : pyIter = PI
        wp_walk
        subst hPI
        refine wpAny_pyIter_list list1 ?_
        refine wpAny_bind (wpAny_runValue ?_)
        have ltl : l < s.heap.objs.size := Heap.lt_size gl
        have calm3 : A.in1.in1.in1.handled = none := by simp [calm]
        have apart : l ≠ (s.heap.push (nakedSet w)).objs.size := by
          rw [Heap.size_push]; exact Nat.ne_of_lt (Nat.lt_succ_of_lt ltl)
        have outside : s.heap.objs.size ∉ [(s.heap.push (nakedSet w)).objs.size, l] := by
          rw [Heap.size_push]; simp only [List.mem_cons, List.mem_singleton, List.not_mem_nil, or_false, not_or]
          exact ⟨Nat.ne_of_lt (Nat.lt_succ_self _), Nat.ne_of_gt ltl⟩
        have each : ∀ (i : Nat) (v : Value), items[i]? = some v → ∃ k t, ns[i]? = some k ∧ v = .int k t := fun i v hv => by
          have lt : i < ns.length := by rw [← size]; exact (Array.getElem?_eq_some_iff.mp hv).1
          obtain ⟨t, e⟩ := PyProof.Rows.IntsAre.int_at allI i v (by rw [Array.getElem?_toList]; exact hv)
          refine ⟨ns[i], t, List.getElem?_eq_getElem lt, ?_⟩
          rw [e, List.getD_eq_getElem?_getD, List.getElem?_eq_getElem lt] <;> rfl
        refine set_update_ints ((Walks.list calm3 _ l apart items).toS) s.heap.objs.size
          outside ns size room each (items.size - 0) 0 _ (by omega) (Nat.zero_le _)
          ⟨⟨_, Heap.get?_push_size _ rfl, rfl, rfl⟩, (list1.push _)⟩ ?first ?fin
        case first =>
          have g1 : ((s.heap.push (nakedSet w)).push { cls := .type "list_iterator", data := .fields #[.ref l, .int 0 0] }).get? s.heap.objs.size = some (nakedSet w) := Heap.get?_push_of_some _ at0
          exact ⟨0, Nat.le_refl 0, setR_new_at g1⟩
        case fin =>
          intro s' c' moved le' set'
          obtain ⟨g, g2, d2, k2, o2⟩ := s'
          obtain rfl : g2 = s.gens := moved.gens
          obtain rfl : d2 = s.drawn := moved.drawn
          obtain rfl : o2 = s.os := moved.os
          show wpAny _ _ _ _ _ _
          refine wpAny_pure ?_
          show wpAny _ _ (ret Value.none) _ _ _
          rw [size] at le'
          refine wpAny_pure ⟨rfl, g, k2, c', rfl, set', le', fun b o e => ?_⟩
          have b0 : b < s.heap.objs.size := Heap.lt_size e
          have b2 : b ≠ (s.heap.push (nakedSet w)).objs.size := by
            rw [Heap.size_push]; exact Nat.ne_of_lt (Nat.lt_succ_of_lt b0)
          exact moved.heap b o (by simp only [List.mem_cons, List.mem_singleton, List.not_mem_nil, or_false, not_or]; exact ⟨Nat.ne_of_lt b0, b2⟩) (Heap.get?_push_of_some _ (Heap.get?_push_of_some _ e))
      · cases r₂ with
        | error e => exact hr₂
        | ok fl₂ =>
          cases fl₂ with
          | ret r =>
            obtain ⟨rfl, g, k, c', rfl, set', le', old'⟩ := hr₂
            repeat (any_goals (first | assumption | wp_step))
            exact go _ _ _ set' le' old'
          | _ => exact hr₂.elim
    | _ => exact hr.elim
end
end G
namespace G
open PySem PySem.Spec PyProof.Rows L2
open Evl (Ex ex_rd ex_l ex_t rMax2)
/-! ### sorted(set(xs)) -/
def rSetLi (w : World) (K : PySem.W.Frag) : List V → Hp → VK → Prop := fun vs H Q => ∃ (a : Addr) (ns : List Int), vs = [V.ref a] ∧ SqL K H a (ns.map V.int) ∧ ns.length + 1 < scanBound ∧ ∀ (p : Addr) (n : Nat), n ≤ ns.length → H p = none → Q (.ref p) (upd H p (SetO w p (fun j => decide (j ∈ ns)) n))
def tSoSet (K : PySem.W.Frag) (t : TA) : TE := fun σ H Q => ∀ w : World, tCB (rSortedSet w) (tCons (tCB (rSetLi w K) t) tNil) σ H Q
section
variable {X : Cx}
theorem cr_setLi (hc : X.calm = true) : CallR X (.type "set") (rSetLi X.w X.K) := by
  intro pins s σ H vs us Q I r h
  obtain ⟨a, ns, rfl, hs, room, q⟩ := h
  obtain ⟨its, rv, hl, _⟩ := I.list hs
  rw [Vals.ref1 r]
  refine g_set_list ns (I.ok.hd hc) hl.isList rv.ints room fun g k c st le old => ?_
  have hp := I.hok.fresh (Nat.le_refl _)
  exact ⟨.ref _, upd H s.heap.objs.size (SetO X.w s.heap.objs.size (fun j => decide (j ∈ ns)) c), I.laid (t' := k) old (Nat.le_refl _) (setO_new st), rfl, q _ c le hp⟩
theorem pe_soSet {p p2 pos pos2 : Pos} {e : Expr} {t : TA} (hc : X.calm = true) (g1 : Gl X "sorted") (m1 : X.mg "sorted" = none) (g2 : Gl X "set") (m2 : X.mg "set" = none) (ha : PA X [e] t)
    (h1 : starEach [e] X.env = (false, eval e X.env) :: starEach [] X.env := by rfl) (h2 : starEach [Expr.Call (.Name "set" p2) [e] [] pos2] X.env = (false, eval (Expr.Call (.Name "set" p2) [e] [] pos2) X.env) :: starEach [] X.env := by rfl)
    (h3 : (backTo pos2 (starEach [] X.env)).any (·.1) = false := by rfl) (h4 : (backTo pos (starEach [] X.env)).any (·.1) = false := by rfl) :
    PE X (.Call (.Name "sorted" p) [.Call (.Name "set" p2) [e] [] pos2] [] pos) (tSoSet X.K t) := by
  have A := pe_callTy (p := p2) (cr_setLi hc) g2 m2 (by decide +kernel) ha (he := h1) (hpl := h3)
  have B := pe_callB (p := p) (cr_sortedSet hc) g1 m1 (by decide +kernel) (pa_cons A pa_nil h2) (he := h2) (hpl := h4)
  exact ⟨fun pins s σ H Q I h => B.run pins s σ H Q I (h X.w)⟩
end
theorem Dp.ints_back {K : PySem.W.Frag} {C : Hp} : ∀ {vs : List V} {ns : List Int}, DpAll K C vs (ns.map .int) → vs = ns.map V.int
  | [], [], .nil => rfl
  | v :: vs, n :: ns, .cons r t => by
    cases r
    rw [Dp.ints_back t]; rfl
/-- the ascending list of different numbers is one -/
theorem asc_uniq : ∀ {xs ys : List Int}, xs.Pairwise (· < ·) → ys.Pairwise (· < ·) → (∀ k, k ∈ xs ↔ k ∈ ys) → xs = ys
  | [], [], _, _, _ => rfl
  | [], y :: ys, _, _, h => absurd ((h y).mpr List.mem_cons_self) (by simp)
  | x :: xs, [], _, _, h => absurd ((h x).mp List.mem_cons_self) (by simp)
  | x :: xs, y :: ys, hx, hy, h => by
    have ax := List.pairwise_cons.mp hx
    have ay := List.pairwise_cons.mp hy
    have e : x = y := by
      rcases List.mem_cons.mp ((h x).mp List.mem_cons_self) with e | m
      · exact e
      · rcases List.mem_cons.mp ((h y).mpr List.mem_cons_self) with e | m'
        · exact e.symm
        · have p1 := ay.1 x m
          have p2 := ax.1 y m'
          omega
    subst e
    rw [asc_uniq ax.2 ay.2 fun k => ?_]
    constructor
    · intro m
      rcases List.mem_cons.mp ((h k).mp (List.mem_cons_of_mem _ m)) with e | m'
      · subst e; exact absurd (ax.1 k m) (by omega)
      · exact m'
    · intro m
      rcases List.mem_cons.mp ((h k).mpr (List.mem_cons_of_mem _ m)) with e | m'
      · subst e; exact absurd (ay.1 k m) (by omega)
      · exact m'
theorem s_soSet {b : Bs} {Γ Γ1 : List Sl} {t : TA} {ns ms : List Int} (h : EvA b t Γ Γ1 [li ns]) (hz : ns.length < 64) (hm : ms.Pairwise (· < ·)) (he : ∀ k, k ∈ ms ↔ k ∈ ns) : EvS b (tSoSet b.K t) Γ Γ1 (.own (ms.map .int)) := fun T τ σ H hs Q q w =>
  h T τ σ H hs _ fun vs H1 C hc dv => by
    obtain ⟨v, rfl, dx⟩ := dpa1 dv
    cases dx with
    | lst hq ha =>
      have e := Dp.ints_back ha
      subst e
      refine ⟨_, ns, rfl, ex_l hc.ch hq, by simp only [scanBound]; omega, fun p n le hp => ?_⟩
      show rSortedSet w [V.ref p] _ Q
      refine ⟨p, _, n, rfl, upd_same, by omega, fun ks q2 h1 h2 _ h3 => ?_⟩
      have e2 : ks = ms := asc_uniq h1 hm fun k => by rw [h2 k, he k]; simp
      subst e2
      have hq1 : H1 q2 = none := by
        by_cases z : q2 = p
        · rw [z]; exact hp
        · rwa [upd_ne z] at h3
      have dpa : ∀ C', DpAll b.K C' (ks.map V.int) (ks.map PyData.int) := fun C' => dpa_ints
      have x12 := (Ex.new (o := SetO w p (fun j => decide (j ∈ ns)) n) hp).trans (Ex.new (o := .lst (ks.map V.int)) h3)
      have r : Ret b.K H1 C (.own (ks.map .int)) (.ref q2) _ := ⟨C, [q2], Ex.refl C, hc.ch.trans x12, x12, fun _ _ z => z, .own (fun _ q => nomatch q) upd_same (dpa C) .nil, fun q' hq' => by
        rcases List.mem_singleton.mp hq' with rfl
        exact ⟨ex_none hc.ch hq1, hq1⟩⟩
      exact q _ _ (hc.step r)
/-! ### list + list -/
def rCatS (K : PySem.W.Frag) : R2 := fun x y H Q => ∃ l b xs zs, x = .ref l ∧ y = .ref b ∧ SqL K H l xs ∧ SqL K H b zs ∧ xs.length + zs.length ≤ 100000 ∧ ∀ p, H p = none → Q (.ref p) (upd H p (.lst (xs ++ zs)))
theorem op_catS {X : Cx} : OpR X (binaryOp .Add) (rCatS X.K) := by
  intro pins s σ H x y v u Q I rx ry h
  obtain ⟨l, b, xs, zs, rfl, rfl, h1, h2, hz, q⟩ := h
  obtain ⟨its, r1, p1, _⟩ := I.list h1
  obtain ⟨its2, r2, p2, _⟩ := I.list h2
  have l1 := r1.length
  have l2 := r2.length
  have z0 : (100000 : Nat) ≤ sizeLine := by rw [sizeLine_eq]; decide
  cases rx
  cases ry
  obtain ⟨⟨cls, dd, data, sl⟩, ho, hc, n, hd⟩ := p1.isList
  obtain ⟨⟨cls2, dd2, data2, sl2⟩, ho2, hc2, n2, hd2⟩ := p2.isList
  simp only at hc hd hc2 hd2
  subst hc hd hc2 hd2
  have e : its.toArray ++ its2.toArray = (its ++ its2).toArray := by simp
  refine concat_meets ⟨_, ho, rfl⟩ ⟨_, ho2, rfl⟩ noFill_list_add seq_list_add PySem.F.slot_list_add PySem.F.entry_list_add (PySem.F.args_list_add_2 _ _) (list_addW l b its.toArray its2.toArray n n2 dd dd2 sl sl2 (by rw [List.size_toArray, List.size_toArray]; omega)) ⟨ho, ho2, ?_⟩
  rw [e]
  exact ⟨.ref _, _, I.lnew (t' := s.toks) (r1.append r2) (by rw [List.length_append]; omega), rfl, q _ I.fresh⟩
theorem rd_catS {K : PySem.W.Frag} {ds es : List PyData} (hz : ds.length + es.length ≤ 100000) : RD K (rCatS K) (.list ds) (.list es) (.own (ds ++ es)) := fun C H x y ex dx dy Q q => by
  cases dx with
  | lst hq ha =>
    cases dy with
    | lst hq2 ha2 =>
      have l1 := dpa_len ha
      have l2 := dpa_len ha2
      exact ⟨_, _, _, _, rfl, rfl, ex_l ex hq, ex_l ex hq2, by omega, fun p hp => q _ _ (.lst ex (dpa_app ha ha2) hp)⟩
theorem s_repO {b : Bs} {Γ Γ1 Γ2 : List Sl} {ta tb : TE} {z : Option Addr} {ds : List PyData} {k : Int} (ha : EvS b ta Γ Γ1 (.ownq z ds)) (hb : EvS b tb Γ1 Γ2 (.dat (.int k))) (h0 : 0 ≤ k) (h1 : k ≤ 1000) (hl : ds.length ≤ 10) : EvS b (tOp rRep ta tb) Γ Γ2 (.own (List.replicate k.toNat ds).flatten) := fun T τ σ H hs Q q =>
  ha T τ σ H hs _ fun x H1 h1' => hb _ _ σ H1 h1' _ fun y H2 h2' => by
    obtain ⟨C, dy, h3⟩ := h2'.pop
    cases dy
    obtain ⟨p, us, f1, f2, f3, f4⟩ := h3.own_top
    cases f1
    have l1 := dpa_len f3
    have z0 : (100000 : Nat) ≤ sizeLine := by rw [sizeLine_eq]; decide
    have hk : k.toNat ≤ 1000 := by omega
    have hm : us.length * k.toNat ≤ 10 * 1000 := Nat.mul_le_mul (by omega) hk
    refine ⟨_, _, _, rfl, rfl, f2, by omega, by omega, by omega, fun p' hp => ?_⟩
    refine q _ _ ((HsC.drop h3).step (.lst h3.ch ?_ hp))
    generalize k.toNat = n
    induction n with
    | zero => exact .nil
    | succ n ih =>
      rw [List.replicate_succ, List.replicate_succ, List.flatten_cons, List.flatten_cons]
      exact dpa_app f3 ih
end G
namespace G
open PySem PySem.Spec PyProof.Rows L2
open Evl (Ex ex_rd ex_l ex_t rMax2)
/-! ### a comprehension over an own list -/
theorem s_lcO {b : Bs} {Γ : List Sl} {kk : Nat} {z0 : Option Addr} {g : TG} {tt : TT} {te : TE} {vs : List Nat} {its : List PyData} (hk0 : Γ[kk]? = some (.ownq z0 its)) (hkv : kk ∉ vs) (G G' G'' : Nat → List Sl) (c : Nat → Bool) (e : Nat → PyData) (h0 : G 0 = wipeG Γ vs) (hG : ∀ i, i ≤ its.length → (G i)[kk]? = some (.ownq z0 its))
    (hg : ∀ i di, its[i]? = some di → EvGv b g di vs (G i) (G' i)) (ht : ∀ i di, its[i]? = some di → EvT b tt (G' i) (G' i) (c i)) (he : ∀ i di, its[i]? = some di → c i = true → EvS b te (G' i) (G'' i) (.dat (e i)))
    (hs : ∀ i, i < its.length → wipeG (if c i then G'' i else G' i) vs = wipeG (G (i + 1)) vs ∧ wipeG (G (i + 1)) vs = G (i + 1)) (hz : its.length ≤ 100000) :
    EvS b (tLc (iList b.K (tVar kk)) g tt te vs) Γ (G its.length) (.own (((List.range its.length).filter c).map e)) := fun T τ σ H hs0 Q q => by
  obtain ⟨C, h1⟩ := hs0
  obtain ⟨p, xs0, ep, hp0, hl0, _⟩ := h1.own_at hk0
  refine ⟨.ref p, ep, p, rfl, ⟨xs0, .inl (.inl hp0)⟩, ?_⟩
  intro D hD
  let acc : Nat → List PyData := fun i => ((List.range i).filter c).map e
  have hw : wipeG (G 0) vs = G 0 := by
    rw [h0]
    have aux : ∀ (Γ : List Sl) (us : List Nat) (k : Nat), k ∈ us → (wipeG Γ us).set k .no = wipeG Γ us := fun Γ us k hk => by
      refine List.ext_getElem? fun j => ?_
      rw [List.getElem?_set]
      by_cases ej : k = j
      · subst ej
        rw [if_pos rfl]
        rcases wipeG_get Γ us k hk with z | z
        · have := (List.getElem?_eq_some_iff.mp z).1
          rw [if_pos this, z]
        · have := List.getElem?_eq_none_iff.mp z
          rw [if_neg (by omega), z]
      · rw [if_neg ej]
    have aux2 : ∀ (ws us : List Nat) (Γ : List Sl), (∀ k ∈ ws, k ∈ us) → wipeG (wipeG Γ us) ws = wipeG Γ us := by
      intro ws
      induction ws with
      | nil => intro us Γ _; rfl
      | cons w ws ih =>
        intro us Γ hk
        show (wipeG (wipeG Γ us) ws).set w .no = _
        rw [ih us Γ fun k z => hk k (List.mem_cons_of_mem _ z)]
        exact aux Γ us w (hk w List.mem_cons_self)
    exact aux2 vs vs Γ fun _ z => z
  have hwi : ∀ i, i ≤ its.length → wipeG (G i) vs = G i := fun i hi => by
    cases i with
    | zero => exact hw
    | succ i => exact (hs i (by omega)).2
  have start : Hs b (.own [] :: T) (some (.ref D) :: τ) (G 0) (wipe σ vs) (upd H D (.lst [])) := by
    rw [h0]
    exact hs_wipe (h1.step (Ret.lst h1.ch .nil hD)) vs
  have hwk : (wipe σ vs)[kk]? = some (some (.ref p)) := by rw [wipe_get, if_neg hkv]; exact ep
  refine ⟨fun i m H' => i ≤ its.length ∧ m = its.length - i ∧ Hs b (.own (acc i) :: T) (some (.ref D) :: τ) (G i) (wipe σ vs) H', ⟨_, Nat.zero_le _, rfl, start⟩, ?_⟩
  rintro i m H' ⟨hi, rfl, C', h3⟩
  obtain ⟨p', xs, e', hp', ha', _⟩ := h3.own_at (hG i hi)
  rw [hwk] at e'
  cases e'
  have hlx := dpa_len ha'
  by_cases hlt : i < its.length
  · have hdi : its[i]? = some its[i] := by simp [hlt]
    obtain ⟨yy, y1, y2⟩ := dpa_get ha' hdi
    have g2 : ∀ x H2, (Itl b.K p).yld i H' x H2 → Ret b.K H' C' (.dat its[i]) x H2 := fun x H2 z => by
      obtain ⟨rfl, z⟩ := z
      have := (z _ (.inl (.inl hp'))).symm.trans y1
      cases this
      exact .same h3.ch y2
    refine .inr ⟨⟨_, yy, .inl (.inl hp'), y1⟩, fun H2 => Hs b (.own (acc (i + 1)) :: T) (some (.ref D) :: τ) (G (i + 1)) (wipe σ vs) H2, fun H2 n => ⟨its.length - (i + 1), by omega, hlt, rfl, n⟩, fun x H2 y => ?_⟩
    refine hg i its[i] hdi _ _ _ _ _ (h3.step (g2 x H2 y)) _ fun σ2 h5 hw2 => ⟨by rw [hw2, wipe_wipe], ?_⟩
    refine ht i its[i] hdi _ _ σ2 H2 h5 _ fun H3 h6 => ?_
    have hsi := hs i hlt
    cases hc : c i with
    | true =>
      rw [hc] at hsi
      refine iteT (he i its[i] hdi hc _ _ σ2 H3 h6 _ fun y H4 h7 => ?_)
      obtain ⟨C4, dy, h8⟩ := h7.pop
      obtain ⟨p, us, f1, f2, f3, f4⟩ := h8.own_top
      cases f1
      refine ⟨us, f2, ?_, ?_⟩
      · rw [dpa_len f3]
        refine Nat.lt_of_le_of_lt (?_ : _ ≤ 100000) (by decide)
        show (((List.range i).filter c).map e).length ≤ 100000
        rw [List.length_map]
        have := List.length_filter_le c (List.range i)
        rw [List.length_range] at this
        omega
      · have ea : acc (i + 1) = acc i ++ [e i] := by
          show ((List.range (i + 1)).filter c).map e = ((List.range i).filter c).map e ++ [e i]
          rw [List.range_succ, List.filter_append, List.map_append, List.filter_cons, if_pos hc]; rfl
        rw [ea]
        have h10 := hs_wipe ⟨C4, f4 _ _ (dpa_app f3 (.cons dy .nil))⟩ vs
        rw [hw2, wipe_wipe] at h10
        have e2 : wipeG (G'' i) vs = G (i + 1) := by simpa using hsi.1.trans hsi.2
        rw [e2] at h10
        exact h10
    | false =>
      rw [hc] at hsi
      refine iteF ?_
      have ea : acc (i + 1) = acc i := by
        show ((List.range (i + 1)).filter c).map e = ((List.range i).filter c).map e
        rw [List.range_succ, List.filter_append, List.map_append, List.filter_cons, if_neg (by rw [hc]; decide)]; simp
      have h10 := hs_wipe h6 vs
      rw [hw2, wipe_wipe] at h10
      have e2 : wipeG (G' i) vs = G (i + 1) := by simpa using hsi.1.trans hsi.2
      rw [e2] at h10
      show Hs b (.own (acc (i + 1)) :: T) _ (G (i + 1)) (wipe σ vs) H3
      rw [ea]
      exact h10
  · have e1 : i = its.length := by omega
    subst e1
    refine .inl ⟨⟨_, .inl (.inl hp'), by omega⟩, q _ _ ?_⟩
    have := hs_unwipe (Γ := G its.length) (σ := σ) (vs := vs) (T := .own (acc its.length) :: T) (τ := some (.ref D) :: τ) (b := b) (H := H') ⟨C', by rw [hwi _ (Nat.le_refl _)]; exact h3⟩
    rw [hwi _ (Nat.le_refl _)] at this
    exact this
theorem s_filtO {b : Bs} {Γ : List Sl} {α : Type} {kk : Nat} {z0 : Option Addr} {g : TG} {tt : TT} {te : TE} {vs : List Nat} {ks : List α} {φ : α → PyData} (hk0 : Γ[kk]? = some (.ownq z0 (ks.map φ))) (hkv : kk ∉ vs) (hkw : (wipeG Γ vs)[kk]? = some (.ownq z0 (ks.map φ))) (G' : α → List Sl) (c : α → Bool) (f : α → PyData)
    (hg : ∀ k ∈ ks, EvGv b g (φ k) vs (wipeG Γ vs) (G' k)) (ht : ∀ k ∈ ks, EvT b tt (G' k) (G' k) (c k)) (he : ∀ k ∈ ks, c k = true → EvS b te (G' k) (G' k) (.dat (f k))) (hs : ∀ k ∈ ks, wipeG (G' k) vs = wipeG (wipeG Γ vs) vs) (hw : wipeG (wipeG Γ vs) vs = wipeG Γ vs) (hz : ks.length ≤ 100000) :
    EvS b (tLc (iList b.K (tVar kk)) g tt te vs) Γ (wipeG Γ vs) (.own ((ks.filter c).map f)) := by
  cases ks with
  | nil =>
    have := s_lcO (b := b) (tt := tt) (te := te) (g := g) (vs := vs) hk0 hkv (fun _ => wipeG Γ vs) (fun _ => []) (fun _ => []) (fun _ => true) (fun _ => .none) rfl (fun _ _ => hkw) (fun i di e => by simp at e) (fun i di e => by simp at e) (fun i di e => by simp at e) (fun i hi => by simp at hi) (by simp)
    simpa using this
  | cons k0 kr =>
    have hget : ∀ i di, ((k0 :: kr).map φ)[i]? = some di → ∃ k, (k0 :: kr)[i]? = some k ∧ φ k = di := fun i di e => by
      rw [List.getElem?_map] at e
      obtain ⟨k, hk, r⟩ := Option.map_eq_some_iff.mp e
      exact ⟨k, hk, r⟩
    have hD : ∀ i k, (k0 :: kr)[i]? = some k → (k0 :: kr).getD i k0 = k := fun i k e => by rw [List.getD_eq_getElem?_getD, e]; rfl
    have := s_lcO (b := b) (tt := tt) (te := te) (g := g) (vs := vs) hk0 hkv (fun _ => wipeG Γ vs) (fun i => G' ((k0 :: kr).getD i k0)) (fun i => G' ((k0 :: kr).getD i k0)) (fun i => c ((k0 :: kr).getD i k0)) (fun i => f ((k0 :: kr).getD i k0)) rfl (fun _ _ => hkw)
      (fun i di e => by obtain ⟨k, hk, rfl⟩ := hget i di e; rw [hD i k hk]; exact hg k (List.mem_of_getElem? hk))
      (fun i di e => by obtain ⟨k, hk, rfl⟩ := hget i di e; rw [hD i k hk]; exact ht k (List.mem_of_getElem? hk))
      (fun i di e hc => by obtain ⟨k, hk, rfl⟩ := hget i di e; rw [hD i k hk] at hc ⊢; exact he k (List.mem_of_getElem? hk) hc)
      (fun i hi => by
        have hi' : i < (k0 :: kr).length := by simpa using hi
        have hk : (k0 :: kr)[i]? = some (k0 :: kr)[i] := by simp [hi']
        refine ⟨?_, hw⟩
        rw [hD i _ hk]
        simp only [ite_self]
        exact hs _ (List.getElem_mem hi')) (by simpa using hz)
    refine s_is this ?_
    congr 1
    rw [List.length_map]
    exact filt_getD (k0 :: kr) k0 c f
end G
namespace M
open PySem PySem.Spec PyProof.Rows L2
open Evl (Ex ex_rd ex_l ex_t rMax2)
open G (dpx dpax dpa_len dpa_get dpa_app dpa_set ex_none wipe_get wipe_eq wipe_wipe)
/-! ### values of the model -/
inductive MV where
  | d (p : PyData)
  | ref (n : Nat)
  | tup (xs : List MV)
inductive Ob where
  | lst (xs : List MV)
  | dct (kvs : List (Key × MV))
  | dctT (kvs : List (List Key × MV))
  /-- the table of the code objects of a def's lambdas, all of the name q -/
  | tab (a : Addr) (q : Str)
  /-- a dict of which only the values are told, in their order -/
  | dv (xs : List MV)
def dvP (a : Addr) (vs : List V) : Heap → Prop := fun h => (a == sysModules) = false ∧ vs.length ≤ sizeLine ∧ ∃ o es ep, h.get? a = some o ∧ o.ExactDict ∧ o.data = .dict es ep ∧ Vals vs (es.toList.map (·.val))
abbrev MH := List Ob
abbrev Env := List (Option MV)
structure Wd where
  ι : List Addr
  C : Hp
  H : Hp
mutual
inductive Rep (K : PySem.W.Frag) (ι : List Addr) (C : Hp) : V → MV → Prop
  | d {v : V} {p : PyData} : Dp K C v p → Rep K ι C v (.d p)
  | ref {n : Nat} {a : Addr} : ι[n]? = some a → Rep K ι C (.ref a) (.ref n)
  | tup {a : Addr} {vs : List V} {xs : List MV} : C a = some (.tup vs) → RepA K ι C vs xs → Rep K ι C (.ref a) (.tup xs)
inductive RepA (K : PySem.W.Frag) (ι : List Addr) (C : Hp) : List V → List MV → Prop
  | nil : RepA K ι C [] []
  | cons {v : V} {x : MV} {vs : List V} {xs : List MV} : Rep K ι C v x → RepA K ι C vs xs → RepA K ι C (v :: vs) (x :: xs)
end
inductive ObRep (K : PySem.W.Frag) (ι : List Addr) (C : Hp) : Addr → HO → Ob → Prop
  | lst {a : Addr} {vs : List V} {xs : List MV} : RepA K ι C vs xs → ObRep K ι C a (.lst vs) (.lst xs)
  | dct {a : Addr} {kvs : List (Key × V)} {kws : List (Key × MV)} : kvs.map (·.1) = kws.map (·.1) → RepA K ι C (kvs.map (·.2)) (kws.map (·.2)) → ObRep K ι C a (.dK kvs) (.dct kws)
  | dctT {a : Addr} {kvs : List (List Key × V)} {kws : List (List Key × MV)} : kvs.map (·.1) = kws.map (·.1) → RepA K ι C (kvs.map (·.2)) (kws.map (·.2)) → ObRep K ι C a (.dT kvs) (.dctT kws)
  | tab {a : Addr} {ps : Array Value} {q : Str} : TriplesOk ps.toList → (∀ (pos : Pos) (cv : Value), codeAmong pos ps.toList = some cv → ∃ c, cv = .ref c ∧ C c = some (LamX.CodeO c q)) → ObRep K ι C a (.tbl ps) (.tab a q)
  | dv {a : Addr} {vs : List V} {xs : List MV} : RepA K ι C vs xs → ObRep K ι C a (.ext (dvP a vs)) (.dv xs)
section
variable {K : PySem.W.Frag} {ι ι' : List Addr} {C C' : Hp}
theorem pre_get {n : Nat} {a : Addr} (p : ι <+: ι') (h : ι[n]? = some a) : ι'[n]? = some a := by
  obtain ⟨t, rfl⟩ := p
  rw [List.getElem?_append_left]
  · exact h
  · exact (List.getElem?_eq_some_iff.mp h).1
mutual
theorem Rep.mono (p : ι <+: ι') (e : Ex C C') : ∀ {v : V} {x : MV}, Rep K ι C v x → Rep K ι' C' v x
  | _, _, .d h => .d (dpx e h)
  | _, _, .ref h => .ref (pre_get p h)
  | _, _, .tup h a => .tup (e _ _ h) (RepA.mono p e a)
theorem RepA.mono (p : ι <+: ι') (e : Ex C C') : ∀ {vs : List V} {xs : List MV}, RepA K ι C vs xs → RepA K ι' C' vs xs
  | _, _, .nil => .nil
  | _, _, .cons h t => .cons (Rep.mono p e h) (RepA.mono p e t)
end
theorem ObRep.mono (p : ι <+: ι') (e : Ex C C') {a : Addr} {o : HO} {b : Ob} (h : ObRep K ι C a o b) : ObRep K ι' C' a o b := by
  cases h with
  | lst h => exact .lst (h.mono p e)
  | dct h1 h => exact .dct h1 (h.mono p e)
  | dctT h1 h => exact .dctT h1 (h.mono p e)
  | dv h => exact .dv (h.mono p e)
  | tab h1 h =>
    refine .tab h1 fun pos cv z => ?_
    obtain ⟨c, e1, e2⟩ := h pos cv z
    exact ⟨c, e1, e _ _ e2⟩
theorem RepA.len : ∀ {vs : List V} {xs : List MV}, RepA K ι C vs xs → vs.length = xs.length
  | _, _, .nil => rfl
  | _, _, .cons _ t => congrArg (· + 1) (RepA.len t)
theorem RepA.get : ∀ {vs : List V} {xs : List MV} {i : Nat} {x : MV}, RepA K ι C vs xs → xs[i]? = some x → ∃ v, vs[i]? = some v ∧ Rep K ι C v x
  | _, _, _, _, .nil, e => by simp at e
  | _, _, 0, _, .cons r _, e => by simp at e; subst e; exact ⟨_, rfl, r⟩
  | _, _, i + 1, x, .cons _ t, e => by
    obtain ⟨u, h1, h2⟩ := RepA.get (i := i) (x := x) t (by simpa using e)
    exact ⟨u, by simpa using h1, h2⟩
theorem RepA.app : ∀ {vs ws : List V} {xs ys : List MV}, RepA K ι C vs xs → RepA K ι C ws ys → RepA K ι C (vs ++ ws) (xs ++ ys)
  | _, _, _, _, .nil, s => s
  | _, _, _, _, .cons r t, s => .cons r (RepA.app t s)
theorem RepA.setv {v : V} {x : MV} (r : Rep K ι C v x) : ∀ {vs : List V} {xs : List MV} (i : Nat), RepA K ι C vs xs → RepA K ι C (vs.set i v) (xs.set i x)
  | _, _, _, .nil => .nil
  | _, _, 0, .cons _ t => .cons r t
  | _, _, i + 1, .cons q t => .cons q (RepA.setv r i t)
theorem RepA.ofD : ∀ {vs : List V} {ds : List PyData}, DpAll K C vs ds → RepA K ι C vs (ds.map .d)
  | _, _, .nil => .nil
  | _, _, .cons r t => .cons (.d r) (RepA.ofD t)
/-- all data -/
def allD : List MV → Option (List PyData)
  | [] => some []
  | .d p :: xs => (allD xs).map (p :: ·)
  | _ :: _ => none
theorem allD_map : ∀ ds : List PyData, allD (ds.map .d) = some ds
  | [] => rfl
  | d :: ds => by show (allD (ds.map .d)).map (d :: ·) = _; rw [allD_map ds]; rfl
theorem allD_eq : ∀ {xs : List MV} {ds : List PyData}, allD xs = some ds → xs = ds.map .d
  | [], ds, h => by cases h; rfl
  | .d p :: xs, ds, h => by
    unfold allD at h
    cases e : allD xs with
    | none => rw [e] at h; cases h
    | some es => rw [e] at h; cases h; rw [allD_eq e]; rfl
  | .ref _ :: _, _, h => by cases h
  | .tup _ :: _, _, h => by cases h
theorem Rep.dat {v : V} {p : PyData} (h : Rep K ι C v (.d p)) : Dp K C v p := by cases h; assumption
theorem RepA.toD : ∀ {vs : List V} {ds : List PyData}, RepA K ι C vs (ds.map .d) → DpAll K C vs ds
  | _, [], .nil => .nil
  | _, d :: ds, .cons r t => .cons r.dat (RepA.toD t)
def mkTup (xs : List MV) : MV := match allD xs with
  | some ds => .d (.tuple ds)
  | none => .tup xs
theorem mkTup_d (ds : List PyData) : mkTup (ds.map .d) = .d (.tuple ds) := by unfold mkTup; rw [allD_map]
theorem sqt {a : Addr} {vs : List V} (h : C a = some (.tup vs)) : SqT K C a vs := .inl (.inl h)
theorem mkTup_rep {a : Addr} {vs : List V} {xs : List MV} (h : C a = some (.tup vs)) (r : RepA K ι C vs xs) : Rep K ι C (.ref a) (mkTup xs) := by
  unfold mkTup
  cases e : allD xs with
  | none => exact .tup h r
  | some ds =>
    rw [allD_eq e] at r
    exact .d (.tup (sqt h) r.toD)
end
/-! ### worlds -/
structure Rel (K : PySem.W.Frag) (w : Wd) (h : MH) : Prop where
  ch : Ex w.C w.H
  len : w.ι.length = h.length
  nd : w.ι.Nodup
  ow : ∀ a ∈ w.ι, w.C a = none
  ob : ∀ (n : Nat) (a : Addr) (b : Ob), w.ι[n]? = some a → h[n]? = some b → ∃ o, w.H a = some o ∧ ObRep K w.ι w.C a o b
structure Step (w w' : Wd) : Prop where
  pre : w.ι <+: w'.ι
  ex : Ex w.C w'.C
  fr : ∀ a o, w.H a = some o → a ∉ w.ι → w'.H a = some o
  nw : ∀ a ∈ w'.ι, a ∈ w.ι ∨ w.H a = none
  nc : ∀ a, w.H a ≠ none → w.C a = none → w'.C a = none
  kp : ∀ a, w.H a ≠ none → w'.H a ≠ none
theorem Step.refl (w : Wd) : Step w w := ⟨List.prefix_refl _, fun _ _ h => h, fun _ _ h _ => h, fun _ h => .inl h, fun _ _ h => h, fun _ h => h⟩
theorem Step.trans {w1 w2 w3 : Wd} (s : Step w1 w2) (t : Step w2 w3) : Step w1 w3 where
  pre := s.pre.trans t.pre
  ex := s.ex.trans t.ex
  fr := fun a o h n => t.fr a o (s.fr a o h n) fun m => by
    rcases s.nw a m with z | z
    · exact n z
    · rw [h] at z; cases z
  nw := fun a m => by
    rcases t.nw a m with z | z
    · exact s.nw a z
    · right
      cases e : w1.H a with
      | none => rfl
      | some o => exact absurd z (s.kp a (by rw [e]; exact fun q => nomatch q))
  nc := fun a h n => t.nc a (s.kp a h) (s.nc a h n)
  kp := fun a h => t.kp a (s.kp a h)
section
variable {K : PySem.W.Frag} {w w' w1 w2 : Wd} {h h1 h2 h' : MH} {v : V} {x : MV}
theorem Rep.up (s : Step w w') (r : Rep K w.ι w.C v x) : Rep K w'.ι w'.C v x := r.mono s.pre s.ex
theorem RepA.up {vs : List V} {xs : List MV} (s : Step w w') (r : RepA K w.ι w.C vs xs) : RepA K w'.ι w'.C vs xs := r.mono s.pre s.ex
/-- a new thing that is known -/
def Wd.know (w : Wd) (p : Addr) (o : HO) : Wd := ⟨w.ι, upd w.C p o, upd w.H p o⟩
theorem Rel.notin (r : Rel K w h) {p : Addr} (hp : w.H p = none) : p ∉ w.ι := fun m => by
  obtain ⟨n, hn, e⟩ := List.getElem_of_mem m
  obtain ⟨o, q, _⟩ := r.ob n p (h[n]'(by rw [← r.len]; exact hn)) (by rw [← e]; simp) (by simp)
  rw [hp] at q; cases q
theorem Rel.cnone (r : Rel K w h) {p : Addr} (hp : w.H p = none) : w.C p = none := ex_none r.ch hp
theorem know_ok (r : Rel K w h) {p : Addr} {o : HO} (hp : w.H p = none) : Step w (w.know p o) ∧ Rel K (w.know p o) h := by
  have hc := r.cnone hp
  have hn := r.notin hp
  have e1 : Ex w.C (upd w.C p o) := Ex.new hc
  refine ⟨⟨List.prefix_refl _, e1, fun a u q _ => ?_, fun a m => .inl m, fun a q c => ?_, fun a q => ?_⟩, ⟨fun a u q => ?_, r.len, r.nd, fun a m => ?_, fun n a b e q => ?_⟩⟩
  · show upd w.H p o a = _
    rw [upd_ne (fun z => by rw [z, hp] at q; cases q)]; exact q
  · show upd w.C p o a = _
    rw [upd_ne (fun z => q (by rw [z]; exact hp))]; exact c
  · show upd w.H p o a ≠ none
    rw [upd_ne (fun z => q (by rw [z]; exact hp))]; exact q
  · show upd w.H p o a = _
    replace q : upd w.C p o a = some u := q
    by_cases z : a = p
    · subst z; rw [upd_same] at q ⊢; exact q
    · rw [upd_ne z] at q ⊢; exact r.ch a u q
  · show upd w.C p o a = none
    rw [upd_ne (fun z => hn (by rw [← z]; exact m))]; exact r.ow a m
  · obtain ⟨u, q1, q2⟩ := r.ob n a b e q
    refine ⟨u, ?_, q2.mono (List.prefix_refl _) e1⟩
    show upd w.H p o a = _
    rw [upd_ne (fun z => by rw [z, hp] at q1; cases q1)]; exact q1
/-- a new thing of one's own -/
def Wd.alloc (w : Wd) (p : Addr) (o : HO) : Wd := ⟨w.ι ++ [p], w.C, upd w.H p o⟩
theorem alloc_ok (r : Rel K w h) {p : Addr} {o : HO} {b : Ob} (hp : w.H p = none) (hb : ObRep K (w.ι ++ [p]) w.C p o b) : Step w (w.alloc p o) ∧ Rel K (w.alloc p o) (h ++ [b]) ∧ (w.alloc p o).ι[h.length]? = some p := by
  have hc := r.cnone hp
  have hn := r.notin hp
  have pf : w.ι <+: w.ι ++ [p] := List.prefix_append _ _
  refine ⟨⟨pf, fun _ _ q => q, fun a u q _ => ?_, fun a m => ?_, fun a _ c => c, fun a q => ?_⟩, ⟨fun a u q => ?_, ?_, ?_, fun a m => ?_, fun n a b' e q => ?_⟩, ?_⟩
  · show upd w.H p o a = _
    rw [upd_ne (fun z => by rw [z, hp] at q; cases q)]; exact q
  · rcases List.mem_append.mp m with z | z
    · exact .inl z
    · rw [List.mem_singleton.mp z]; exact .inr hp
  · show upd w.H p o a ≠ none
    rw [upd_ne (fun z => q (by rw [z]; exact hp))]; exact q
  · show upd w.H p o a = _
    replace q : w.C a = some u := q
    rw [upd_ne (fun z => by rw [z, hc] at q; cases q)]; exact r.ch a u q
  · show (w.ι ++ [p]).length = _
    rw [List.length_append, List.length_append, r.len]; rfl
  · show (w.ι ++ [p]).Nodup
    refine List.nodup_append.mpr ⟨r.nd, by simp, fun a m b m' => ?_⟩
    rw [List.mem_singleton.mp m']
    exact fun z => hn (by rw [← z]; exact m)
  · rcases List.mem_append.mp m with z | z
    · exact r.ow a z
    · rw [List.mem_singleton.mp z]; exact hc
  · replace e : (w.ι ++ [p])[n]? = some a := e
    show ∃ u, upd w.H p o a = some u ∧ _
    by_cases z : n < h.length
    · rw [List.getElem?_append_left z] at q
      rw [List.getElem?_append_left (by rw [r.len]; exact z)] at e
      obtain ⟨u, q1, q2⟩ := r.ob n a b' e q
      refine ⟨u, ?_, q2.mono pf fun _ _ q => q⟩
      rw [upd_ne (fun z => by rw [z, hp] at q1; cases q1)]; exact q1
    · rw [List.getElem?_append_right (by omega)] at q
      rw [List.getElem?_append_right (by rw [r.len]; omega), r.len] at e
      have hz : n - h.length = 0 := by
        cases hn : n - h.length with
        | zero => rfl
        | succ k => rw [hn] at q; simp at q
      rw [hz] at q e
      simp at q e
      subst q e
      exact ⟨o, upd_same, hb⟩
  · show (w.ι ++ [p])[h.length]? = some p
    rw [← r.len, List.getElem?_append_right (Nat.le_refl _), Nat.sub_self]; rfl
/-- a thing of one's own is changed -/
def Wd.write (w : Wd) (a : Addr) (o : HO) : Wd := ⟨w.ι, w.C, upd w.H a o⟩
theorem write_ok (r : Rel K w h) {n : Nat} {a : Addr} {o : HO} {b : Ob} (hn : w.ι[n]? = some a) (hb : ObRep K w.ι w.C a o b) : Step w (w.write a o) ∧ Rel K (w.write a o) (h.set n b) := by
  have hm : a ∈ w.ι := List.mem_of_getElem? hn
  refine ⟨⟨List.prefix_refl _, fun _ _ q => q, fun a' u q nm => ?_, fun a m => .inl m, fun a _ c => c, fun a' q => ?_⟩, ⟨fun a' u q => ?_, ?_, r.nd, r.ow, fun n' a' b' e q => ?_⟩⟩
  · show upd w.H a o a' = _
    rw [upd_ne (fun z => nm (by rw [z]; exact hm))]; exact q
  · show upd w.H a o a' ≠ none
    by_cases z : a' = a
    · rw [z, upd_same]; exact fun q => nomatch q
    · rw [upd_ne z]; exact q
  · show upd w.H a o a' = _
    replace q : w.C a' = some u := q
    rw [upd_ne (fun z => by rw [z, r.ow a hm] at q; cases q)]; exact r.ch a' u q
  · show w.ι.length = _
    rw [List.length_set, r.len]
  · show ∃ u, upd w.H a o a' = some u ∧ _
    by_cases z : n = n'
    · subst z
      replace e : w.ι[n]? = some a' := e
      rw [hn] at e
      cases e
      have hl := (List.getElem?_eq_some_iff.mp hn).1
      rw [List.getElem?_set_self (by rw [← r.len]; exact hl)] at q
      cases q
      exact ⟨o, upd_same, hb⟩
    · rw [List.getElem?_set_ne z] at q
      obtain ⟨u, q1, q2⟩ := r.ob n' a' b' e q
      refine ⟨u, ?_, q2⟩
      have ne : a' ≠ a := fun y => by
        subst y
        exact z ((List.getElem?_inj (List.getElem?_eq_some_iff.mp hn).1 r.nd).mp (hn.trans e.symm))
      rw [upd_ne ne]; exact q1
/-- what is seen -/
def vis (w : Wd) : Hp := fun a => if w.C a ≠ none ∨ a ∈ w.ι then w.H a else none
theorem vis_ex : Ex (vis w) w.H := fun a o q => by
  unfold vis at q
  split at q
  · exact q
  · cases q
theorem vis_C (r : Rel K w h) : Ex w.C (vis w) := fun a o q => by
  unfold vis
  rw [if_pos (.inl (by rw [q]; exact fun z => nomatch z))]
  exact r.ch a o q
theorem vis_own (r : Rel K w h) {a : Addr} (m : a ∈ w.ι) : vis w a = w.H a := by unfold vis; rw [if_pos (.inr m)]
end
/-! ### a value with its lists told -/
def mapO {α β : Type} (f : α → Option β) : List α → Option (List β)
  | [] => some []
  | x :: xs => match f x with
    | some y => (mapO f xs).map (y :: ·)
    | none => none
theorem mapO_some {α β : Type} {f : α → Option β} {g : α → β} : ∀ {xs : List α}, (∀ x ∈ xs, f x = some (g x)) → mapO f xs = some (xs.map g)
  | [], _ => rfl
  | x :: xs, h => by
    unfold mapO
    rw [h x List.mem_cons_self, mapO_some fun y m => h y (List.mem_cons_of_mem _ m)]
    rfl
def reify : Nat → MH → MV → Option PyData
  | 0, _, .d p => some p
  | 0, _, _ => none
  | _ + 1, _, .d p => some p
  | k + 1, h, .ref n => match h[n]? with
    | some (.lst xs) => (mapO (reify k h) xs).map .list
    | _ => none
  | k + 1, h, .tup xs => (mapO (reify k h) xs).map .tuple
theorem reify_d (k : Nat) (h : MH) (p : PyData) : reify k h (.d p) = some p := by cases k <;> rfl
theorem mapO_reify_d (k : Nat) (h : MH) (ds : List PyData) : mapO (reify k h) (ds.map .d) = some ds := by
  induction ds with
  | nil => rfl
  | cons d ds ih => rw [List.map_cons, mapO, reify_d, ih]; rfl
section
variable {K : PySem.W.Frag} {w : Wd} {h : MH}
theorem reify_ok (r : Rel K w h) : ∀ (k : Nat) {v : V} {x : MV} {p : PyData}, Rep K w.ι w.C v x → reify k h x = some p → Dp K (vis w) v p := by
  intro k
  induction k with
  | zero =>
    intro v x p q e
    cases q with
    | d q => cases e; exact dpx (vis_C r) q
    | ref q => cases e
    | tup q a => cases e
  | succ k ih =>
    have all : ∀ {vs : List V} {xs : List MV} {ps : List PyData}, RepA K w.ι w.C vs xs → mapO (reify k h) xs = some ps → DpAll K (vis w) vs ps := by
      intro vs xs
      induction xs generalizing vs with
      | nil => intro ps a e; cases a; cases e; exact .nil
      | cons x xs ihx =>
        intro ps a e
        cases a with
        | cons a1 a2 =>
          rw [mapO] at e
          cases e1 : reify k h x with
          | none => rw [e1] at e; cases e
          | some p =>
            rw [e1] at e
            cases e2 : mapO (reify k h) xs with
            | none => rw [e2] at e; cases e
            | some qs => rw [e2] at e; cases e; exact .cons (ih a1 e1) (ihx a2 e2)
    intro v x p q e
    cases q with
    | d q => cases e; exact dpx (vis_C r) q
    | ref q =>
      rename_i n a
      rw [reify] at e
      cases e1 : h[n]? with
      | none => rw [e1] at e; cases e
      | some b =>
        rw [e1] at e
        obtain ⟨o, h1, h2⟩ := r.ob n a b q e1
        cases h2 with
        | lst h2 =>
          rename_i vs xs
          cases e2 : mapO (reify k h) xs with
          | none => simp only [e2] at e; cases e
          | some ps =>
            simp only [e2] at e
            cases e
            exact .lst (.inl (.inl (by rw [vis_own r (List.mem_of_getElem? q)]; exact h1))) (all h2 e2)
        | dct _ _ => cases e
        | dctT _ _ => cases e
        | tab _ _ => cases e
        | dv _ => cases e
    | tup q a =>
      rename_i ad vs xs
      rw [reify] at e
      cases e2 : mapO (reify k h) xs with
      | none => rw [e2] at e; cases e
      | some ps => rw [e2] at e; cases e; exact .tup (ex_t (vis_C r) (sqt q)) (all a e2)
theorem reifyA_ok (r : Rel K w h) (k : Nat) : ∀ {vs : List V} {xs : List MV} {ps : List PyData}, RepA K w.ι w.C vs xs → mapO (reify k h) xs = some ps → DpAll K (vis w) vs ps := by
  intro vs xs
  induction xs generalizing vs with
  | nil => intro ps a e; cases a; cases e; exact .nil
  | cons x xs ihx =>
    intro ps a e
    cases a with
    | cons a1 a2 =>
      rw [mapO] at e
      cases e1 : reify k h x with
      | none => rw [e1] at e; cases e
      | some p =>
        rw [e1] at e
        cases e2 : mapO (reify k h) xs with
        | none => rw [e2] at e; cases e
        | some qs => rw [e2] at e; cases e; exact .cons (reify_ok r k a1 e1) (ihx a2 e2)
end
/-! ### slots -/
structure RepE (K : PySem.W.Frag) (w : Wd) (σ : L2.St) (env : Env) : Prop where
  len : σ.length = env.length
  at_ : ∀ (i : Nat) (x : MV), env[i]? = some (some x) → ∃ v : V, σ[i]? = some (some v) ∧ Rep K w.ι w.C v x
section
variable {K : PySem.W.Frag} {w w' : Wd} {σ : L2.St} {env : Env}
theorem RepE.up (s : Step w w') (e : RepE K w σ env) : RepE K w' σ env := ⟨e.len, fun i x q => by
  obtain ⟨v, h1, h2⟩ := e.at_ i x q
  exact ⟨v, h1, h2.up s⟩⟩
theorem RepE.put {v : V} {x : MV} (e : RepE K w σ env) (r : Rep K w.ι w.C v x) (i : Nat) : RepE K w (σ.set i (some v)) (env.set i (some x)) := by
  refine ⟨by rw [List.length_set, List.length_set, e.len], fun j y q => ?_⟩
  by_cases z : i = j
  · subst z
    have hl : i < env.length := by
      have := (List.getElem?_eq_some_iff.mp q).1
      rwa [List.length_set] at this
    rw [List.getElem?_set_self hl] at q
    cases q
    exact ⟨v, List.getElem?_set_self (by rw [e.len]; exact hl), r⟩
  · rw [List.getElem?_set_ne z] at q ⊢
    exact e.at_ j y q
def wipeM (env : Env) : List Nat → Env
  | [] => env
  | v :: vs => (wipeM env vs).set v none
theorem RepE.wipe (e : RepE K w σ env) : ∀ vs : List Nat, RepE K w (wipe σ vs) (wipeM env vs)
  | [] => e
  | v :: vs => by
    have ih := e.wipe vs
    refine ⟨by show (List.set _ _ _).length = (List.set _ _ _).length; rw [List.length_set, List.length_set, ih.len], fun j y q => ?_⟩
    replace q : ((wipeM env vs).set v none)[j]? = some (some y) := q
    show ∃ u, ((L2.wipe σ vs).set v none)[j]? = some (some u) ∧ _
    by_cases z : v = j
    · subst z
      rw [List.getElem?_set] at q
      simp only [if_true] at q
      split at q <;> simp at q
    · rw [List.getElem?_set_ne z] at q ⊢
      exact ih.at_ j y q
end
end M
namespace M
open PySem PySem.Spec PyProof.Rows L2
open Evl (Ex ex_rd ex_l ex_t rMax2)
open G (dpx dpax dpa_len dpa_get dpa_app dpa_set ex_none wipe_get wipe_eq wipe_wipe RD UD CD Ret)
abbrev ME := Env → MH → Option (MV × MH)
abbrev MA := Env → MH → Option (List MV × MH)
abbrev MT := Env → MH → Option (Bool × MH)
abbrev MO2 := MV → MV → MH → Option (MV × MH)
abbrev MO1 := MV → MH → Option (MV × MH)
abbrev MCa := List MV → MH → Option (MV × MH)
def SimE (K : PySem.W.Frag) (te : TE) (me : ME) : Prop := ∀ w h σ env v h', Rel K w h → RepE K w σ env → me env h = some (v, h') → ∀ Q : VK, (∀ w' u, Step w w' → Rel K w' h' → Rep K w'.ι w'.C u v → Q u w'.H) → te σ w.H Q
def SimT (K : PySem.W.Frag) (tt : TT) (mt : MT) : Prop := ∀ w h σ env b h', Rel K w h → RepE K w σ env → mt env h = some (b, h') → ∀ Q : Bool → Hp → Prop, (∀ w', Step w w' → Rel K w' h' → Q b w'.H) → tt σ w.H Q
def SimA (K : PySem.W.Frag) (ta : TA) (ma : MA) : Prop := ∀ w h σ env xs h', Rel K w h → RepE K w σ env → ma env h = some (xs, h') → ∀ Q : List V → Hp → Prop, (∀ w' us, Step w w' → Rel K w' h' → RepA K w'.ι w'.C us xs → Q us w'.H) → ta σ w.H Q
/-- a new list -/
def SimF (K : PySem.W.Frag) (te : TE) (mf : MA) : Prop := ∀ w h σ env xs h', Rel K w h → RepE K w σ env → mf env h = some (xs, h') → ∀ Q : VK,
  (∀ w' p vs, Step w w' → Rel K w' h' → w.H p = none → w'.H p = some (.lst vs) → p ∉ w'.ι → w'.C p = none → RepA K w'.ι w'.C vs xs → Q (.ref p) w'.H) → te σ w.H Q
def SimR (K : PySem.W.Frag) (r : R2) (mr : MO2) : Prop := ∀ w h x y a b v h', Rel K w h → Rep K w.ι w.C x a → Rep K w.ι w.C y b → mr a b h = some (v, h') → ∀ Q : VK, (∀ w' u, Step w w' → Rel K w' h' → Rep K w'.ι w'.C u v → Q u w'.H) → r x y w.H Q
def SimU (K : PySem.W.Frag) (r : V → Hp → VK → Prop) (mr : MO1) : Prop := ∀ w h x a v h', Rel K w h → Rep K w.ι w.C x a → mr a h = some (v, h') → ∀ Q : VK, (∀ w' u, Step w w' → Rel K w' h' → Rep K w'.ι w'.C u v → Q u w'.H) → r x w.H Q
def SimC (K : PySem.W.Frag) (r : List V → Hp → VK → Prop) (mr : MCa) : Prop := ∀ w h us xs v h', Rel K w h → RepA K w.ι w.C us xs → mr xs h = some (v, h') → ∀ Q : VK, (∀ w' u, Step w w' → Rel K w' h' → Rep K w'.ι w'.C u v → Q u w'.H) → r us w.H Q
def SimCF (K : PySem.W.Frag) (r : List V → Hp → VK → Prop) (mr : List MV → MH → Option (List MV × MH)) : Prop := ∀ w h us xs ys h', Rel K w h → RepA K w.ι w.C us xs → mr xs h = some (ys, h') → ∀ Q : VK,
  (∀ w' p vs, Step w w' → Rel K w' h' → w.H p = none → w'.H p = some (.lst vs) → p ∉ w'.ι → w'.C p = none → RepA K w'.ι w'.C vs ys → Q (.ref p) w'.H) → r us w.H Q
/-! ### expressions -/
def mVar (i : Nat) : ME := fun env h => match env[i]? with
  | some (some v) => some (v, h)
  | _ => none
def mK (p : PyData) : ME := fun _ h => some (.d p, h)
def mOp (mr : MO2) (ma mb : ME) : ME := fun env h => (ma env h).bind fun r => (mb env r.2).bind fun q => mr r.1 q.1 q.2
def mUn (mr : MO1) (ma : ME) : ME := fun env h => (ma env h).bind fun r => mr r.1 r.2
def mNil : MA := fun _ h => some ([], h)
def mCons (ma : ME) (mr : MA) : MA := fun env h => (ma env h).bind fun r => (mr env r.2).bind fun q => some (r.1 :: q.1, q.2)
def mCB (mr : MCa) (ma : MA) : ME := fun env h => (ma env h).bind fun r => mr r.1 r.2
def mTup (ma : MA) : ME := fun env h => (ma env h).bind fun r => if r.1.length ≤ 100000 then some (mkTup r.1, r.2) else none
def mLst (ma : MA) : MA := fun env h => (ma env h).bind fun r => if r.1.length ≤ 100000 then some (r.1, r.2) else none
/-- a new list: only read from now on; of one's own -/
def mDat (mf : MA) : ME := fun env h => (mf env h).bind fun r => (allD r.1).map fun ds => (.d (.list ds), r.2)
def mNew (mf : MA) : ME := fun env h => (mf env h).map fun r => (.ref r.2.length, r.2 ++ [.lst r.1])
def mIf (mt : MT) (ma mb : ME) : ME := fun env h => (mt env h).bind fun r => if r.1 = true then ma env r.2 else mb env r.2
def asB : MV × MH → Option (Bool × MH)
  | (.d (.bool b), h) => some (b, h)
  | _ => none
def mTest (me : ME) : MT := fun env h => (me env h).bind asB
def mNot (mt : MT) : MT := fun env h => (mt env h).map fun r => (!r.1, r.2)
def mAnd (mt mu : MT) : MT := fun env h => (mt env h).bind fun r => if r.1 = true then mu env r.2 else some (false, r.2)
def mOr (mt mu : MT) : MT := fun env h => (mt env h).bind fun r => if r.1 = true then some (true, r.2) else mu env r.2
def mYes : MT := fun _ h => some (true, h)
def mOfT (mt : MT) : ME := fun env h => (mt env h).map fun r => (.d (.bool r.1), r.2)
def mAndV (ma mb : ME) : ME := fun env h => (mTest ma env h).bind fun r => if r.1 = true then mb env r.2 else some (.d (.bool false), r.2)
def mOrV (ma mb : ME) : ME := fun env h => (mTest ma env h).bind fun r => if r.1 = true then some (.d (.bool true), r.2) else mb env r.2
def mNotV (ma : ME) : ME := fun env h => (mTest ma env h).map fun r => (.d (.bool (!r.1)), r.2)
def mChain (mr mr' : MO2) (ma mb mc : ME) : ME := fun env h => (ma env h).bind fun r => (mb env r.2).bind fun q => (mr r.1 q.1 q.2).bind fun z => (asB z).bind fun c =>
  if c.1 = true then (mc env c.2).bind fun t => mr' q.1 t.1 t.2 else some (.d (.bool false), c.2)
section
variable {K : PySem.W.Frag} {te ta tb tc : TE} {me ma mb mc : ME} {tt tu : TT} {mt mu : MT} {tl : TA} {ml : MA}
theorem bind_of {α β : Type} {o : Option α} {f : α → Option β} {b : β} (h : o.bind f = some b) : ∃ a, o = some a ∧ f a = some b := by
  cases o with
  | none => cases h
  | some a => exact ⟨a, rfl, h⟩
theorem map_of {α β : Type} {o : Option α} {f : α → β} {b : β} (h : o.map f = some b) : ∃ a, o = some a ∧ f a = b := by
  cases o with
  | none => cases h
  | some a => exact ⟨a, rfl, Option.some.inj h⟩
theorem asB_of {r : MV × MH} {q : Bool × MH} (h : asB r = some q) : r = (.d (.bool q.1), q.2) := by
  unfold asB at h
  split at h
  · cases h; rfl
  · cases h
theorem sm_var {i : Nat} : SimE K (tVar i) (mVar i) := fun w h σ env v h' rl re e Q q => by
  unfold mVar at e
  split at e
  · rename_i x ex
    cases e
    obtain ⟨u, h1, h2⟩ := re.at_ i v ex
    exact ⟨u, h1, q w u (.refl _) rl h2⟩
  · cases e
theorem sm_K {v : V} {p : PyData} (hd : ∀ C, Dp K C v p) : SimE K (tC v) (mK p) := fun w h σ env x h' rl re e Q q => by
  cases e
  exact q w v (.refl _) rl (.d (hd _))
theorem sm_int {i : Int} : SimE K (tC (.int i)) (mK (.int i)) := sm_K fun _ => .int i
theorem sm_bl {b : Bool} : SimE K (tC (.bl b)) (mK (.bool b)) := sm_K fun _ => .bl b
theorem sm_str {x : Str} : SimE K (tC (.str x)) (mK (.str x)) := sm_K fun _ => .str x
theorem sm_non : SimE K (tC .non) (mK .none) := sm_K fun _ => .non
theorem sm_op {r : R2} {mr : MO2} (ha : SimE K ta ma) (hb : SimE K tb mb) (hr : SimR K r mr) : SimE K (tOp r ta tb) (mOp mr ma mb) := fun w h σ env v h' rl re e Q q => by
  obtain ⟨⟨a, h1⟩, e1, e⟩ := bind_of e
  obtain ⟨⟨b, h2⟩, e2, e⟩ := bind_of e
  exact ha w h σ env a h1 rl re e1 _ fun w1 x s1 r1 x1 => hb w1 h1 σ env b h2 r1 (re.up s1) e2 _ fun w2 y s2 r2 y2 => hr w2 h2 x y a b v h' r2 (x1.up s2) y2 e _ fun w3 u s3 r3 u3 => q w3 u ((s1.trans s2).trans s3) r3 u3
theorem sm_un {r : V → Hp → VK → Prop} {mr : MO1} (ha : SimE K ta ma) (hr : SimU K r mr) : SimE K (tUn r ta) (mUn mr ma) := fun w h σ env v h' rl re e Q q => by
  obtain ⟨⟨a, h1⟩, e1, e⟩ := bind_of e
  exact ha w h σ env a h1 rl re e1 _ fun w1 x s1 r1 x1 => hr w1 h1 x a v h' r1 x1 e _ fun w3 u s3 r3 u3 => q w3 u (s1.trans s3) r3 u3
theorem sm_nil : SimA K tNil mNil := fun w h σ env xs h' rl re e Q q => by
  cases e
  exact q w [] (.refl _) rl .nil
theorem sm_cons (ha : SimE K ta ma) (hl : SimA K tl ml) : SimA K (tCons ta tl) (mCons ma ml) := fun w h σ env xs h' rl re e Q q => by
  obtain ⟨⟨a, h1⟩, e1, e⟩ := bind_of e
  obtain ⟨⟨b, h2⟩, e2, e⟩ := bind_of e
  cases e
  exact ha w h σ env a h1 rl re e1 _ fun w1 x s1 r1 x1 => hl w1 h1 σ env b h2 r1 (re.up s1) e2 _ fun w2 ys s2 r2 y2 => q w2 (x :: ys) (s1.trans s2) r2 (.cons (x1.up s2) y2)
theorem sm_cb {r : List V → Hp → VK → Prop} {mr : MCa} (ha : SimA K tl ml) (hr : SimC K r mr) : SimE K (tCB r tl) (mCB mr ml) := fun w h σ env v h' rl re e Q q => by
  obtain ⟨⟨a, h1⟩, e1, e⟩ := bind_of e
  exact ha w h σ env a h1 rl re e1 _ fun w1 x s1 r1 x1 => hr w1 h1 x a v h' r1 x1 e _ fun w3 u s3 r3 u3 => q w3 u (s1.trans s3) r3 u3
def mCBF (mr : List MV → MH → Option (List MV × MH)) (ml : MA) : MA := fun env h => (ml env h).bind fun r => mr r.1 r.2
theorem sm_cbF {r : List V → Hp → VK → Prop} {mr : List MV → MH → Option (List MV × MH)} (ha : SimA K tl ml) (hr : SimCF K r mr) : SimF K (tCB r tl) (mCBF mr ml) := fun w h σ env v h' rl re e Q q => by
  obtain ⟨⟨a, h1⟩, e1, e⟩ := bind_of e
  exact ha w h σ env a h1 rl re e1 _ fun w1 x s1 r1 x1 => hr w1 h1 x a v h' r1 x1 e _ fun w3 p vs s3 r3 f1 f2 f3 f4 f5 => q w3 p vs (s1.trans s3) r3 (by
    cases z : w.H p with
    | none => rfl
    | some o => exact absurd f1 (s1.kp p (by rw [z]; exact fun q => nomatch q))) f2 f3 f4 f5
theorem sl_100000 : (100000 : Nat) ≤ sizeLine := by rw [sizeLine_eq]; decide
theorem sm_tup (ha : SimA K tl ml) : SimE K (tTup tl) (mTup ml) := fun w h σ env v h' rl re e Q q => by
  obtain ⟨⟨a, h1⟩, e1, e⟩ := bind_of e
  simp only at e
  split at e
  · rename_i hz
    cases e
    refine ha w h σ env _ _ rl re e1 _ fun w1 xs s1 r1 x1 => ⟨by rw [x1.len]; exact Nat.le_trans hz sl_100000, fun p hp => ?_⟩
    obtain ⟨s2, r2⟩ := know_ok (o := .tup xs) r1 hp
    exact q (w1.know p (.tup xs)) _ (s1.trans s2) r2 (mkTup_rep upd_same (x1.up s2))
  · cases e
theorem sm_lst (ha : SimA K tl ml) : SimF K (tLst tl) (mLst ml) := fun w h σ env v h' rl re e Q q => by
  obtain ⟨⟨a, h1⟩, e1, e⟩ := bind_of e
  simp only at e
  split at e
  · rename_i hz
    cases e
    refine ha w h σ env _ _ rl re e1 _ fun w1 xs s1 r1 x1 => ⟨by rw [x1.len]; exact Nat.le_trans hz sl_100000, fun p hp => ?_⟩
    exact q ⟨w1.ι, w1.C, upd w1.H p (.lst xs)⟩ p xs ⟨s1.pre, s1.ex, fun a o e n => by
        show upd w1.H p _ a = _
        have := s1.fr a o e n
        rw [upd_ne (fun z => by rw [z, hp] at this; cases this)]; exact this, s1.nw, s1.nc, fun a e => by
        show upd w1.H p _ a ≠ none
        have := s1.kp a e
        rw [upd_ne (fun z => this (by rw [z, hp]))]; exact this⟩
      ⟨fun a o e => by
        show upd w1.H p _ a = _
        have := r1.ch a o e
        rw [upd_ne (fun z => by rw [z, hp] at this; cases this)]; exact this, r1.len, r1.nd, r1.ow, fun n a b e1 e2 => by
        obtain ⟨o, h1, h2⟩ := r1.ob n a b e1 e2
        refine ⟨o, ?_, h2⟩
        show upd w1.H p _ a = _
        rw [upd_ne (fun z => by rw [z, hp] at h1; cases h1)]; exact h1⟩
      (by
        cases z : w.H p with
        | none => rfl
        | some o => exact absurd hp (s1.kp p (by rw [z]; exact fun q => nomatch q))) upd_same (r1.notin hp) (r1.cnone hp) x1
  · cases e
theorem sm_dat (h : SimF K te ml) : SimE K te (mDat ml) := fun w h0 σ env v h' rl re e Q q => by
  obtain ⟨⟨xs, h1⟩, e1, e⟩ := bind_of e
  obtain ⟨ds, e2, e⟩ := map_of e
  cases e
  refine h w h0 σ env xs h1 rl re e1 Q fun w1 p vs s r f1 f2 f3 f4 f5 => ?_
  replace e2 : allD xs = some ds := e2
  rw [allD_eq e2] at f5
  have ex : Ex w1.C (upd w1.C p (.lst vs)) := Ex.new f4
  refine q ⟨w1.ι, upd w1.C p (.lst vs), w1.H⟩ (.ref p) ⟨s.pre, s.ex.trans ex, s.fr, s.nw, fun a n c => ?_, s.kp⟩ ⟨fun a o e => ?_, r.len, r.nd, fun a m => ?_, fun n a b e1 e2 => ?_⟩ (.d (.lst (.inl (.inl upd_same)) (dpax ex f5.toD)))
  · show upd w1.C p _ a = _
    rw [upd_ne (fun z => n (by rw [z]; exact f1))]; exact s.nc a n c
  · replace e : upd w1.C p _ a = _ := e
    by_cases z : a = p
    · subst z; rw [upd_same] at e; cases e; exact f2
    · rw [upd_ne z] at e; exact r.ch a o e
  · show upd w1.C p _ a = _
    rw [upd_ne (fun z => f3 (by rw [← z]; exact m))]; exact r.ow a m
  · obtain ⟨o, g1, g2⟩ := r.ob n a b e1 e2
    exact ⟨o, g1, g2.mono (List.prefix_refl _) ex⟩
theorem sm_new (h : SimF K te ml) : SimE K te (mNew ml) := fun w h0 σ env v h' rl re e Q q => by
  obtain ⟨⟨xs, h1⟩, e1, e⟩ := map_of e
  cases e
  refine h w h0 σ env xs h1 rl re e1 Q fun w1 p vs s r f1 f2 f3 f4 f5 => ?_
  replace r : Rel K w1 h1 := r
  have pf : w1.ι <+: w1.ι ++ [p] := List.prefix_append _ _
  refine q ⟨w1.ι ++ [p], w1.C, w1.H⟩ (.ref p) ⟨s.pre.trans pf, s.ex, s.fr, fun a m => ?_, s.nc, s.kp⟩ ⟨r.ch, ?_, ?_, fun a m => ?_, fun n a b e1 e2 => ?_⟩ (.ref ?_)
  · rcases List.mem_append.mp m with z | z
    · exact s.nw a z
    · rw [List.mem_singleton.mp z]; exact .inr f1
  · show (w1.ι ++ [p]).length = _
    rw [List.length_append, List.length_append, r.len]; rfl
  · refine List.nodup_append.mpr ⟨r.nd, by simp, fun a m b m' => ?_⟩
    rw [List.mem_singleton.mp m']
    exact fun z => f3 (by rw [← z]; exact m)
  · rcases List.mem_append.mp m with z | z
    · exact r.ow a z
    · rw [List.mem_singleton.mp z]; exact f4
  · replace e1 : (w1.ι ++ [p])[n]? = some a := e1
    replace e2 : (h1 ++ [Ob.lst xs])[n]? = some b := e2
    by_cases z : n < h1.length
    · rw [List.getElem?_append_left z] at e2
      rw [List.getElem?_append_left (by rw [r.len]; exact z)] at e1
      obtain ⟨o, q1, q2⟩ := r.ob n a b e1 e2
      exact ⟨o, q1, q2.mono pf fun _ _ q => q⟩
    · rw [List.getElem?_append_right (by omega)] at e2
      rw [List.getElem?_append_right (by rw [r.len]; omega), r.len] at e1
      have hz : n - h1.length = 0 := by
        cases hn : n - h1.length with
        | zero => rfl
        | succ k => rw [hn] at e2; simp at e2
      rw [hz] at e2 e1
      simp at e2 e1
      subst e2 e1
      exact ⟨_, f2, .lst (f5.mono pf fun _ _ q => q)⟩
  · show (w1.ι ++ [p])[h1.length]? = some p
    rw [← r.len, List.getElem?_append_right (Nat.le_refl _), Nat.sub_self]; rfl
theorem sm_if (ht : SimT K tt mt) (ha : SimE K ta ma) (hb : SimE K tb mb) : SimE K (tIf tt ta tb) (mIf mt ma mb) := fun w h σ env v h' rl re e Q q => by
  obtain ⟨⟨b, h1⟩, e1, e⟩ := bind_of e
  refine ht w h σ env b h1 rl re e1 _ fun w1 s1 r1 => ?_
  cases b with
  | true => exact iteT (ha w1 h1 σ env v h' r1 (re.up s1) e Q fun w2 u s2 => q w2 u (s1.trans s2))
  | false => exact iteF (hb w1 h1 σ env v h' r1 (re.up s1) e Q fun w2 u s2 => q w2 u (s1.trans s2))
theorem Rep.bool {w : Wd} {u : V} {b : Bool} (h : Rep K w.ι w.C u (.d (.bool b))) : u = .bl b := by cases h with | d h => cases h; rfl
theorem sm_test (h : SimE K te me) : SimT K (tTest te) (mTest me) := fun w h0 σ env b h' rl re e Q q => by
  obtain ⟨r, e1, e⟩ := bind_of e
  have := asB_of e
  subst this
  exact h w h0 σ env _ _ rl re e1 _ fun w1 u s r x => ⟨b, x.bool, q w1 s r⟩
theorem sm_B (h : SimE K te me) : SimT K (tB te) (mTest me) := sm_test h
theorem sm_not (h : SimT K tt mt) : SimT K (tNot tt) (mNot mt) := fun w h0 σ env b h' rl re e Q q => by
  obtain ⟨⟨c, h1⟩, e1, e⟩ := map_of e
  cases e
  exact h w h0 σ env c h1 rl re e1 _ fun w1 s r => q w1 s r
theorem sm_and (h : SimT K tt mt) (hu : SimT K tu mu) : SimT K (tAnd tt tu) (mAnd mt mu) := fun w h0 σ env b h' rl re e Q q => by
  obtain ⟨⟨c, h1⟩, e1, e⟩ := bind_of e
  refine h w h0 σ env c h1 rl re e1 _ fun w1 s1 r1 => ?_
  cases c with
  | true => exact iteT (hu w1 h1 σ env b h' r1 (re.up s1) e Q fun w2 s2 => q w2 (s1.trans s2))
  | false => cases e; exact iteF (q w1 s1 r1)
theorem sm_or (h : SimT K tt mt) (hu : SimT K tu mu) : SimT K (tOr tt tu) (mOr mt mu) := fun w h0 σ env b h' rl re e Q q => by
  obtain ⟨⟨c, h1⟩, e1, e⟩ := bind_of e
  refine h w h0 σ env c h1 rl re e1 _ fun w1 s1 r1 => ?_
  cases c with
  | false => exact iteF (hu w1 h1 σ env b h' r1 (re.up s1) e Q fun w2 s2 => q w2 (s1.trans s2))
  | true => cases e; exact iteT (q w1 s1 r1)
theorem sm_yes : SimT K tYes mYes := fun w h0 σ env b h' rl re e Q q => by
  cases e
  exact q w (.refl _) rl
theorem sm_andV (ha : SimE K ta ma) (hb : SimE K tb mb) : SimE K (tAndV ta tb) (mAndV ma mb) := fun w h σ env v h' rl re e Q q => by
  obtain ⟨⟨c, h1⟩, e1, e⟩ := bind_of e
  obtain ⟨r, e2, e1⟩ := bind_of e1
  have := asB_of e1
  subst this
  refine ha w h σ env _ _ rl re e2 _ fun w1 u s1 r1 x => ⟨c, x.bool, ?_⟩
  cases c with
  | true => exact iteT (hb w1 h1 σ env v h' r1 (re.up s1) e Q fun w2 u s2 => q w2 u (s1.trans s2))
  | false => cases e; exact iteF (q w1 _ s1 r1 (.d (.bl _)))
theorem sm_orV (ha : SimE K ta ma) (hb : SimE K tb mb) : SimE K (tOrV ta tb) (mOrV ma mb) := fun w h σ env v h' rl re e Q q => by
  obtain ⟨⟨c, h1⟩, e1, e⟩ := bind_of e
  obtain ⟨r, e2, e1⟩ := bind_of e1
  have := asB_of e1
  subst this
  refine ha w h σ env _ _ rl re e2 _ fun w1 u s1 r1 x => ⟨c, x.bool, ?_⟩
  cases c with
  | false => exact iteF (hb w1 h1 σ env v h' r1 (re.up s1) e Q fun w2 u s2 => q w2 u (s1.trans s2))
  | true => cases e; exact iteT (q w1 _ s1 r1 (.d (.bl _)))
theorem sm_notV (ha : SimE K ta ma) : SimE K (tNotV ta) (mNotV ma) := fun w h σ env v h' rl re e Q q => by
  obtain ⟨⟨c, h1⟩, e1, e⟩ := map_of e
  cases e
  obtain ⟨r, e2, e1⟩ := bind_of e1
  have := asB_of e1
  subst this
  exact ha w h σ env _ _ rl re e2 _ fun w1 u s1 r1 x => ⟨c, x.bool, q w1 _ s1 r1 (.d (.bl _))⟩
theorem sm_chain {r r' : R2} {mr mr' : MO2} (ha : SimE K ta ma) (hb : SimE K tb mb) (hc : SimE K tc mc) (hr : SimR K r mr) (hr' : SimR K r' mr') : SimE K (tChain r r' ta tb tc) (mChain mr mr' ma mb mc) := fun w h σ env v h' rl re e Q q => by
  obtain ⟨⟨a, h1⟩, e1, e⟩ := bind_of e
  obtain ⟨⟨b, h2⟩, e2, e⟩ := bind_of e
  obtain ⟨z, e3, e⟩ := bind_of e
  obtain ⟨⟨c, h3⟩, e4, e⟩ := bind_of e
  have := asB_of e4
  subst this
  refine ha w h σ env a h1 rl re e1 _ fun w1 x s1 r1 x1 => hb w1 h1 σ env b h2 r1 (re.up s1) e2 _ fun w2 y s2 r2 y2 => hr w2 h2 x y a b _ h3 r2 (x1.up s2) y2 e3 _ fun w3 u s3 r3 u3 => ⟨c, u3.bool, ?_⟩
  have s13 := (s1.trans s2).trans s3
  cases c with
  | true =>
    replace e : (mc env h3).bind (fun t => mr' b t.1 t.2) = some (v, h') := e
    obtain ⟨⟨t, h4⟩, e5, e⟩ := bind_of e
    exact iteT (hc w3 h3 σ env t h4 r3 (re.up s13) e5 _ fun w4 u4 s4 r4 x4 => hr' w4 h4 y u4 b t v h' r4 ((y2.up s3).up s4) x4 e _ fun w5 u5 s5 => q w5 u5 ((s13.trans s4).trans s5))
  | false => cases e; exact iteF (q w3 _ s13 r3 (.d (.bl _)))
end
end M
namespace M
open PySem PySem.Spec PyProof.Rows L2
open Evl (Ex ex_rd ex_l ex_t rMax2)
open G (dpx dpax dpa_len dpa_get dpa_app dpa_set ex_none wipe_get wipe_eq wipe_wipe RD UD CD Ret)
/-! ### targets -/
abbrev MG := MV → Env → Option Env
abbrev MGs := List MV → Env → Option Env
def SimG (K : PySem.W.Frag) (g : TG) (mg : MG) (js : List Nat) : Prop := ∀ w h σ env x v env', Rel K w h → RepE K w σ env → Rep K w.ι w.C x v → mg v env = some env' → ∀ Q : L2.St → Hp → Prop,
  (∀ σ', RepE K w σ' env' → σ'.length = σ.length → (∀ k, k ∉ js → σ'[k]? = σ[k]?) → Q σ' w.H) → g x σ w.H Q
def SimGs (K : PySem.W.Frag) (g : TGs) (mg : MGs) (js : List Nat) : Prop := ∀ w h σ env xs vs env', Rel K w h → RepE K w σ env → RepA K w.ι w.C xs vs → mg vs env = some env' → ∀ Q : L2.St → Hp → Prop,
  (∀ σ', RepE K w σ' env' → σ'.length = σ.length → (∀ k, k ∉ js → σ'[k]? = σ[k]?) → Q σ' w.H) → g xs σ w.H Q
def mgName (i : Nat) : MG := fun v env => some (env.set i (some v))
def mgNil : MGs := fun vs env => match vs with
  | [] => some env
  | _ => none
def mgCons (g : MG) (gs : MGs) : MGs := fun vs env => match vs with
  | v :: r => (g v env).bind (gs r)
  | _ => none
def mgTup (n : Nat) (gs : MGs) : MG := fun v env => match v with
  | .d (.tuple ds) => if ds.length = n then gs (ds.map .d) env else none
  | .tup xs => if xs.length = n then gs xs env else none
  | _ => none
section
variable {K : PySem.W.Frag} {js : List Nat}
theorem sg_name {i : Nat} (hi : i ∈ js) : SimG K (gName i) (mgName i) js := fun w h σ env x v env' rl re rx e Q q => by
  cases e
  refine q _ (re.put rx i) (List.length_set) fun k hk => ?_
  rw [List.getElem?_set_ne]
  exact fun z => hk (z ▸ hi)
theorem sg_nil : SimGs K gNil mgNil js := fun w h σ env xs vs env' rl re rx e Q q => by
  cases rx with
  | nil => cases e; exact ⟨rfl, q _ re rfl fun _ _ => rfl⟩
  | cons _ _ => cases e
theorem sg_cons {g : TG} {mg : MG} {gs : TGs} {mgs : MGs} (h1 : SimG K g mg js) (h2 : SimGs K gs mgs js) : SimGs K (gCons g gs) (mgCons mg mgs) js := fun w h σ env xs vs env' rl re rx e Q q => by
  cases rx with
  | nil => cases e
  | cons r1 r2 =>
    obtain ⟨env1, e1, e⟩ := bind_of e
    exact ⟨_, _, rfl, h1 w h σ env _ _ env1 rl re r1 e1 _ fun σ1 re1 l1 k1 => h2 w h σ1 env1 _ _ env' rl re1 r2 e _ fun σ2 re2 l2 k2 => q σ2 re2 (l2.trans l1) fun k hk => (k2 k hk).trans (k1 k hk)⟩
theorem sg_tup {n : Nat} {gs : TGs} {mgs : MGs} (h1 : SimGs K gs mgs js) : SimG K (gTup K n gs) (mgTup n mgs) js := fun w h σ env x v env' rl re rx e Q q => by
  unfold mgTup at e
  split at e
  · rename_i ds
    split at e
    · rename_i hl
      cases rx with
      | d rx =>
        cases rx with
        | tup hq ha => exact ⟨_, _, rfl, ex_t rl.ch hq, by rw [dpa_len ha]; exact hl, h1 w h σ env _ _ env' rl re (RepA.ofD ha) e Q q⟩
    · cases e
  · rename_i xs
    split at e
    · rename_i hl
      cases rx with
      | tup hq ha => exact ⟨_, _, rfl, ex_t rl.ch (sqt hq), by rw [ha.len]; exact hl, h1 w h σ env _ _ env' rl re ha e Q q⟩
    · cases e
  · cases e
end
/-! ### statements -/
inductive MRes where
  | nx (env : Env) (h : MH)
  | rt (v : MV) (h : MH)
  | bk (env : Env) (h : MH)
  | ct (env : Env) (h : MH)
abbrev MS := Env → MH → Option MRes
def Post (K : PySem.W.Frag) (D : Ends) (w : Wd) : MRes → Prop
  | .nx env' h' => ∀ w' σ', Step w w' → Rel K w' h' → RepE K w' σ' env' → D.nx σ' w'.H
  | .rt v h' => ∀ w' u, Step w w' → Rel K w' h' → Rep K w'.ι w'.C u v → D.rt u w'.H
  | .bk env' h' => ∀ w' σ', Step w w' → Rel K w' h' → RepE K w' σ' env' → D.bk σ' w'.H
  | .ct env' h' => ∀ w' σ', Step w w' → Rel K w' h' → RepE K w' σ' env' → D.ct σ' w'.H
theorem Post.mono {K : PySem.W.Frag} {D : Ends} {w w' : Wd} {r : MRes} (p : Post K D w r) (s : Step w w') : Post K D w' r := by
  cases r with
  | nx e h => exact fun w2 σ s2 => p w2 σ (s.trans s2)
  | rt e h => exact fun w2 σ s2 => p w2 σ (s.trans s2)
  | bk e h => exact fun w2 σ s2 => p w2 σ (s.trans s2)
  | ct e h => exact fun w2 σ s2 => p w2 σ (s.trans s2)
def SimS (K : PySem.W.Frag) (t : TS) (ms : MS) : Prop := ∀ D w h σ env r, Rel K w h → RepE K w σ env → ms env h = some r → Post K D w r → t D σ w.H
def mSeqK (mb : MS) : MRes → Option MRes
  | .nx e h => mb e h
  | r => some r
def mSeq (ma mb : MS) : MS := fun env h => (ma env h).bind (mSeqK mb)
def mNext : MS := fun env h => some (.nx env h)
def mBreak : MS := fun env h => some (.bk env h)
def mCont : MS := fun env h => some (.ct env h)
def mAsg (me : ME) (g : MG) : MS := fun env h => (me env h).bind fun r => (g r.1 env).map fun e => .nx e r.2
def mDrop (me : ME) : MS := fun env h => (me env h).map fun r => .nx env r.2
def mRet (me : ME) : MS := fun env h => (me env h).map fun r => .rt r.1 r.2
def mRetN : MS := fun _ h => some (.rt (.d .none) h)
def mIfS (mt : MT) (ma mb : MS) : MS := fun env h => (mt env h).bind fun r => if r.1 = true then ma env r.2 else mb env r.2
def asI : MV → Option Int
  | .d (.int i) => some i
  | _ => none
theorem asI_of {v : MV} {i : Int} (h : asI v = some i) : v = .d (.int i) := by
  unfold asI at h
  split at h
  · cases h; rfl
  · cases h
def asL (h : MH) : MV → Option (Nat × List MV)
  | .ref n => match h[n]? with
    | some (.lst xs) => some (n, xs)
    | _ => none
  | _ => none
theorem asL_of {h : MH} {v : MV} {n : Nat} {xs : List MV} (e : asL h v = some (n, xs)) : v = .ref n ∧ h[n]? = some (.lst xs) := by
  cases v with
  | ref m =>
    unfold asL at e
    cases e1 : h[m]? with
    | none => simp only [e1] at e; cases e
    | some b =>
      cases b with
      | lst ys => simp only [e1] at e; cases e; exact ⟨rfl, e1⟩
      | dct _ => simp only [e1] at e; cases e
      | dctT _ => simp only [e1] at e; cases e
      | tab _ _ => simp only [e1] at e; cases e
      | dv _ => simp only [e1] at e; cases e
  | d _ => cases e
  | tup _ => cases e
def mAug (i : Nat) (me : ME) (f : Int → Int → Int) : MS := fun env h => (mVar i env h).bind fun a => (me env h).bind fun r => (asI a.1).bind fun x => (asI r.1).map fun y => .nx (env.set i (some (.d (.int (f x y))))) r.2
def mSetL (me mo mi : ME) : MS := fun env h => (me env h).bind fun r => (mo env r.2).bind fun o => (mi env o.2).bind fun i => (asL i.2 o.1).bind fun l => (asI i.1).bind fun k => (ixN l.2.length k).map fun j => .nx env (i.2.set l.1 (.lst (l.2.set j r.1)))
def mApp (mo me : ME) : MS := fun env h => (mo env h).bind fun o => (asL o.2 o.1).bind fun _ => (me env o.2).bind fun r => (asL r.2 o.1).bind fun l => if l.2.length < 100000 then some (.nx env (r.2.set l.1 (.lst (l.2 ++ [r.1])))) else none
section
variable {K : PySem.W.Frag} {t u : TS} {ms mu : MS} {te to_ ti : TE} {me mo mi : ME} {tt : TT} {mt : MT}
theorem ss_seq (h1 : SimS K t ms) (h2 : SimS K u mu) : SimS K (tSeq t u) (mSeq ms mu) := fun D w h σ env r rl re e p => by
  obtain ⟨a, e1, e⟩ := bind_of e
  refine h1 { D with nx := u D } w h σ env a rl re e1 ?_
  cases a with
  | nx env1 hh1 => exact fun w' σ' s1 r1 re1 => h2 D w' hh1 σ' env1 r r1 re1 e (p.mono s1)
  | rt v hh => cases e; exact p
  | bk v hh => cases e; exact p
  | ct v hh => cases e; exact p
theorem ss_next : SimS K tNext mNext := fun D w h σ env r rl re e p => by cases e; exact p w σ (.refl _) rl re
theorem ss_break : SimS K tBreak mBreak := fun D w h σ env r rl re e p => by cases e; exact p w σ (.refl _) rl re
theorem ss_cont : SimS K tCont mCont := fun D w h σ env r rl re e p => by cases e; exact p w σ (.refl _) rl re
theorem ss_asg {g : TG} {mg : MG} {js : List Nat} (h1 : SimE K te me) (h2 : SimG K g mg js) : SimS K (tAsg te g) (mAsg me mg) := fun D w h σ env r rl re e p => by
  obtain ⟨⟨a, hh⟩, e1, e⟩ := bind_of e
  obtain ⟨env1, e2, e⟩ := map_of e
  cases e
  exact h1 w h σ env a hh rl re e1 _ fun w1 u s1 r1 x1 => h2 w1 hh σ env u a env1 r1 (re.up s1) x1 e2 _ fun σ' re' _ _ => p w1 σ' s1 r1 re'
theorem ss_drop (h1 : SimE K te me) : SimS K (tDrop te) (mDrop me) := fun D w h σ env r rl re e p => by
  obtain ⟨⟨a, hh⟩, e1, e⟩ := map_of e
  cases e
  exact h1 w h σ env a hh rl re e1 _ fun w1 u s1 r1 x1 => p w1 σ s1 r1 (re.up s1)
theorem ss_ret (h1 : SimE K te me) : SimS K (tRet te) (mRet me) := fun D w h σ env r rl re e p => by
  obtain ⟨⟨a, hh⟩, e1, e⟩ := map_of e
  cases e
  exact h1 w h σ env a hh rl re e1 _ fun w1 u s1 r1 x1 => p w1 u s1 r1 x1
theorem ss_retN : SimS K tRetN mRetN := fun D w h σ env r rl re e p => by
  cases e
  exact p w .non (.refl _) rl (.d .non)
theorem ss_if (ht : SimT K tt mt) (h1 : SimS K t ms) (h2 : SimS K u mu) : SimS K (tIfS tt t u) (mIfS mt ms mu) := fun D w h σ env r rl re e p => by
  obtain ⟨⟨b, hh⟩, e1, e⟩ := bind_of e
  refine ht w h σ env b hh rl re e1 _ fun w1 s1 r1 => ?_
  cases b with
  | true => exact iteT (h1 D w1 hh σ env r r1 (re.up s1) e (p.mono s1))
  | false => exact iteF (h2 D w1 hh σ env r r1 (re.up s1) e (p.mono s1))
theorem Rep.int {w : Wd} {u : V} {i : Int} (h : Rep K w.ι w.C u (.d (.int i))) : u = .int i := by cases h with | d h => cases h; rfl
theorem ss_aug {i : Nat} {f : Int → Int → Int} (h1 : SimE K te me) : SimS K (tAug i te (ipI f)) (mAug i me f) := fun D w h σ env r rl re e p => by
  obtain ⟨⟨a, h0⟩, e0, e⟩ := bind_of e
  obtain ⟨⟨b, hh⟩, e1, e⟩ := bind_of e
  obtain ⟨x, e2, e⟩ := bind_of e
  obtain ⟨y, e3, e⟩ := map_of e
  cases e
  have ea := asI_of e2
  have eb := asI_of e3
  simp only at ea eb
  subst ea eb
  unfold mVar at e0
  split at e0
  · rename_i v ev
    cases e0
    obtain ⟨u, g1, g2⟩ := re.at_ i _ ev
    have := g2.int
    subst this
    exact ⟨_, g1, h1 w h σ env _ _ rl re e1 _ fun w1 y' s1 r1 x1 => ⟨x, y, rfl, x1.int, p w1 _ s1 r1 ((re.up s1).put (.d (.int _)) i)⟩⟩
  · cases e0
theorem Rel.look {w : Wd} {h : MH} (r : Rel K w h) {n : Nat} {v : V} {b : Ob} (x : Rep K w.ι w.C v (.ref n)) (e : h[n]? = some b) : ∃ a o, v = .ref a ∧ w.ι[n]? = some a ∧ w.H a = some o ∧ ObRep K w.ι w.C a o b := by
  cases x with
  | ref x => obtain ⟨o, h1, h2⟩ := r.ob n _ b x e; exact ⟨_, o, rfl, x, h1, h2⟩
theorem Rel.lst {w : Wd} {h : MH} (r : Rel K w h) {n : Nat} {v : V} {xs : List MV} (x : Rep K w.ι w.C v (.ref n)) (e : h[n]? = some (.lst xs)) : ∃ a vs, v = .ref a ∧ w.ι[n]? = some a ∧ w.H a = some (.lst vs) ∧ RepA K w.ι w.C vs xs := by
  obtain ⟨a, o, h1, h2, h3, h4⟩ := r.look x e
  cases h4 with
  | lst h4 => exact ⟨a, _, h1, h2, h3, h4⟩
theorem ss_setL (h1 : SimE K te me) (h2 : SimE K to_ mo) (h3 : SimE K ti mi) : SimS K (tAsg te (gSub to_ ti rSetL)) (mSetL me mo mi) := fun D w h σ env r rl re e p => by
  obtain ⟨⟨v, hh1⟩, e1, e⟩ := bind_of e
  obtain ⟨⟨o, hh2⟩, e2, e⟩ := bind_of e
  obtain ⟨⟨i, hh3⟩, e3, e⟩ := bind_of e
  obtain ⟨⟨n, xs⟩, e4, e⟩ := bind_of e
  obtain ⟨k, e5, e⟩ := bind_of e
  obtain ⟨j, e6, e⟩ := map_of e
  cases e
  obtain ⟨eo, ex⟩ := asL_of e4
  have ei := asI_of e5
  simp only at eo ei ex
  subst eo ei
  refine h1 w h σ env v hh1 rl re e1 _ fun w1 u1 s1 r1 x1 => h2 w1 hh1 σ env _ hh2 r1 (re.up s1) e2 _ fun w2 u2 s2 r2 x2 => h3 w2 hh2 σ env _ hh3 r2 ((re.up s1).up s2) e3 _ fun w3 u3 s3 r3 x3 => ?_
  obtain ⟨a, vs, rfl, g1, g2, g3⟩ := r3.lst (x2.up s3) ex
  have := x3.int
  subst this
  have x1' := (x1.up s2).up s3
  obtain ⟨s4, r4⟩ := write_ok (o := .lst (vs.set j u1)) r3 g1 (.lst (g3.setv x1' j))
  have ss := ((s1.trans s2).trans s3).trans s4
  exact ⟨a, vs, k, j, rfl, rfl, g2, by rw [g3.len]; exact e6, p (w3.write a _) σ ss r4 (re.up ss)⟩
theorem ss_app (h1 : SimE K to_ mo) (h2 : SimE K te me) : SimS K (tDrop (tBM K "list" rAppend to_ (tCons te tNil))) (mApp mo me) := fun D w h σ env r rl re e p => by
  obtain ⟨⟨o, hh1⟩, e1, e⟩ := bind_of e
  obtain ⟨⟨n0, xs0⟩, e0, e⟩ := bind_of e
  obtain ⟨⟨v, hh2⟩, e2, e⟩ := bind_of e
  obtain ⟨⟨n, xs⟩, e4, e⟩ := bind_of e
  simp only at e
  split at e
  · rename_i hz
    cases e
    obtain ⟨eo, ex⟩ := asL_of e4
    obtain ⟨eo0, ex0⟩ := asL_of e0
    simp only at eo ex eo0 ex0
    subst eo
    cases eo0
    refine h1 w h σ env _ hh1 rl re e1 _ fun w1 u1 s1 r1 x1 => ?_
    obtain ⟨a, vs0, rfl, g01, g02, g03⟩ := r1.lst x1 ex0
    refine ⟨.inl ⟨rfl, _, .inl (.inl g02)⟩, h2 w1 hh1 σ env v hh2 r1 (re.up s1) e2 _ fun w2 u2 s2 r2 x2 => ?_⟩
    obtain ⟨a', vs, ea, g1, g2, g3⟩ := r2.lst (x1.up s2) ex
    cases ea
    obtain ⟨s4, r4⟩ := write_ok (o := .lst (vs ++ [u2])) r2 g1 (.lst (g3.app (.cons x2 .nil)))
    have ss := (s1.trans s2).trans s4
    exact ⟨a, vs, u2, rfl, rfl, g2, by rw [g3.len]; exact Nat.lt_of_lt_of_le hz sl_100000, p (w2.write a _) σ ss r4 (re.up ss)⟩
  · cases e
end
/-! ### loops -/
open Classical in
noncomputable def srcIf {α : Type} (src : List (Nat × List MV)) (h : MH) (o : Option α) : Option α := if (∀ s ∈ src, h[s.1]? = some (.lst s.2)) then o else none
theorem srcIf_nil {α : Type} (h : MH) (o : Option α) : srcIf [] h o = o := by
  unfold srcIf
  rw [if_pos]
  intro s m; cases m
theorem srcIf_of {α : Type} {src : List (Nat × List MV)} {h : MH} {o : Option α} {a : α} (e : srcIf src h o = some a) : (∀ s ∈ src, h[s.1]? = some (.lst s.2)) ∧ o = some a := by
  unfold srcIf at e
  split at e
  · rename_i hs; exact ⟨hs, e⟩
  · cases e
abbrev MI := Env → MH → Option ((List (Nat × List MV) × List MV) × MH)
def ItS (K : PySem.W.Frag) (w : Wd) (src : List (Nat × List MV)) (items : List MV) (J : It) : Prop := ∀ w2 h2, Step w w2 → Rel K w2 h2 → (∀ s ∈ src, h2[s.1]? = some (.lst s.2)) →
  J.stop items.length w2.H ∧ ∀ (i : Nat) x, items[i]? = some x → J.go i w2.H ∧ ∀ u H', J.yld i w2.H u H' → ∃ w3, w3.H = H' ∧ Step w2 w3 ∧ Rel K w3 h2 ∧ Rep K w3.ι w3.C u x
def SimI (K : PySem.W.Frag) (wi : TI) (mi : MI) : Prop := ∀ w h σ env si h', Rel K w h → RepE K w σ env → mi env h = some (si, h') → ∀ R : It → Hp → Prop, (∀ w' J, Step w w' → Rel K w' h' → ItS K w' si.1 si.2 J → R J w'.H) → wi σ w.H R
noncomputable def mLoop (g : MG) (mb : MS) (src : List (Nat × List MV)) : List MV → Env → MH → Option MRes
  | [], env, h => srcIf src h (some (.nx env h))
  | x :: xs, env, h => srcIf src h ((g x env).bind fun env' => (mb env' h).bind fun r => match r with
    | .nx e h' => mLoop g mb src xs e h'
    | .ct e h' => mLoop g mb src xs e h'
    | .bk e h' => some (.nx e h')
    | .rt v h' => some (.rt v h'))
noncomputable def mFor (mi : MI) (g : MG) (mb : MS) : MS := fun env h => (mi env h).bind fun s => mLoop g mb s.1.1 s.1.2 env s.2
def mWLoop (mt : MT) (mb : MS) : Nat → Env → MH → Option MRes
  | 0, _, _ => none
  | n + 1, env, h => (mt env h).bind fun c => if c.1 = true then (mb env c.2).bind fun r => match r with
    | .nx e h' => mWLoop mt mb n e h'
    | .ct e h' => mWLoop mt mb n e h'
    | .bk e h' => some (.nx e h')
    | .rt v h' => some (.rt v h') else some (.nx env c.2)
def mWhile (n : Nat) (mt : MT) (mb : MS) : MS := mWLoop mt mb n
noncomputable def lcLoop (g : MG) (mt : MT) (me : ME) (src : List (Nat × List MV)) (env : Env) : List MV → MH → Option (List MV × MH)
  | [], h => srcIf src h (some ([], h))
  | x :: xs, h => srcIf src h ((g x env).bind fun env' => (mt env' h).bind fun b => if b.1 = true then (me env' b.2).bind fun r => (lcLoop g mt me src env xs r.2).map fun q => (r.1 :: q.1, q.2) else lcLoop g mt me src env xs b.2)
noncomputable def mLc (mi : MI) (g : MG) (mt : MT) (me : ME) (vs : List Nat) : MA := fun env h => (mi env h).bind fun s => (lcLoop g mt me s.1.1 (wipeM env vs) s.1.2 s.2).bind fun r => if r.1.length ≤ 100000 then some r else none
section
variable {K : PySem.W.Frag} {wi : TI} {mi : MI} {g : TG} {mg : MG} {tb : TS} {mb : MS} {te : TE} {me : ME} {tt : TT} {mt : MT} {js : List Nat}
theorem ss_for (hI : SimI K wi mi) (hg : SimG K g mg js) (hb : SimS K tb mb) : SimS K (tFor wi g tb) (mFor mi mg mb) := fun D w h σ env r rl re e p => by
  obtain ⟨⟨⟨src, items⟩, h1⟩, e1, e⟩ := bind_of e
  refine hI w h σ env _ h1 rl re e1 _ fun w1 J s1 r1 ok => ?_
  refine ⟨fun i m σ' H' => ∃ w' h' env', w'.H = H' ∧ Step w1 w' ∧ Rel K w' h' ∧ RepE K w' σ' env' ∧ i ≤ items.length ∧ m = items.length - i ∧ mLoop mg mb src (items.drop i) env' h' = some r,
    ⟨_, w1, h1, env, rfl, .refl _, r1, re.up s1, Nat.zero_le _, rfl, e⟩, ?_⟩
  rintro i m σ' H' ⟨w', h', env', rfl, s2, r2, re2, hi, rfl, el⟩
  by_cases hlt : i < items.length
  · rw [List.drop_eq_getElem_cons hlt, mLoop] at el
    obtain ⟨hs, el⟩ := srcIf_of el
    obtain ⟨env2, g1, el⟩ := bind_of el
    obtain ⟨q, g2, el⟩ := bind_of el
    obtain ⟨_, go⟩ := ok w' h' s2 r2 hs
    obtain ⟨go1, go2⟩ := go i items[i] (by simp [hlt])
    refine .inr ⟨go1, fun σ2 H2 => ∃ w' h' env', w'.H = H2 ∧ Step w1 w' ∧ Rel K w' h' ∧ RepE K w' σ2 env' ∧ mLoop mg mb src (items.drop (i + 1)) env' h' = some r, fun σ2 H2 n => ?_, fun u H2 y => ?_⟩
    · obtain ⟨w', h', env', a1, a2, a3, a4, a5⟩ := n
      exact ⟨_, by omega, w', h', env', a1, a2, a3, a4, hlt, rfl, a5⟩
    · obtain ⟨w3, rfl, s3, r3, x3⟩ := go2 u H2 y
      refine hg w3 h' σ' env' u items[i] env2 r3 (re2.up s3) x3 g1 _ fun σ3 re3 _ _ => ?_
      refine hb _ w3 h' σ3 env2 q r3 re3 g2 ?_
      cases q with
      | nx e2 hh => exact fun w4 σ4 s4 r4 re4 => ⟨w4, hh, e2, rfl, (s2.trans s3).trans s4, r4, re4, el⟩
      | ct e2 hh => exact fun w4 σ4 s4 r4 re4 => ⟨w4, hh, e2, rfl, (s2.trans s3).trans s4, r4, re4, el⟩
      | bk e2 hh => cases el; exact fun w4 σ4 s4 r4 re4 => p w4 σ4 (((s1.trans s2).trans s3).trans s4) r4 re4
      | rt e2 hh => cases el; exact fun w4 σ4 s4 r4 re4 => p w4 σ4 (((s1.trans s2).trans s3).trans s4) r4 re4
  · have ei : i = items.length := by omega
    subst ei
    rw [List.drop_length, mLoop] at el
    obtain ⟨hs, el⟩ := srcIf_of el
    cases el
    exact .inl ⟨(ok w' h' s2 r2 hs).1, p w' σ' (s1.trans s2) r2 re2⟩
theorem ss_while {n : Nat} (ht : SimT K tt mt) (hb : SimS K tb mb) : SimS K (tWhile tt tb) (mWhile n mt mb) := fun D w h σ env r rl re e p => by
  refine ⟨fun m σ' H' => ∃ w' h' env', w'.H = H' ∧ Step w w' ∧ Rel K w' h' ∧ RepE K w' σ' env' ∧ mWLoop mt mb m env' h' = some r, ⟨n, w, h, env, rfl, .refl _, rl, re, e⟩, ?_⟩
  rintro m σ' H' ⟨w', h', env', rfl, s2, r2, re2, el⟩
  cases m with
  | zero => cases el
  | succ m =>
    rw [mWLoop] at el
    obtain ⟨⟨c, h2⟩, e1, el⟩ := bind_of el
    refine ht w' h' σ' env' c h2 r2 re2 e1 _ fun w3 s3 r3 => ?_
    cases c with
    | false => cases el; exact iteF (p w3 σ' (s2.trans s3) r3 (re2.up s3))
    | true =>
      refine iteT ⟨fun σ2 H2 => ∃ w' h' env', w'.H = H2 ∧ Step w w' ∧ Rel K w' h' ∧ RepE K w' σ2 env' ∧ mWLoop mt mb m env' h' = some r, fun σ2 H2 nn => ⟨m, by omega, nn⟩, ?_⟩
      replace el : (mb env' h2).bind _ = some r := el
      obtain ⟨q, g2, el⟩ := bind_of el
      refine hb _ w3 h2 σ' env' q r3 (re2.up s3) g2 ?_
      cases q with
      | nx e2 hh => exact fun w4 σ4 s4 r4 re4 => ⟨w4, hh, e2, rfl, (s2.trans s3).trans s4, r4, re4, el⟩
      | ct e2 hh => exact fun w4 σ4 s4 r4 re4 => ⟨w4, hh, e2, rfl, (s2.trans s3).trans s4, r4, re4, el⟩
      | bk e2 hh => cases el; exact fun w4 σ4 s4 r4 re4 => p w4 σ4 ((s2.trans s3).trans s4) r4 re4
      | rt e2 hh => cases el; exact fun w4 σ4 s4 r4 re4 => p w4 σ4 ((s2.trans s3).trans s4) r4 re4
/-- a thing that nobody knows of is changed -/
theorem garb {s w : Wd} {h : MH} {p : Addr} {o : HO} (st : Step s w) (r : Rel K w h) (hs : s.H p = none) (hi : p ∉ w.ι) (hc : w.C p = none) : Step s ⟨w.ι, w.C, upd w.H p o⟩ ∧ Rel K ⟨w.ι, w.C, upd w.H p o⟩ h := by
  refine ⟨⟨st.pre, st.ex, fun a u e n => ?_, st.nw, st.nc, fun a e => ?_⟩, ⟨fun a u e => ?_, r.len, r.nd, r.ow, fun n a b e1 e2 => ?_⟩⟩
  · show upd w.H p o a = _
    rw [upd_ne (fun z => by rw [z, hs] at e; cases e)]; exact st.fr a u e n
  · show upd w.H p o a ≠ none
    rw [upd_ne (fun z => e (by rw [z]; exact hs))]; exact st.kp a e
  · replace e : w.C a = some u := e
    show upd w.H p o a = _
    rw [upd_ne (fun z => by rw [z, hc] at e; cases e)]; exact r.ch a u e
  · obtain ⟨u, g1, g2⟩ := r.ob n a b e1 e2
    refine ⟨u, ?_, g2⟩
    show upd w.H p o a = _
    rw [upd_ne (fun z => hi (by rw [← z]; exact List.mem_of_getElem? e1))]; exact g1
theorem sm_lc {vs : List Nat} (hI : SimI K wi mi) (hg : SimG K g mg vs) (ht : SimT K tt mt) (he : SimE K te me) : SimF K (tLc wi g tt te vs) (mLc mi mg mt me vs) := fun w h σ env xs hE rl re e Q q => by
  obtain ⟨⟨⟨src, items⟩, h1⟩, e1, e⟩ := bind_of e
  obtain ⟨⟨ys, hE'⟩, e2, e⟩ := bind_of e
  simp only at e
  split at e
  · rename_i hz
    cases e
    refine hI w h σ env _ h1 rl re e1 _ fun w1 J s1 r1 ok D hD => ?_
    have hD0 : w.H D = none := by
      cases z : w.H D with
      | none => rfl
      | some o => exact absurd hD (s1.kp D (by rw [z]; exact fun q => nomatch q))
    refine ⟨fun i m H' => ∃ w' h' acc accM rest, w'.H = H' ∧ H' D = some (.lst acc) ∧ D ∉ w'.ι ∧ w'.C D = none ∧ Step w1 w' ∧ Rel K w' h' ∧ RepA K w'.ι w'.C acc accM ∧ accM ++ rest = xs ∧ i ≤ items.length ∧ m = items.length - i ∧
      lcLoop mg mt me src (wipeM env vs) (items.drop i) h' = some (rest, hE), ?_, ?_⟩
    · obtain ⟨s2, r2⟩ := garb (o := .lst []) (Step.refl w1) r1 hD (r1.notin hD) (r1.cnone hD)
      exact ⟨_, ⟨w1.ι, w1.C, upd w1.H D (.lst [])⟩, h1, [], [], _, rfl, upd_same, r1.notin hD, r1.cnone hD, s2, r2, .nil, rfl, Nat.zero_le _, rfl, e2⟩
    · rintro i m H' ⟨w', h', acc, accM, rest, rfl, hA, hi, hc, s2, r2, ra, er, hl, rfl, el⟩
      by_cases hlt : i < items.length
      · rw [List.drop_eq_getElem_cons hlt, lcLoop] at el
        obtain ⟨hs, el⟩ := srcIf_of el
        obtain ⟨env2, g1, el⟩ := bind_of el
        obtain ⟨⟨b, h2⟩, g2, el⟩ := bind_of el
        obtain ⟨_, go⟩ := ok w' h' s2 r2 hs
        obtain ⟨go1, go2⟩ := go i items[i] (by simp [hlt])
        refine .inr ⟨go1, fun H2 => ∃ w' h' acc accM rest, w'.H = H2 ∧ H2 D = some (.lst acc) ∧ D ∉ w'.ι ∧ w'.C D = none ∧ Step w1 w' ∧ Rel K w' h' ∧ RepA K w'.ι w'.C acc accM ∧ accM ++ rest = xs ∧ lcLoop mg mt me src (wipeM env vs) (items.drop (i + 1)) h' = some (rest, hE), fun H2 n => ?_, fun u H2 y => ?_⟩
        · obtain ⟨w', h', acc, accM, rest, a1, a2, a3, a4, a5, a6, a7, a8, a9⟩ := n
          exact ⟨_, by omega, w', h', acc, accM, rest, a1, a2, a3, a4, a5, a6, a7, a8, hlt, rfl, a9⟩
        · obtain ⟨w3, rfl, s3, r3, x3⟩ := go2 u H2 y
          have stay : ∀ {wa wb : Wd}, Step wa wb → wa.H D = some (.lst acc) → D ∉ wa.ι → wa.C D = none → wb.H D = some (.lst acc) ∧ D ∉ wb.ι ∧ wb.C D = none := fun {wa wb} s a b c => by
            refine ⟨s.fr D _ a b, fun m => ?_, s.nc D (by rw [a]; exact fun q => nomatch q) c⟩
            rcases s.nw D m with z | z
            · exact b z
            · rw [a] at z; cases z
          obtain ⟨d1, d2, d3⟩ := stay s3 hA hi hc
          have rw0 : RepE K w3 (wipe σ vs) (wipeM env vs) := (((re.up s1).up s2).up s3).wipe vs
          refine hg w3 h' _ _ u items[i] env2 r3 rw0 x3 g1 _ fun σ3 re3 l3 k3 => ⟨?_, ?_⟩
          · rw [show wipe σ3 vs = wipe (wipe σ vs) vs from wipe_eq l3 k3, wipe_wipe]
          · refine ht w3 h' σ3 env2 b h2 r3 re3 g2 _ fun w4 s4 r4 => ?_
            obtain ⟨d4, d5, d6⟩ := stay s4 d1 d2 d3
            cases b with
            | true =>
              replace el : (me env2 h2).bind (fun r => (lcLoop mg mt me src (wipeM env vs) (items.drop (i + 1)) r.2).map fun q => (r.1 :: q.1, q.2)) = some (rest, hE) := el
              obtain ⟨⟨v, h3⟩, g3, el⟩ := bind_of el
              obtain ⟨⟨rest', hx⟩, g4, el⟩ := map_of el
              cases el
              refine iteT (he w4 h2 σ3 env2 v h3 r4 (re3.up s4) g3 _ fun w5 uu s5 r5 x5 => ?_)
              obtain ⟨d7, d8, d9⟩ := stay s5 d4 d5 d6
              have ss := ((s2.trans s3).trans s4).trans s5
              have ra5 := ((ra.up s3).up s4).up s5
              obtain ⟨s6, r6⟩ := garb (o := .lst (acc ++ [uu])) ss r5 hD d8 d9
              refine ⟨acc, d7, ?_, ⟨w5.ι, w5.C, upd w5.H D (.lst (acc ++ [uu]))⟩, h3, acc ++ [uu], accM ++ [v], rest', rfl, upd_same, d8, d9, s6, r6, ra5.app (.cons x5 .nil), ?_, g4⟩
              · rw [ra.len]
                refine Nat.lt_of_lt_of_le (?_ : accM.length < 100000) sl_100000
                have hz' : xs.length ≤ 100000 := hz
                rw [← er] at hz'
                simp at hz'
                omega
              · rw [← er]; simp
            | false =>
              exact iteF ⟨w4, h2, acc, accM, rest, rfl, d4, d5, d6, (s2.trans s3).trans s4, r4, (ra.up s3).up s4, er, el⟩
      · have ei : i = items.length := by omega
        subst ei
        rw [List.drop_length, lcLoop] at el
        obtain ⟨hs, el⟩ := srcIf_of el
        cases el
        rw [List.append_nil] at er
        subst er
        exact .inl ⟨(ok w' _ s2 r2 hs).1, q w' D acc (s1.trans s2) r2 hD0 hA hi hc ra⟩
  · cases e
end
end M
namespace M
open PySem PySem.Spec PyProof.Rows L2
open Evl (Ex ex_rd ex_l ex_t rMax2)
open G (dpx dpax dpa_len dpa_get dpa_app dpa_set ex_none wipe_get wipe_eq wipe_wipe RD UD CD Ret)
/-! ### from data to data -/
mutual
def noL : PyData → Bool
  | .list _ => false
  | .dict _ => false
  | .tuple xs => noLA xs
  | _ => true
def noLA : List PyData → Bool
  | [] => true
  | x :: xs => noL x && noLA xs
end
section
variable {K : PySem.W.Frag} {w : Wd} {h : MH}
mutual
theorem dp_sub {C C' : Hp} (e : ∀ a xs, Rd C a (.tup xs) → Rd C' a (.tup xs)) : ∀ {v : V} {p : PyData}, noL p = true → Dp K C v p → Dp K C' v p
  | _, _, _, .non => .non
  | _, _, _, .bl b => .bl b
  | _, _, _, .int i => .int i
  | _, _, _, .str x => .str x
  | _, _, n, .lst h a => by rw [noL] at n; cases n
  | _, _, n, .tup h a => .tup (h.elim (fun q => .inl (e _ _ q)) .inr) (dpa_sub e (by rw [noL] at n; exact n) a)
theorem dpa_sub {C C' : Hp} (e : ∀ a xs, Rd C a (.tup xs) → Rd C' a (.tup xs)) : ∀ {vs : List V} {ps : List PyData}, noLA ps = true → DpAll K C vs ps → DpAll K C' vs ps
  | _, _, _, .nil => .nil
  | _, _, n, .cons h t => by
    rw [noLA, Bool.and_eq_true] at n
    exact .cons (dp_sub e n.1 h) (dpa_sub e n.2 t)
end
/-- behind a computation that saw only data -/
theorem step_C {C' H' : Hp} (r : Rel K w h) (e1 : Ex w.C C') (e2 : Ex C' H') (e3 : Ex w.H H') (fr : ∀ a, w.H a ≠ none → w.C a = none → C' a = none) : Step w ⟨w.ι, C', H'⟩ ∧ Rel K ⟨w.ι, C', H'⟩ h := by
  have hown : ∀ a ∈ w.ι, w.H a ≠ none := fun a m => by
    obtain ⟨n, hn, e⟩ := List.getElem_of_mem m
    obtain ⟨o, q, _⟩ := r.ob n a (h[n]'(by rw [← r.len]; exact hn)) (by rw [← e]; simp) (by simp)
    rw [q]; exact fun z => nomatch z
  refine ⟨⟨List.prefix_refl _, e1, fun a o q _ => e3 a o q, fun a m => .inl m, fr, fun a q => ?_⟩, ⟨e2, r.len, r.nd, fun a m => fr a (hown a m) (r.ow a m), fun n a b q1 q2 => ?_⟩⟩
  · cases z : w.H a with
    | none => exact absurd z q
    | some o =>
      show H' a ≠ none
      rw [e3 a o z]; exact fun q => nomatch q
  · obtain ⟨o, g1, g2⟩ := r.ob n a b q1 q2
    exact ⟨o, e3 a o g1, g2.mono (List.prefix_refl _) e1⟩
/-- behind a computation that saw all that is to be seen -/
theorem step_vis {C' H' : Hp} (r : Rel K w h) (e1 : Ex (vis w) C') (e2 : Ex C' H') (e3 : Ex w.H H') (fr : ∀ a, w.H a ≠ none → vis w a = none → C' a = none) :
    ∃ Cn : Hp, Step w ⟨w.ι, Cn, H'⟩ ∧ Rel K ⟨w.ι, Cn, H'⟩ h ∧ Ex Cn C' ∧ ∀ a xs, Rd C' a (.tup xs) → Rd Cn a (.tup xs) := by
  have f1 : ∀ a, w.H a ≠ none → w.C a = none → (fun a => if a ∈ w.ι then none else C' a) a = none := fun a q c => by
    show (if a ∈ w.ι then none else C' a) = none
    by_cases z : a ∈ w.ι
    · rw [if_pos z]
    · rw [if_neg z]
      refine fr a q ?_
      unfold vis
      rw [if_neg]
      exact fun y => y.elim (fun y => y c) z
  have f2 : Ex w.C (fun a => if a ∈ w.ι then none else C' a) := fun a o q => by
    show (if a ∈ w.ι then none else C' a) = some o
    rw [if_neg (fun z => by rw [r.ow a z] at q; cases q)]
    exact e1 a o (vis_C r a o q)
  have f3 : Ex (fun a => if a ∈ w.ι then none else C' a) C' := fun a o q => by
    replace q : (if a ∈ w.ι then none else C' a) = some o := q
    by_cases z : a ∈ w.ι
    · rw [if_pos z] at q; cases q
    · rw [if_neg z] at q; exact q
  obtain ⟨s, r'⟩ := step_C r f2 (f3.trans e2) e3 f1
  refine ⟨_, s, r', f3, fun a xs q => ?_⟩
  have ne : a ∉ w.ι := fun m => by
    obtain ⟨n, hn, e⟩ := List.getElem_of_mem m
    obtain ⟨o, q1, q2⟩ := r.ob n a (h[n]'(by rw [← r.len]; exact hn)) (by rw [← e]; simp) (by simp)
    have := e1 a o (by rw [vis_own r m]; exact q1)
    rcases q with q | ⟨o', q⟩
    · rw [this] at q; cases q; cases q2
    · rw [this] at q; cases q; cases q2
  have e : (fun a => if a ∈ w.ι then none else C' a) a = C' a := if_neg ne
  rcases q with q | ⟨o', q⟩
  · exact .inl (e.trans q)
  · exact .inr ⟨o', e.trans q⟩
theorem ret_dat {H C H' : Hp} {u : V} {r : PyData} (t : Ret K H C (.dat r) u H') : ∃ C', Ex C C' ∧ Ex C' H' ∧ Ex H H' ∧ (∀ a, H a ≠ none → C a = none → C' a = none) ∧ Dp K C' u r := by
  obtain ⟨C', ps, a1, a2, a3, a4, a5, _⟩ := t
  cases a5 with
  | dat d _ => exact ⟨C', a1, a2, a3, a4, d⟩
theorem ret_own {H C H' : Hp} {u : V} {ds : List PyData} {z : Option Addr} (t : Ret K H C (.ownq z ds) u H') : ∃ C' p vs, u = .ref p ∧ H' p = some (.lst vs) ∧ DpAll K C' vs ds ∧ C' p = none ∧ H p = none ∧ Ex C C' ∧ Ex C' H' ∧ Ex H H' ∧ (∀ a, H a ≠ none → C a = none → C' a = none) := by
  obtain ⟨C', ps, a1, a2, a3, a4, a5, a6⟩ := t
  cases a5 with
  | own y q d t =>
    cases t
    obtain ⟨b1, b2⟩ := a6 _ List.mem_cons_self
    exact ⟨C', _, _, rfl, q, d, b1, b2, a1, a2, a3, a4⟩
def liftD (f : List PyData → Option PyData) : MCa := fun xs h => match allD xs with
  | some ds => (f ds).map fun r => (.d r, h)
  | none => (mapO (reify 6 h) xs).bind fun ds => (f ds).bind fun r => if noL r = true then some (.d r, h) else none
theorem liftD_d (f : List PyData → Option PyData) (ds : List PyData) (h : MH) : liftD f (ds.map .d) h = (f ds).map fun r => (.d r, h) := by unfold liftD; rw [allD_map]
theorem lift_ok {op : List V → Hp → VK → Prop} {f : List PyData → Option PyData} (hf : ∀ C H vs ds r, Ex C H → DpAll K C vs ds → f ds = some r → ∀ Q : VK, (∀ v H', Ret K H C (.dat r) v H' → Q v H') → op vs H Q) : SimC K op (liftD f) := fun w h us xs v h' rl ra e Q q => by
  unfold liftD at e
  split at e
  · rename_i ds ed
    obtain ⟨r, e1, e⟩ := map_of e
    cases e
    rw [allD_eq ed] at ra
    refine hf w.C w.H us ds r rl.ch ra.toD e1 Q fun u H' t => ?_
    obtain ⟨C', a1, a2, a3, a4, a5⟩ := ret_dat t
    obtain ⟨s, r'⟩ := step_C rl a1 a2 a3 a4
    exact q ⟨w.ι, C', H'⟩ u s r' (.d a5)
  · obtain ⟨ds, e1, e⟩ := bind_of e
    obtain ⟨r, e2, e⟩ := bind_of e
    split at e
    · rename_i hn
      cases e
      refine hf (vis w) w.H us ds r vis_ex (reifyA_ok rl 6 ra e1) e2 Q fun u H' t => ?_
      obtain ⟨C', a1, a2, a3, a4, a5⟩ := ret_dat t
      obtain ⟨Cn, s, r', _, k⟩ := step_vis rl a1 a2 a3 a4
      exact q ⟨w.ι, Cn, H'⟩ u s r' (.d (dp_sub k hn a5))
    · cases e
def liftF (f : List PyData → Option (List PyData)) : List MV → MH → Option (List MV × MH) := fun xs h => match allD xs with
  | some ds => (f ds).map fun r => (r.map .d, h)
  | none => (mapO (reify 6 h) xs).bind fun ds => (f ds).bind fun r => if noLA r = true then some (r.map .d, h) else none
theorem liftF_d (f : List PyData → Option (List PyData)) (ds : List PyData) (h : MH) : liftF f (ds.map .d) h = (f ds).map fun r => (r.map .d, h) := by unfold liftF; rw [allD_map]
theorem liftF_ok {op : List V → Hp → VK → Prop} {f : List PyData → Option (List PyData)} (hf : ∀ C H vs ds r, Ex C H → DpAll K C vs ds → f ds = some r → ∀ Q : VK, (∀ v H', Ret K H C (.own r) v H' → Q v H') → op vs H Q) : SimCF K op (liftF f) := fun w h us xs v h' rl ra e Q q => by
  unfold liftF at e
  split at e
  · rename_i ds ed
    obtain ⟨r, e1, e⟩ := map_of e
    cases e
    rw [allD_eq ed] at ra
    refine hf w.C w.H us ds r rl.ch ra.toD e1 Q fun u H' t => ?_
    obtain ⟨C', p, vs, rfl, b1, b2, b3, b4, a1, a2, a3, a4⟩ := ret_own t
    obtain ⟨s, r'⟩ := step_C rl a1 a2 a3 a4
    exact q ⟨w.ι, C', H'⟩ p vs s r' b4 b1 (rl.notin b4) b3 (RepA.ofD b2)
  · obtain ⟨ds, e1, e⟩ := bind_of e
    obtain ⟨r, e2, e⟩ := bind_of e
    split at e
    · rename_i hn
      cases e
      refine hf (vis w) w.H us ds r vis_ex (reifyA_ok rl 6 ra e1) e2 Q fun u H' t => ?_
      obtain ⟨C', p, vs, rfl, b1, b2, b3, b4, a1, a2, a3, a4⟩ := ret_own t
      obtain ⟨Cn, s, r', k0, k⟩ := step_vis rl a1 a2 a3 a4
      exact q ⟨w.ι, Cn, H'⟩ p vs s r' b4 b1 (rl.notin b4) (ex_none k0 b3) (RepA.ofD (dpa_sub k hn b2))
    · cases e
end
/-! ### defs -/
def spQ (K : PySem.W.Frag) (f : List PyData → Option PyData) : Sp := fun vs H Q _ => ∃ C ds r, Ex C H ∧ DpAll K C vs ds ∧ f ds = some r ∧ ∀ v H', Ret K H C (.dat r) v H' → Q v H'
def spH (K : PySem.W.Frag) (f : MCa) : Sp := fun vs H Q _ => ∃ w h xs v h', w.H = H ∧ Rel K w h ∧ RepA K w.ι w.C vs xs ∧ f xs h = some (v, h') ∧ ∀ w' u, Step w w' → Rel K w' h' → Rep K w'.ι w'.C u v → Q u w'.H
theorem sm_callQ {K : PySem.W.Frag} {f : List PyData → Option PyData} {E : XK} {ta : TA} {ma : MA} (ha : SimA K ta ma) : SimE K (tCall (spQ K f) [] E ta) (mCB (liftD f) ma) := by
  have : SimC K (fun vs H Q => spQ K f (vs ++ []) H Q E) (liftD f) := lift_ok fun C H vs ds r e d hf Q q => by
    show spQ K f (vs ++ []) H Q E
    rw [List.append_nil]
    exact ⟨C, ds, r, e, d, hf, q⟩
  exact sm_cb ha this
theorem sm_callH {K : PySem.W.Frag} {f : MCa} {E : XK} {ta : TA} {ma : MA} (ha : SimA K ta ma) : SimE K (tCall (spH K f) [] E ta) (mCB f ma) := by
  have : SimC K (fun vs H Q => spH K f (vs ++ []) H Q E) f := fun w h us xs v h' rl ra e Q q => by
    show spH K f (us ++ []) w.H Q E
    rw [List.append_nil]
    exact ⟨w, h, xs, v, h', rfl, rl, ra, e, q⟩
  exact sm_cb ha this
def resM : MRes → Option (MV × MH)
  | .rt v h => some (v, h)
  | .nx _ h => some (.d .none, h)
  | _ => none
def toHeap (np N : Nat) (ms : MS) : MCa := fun xs h => if xs.length = np then (ms (xs.map some ++ List.replicate (N - np) none) h).bind resM else none
def toPure (np N : Nat) (ms : MS) : List PyData → Option PyData := fun ds => (toHeap np N ms (ds.map .d) []).bind fun r => reify 6 r.2 r.1
section
variable {P : Program} {w : World} {K : PySem.W.Frag} {mg : Str → Option Value} {base : Heap} {x qual : Str} {st : Stmt} {f : Addr} {fd : FuncData} {N ps : List Str} {k : Nat} {tr : TS} {ms : MS} {np nN : Nat}
theorem repE_start {wd : Wd} : ∀ {vs : List V} {xs : List MV} (n : Nat), RepA K wd.ι wd.C vs xs → RepE K wd (vs.map some ++ List.replicate n none) (xs.map some ++ List.replicate n none) := by
  intro vs xs n ra
  have hl := ra.len
  refine ⟨by simp [hl], fun i y e => ?_⟩
  by_cases hi : i < xs.length
  · rw [List.getElem?_append_left (by simpa using hi), List.getElem?_map] at e
    obtain ⟨z, e1, e2⟩ := Option.map_eq_some_iff.mp e
    cases e2
    obtain ⟨v, g1, g2⟩ := ra.get e1
    refine ⟨v, ?_, g2⟩
    rw [List.getElem?_append_left (by simpa [hl] using hi), List.getElem?_map, g1]; rfl
  · rw [List.getElem?_append_right (by simpa using hi)] at e
    rw [List.getElem?_replicate] at e
    split at e <;> cases e
theorem run_ok (hs : SimS K tr ms) {wd : Wd} {h h' : MH} {vs : List V} {xs : List MV} {v : MV} {Q : VK} (rl : Rel K wd h) (ra : RepA K wd.ι wd.C vs xs) (e : toHeap np nN ms xs h = some (v, h')) (hN : N.length = nN)
    (q : ∀ w' u, Step wd w' → Rel K w' h' → Rep K w'.ι w'.C u v → Q u w'.H) : tr { nx := fun _ H' => Q .non H', rt := Q } (L2.start N vs) wd.H := by
  unfold toHeap at e
  split at e
  · rename_i hl
    obtain ⟨r, e1, e⟩ := bind_of e
    have re := repE_start (nN - np) ra
    have es : L2.start N vs = vs.map some ++ List.replicate (nN - np) none := by
      unfold L2.start
      rw [hN, ra.len, hl]
    rw [es]
    refine hs _ wd h _ _ r rl re e1 ?_
    cases r with
    | rt v' h2 => cases e; exact fun w' u s r x => q w' u s r x
    | nx v' h2 => cases e; exact fun w' σ' s r x => q w' .non s r (.d .non)
    | bk v' h2 => cases e
    | ct v' h2 => cases e
  · cases e
theorem toHeap_len {xs : List MV} {h : MH} {r : MV × MH} (e : toHeap np nN ms xs h = some r) : xs.length = np := by
  unfold toHeap at e
  split at e
  · assumption
  · cases e
theorem fn_okH (F : Fun K x qual st f fd) (S : FnScope N ps (defScope st)) (hnp : ps.length = np) (hN : N.length = nN)
    (pst : ∀ (cdv : Value) (A : Around) (outer : List PySem.Env) (s : Shared) (H : Hp) (E : XK), Room k (A.deeper (envOfC qual (defScope st) s.heap.objs.size f cdv)) → PSs (cxOf CX0 P w K mg base N qual (defScope st) f cdv A outer s H E).nox (defBody st) tr)
    (hs : SimS K tr ms) : FnOk P w K mg base CX0 (k + 1) f fd ps (spH K (toHeap np nN ms)) := by
  refine F.ok S (fun vs H Q E h => ?_) (fun cdv A outer s H vs Q E hr h => ⟨_, pst cdv A outer s H E hr, ?_⟩)
  · obtain ⟨wd, h, xs, v, h', _, _, ra, e, _⟩ := h
    rw [ra.len, toHeap_len e, hnp]
  · obtain ⟨wd, h, xs, v, h', rfl, rl, ra, e, q⟩ := h
    exact run_ok hs rl ra e hN q
theorem rel_nil {C H : Hp} (e : Ex C H) : Rel K ⟨[], C, H⟩ [] := ⟨e, rfl, List.nodup_nil, (fun a m => by cases m), (fun n a b q => by simp at q)⟩
theorem fn_okQ (F : Fun K x qual st f fd) (S : FnScope N ps (defScope st)) (hnp : ps.length = np) (hN : N.length = nN)
    (pst : ∀ (cdv : Value) (A : Around) (outer : List PySem.Env) (s : Shared) (H : Hp) (E : XK), Room k (A.deeper (envOfC qual (defScope st) s.heap.objs.size f cdv)) → PSs (cxOf CX0 P w K mg base N qual (defScope st) f cdv A outer s H E).nox (defBody st) tr)
    (hs : SimS K tr ms) : FnOk P w K mg base CX0 (k + 1) f fd ps (spQ K (toPure np nN ms)) := by
  refine F.ok S (fun vs H Q E h => ?_) (fun cdv A outer s H vs Q E hr h => ⟨_, pst cdv A outer s H E hr, ?_⟩)
  · obtain ⟨C, ds, r, _, dv, e, _⟩ := h
    obtain ⟨q, e1, e2⟩ := bind_of e
    have := toHeap_len e1
    rw [List.length_map] at this
    rw [dpa_len dv, this, hnp]
  · obtain ⟨C, ds, r, ex, dv, e, q⟩ := h
    obtain ⟨⟨v, h'⟩, e1, e2⟩ := bind_of e
    refine run_ok (wd := ⟨[], C, H⟩) hs (rel_nil ex) (RepA.ofD dv) e1 hN fun w' u s rl x => ?_
    have hd := reify_ok rl 6 x e2
    have frv : ∀ a, H a ≠ none → C a = none → vis w' a = none := fun a n c => by
      unfold vis
      rw [if_neg]
      rintro (z | z)
      · exact z (s.nc a n c)
      · rcases s.nw a z with m | m
        · cases m
        · exact n m
    exact q u w'.H ⟨vis w', [], s.ex.trans (vis_C rl), vis_ex, fun a o e => s.fr a o e (fun m => by cases m), frv, .dat hd .nil, fun p m => by cases m⟩
end
end M
namespace L2
open PySem PySem.Spec PyProof.Rows
section
variable {X : Cx}
/-! ### the order of data -/
def rCmpD (K : PySem.W.Frag) (f : PyData → PyData → Bool) : R2 := fun x y H Q => ∃ d e, Dp K H x d ∧ Dp K H y e ∧ PySem.W.alike d e = true ∧ d ≠ .none ∧ min d.depth e.depth ≤ 60 ∧ Q (.bl (f d e)) H
def fLt (d e : PyData) : Bool := PySem.W.dataLt d e
def fGt (d e : PyData) : Bool := PySem.W.dataLt e d
def fLe (d e : PyData) : Bool := !PySem.W.dataLt e d
def fGe (d e : PyData) : Bool := !PySem.W.dataLt d e
theorem op_ltDa (hu : X.A.units + 64 < cLine) : OpR X (compareOp .Lt) (rCmpD X.K fLt) := fun pins s σ H x y v u Q I rx ry ⟨d, e, hd, he, ha, hn, hz, q⟩ => by
  obtain ⟨as, r1⟩ := Dp.reads I d x v hd rx
  obtain ⟨bs, r2⟩ := Dp.reads I e y u he ry
  exact PySem.W.lt_data r1 r2 ha hn (by omega) ⟨.bl _, H, I, rfl, q⟩
theorem op_gtDa (hu : X.A.units + 64 < cLine) : OpR X (compareOp .Gt) (rCmpD X.K fGt) := fun pins s σ H x y v u Q I rx ry ⟨d, e, hd, he, ha, hn, hz, q⟩ => by
  obtain ⟨as, r1⟩ := Dp.reads I d x v hd rx
  obtain ⟨bs, r2⟩ := Dp.reads I e y u he ry
  exact PySem.W.gt_data r1 r2 ha hn (by omega) ⟨.bl _, H, I, rfl, q⟩
theorem op_leDa (hu : X.A.units + 64 < cLine) : OpR X (compareOp .LtE) (rCmpD X.K fLe) := fun pins s σ H x y v u Q I rx ry ⟨d, e, hd, he, ha, hn, hz, q⟩ => by
  obtain ⟨as, r1⟩ := Dp.reads I d x v hd rx
  obtain ⟨bs, r2⟩ := Dp.reads I e y u he ry
  exact PySem.W.le_data r1 r2 ha hn (by omega) ⟨.bl _, H, I, rfl, q⟩
theorem op_geDa (hu : X.A.units + 64 < cLine) : OpR X (compareOp .GtE) (rCmpD X.K fGe) := fun pins s σ H x y v u Q I rx ry ⟨d, e, hd, he, ha, hn, hz, q⟩ => by
  obtain ⟨as, r1⟩ := Dp.reads I d x v hd rx
  obtain ⟨bs, r2⟩ := Dp.reads I e y u he ry
  exact PySem.W.ge_data r1 r2 ha hn (by omega) ⟨.bl _, H, I, rfl, q⟩
theorem hu65 {A : Around} {k : Nat} (hr : Room k A) : A.units + 65 < cLine := by have := hr.un; omega
/-- dict(d), a copy -/
def rDictCp : List V → Hp → VK → Prop := fun xs H Q => ∃ (a : Addr) (kvs : List (Key × V)), xs = [.ref a] ∧ Rd H a (.dK kvs) ∧ ∀ p, H p = none → Q (.ref p) (upd H p (.dK kvs))
theorem cr_dictCp : CallR X (.type "dict") rDictCp := by
  intro pins s σ H xs us Q I r q
  obtain ⟨a, kvs, ex, hd, q⟩ := q
  subst ex
  obtain ⟨u, eu, rx⟩ := vals1 r
  subst eu
  cases rx
  exact d_copyOf I hd fun p s' hp I' => ⟨.ref p, _, I', rfl, q p hp⟩
end
end L2
namespace M
open PySem PySem.Spec PyProof.Rows L2
open Evl (Ex ex_rd ex_l ex_t rMax2)
open G (dpx dpax dpa_len dpa_get dpa_app dpa_set ex_none wipe_get wipe_eq wipe_wipe RD UD CD Ret rMin2 rInt1 rAbs rTupOf rListOf)
section
variable {K : PySem.W.Frag} {w : Wd} {h : MH}
/-! ### numbers -/
def mI (g : Int → Int → Int) : MO2 := fun a b h => (asI a).bind fun i => (asI b).map fun j => (.d (.int (g i j)), h)
def mIB (g : Int → Int → Bool) : MO2 := fun a b h => (asI a).bind fun i => (asI b).map fun j => (.d (.bool (g i j)), h)
open Classical in
noncomputable def mIC (c : Int → Int → Prop) (g : Int → Int → Int) : MO2 := fun a b h => (asI a).bind fun i => (asI b).bind fun j => if c i j then some (.d (.int (g i j)), h) else none
theorem asI_rep {v : V} {x : MV} {i : Int} (r : Rep K w.ι w.C v x) (e : asI x = some i) : v = .int i := by
  rw [asI_of e] at r
  exact r.int
theorem sr_int {g : Int → Int → Int} : SimR K (rI0 fun i j => .int (g i j)) (mI g) := fun w h x y a b v h' rl rx ry e Q q => by
  obtain ⟨i, e1, e⟩ := bind_of e
  obtain ⟨j, e2, e⟩ := map_of e
  cases e
  exact ⟨i, j, asI_rep rx e1, asI_rep ry e2, q w _ (.refl _) rl (.d (.int _))⟩
theorem sr_bl {g : Int → Int → Bool} : SimR K (rI0 fun i j => .bl (g i j)) (mIB g) := fun w h x y a b v h' rl rx ry e Q q => by
  obtain ⟨i, e1, e⟩ := bind_of e
  obtain ⟨j, e2, e⟩ := map_of e
  cases e
  exact ⟨i, j, asI_rep rx e1, asI_rep ry e2, q w _ (.refl _) rl (.d (.bl _))⟩
theorem sr_intC {c : Int → Int → Prop} {g : Int → Int → Int} : SimR K (rI c fun i j => .int (g i j)) (mIC c g) := fun w h x y a b v h' rl rx ry e Q q => by
  obtain ⟨i, e1, e⟩ := bind_of e
  obtain ⟨j, e2, e⟩ := bind_of e
  split at e
  · rename_i hc
    cases e
    exact ⟨i, j, asI_rep rx e1, asI_rep ry e2, hc, q w _ (.refl _) rl (.d (.int _))⟩
  · cases e
def mNeg : MO1 := fun a h => (asI a).map fun i => (.d (.int (-i)), h)
theorem su_neg : SimU K (rU fun i => .int (-i)) mNeg := fun w h x a v h' rl rx e Q q => by
  obtain ⟨i, e1, e⟩ := map_of e
  cases e
  exact ⟨i, asI_rep rx e1, q w _ (.refl _) rl (.d (.int _))⟩
/-! ### what lies in a row -/
def itemsOf (h : MH) : MV → Option (List MV)
  | .d (.list ds) => some (ds.map .d)
  | .d (.tuple ds) => some (ds.map .d)
  | .tup xs => some xs
  | .ref n => (asL h (.ref n)).map (·.2)
  | _ => none
theorem items_ok (r : Rel K w h) {v : V} {x : MV} {xs : List MV} (rx : Rep K w.ι w.C v x) (e : itemsOf h x = some xs) : ∃ p vs, v = .ref p ∧ (SqL K w.H p vs ∨ SqT K w.H p vs) ∧ RepA K w.ι w.C vs xs := by
  cases x with
  | d p =>
    cases p with
    | list ds =>
      cases e
      cases rx with
      | d rx => cases rx with
        | lst hq ha => exact ⟨_, _, rfl, .inl (ex_l r.ch hq), RepA.ofD ha⟩
    | tuple ds =>
      cases e
      cases rx with
      | d rx => cases rx with
        | tup hq ha => exact ⟨_, _, rfl, .inr (ex_t r.ch hq), RepA.ofD ha⟩
    | none => cases e
    | bool _ => cases e
    | int _ => cases e
    | str _ => cases e
    | dict _ => cases e
  | tup ys =>
    cases e
    cases rx with
    | tup hq ha => exact ⟨_, _, rfl, .inr (ex_t r.ch (sqt hq)), ha⟩
  | ref n =>
    obtain ⟨⟨m, ys⟩, e1, e2⟩ := map_of e
    cases e2
    obtain ⟨eo, ex⟩ := asL_of e1
    cases eo
    obtain ⟨a, vs, h1, h2, h3, h4⟩ := r.lst rx ex
    exact ⟨a, vs, h1, .inl (.inl (.inl h3)), h4⟩
def isT : MV → Bool
  | .d (.tuple _) => true
  | .tup _ => true
  | _ => false
theorem items_T (r : Rel K w h) {v : V} {x : MV} {xs : List MV} (rx : Rep K w.ι w.C v x) (e : itemsOf h x = some xs) (t : isT x = true) : ∃ p vs, v = .ref p ∧ SqT K w.C p vs ∧ RepA K w.ι w.C vs xs := by
  cases x with
  | d p =>
    cases p with
    | tuple ds =>
      cases e
      cases rx with
      | d rx => cases rx with
        | tup hq ha => exact ⟨_, _, rfl, hq, RepA.ofD ha⟩
    | _ => cases t
  | tup ys =>
    cases e
    cases rx with
    | tup hq ha => exact ⟨_, _, rfl, sqt hq, ha⟩
  | ref n => cases t
theorem items_L (r : Rel K w h) {v : V} {x : MV} {xs : List MV} (rx : Rep K w.ι w.C v x) (e : itemsOf h x = some xs) (t : isT x = false) : ∃ p vs, v = .ref p ∧ SqL K w.H p vs ∧ RepA K w.ι w.C vs xs := by
  cases x with
  | d p =>
    cases p with
    | list ds =>
      cases e
      cases rx with
      | d rx => cases rx with
        | lst hq ha => exact ⟨_, _, rfl, ex_l r.ch hq, RepA.ofD ha⟩
    | tuple ds => cases t
    | none => cases e
    | bool _ => cases e
    | int _ => cases e
    | str _ => cases e
    | dict _ => cases e
  | tup ys => cases t
  | ref n =>
    obtain ⟨⟨m, ys⟩, e1, e2⟩ := map_of e
    cases e2
    obtain ⟨eo, ex⟩ := asL_of e1
    cases eo
    obtain ⟨a, vs, h1, h2, h3, h4⟩ := r.lst rx ex
    exact ⟨a, vs, h1, .inl (.inl h3), h4⟩
theorem atI_rep {ι : List Addr} {C : Hp} {vs : List V} {xs : List MV} {i : Int} {x : MV} (r : RepA K ι C vs xs) (a : atI xs i = some x) : ∃ v, atI vs i = some v ∧ Rep K ι C v x := by
  unfold atI at a ⊢
  rw [r.len]
  cases hx : ixN xs.length i with
  | none => rw [hx] at a; cases a
  | some j =>
    rw [hx] at a
    exact r.get a
def mIx : MO2 := fun a b h => (itemsOf h a).bind fun xs => (asI b).bind fun i => (atI xs i).map fun v => (v, h)
theorem sr_ix : SimR K (rIx K) mIx := fun w h x y a b v h' rl rx ry e Q q => by
  obtain ⟨xs, e1, e⟩ := bind_of e
  obtain ⟨i, e2, e⟩ := bind_of e
  obtain ⟨z, e3, e⟩ := map_of e
  cases e
  have hi := asI_rep ry e2
  subst hi
  obtain ⟨p, vs, rfl, hs, ra⟩ := items_ok rl rx e1
  obtain ⟨u, g1, g2⟩ := atI_rep ra e3
  rcases hs with hs | hs
  · exact .inl ⟨p, vs, i, u, rfl, rfl, hs, g1, q w u (.refl _) rl g2⟩
  · exact .inr (.inl ⟨p, vs, i, u, rfl, rfl, hs, g1, q w u (.refl _) rl g2⟩)
def arg1 : List MV → Option MV
  | [x] => some x
  | _ => none
theorem arg1_of {xs : List MV} {x : MV} (e : arg1 xs = some x) : xs = [x] := by
  unfold arg1 at e
  split at e
  · cases e; rfl
  · cases e
theorem RepA.one {ι : List Addr} {C : Hp} {us : List V} {x : MV} (r : RepA K ι C us [x]) : ∃ u, us = [u] ∧ Rep K ι C u x := by
  cases r with
  | cons r1 r2 => cases r2; exact ⟨_, rfl, r1⟩
def mLen : MCa := fun xs h => (arg1 xs).bind fun x => (itemsOf h x).map fun ys => (.d (.int ys.length), h)
theorem sc_len : SimC K (G.rLen K) mLen := fun w h us xs v h' rl ra e Q q => by
  obtain ⟨x, e1, e⟩ := bind_of e
  obtain ⟨ys, e2, e⟩ := map_of e
  cases e
  rw [arg1_of e1] at ra
  obtain ⟨u, rfl, rx⟩ := ra.one
  obtain ⟨p, vs, rfl, hs, rv⟩ := items_ok rl rx e2
  exact ⟨p, vs, rfl, hs, by rw [rv.len]; exact q w _ (.refl _) rl (.d (.int _))⟩
def mTupOf : MCa := fun xs h => (arg1 xs).bind fun x => (itemsOf h x).map fun ys => (if isT x = true then x else mkTup ys, h)
theorem sc_tup : SimC K (rTupOf K) mTupOf := fun w h us xs v h' rl ra e Q q => by
  obtain ⟨x, e1, e⟩ := bind_of e
  obtain ⟨ys, e2, e⟩ := map_of e
  cases e
  rw [arg1_of e1] at ra
  obtain ⟨u, rfl, rx⟩ := ra.one
  cases ht : isT x with
  | true =>
    obtain ⟨p, vs, rfl, hs, rv⟩ := items_T rl rx e2 ht
    exact ⟨p, vs, rfl, .inr ⟨ex_t rl.ch hs, q w _ (.refl _) rl (by rw [ht]; exact rx)⟩⟩
  | false =>
    obtain ⟨p, vs, rfl, hs, rv⟩ := items_L rl rx e2 ht
    refine ⟨p, vs, rfl, .inl ⟨hs, fun l hl => ?_⟩⟩
    obtain ⟨s2, r2⟩ := know_ok (o := .tup vs) rl hl
    exact q (w.know l (.tup vs)) _ s2 r2 (by rw [ht]; exact mkTup_rep upd_same (rv.up s2))
/-- what is made new -/
theorem fresh_ok (r : Rel K w h) {p : Addr} (hp : w.H p = none) {o : HO} : Step w ⟨w.ι, w.C, upd w.H p o⟩ ∧ Rel K ⟨w.ι, w.C, upd w.H p o⟩ h := garb (.refl w) r hp (r.notin hp) (r.cnone hp)
def mListOf : List MV → MH → Option (List MV × MH) := fun xs h => (arg1 xs).bind fun x => (itemsOf h x).map fun ys => (ys, h)
theorem sf_list : SimCF K (rListOf K) mListOf := fun w h us xs v h' rl ra e Q q => by
  obtain ⟨x, e1, e⟩ := bind_of e
  obtain ⟨ys, e2, e⟩ := map_of e
  cases e
  rw [arg1_of e1] at ra
  obtain ⟨u, rfl, rx⟩ := ra.one
  obtain ⟨p, vs, rfl, hs, rv⟩ := items_ok rl rx e2
  refine ⟨p, vs, rfl, hs, fun l hl => ?_⟩
  obtain ⟨s2, r2⟩ := fresh_ok (o := .lst vs) rl hl
  exact q _ l vs s2 r2 hl upd_same (rl.notin hl) (rl.cnone hl) rv
def mCatS (a b : MV) (h : MH) : Option (List MV × MH) := if isT a = false ∧ isT b = false then (itemsOf h a).bind fun xs => (itemsOf h b).bind fun ys => if xs.length + ys.length ≤ 100000 then some (xs ++ ys, h) else none else none
def mCatE (ma mb : ME) : MA := fun env h => (ma env h).bind fun r => (mb env r.2).bind fun s => mCatS r.1 s.1 s.2
theorem sm_catS {ta tb : TE} {ma mb : ME} (ha : SimE K ta ma) (hb : SimE K tb mb) : SimF K (tOp (G.rCatS K) ta tb) (mCatE ma mb) := fun w h σ env v h' rl re e Q q => by
  obtain ⟨⟨a, h1⟩, e1, e⟩ := bind_of e
  obtain ⟨⟨b, h2⟩, e2, e⟩ := bind_of e
  simp only [mCatS] at e
  split at e
  · rename_i hT
    obtain ⟨xs, e3, e⟩ := bind_of e
    obtain ⟨ys, e4, e⟩ := bind_of e
    split at e
    · rename_i hz
      cases e
      refine ha w h σ env a h1 rl re e1 _ fun w1 x s1 r1 x1 => hb w1 h1 σ env b _ r1 (re.up s1) e2 _ fun w2 y s2 r2 y2 => ?_
      obtain ⟨p, vs, rfl, hs, rv⟩ := items_L r2 (x1.up s2) e3 hT.1
      obtain ⟨p', vs', rfl, hs', rv'⟩ := items_L r2 y2 e4 hT.2
      refine ⟨p, p', vs, vs', rfl, rfl, hs, hs', by rw [rv.len, rv'.len]; exact hz, fun l hl => ?_⟩
      obtain ⟨s3, r3⟩ := fresh_ok (o := .lst (vs ++ vs')) r2 hl
      have ss := s1.trans s2
      exact q _ l _ (ss.trans s3) r3 (by
        cases z : w.H l with
        | none => rfl
        | some o => exact absurd hl (ss.kp l (by rw [z]; exact fun q => nomatch q))) upd_same (r2.notin hl) (r2.cnone hl) (rv.app rv')
    · cases e
  · cases e
def mRepF (mf : MA) (mb : ME) : MA := fun env h => (mf env h).bind fun r => (mb env r.2).bind fun s => (asI s.1).bind fun k => if -1000 ≤ k ∧ k ≤ 1000 ∧ r.1.length ≤ 100 then some ((List.replicate k.toNat r.1).flatten, s.2) else none
theorem RepA.flat {ι : List Addr} {C : Hp} {vs : List V} {xs : List MV} (r : RepA K ι C vs xs) : ∀ n : Nat, RepA K ι C (List.replicate n vs).flatten (List.replicate n xs).flatten
  | 0 => .nil
  | n + 1 => by
    rw [List.replicate_succ, List.replicate_succ, List.flatten_cons, List.flatten_cons]
    exact r.app (r.flat n)
theorem sm_rep {ta tb : TE} {mf : MA} {mb : ME} (ha : SimF K ta mf) (hb : SimE K tb mb) : SimF K (tOp rRep ta tb) (mRepF mf mb) := fun w h σ env v h' rl re e Q q => by
  obtain ⟨⟨xs, h1⟩, e1, e⟩ := bind_of e
  obtain ⟨⟨b, h2⟩, e2, e⟩ := bind_of e
  obtain ⟨k, e3, e⟩ := bind_of e
  simp only at e
  split at e
  · rename_i hk
    cases e
    refine ha w h σ env xs h1 rl re e1 _ fun w1 p vs s1 r1 f1 f2 f3 f4 f5 => hb w1 h1 σ env b _ r1 (re.up s1) e2 _ fun w2 y s2 r2 y2 => ?_
    have hy := asI_rep y2 e3
    subst hy
    have hp : w2.H p = some (.lst vs) := s2.fr p _ f2 f3
    refine ⟨p, k, vs, rfl, rfl, hp, by omega, by omega, ?_, fun l hl => ?_⟩
    · rw [f5.len]
      exact Nat.le_trans (Nat.mul_le_mul hk.2.2 (show k.toNat ≤ 1000 by omega)) sl_100000
    · obtain ⟨s3, r3⟩ := fresh_ok (o := .lst (List.replicate k.toNat vs).flatten) r2 hl
      have ss := s1.trans s2
      exact q _ l _ (ss.trans s3) r3 (by
        cases z : w.H l with
        | none => rfl
        | some o => exact absurd hl (ss.kp l (by rw [z]; exact fun q => nomatch q))) upd_same (r2.notin hl) (r2.cnone hl) ((f5.up s2).flat _)
  · cases e
/-! ### equal, less -/
def mEqD (neg : Bool) : MO2 := fun a b h => (reify 6 h a).bind fun d => (reify 6 h b).bind fun e => if SeqAt.shaped d = true ∧ SeqAt.shaped e = true then some (.d (.bool (if neg = true then !PyData.eqv d e else PyData.eqv d e)), h) else none
theorem sr_eq : SimR K (rEqD K) (mEqD false) := fun w h x y a b v h' rl rx ry e Q q => by
  obtain ⟨d, e1, e⟩ := bind_of e
  obtain ⟨d', e2, e⟩ := bind_of e
  split at e
  · rename_i hs
    cases e
    exact ⟨d, d', dpx vis_ex (reify_ok rl 6 rx e1), dpx vis_ex (reify_ok rl 6 ry e2), hs.1, hs.2, q w _ (.refl _) rl (.d (.bl _))⟩
  · cases e
theorem sr_ne : SimR K (rNeD K) (mEqD true) := fun w h x y a b v h' rl rx ry e Q q => by
  obtain ⟨d, e1, e⟩ := bind_of e
  obtain ⟨d', e2, e⟩ := bind_of e
  split at e
  · rename_i hs
    cases e
    exact ⟨d, d', dpx vis_ex (reify_ok rl 6 rx e1), dpx vis_ex (reify_ok rl 6 ry e2), hs.1, hs.2, q w _ (.refl _) rl (.d (.bl _))⟩
  · cases e
open Classical in
noncomputable def mCmp (f : PyData → PyData → Bool) : MO2 := fun a b h => (reify 6 h a).bind fun d => (reify 6 h b).bind fun e => if PySem.W.alike d e = true ∧ d ≠ .none ∧ min d.depth e.depth ≤ 60 then some (.d (.bool (f d e)), h) else none
theorem sr_cmp {f : PyData → PyData → Bool} : SimR K (rCmpD K f) (mCmp f) := fun w h x y a b v h' rl rx ry e Q q => by
  obtain ⟨d, e1, e⟩ := bind_of e
  obtain ⟨d', e2, e⟩ := bind_of e
  split at e
  · rename_i hs
    cases e
    exact ⟨d, d', dpx vis_ex (reify_ok rl 6 rx e1), dpx vis_ex (reify_ok rl 6 ry e2), hs.1, hs.2.1, hs.2.2, q w _ (.refl _) rl (.d (.bl _))⟩
  · cases e
def asDL (d : PyData) : Option (List PyData) := match d with
  | .list ds => some ds
  | _ => none
def mInD (neg : Bool) : MO2 := fun a b h => (reify 6 h a).bind fun d => (reify 6 h b).bind fun e => (asDL e).bind fun ds => if SeqAt.shaped d = true ∧ SeqAt.shaped e = true then some (.d (.bool (if neg = true then !(ds.any fun z => PyData.eqv z d) else ds.any fun z => PyData.eqv z d)), h) else none
theorem asDL_of {d : PyData} {ds : List PyData} (e : asDL d = some ds) : d = .list ds := by
  unfold asDL at e
  split at e
  · cases e; rfl
  · cases e
theorem sr_in : SimR K (rInD K) (mInD false) := fun w h x y a b v h' rl rx ry e Q q => by
  obtain ⟨d, e1, e⟩ := bind_of e
  obtain ⟨d', e2, e⟩ := bind_of e
  obtain ⟨ds, e3, e⟩ := bind_of e
  split at e
  · rename_i hs
    cases e
    cases asDL_of e3
    exact ⟨d, ds, dpx vis_ex (reify_ok rl 6 rx e1), dpx vis_ex (reify_ok rl 6 ry e2), hs.1, hs.2, q w _ (.refl _) rl (.d (.bl _))⟩
  · cases e
theorem sr_notIn : SimR K (rNotInD K) (mInD true) := fun w h x y a b v h' rl rx ry e Q q => by
  obtain ⟨d, e1, e⟩ := bind_of e
  obtain ⟨d', e2, e⟩ := bind_of e
  obtain ⟨ds, e3, e⟩ := bind_of e
  split at e
  · rename_i hs
    cases e
    cases asDL_of e3
    exact ⟨d, ds, dpx vis_ex (reify_ok rl 6 rx e1), dpx vis_ex (reify_ok rl 6 ry e2), hs.1, hs.2, q w _ (.refl _) rl (.d (.bl _))⟩
  · cases e
/-! ### built-in calls on data -/
def fInt1 : List PyData → Option PyData
  | [.int i] => some (.int i)
  | [.bool k] => some (.int (if k then 1 else 0))
  | _ => none
theorem sc_int1 : SimC K rInt1 (liftD fInt1) := lift_ok fun C H vs ds r ex dv e Q q => by
  unfold fInt1 at e
  split at e
  · cases e; exact G.cd_int C H vs ex dv Q q
  · cases e; exact G.cd_intB C H vs ex dv Q q
  · cases e
def fMax2 : List PyData → Option PyData
  | [.int i, .int j] => some (.int (max i j))
  | _ => none
theorem sc_max2 : SimC K rMax2 (liftD fMax2) := lift_ok fun C H vs ds r ex dv e Q q => by
  unfold fMax2 at e
  split at e
  · cases e; exact G.cd_max2 C H vs ex dv Q q
  · cases e
def fMin2 : List PyData → Option PyData
  | [.int i, .int j] => some (.int (min i j))
  | _ => none
theorem sc_min2 : SimC K rMin2 (liftD fMin2) := lift_ok fun C H vs ds r ex dv e Q q => by
  unfold fMin2 at e
  split at e
  · cases e; exact G.cd_min2 C H vs ex dv Q q
  · cases e
def fAbs : List PyData → Option PyData
  | [.int i] => some (.int (i.natAbs : Int))
  | _ => none
theorem sc_abs : SimC K rAbs (liftD fAbs) := lift_ok fun C H vs ds r ex dv e Q q => by
  unfold fAbs at e
  split at e
  · cases e; exact G.cd_abs C H vs ex dv Q q
  · cases e
def boolsOf : List PyData → Option (List Bool)
  | [] => some []
  | .bool b :: ds => (boolsOf ds).map (b :: ·)
  | _ => none
theorem bools_of : ∀ {ds : List PyData} {bs : List Bool}, boolsOf ds = some bs → ds = bs.map .bool
  | [], bs, e => by cases e; rfl
  | d :: ds, bs, e => by
    unfold boolsOf at e
    split at e
    · cases ‹_ :: _ = []›
    · rename_i b ds' eq
      cases eq
      obtain ⟨bs', e1, e2⟩ := map_of e
      subst e2
      rw [bools_of e1]; rfl
    · cases e
theorem boolsOf_map : ∀ bs : List Bool, boolsOf (bs.map .bool) = some bs
  | [] => rfl
  | b :: bs => by show (boolsOf (bs.map .bool)).map (b :: ·) = _; rw [boolsOf_map bs]; rfl
def fAll : List PyData → Option PyData
  | [.list ds] => (boolsOf ds).map fun bs => .bool (bs.all id)
  | _ => none
theorem sc_all : SimC K (rAll K) (liftD fAll) := lift_ok fun C H vs ds r ex dv e Q q => by
  unfold fAll at e
  split at e
  · obtain ⟨bs, e1, e⟩ := map_of e
    cases e
    cases bools_of e1
    exact G.cd_all C H vs ex dv Q q
  · cases e
def fAny : List PyData → Option PyData
  | [.list ds] => (boolsOf ds).map fun bs => .bool (bs.any id)
  | _ => none
theorem sc_any : SimC K (rAny K) (liftD fAny) := lift_ok fun C H vs ds r ex dv e Q q => by
  unfold fAny at e
  split at e
  · obtain ⟨bs, e1, e⟩ := map_of e
    cases e
    cases bools_of e1
    exact G.cd_any C H vs ex dv Q q
  · cases e
/-- isinstance(x, T) -/
def mIsi (n : String) (me : ME) : ME := fun env h => (me env h).bind fun r => match r.1 with
  | .d p => (kitB (G.kindOf p) n).map fun k => (.d (.bool k), r.2)
  | .tup _ => (kitB "tuple" n).map fun k => (.d (.bool k), r.2)
  | .ref m => match r.2[m]? with
    | some (.lst _) => (kitB "list" n).map fun k => (.d (.bool k), r.2)
    | _ => none
/-! ### None -/
def isNon : MV → Bool
  | .d .none => true
  | _ => false
def mIsN (neg : Bool) : MO2 := fun a b h => if isNon b = true then some (.d (.bool (if neg = true then !isNon a else isNon a)), h) else none
theorem isNon_rep {v : V} {x : MV} (r : Rep K w.ι w.C v x) : decide (v = .non) = isNon x := by
  cases r with
  | d r => cases r <;> simp [isNon]
  | ref _ => simp [isNon]
  | tup _ _ => simp [isNon]
theorem sr_isN : SimR K rIsN (mIsN false) := fun w h x y a b v h' rl rx ry e Q q => by
  unfold mIsN at e
  split at e
  · rename_i hb
    cases e
    refine ⟨by rw [← isNon_rep ry] at hb; simpa using hb, q w _ (.refl _) rl ?_⟩
    rw [isNon_rep rx]
    exact .d (.bl _)
  · cases e
theorem sr_notN : SimR K rNotN (mIsN true) := fun w h x y a b v h' rl rx ry e Q q => by
  unfold mIsN at e
  split at e
  · rename_i hb
    cases e
    refine ⟨by rw [← isNon_rep ry] at hb; simpa using hb, q w _ (.refl _) rl ?_⟩
    rw [isNon_rep rx]
    exact .d (.bl _)
  · cases e
end
end M
namespace M
open PySem PySem.Spec PyProof.Rows L2
open Evl (Ex ex_rd ex_l ex_t rMax2)
open G (dpx dpax dpa_len dpa_get dpa_app dpa_set ex_none wipe_get wipe_eq wipe_wipe RD UD CD Ret rMin2 rInt1 rAbs rTupOf rListOf)
section
variable {K : PySem.W.Frag} {w : Wd} {h : MH}
theorem sm_isi {ta : TE} {ma : ME} {n : String} (ha : SimE K ta ma) : SimE K (G.tIsi K ta n) (mIsi n ma) := fun w h σ env v h' rl re e Q q => by
  obtain ⟨⟨a, h1⟩, e1, e⟩ := bind_of e
  refine ha w h σ env a h1 rl re e1 _ fun w1 u s1 r1 x1 => ?_
  have fin : ∀ T k, TyX K w1.H u (.type T) → kitB T n = some k → Q (.bl k) w1.H → rIsi K [u, .ty n] w1.H Q := fun T k ht hk hq => ⟨u, .ty n, _, .type n, k, rfl, .ty n, ht, kit_ty hk, hq⟩
  cases a with
  | d p =>
    obtain ⟨k, e2, e⟩ := map_of e
    cases e
    exact fin _ k (G.tyx (dpx r1.ch x1.dat)) e2 (q w1 _ s1 r1 (.d (.bl k)))
  | tup xs =>
    obtain ⟨k, e2, e⟩ := map_of e
    cases e
    cases x1 with
    | tup hq ha =>
      refine fin "tuple" k ?_ e2 (q w1 _ s1 r1 (.d (.bl k)))
      rcases ex_t r1.ch (sqt hq) with (h | ⟨o, h⟩) | ⟨o, its, n, h, c, _⟩
      · exact .base (.tup h)
      · exact .fTuple h
      · exact .kTuple h c
  | ref m =>
    simp only at e
    split at e
    · rename_i xs ex
      obtain ⟨k, e2, e⟩ := map_of e
      cases e
      obtain ⟨ad, vs, rfl, g1, g2, g3⟩ := r1.lst x1 ex
      exact fin "list" k (.base (.lst g2)) e2 (q w1 _ s1 r1 (.d (.bl k)))
    · cases e
/-! ### what is walked -/
noncomputable def pairM (x y : MV) : MV := mkTup [x, y]
def mIter (me : ME) : MI := fun env h => (me env h).bind fun r => match r.1 with
  | .d (.list ds) => some (([], ds.map .d), r.2)
  | .d (.tuple ds) => some (([], ds.map .d), r.2)
  | .tup xs => some (([], xs), r.2)
  | .ref n => (asL r.2 (.ref n)).map fun l => (([l], l.2), r.2)
  | _ => none
/-- the row's source, its items -/
def rowOf (h : MH) (x : MV) : Option (List (Nat × List MV) × List MV) := match x with
  | .d (.list ds) => some ([], ds.map .d)
  | .d (.tuple ds) => some ([], ds.map .d)
  | .tup xs => some ([], xs)
  | .ref n => (asL h (.ref n)).map fun l => ([l], l.2)
  | _ => none
/-- a list that can be read as long as its source stands -/
theorem row_L {x : MV} {v : V} {src : List (Nat × List MV)} {xs : List MV} (r : Rel K w h) (rx : Rep K w.ι w.C v x) (t : isT x = false) (e : rowOf h x = some (src, xs)) :
    ∃ a, v = .ref a ∧ ∀ w2 h2, Step w w2 → Rel K w2 h2 → (∀ s ∈ src, h2[s.1]? = some (.lst s.2)) → ∃ vs, SqL K w2.H a vs ∧ RepA K w2.ι w2.C vs xs := by
  cases x with
  | d p =>
    cases p with
    | list ds =>
      cases e
      cases rx with
      | d rx => cases rx with
        | lst hq ha => exact ⟨_, rfl, fun w2 h2 s r2 _ => ⟨_, ex_l r2.ch (ex_l s.ex hq), (RepA.ofD ha).up s⟩⟩
    | tuple ds => cases t
    | none => cases e
    | bool _ => cases e
    | int _ => cases e
    | str _ => cases e
    | dict _ => cases e
  | tup ys => cases t
  | ref n =>
    obtain ⟨⟨m, ys⟩, e1, e2⟩ := map_of e
    cases e2
    obtain ⟨eo, ex⟩ := asL_of e1
    cases eo
    obtain ⟨a, vs, h1, h2, h3, h4⟩ := r.lst rx ex
    refine ⟨a, h1, fun w2 hh2 s r2 hs => ?_⟩
    subst h1
    obtain ⟨a', vs', g0, g1, g2, g3⟩ := r2.lst (rx.up s) (hs (n, ys) List.mem_cons_self)
    cases g0
    exact ⟨vs', .inl (.inl g2), g3⟩
theorem row_T {x : MV} {v : V} {src : List (Nat × List MV)} {xs : List MV} (r : Rel K w h) (rx : Rep K w.ι w.C v x) (t : isT x = true) (e : rowOf h x = some (src, xs)) :
    ∃ a, v = .ref a ∧ ∀ w2 h2, Step w w2 → Rel K w2 h2 → ∃ vs, SqT K w2.H a vs ∧ RepA K w2.ι w2.C vs xs := by
  cases x with
  | d p =>
    cases p with
    | tuple ds =>
      cases e
      cases rx with
      | d rx => cases rx with
        | tup hq ha => exact ⟨_, rfl, fun w2 h2 s r2 => ⟨_, ex_t r2.ch (ex_t s.ex hq), (RepA.ofD ha).up s⟩⟩
    | _ => cases t
  | tup ys =>
    cases e
    cases rx with
    | tup hq ha => exact ⟨_, rfl, fun w2 h2 s r2 => ⟨_, ex_t r2.ch (ex_t s.ex (sqt hq)), ha.up s⟩⟩
  | ref n => cases t
def mItL (me : ME) : MI := fun env h => (me env h).bind fun r => if isT r.1 = false then (rowOf r.2 r.1).map fun s => (s, r.2) else none
def mItT (me : ME) : MI := fun env h => (me env h).bind fun r => if isT r.1 = true then (rowOf r.2 r.1).map fun s => (s, r.2) else none
theorem same_step {w2 : Wd} {h2 : MH} {u : V} {x : MV} (r : Rel K w2 h2) (x1 : Rep K w2.ι w2.C u x) : ∃ w3 : Wd, w3.H = w2.H ∧ Step w2 w3 ∧ Rel K w3 h2 ∧ Rep K w3.ι w3.C u x := ⟨w2, rfl, .refl _, r, x1⟩
theorem si_list {te : TE} {me : ME} (h : SimE K te me) : SimI K (iList K te) (mItL me) := fun w h0 σ env si h' rl re e R q => by
  obtain ⟨⟨a, h1⟩, e1, e⟩ := bind_of e
  simp only at e
  split at e
  · rename_i ht
    obtain ⟨⟨src, xs⟩, e2, e⟩ := map_of e
    cases e
    refine h w h0 σ env a _ rl re e1 _ fun w1 u s1 r1 x1 => ?_
    obtain ⟨ad, rfl, k⟩ := row_L r1 x1 ht e2
    have k0 : ∀ s ∈ src, h'[s.1]? = some (Ob.lst s.2) := fun s m => by
      cases a with
      | ref n =>
        obtain ⟨⟨n', ys⟩, e3, e4⟩ := map_of e2
        cases e4
        obtain ⟨eo, ex⟩ := asL_of e3
        cases List.mem_singleton.mp m
        exact ex
      | d p => cases p <;> (first | (cases e2; cases m) | cases e2)
      | tup ys => cases e2; cases m
    obtain ⟨vs0, z0, _⟩ := k w1 h' (.refl _) r1 k0
    refine ⟨ad, rfl, ⟨vs0, z0⟩, q w1 _ s1 r1 fun w2 h2 s2 r2 hs => ?_⟩
    obtain ⟨vs, z1, z2⟩ := k w2 h2 s2 r2 hs
    refine ⟨⟨vs, z1, by rw [z2.len]; exact Nat.le_refl _⟩, fun i x ex => ?_⟩
    obtain ⟨u, g1, g2⟩ := z2.get ex
    refine ⟨⟨vs, u, z1, g1⟩, fun u' H' y => ?_⟩
    obtain ⟨rfl, y⟩ := y
    have := (y vs z1).symm.trans g1
    cases this
    exact same_step r2 g2
  · cases e
theorem si_tup {te : TE} {me : ME} (h : SimE K te me) : SimI K (iTup K te) (mItT me) := fun w h0 σ env si h' rl re e R q => by
  obtain ⟨⟨a, h1⟩, e1, e⟩ := bind_of e
  simp only at e
  split at e
  · rename_i ht
    obtain ⟨⟨src, xs⟩, e2, e⟩ := map_of e
    cases e
    refine h w h0 σ env a _ rl re e1 _ fun w1 u s1 r1 x1 => ?_
    obtain ⟨ad, rfl, k⟩ := row_T r1 x1 ht e2
    obtain ⟨vs0, z0, _⟩ := k w1 h' (.refl _) r1
    refine ⟨ad, rfl, ⟨vs0, z0⟩, q w1 _ s1 r1 fun w2 h2 s2 r2 hs => ?_⟩
    obtain ⟨vs, z1, z2⟩ := k w2 h2 s2 r2
    refine ⟨⟨vs, z1, by rw [z2.len]; exact Nat.le_refl _⟩, fun i x ex => ?_⟩
    obtain ⟨u, g1, g2⟩ := z2.get ex
    refine ⟨⟨vs, u, z1, g1⟩, fun u' H' y => ?_⟩
    obtain ⟨rfl, y⟩ := y
    have := (y vs z1).symm.trans g1
    cases this
    exact same_step r2 g2
  · cases e
def args1 : List MV → Option Int
  | [x] => asI x
  | _ => none
def mRng1 (ma : MA) : MI := fun env h => (ma env h).bind fun r => (args1 r.1).bind fun n => if n ≤ 100000000 ∧ -100000000 ≤ n then some (([], (List.range n.toNat).map fun (k : Nat) => .d (.int (k : Int))), r.2) else none
theorem si_rng1 {ta : TA} {ma : MA} (h : SimA K ta ma) : SimI K (iRng1 ta) (mRng1 ma) := fun w h0 σ env si h' rl re e R q => by
  obtain ⟨⟨xs, h1⟩, e1, e⟩ := bind_of e
  obtain ⟨n, e2, e⟩ := bind_of e
  simp only at e
  split at e
  · rename_i hn
    cases e
    refine h w h0 σ env xs _ rl re e1 _ fun w1 us s1 r1 x1 => ?_
    replace e2 : args1 xs = some n := e2
    unfold args1 at e2
    split at e2
    · rename_i x
      obtain ⟨u, rfl, x2⟩ := x1.one
      have := asI_rep x2 e2
      subst this
      refine ⟨n, rfl, by omega, by omega, q w1 _ s1 r1 fun w2 h2 s2 r2 hs => ⟨(by show _ ≤ _; simp only [List.length_map, List.length_range]; exact Nat.le_refl _), fun i x ex => ?_⟩⟩
      rw [List.getElem?_map] at ex
      obtain ⟨k, hk, rfl⟩ := Option.map_eq_some_iff.mp ex
      obtain ⟨hlt, rfl⟩ := List.getElem?_eq_some_iff.mp hk
      refine ⟨(by show i < _; simpa only [List.length_range] using hlt), fun x H' y => ?_⟩
      obtain ⟨rfl, rfl⟩ := y
      have : (0 : Int) + (i : Int) = (i : Int) := Int.zero_add _
      rw [this, List.getElem_range]
      exact same_step r2 (.d (.int _))
    · cases e2
  · cases e
def args2 : List MV → Option (Int × Int)
  | [x, y] => (asI x).bind fun i => (asI y).map fun j => (i, j)
  | _ => none
def mRng2 (ma : MA) : MI := fun env h => (ma env h).bind fun r => (args2 r.1).bind fun n => if -100000000 ≤ n.1 ∧ n.1 ≤ 100000000 ∧ -100000000 ≤ n.2 ∧ n.2 ≤ 100000000 then some (([], (List.range (n.2 - n.1).toNat).map fun (k : Nat) => .d (.int (n.1 + (k : Int)))), r.2) else none
theorem si_rng2 {ta : TA} {ma : MA} (h : SimA K ta ma) : SimI K (iRng2 ta) (mRng2 ma) := fun w h0 σ env si h' rl re e R q => by
  obtain ⟨⟨xs, h1⟩, e1, e⟩ := bind_of e
  obtain ⟨⟨m, n⟩, e2, e⟩ := bind_of e
  simp only at e
  split at e
  · rename_i hn
    cases e
    refine h w h0 σ env xs _ rl re e1 _ fun w1 us s1 r1 x1 => ?_
    replace e2 : args2 xs = some (m, n) := e2
    unfold args2 at e2
    split at e2
    · rename_i x y
      obtain ⟨i', e3, e2⟩ := bind_of e2
      obtain ⟨j', e4, e2⟩ := map_of e2
      cases e2
      cases x1 with
      | cons xa xb =>
        obtain ⟨u2, rfl, xc⟩ := xb.one
        have := asI_rep xa e3
        subst this
        have := asI_rep xc e4
        subst this
        refine ⟨m, n, rfl, by omega, q w1 _ s1 r1 fun w2 h2 s2 r2 hs => ⟨(by show _ ≤ _; simp only [List.length_map, List.length_range]; exact Nat.le_refl _), fun i x ex => ?_⟩⟩
        rw [List.getElem?_map] at ex
        obtain ⟨k, hk, rfl⟩ := Option.map_eq_some_iff.mp ex
        obtain ⟨hlt, rfl⟩ := List.getElem?_eq_some_iff.mp hk
        refine ⟨(by show i < _; simpa only [List.length_range] using hlt), fun x H' y => ?_⟩
        obtain ⟨rfl, rfl⟩ := y
        rw [List.getElem_range]
        exact same_step r2 (.d (.int _))
    · cases e2
  · cases e
theorem RepA.two {ι : List Addr} {C : Hp} {us : List V} {x y : MV} (r : RepA K ι C us [x, y]) : ∃ u v, us = [u, v] ∧ Rep K ι C u x ∧ Rep K ι C v y := by
  cases r with
  | cons ra rb =>
    obtain ⟨v, rfl, rc⟩ := rb.one
    exact ⟨_, v, rfl, ra, rc⟩
def argsTT : List MV → Option (MV × MV)
  | [x, y] => some (x, y)
  | _ => none
theorem argsTT_of {xs : List MV} {p : MV × MV} (e : argsTT xs = some p) : xs = [p.1, p.2] := by
  unfold argsTT at e
  split at e
  · cases e; rfl
  · cases e
noncomputable def mZip (ma : MA) : MI := fun env h => (ma env h).bind fun r => (argsTT r.1).bind fun p => if isT p.1 = isT p.2 then (rowOf r.2 p.1).bind fun s => (rowOf r.2 p.2).map fun t => ((s.1 ++ t.1, (s.2.zip t.2).map fun z => pairM z.1 z.2), r.2) else none
theorem pair_know {w2 : Wd} {h2 : MH} {u v : V} {x y : MV} {P : Addr} (r : Rel K w2 h2) (hx : Rep K w2.ι w2.C u x) (hy : Rep K w2.ι w2.C v y) (hP : w2.H P = none) :
    ∃ w3 : Wd, w3.H = upd w2.H P (.tup [u, v]) ∧ Step w2 w3 ∧ Rel K w3 h2 ∧ Rep K w3.ι w3.C (.ref P) (pairM x y) := by
  obtain ⟨s, r'⟩ := know_ok (o := .tup [u, v]) r hP
  exact ⟨_, rfl, s, r', mkTup_rep upd_same (.cons (hx.up s) (.cons (hy.up s) .nil))⟩
theorem row_src {x : MV} {src : List (Nat × List MV)} {xs : List MV} (e : rowOf h x = some (src, xs)) : ∀ s ∈ src, h[s.1]? = some (.lst s.2) := fun s m => by
  cases x with
  | ref n =>
    obtain ⟨⟨n', ys⟩, e3, e4⟩ := map_of e
    cases e4
    obtain ⟨eo, ex⟩ := asL_of e3
    cases List.mem_singleton.mp m
    exact ex
  | d p => cases p <;> (first | (cases e; cases m) | cases e)
  | tup ys => cases e; cases m
theorem si_zip {ta : TA} {ma : MA} (h : SimA K ta ma) : SimI K (RZ.iZipA K ta) (mZip ma) := fun w h0 σ env si h' rl re e R q => by
  obtain ⟨⟨xs, h1⟩, e1, e⟩ := bind_of e
  obtain ⟨⟨x, y⟩, e2, e⟩ := bind_of e
  simp only at e
  split at e
  · rename_i ht
    obtain ⟨⟨s1, xs1⟩, e3, e⟩ := bind_of e
    obtain ⟨⟨s2, xs2⟩, e4, e⟩ := map_of e
    cases e
    refine h w h0 σ env xs _ rl re e1 _ fun w1 us st1 r1 x1 => ?_
    replace e2 : argsTT xs = some (x, y) := e2
    rw [argsTT_of e2] at x1
    replace x1 : RepA K w1.ι w1.C us [x, y] := x1
    obtain ⟨u, v, rfl, hx, hy⟩ := x1.two
    cases hT : isT x with
    | true =>
      rw [hT] at ht
      obtain ⟨a, rfl, k1⟩ := row_T r1 hx hT e3
      obtain ⟨b, rfl, k2⟩ := row_T r1 hy ht.symm e4
      obtain ⟨vs1, z1, _⟩ := k1 w1 _ (.refl _) r1
      obtain ⟨vs2, z2, _⟩ := k2 w1 _ (.refl _) r1
      refine ⟨a, b, vs1, vs2, rfl, .inr ⟨z1, z2, q w1 _ st1 r1 fun w2 h2 st2 r2 hs => ?_⟩⟩
      obtain ⟨us1, y1, y2⟩ := k1 w2 h2 st2 r2
      obtain ⟨us2, y3, y4⟩ := k2 w2 h2 st2 r2
      refine ⟨⟨us1, us2, y1, y3, by simp [y2.len, y4.len]; omega⟩, fun i x ex => ?_⟩
      rw [List.getElem?_map] at ex
      obtain ⟨⟨p1, p2⟩, f1, rfl⟩ := Option.map_eq_some_iff.mp ex
      obtain ⟨f2, f3⟩ := List.getElem?_zip_eq_some.mp f1
      obtain ⟨g1, g2, g3⟩ := y2.get f2
      obtain ⟨g4, g5, g6⟩ := y4.get f3
      refine ⟨⟨us1, us2, g1, g4, y1, y3, g2, g5⟩, fun x H' yy => ?_⟩
      obtain ⟨P, zz1, zz2, rfl, nP, rfl, o1, o2⟩ := yy
      have w1' := (o1 _ y1).symm.trans g2
      have w2' := (o2 _ y3).symm.trans g5
      cases w1'; cases w2'
      exact pair_know r2 g3 g6 nP
    | false =>
      rw [hT] at ht
      obtain ⟨a, rfl, k1⟩ := row_L r1 hx hT e3
      obtain ⟨b, rfl, k2⟩ := row_L r1 hy ht.symm e4
      obtain ⟨vs1, z1, _⟩ := k1 w1 _ (.refl _) r1 (row_src e3)
      obtain ⟨vs2, z2, _⟩ := k2 w1 _ (.refl _) r1 (row_src e4)
      refine ⟨a, b, vs1, vs2, rfl, .inl ⟨z1, z2, q w1 _ st1 r1 fun w2 h2 st2 r2 hs => ?_⟩⟩
      obtain ⟨us1, y1, y2⟩ := k1 w2 h2 st2 r2 fun s m => hs s (List.mem_append_left _ m)
      obtain ⟨us2, y3, y4⟩ := k2 w2 h2 st2 r2 fun s m => hs s (List.mem_append_right _ m)
      refine ⟨⟨us1, us2, y1, y3, by simp [y2.len, y4.len]; omega⟩, fun i x ex => ?_⟩
      rw [List.getElem?_map] at ex
      obtain ⟨⟨p1, p2⟩, f1, rfl⟩ := Option.map_eq_some_iff.mp ex
      obtain ⟨f2, f3⟩ := List.getElem?_zip_eq_some.mp f1
      obtain ⟨g1, g2, g3⟩ := y2.get f2
      obtain ⟨g4, g5, g6⟩ := y4.get f3
      refine ⟨⟨us1, us2, g1, g4, y1, y3, g2, g5⟩, fun x H' yy => ?_⟩
      obtain ⟨P, zz1, zz2, rfl, nP, rfl, o1, o2⟩ := yy
      have w1' := (o1 _ y1).symm.trans g2
      have w2' := (o2 _ y3).symm.trans g5
      cases w1'; cases w2'
      exact pair_know r2 g3 g6 nP
  · cases e
noncomputable def mEnum (ma : MA) : MI := fun env h => (ma env h).bind fun r => (arg1 r.1).bind fun x => (rowOf r.2 x).map fun s => ((s.1, s.2.zipIdx.map fun z => pairM (.d (.int (z.2 : Int))) z.1), r.2)
theorem si_enum {ta : TA} {ma : MA} (h : SimA K ta ma) : SimI K (G.iEnumA K ta) (mEnum ma) := fun w h0 σ env si h' rl re e R q => by
  obtain ⟨⟨xs, h1⟩, e1, e⟩ := bind_of e
  obtain ⟨x, e2, e⟩ := bind_of e
  obtain ⟨⟨s1, xs1⟩, e3, e⟩ := map_of e
  cases e
  refine h w h0 σ env xs _ rl re e1 _ fun w1 us st1 r1 x1 => ?_
  replace e2 : arg1 xs = some x := e2
  rw [arg1_of e2] at x1
  obtain ⟨u, rfl, hx⟩ := x1.one
  have item : ∀ {w2 h2 us1 i x}, Rel K w2 h2 → RepA K w2.ι w2.C us1 xs1 → (xs1.zipIdx.map fun z => pairM (.d (.int (z.2 : Int))) z.1)[i]? = some x → ∃ y, us1[i]? = some y ∧ ∀ P, w2.H P = none → ∃ w3 : Wd, w3.H = upd w2.H P (.tup [.int (i : Nat), y]) ∧ Step w2 w3 ∧ Rel K w3 h2 ∧ Rep K w3.ι w3.C (.ref P) x := by
    intro w2 h2 us1 i x r2 y2 ex
    rw [List.getElem?_map] at ex
    obtain ⟨⟨p1, p2⟩, f1, rfl⟩ := Option.map_eq_some_iff.mp ex
    rw [List.getElem?_zipIdx] at f1
    obtain ⟨z, f2, f3⟩ := Option.map_eq_some_iff.mp f1
    cases f3
    obtain ⟨g1, g2, g3⟩ := y2.get f2
    refine ⟨g1, g2, fun P nP => ?_⟩
    have : ((0 + i : Nat) : Int) = (i : Int) := by omega
    rw [this]
    exact pair_know r2 (.d (.int _)) g3 nP
  cases hT : isT x with
  | true =>
    obtain ⟨a, rfl, k1⟩ := row_T r1 hx hT e3
    obtain ⟨vs1, z1, _⟩ := k1 w1 _ (.refl _) r1
    refine ⟨a, vs1, rfl, .inr ⟨z1, q w1 _ st1 r1 fun w2 h2 st2 r2 hs => ?_⟩⟩
    obtain ⟨us1, y1, y2⟩ := k1 w2 h2 st2 r2
    refine ⟨⟨us1, y1, by simp [y2.len]⟩, fun i x ex => ?_⟩
    obtain ⟨y, g1, g2⟩ := item r2 y2 ex
    refine ⟨⟨us1, y, y1, g1⟩, fun x H' yy => ?_⟩
    obtain ⟨P, zz1, rfl, nP, rfl, o1⟩ := yy
    have w1' := (o1 _ y1).symm.trans g1
    cases w1'
    exact g2 P nP
  | false =>
    obtain ⟨a, rfl, k1⟩ := row_L r1 hx hT e3
    obtain ⟨vs1, z1, _⟩ := k1 w1 _ (.refl _) r1 (row_src e3)
    refine ⟨a, vs1, rfl, .inl ⟨z1, q w1 _ st1 r1 fun w2 h2 st2 r2 hs => ?_⟩⟩
    obtain ⟨us1, y1, y2⟩ := k1 w2 h2 st2 r2 hs
    refine ⟨⟨us1, y1, by simp [y2.len]⟩, fun i x ex => ?_⟩
    obtain ⟨y, g1, g2⟩ := item r2 y2 ex
    refine ⟨⟨us1, y, y1, g1⟩, fun x H' yy => ?_⟩
    obtain ⟨P, zz1, rfl, nP, rfl, o1⟩ := yy
    have w1' := (o1 _ y1).symm.trans g1
    cases w1'
    exact g2 P nP
end
end M
namespace M
open PySem PySem.Spec PyProof.Rows L2
open Evl (Ex ex_rd ex_l ex_t rMax2)
open G (dpx dpax dpa_len dpa_get dpa_app dpa_set ex_none wipe_get wipe_eq wipe_wipe RD UD CD Ret rMin2 rInt1 rAbs rTupOf rListOf)
section
variable {K : PySem.W.Frag} {w : Wd} {h : MH}
/-! ### dicts -/
def valG {κ β : Type} [DecidableEq κ] (kvs : List (κ × β)) (k : κ) : Option β := match kvs with
  | [] => none
  | p :: r => if p.1 = k then some p.2 else valG r k
def hasG {κ β : Type} [DecidableEq κ] (kvs : List (κ × β)) (k : κ) : Bool := (valG kvs k).isSome
def replG {κ β : Type} [DecidableEq κ] (kvs : List (κ × β)) (k : κ) (v : β) : List (κ × β) := kvs.map fun kv => if kv.1 = k then (kv.1, v) else kv
def putG {κ β : Type} [DecidableEq κ] (kvs : List (κ × β)) (k : κ) (v : β) : List (κ × β) := if hasG kvs k = true then replG kvs k v else kvs ++ [(k, v)]
section
variable {κ : Type} [DecidableEq κ] {ι : List Addr} {C : Hp}
def KRep (K : PySem.W.Frag) (ι : List Addr) (C : Hp) (kvs : List (κ × V)) (kws : List (κ × MV)) : Prop := kvs.map (·.1) = kws.map (·.1) ∧ RepA K ι C (kvs.map (·.2)) (kws.map (·.2))
theorem KRep.cases {p : κ × V} {kvs : List (κ × V)} {q : κ × MV} {kws : List (κ × MV)} (h : KRep K ι C (p :: kvs) (q :: kws)) : p.1 = q.1 ∧ Rep K ι C p.2 q.2 ∧ KRep K ι C kvs kws := by
  obtain ⟨h1, h2⟩ := h
  simp only [List.map_cons, List.cons.injEq] at h1
  cases h2 with
  | cons r1 r2 => exact ⟨h1.1, r1, h1.2, r2⟩
theorem KRep.cons {p : κ × V} {kvs : List (κ × V)} {q : κ × MV} {kws : List (κ × MV)} (h1 : p.1 = q.1) (h2 : Rep K ι C p.2 q.2) (h3 : KRep K ι C kvs kws) : KRep K ι C (p :: kvs) (q :: kws) := by
  refine ⟨?_, .cons h2 h3.2⟩
  simp only [List.map_cons, h1, h3.1]
theorem KRep.len {kvs : List (κ × V)} {kws : List (κ × MV)} (h : KRep K ι C kvs kws) : kvs.length = kws.length := by
  have := congrArg List.length h.1
  simpa using this
theorem KRep.val : ∀ {kvs : List (κ × V)} {kws : List (κ × MV)}, KRep K ι C kvs kws → ∀ k, match valG kws k with
    | none => valV kvs k = none
    | some x => ∃ v, valV kvs k = some v ∧ Rep K ι C v x
  | [], [], _, k => rfl
  | [], _ :: _, h, k => by have := h.len; cases this
  | _ :: _, [], h, k => by have := h.len; cases this
  | p :: kvs, q :: kws, h, k => by
    obtain ⟨h1, h2, h3⟩ := h.cases
    unfold valG
    by_cases e : q.1 = k
    · rw [if_pos e]
      exact ⟨p.2, valV_pos (h1.trans e), h2⟩
    · rw [if_neg e]
      rw [valV_neg (fun z => e (h1.symm.trans z))]
      exact KRep.val h3 k
theorem KRep.valN {kvs : List (κ × V)} {kws : List (κ × MV)} (h : KRep K ι C kvs kws) {k : κ} (e : valG kws k = none) : valV kvs k = none := by
  have := h.val k
  rw [e] at this
  exact this
theorem KRep.valS {kvs : List (κ × V)} {kws : List (κ × MV)} (h : KRep K ι C kvs kws) {k : κ} {x : MV} (e : valG kws k = some x) : ∃ v, valV kvs k = some v ∧ Rep K ι C v x := by
  have := h.val k
  rw [e] at this
  exact this
theorem KRep.isSome {kvs : List (κ × V)} {kws : List (κ × MV)} (h : KRep K ι C kvs kws) (k : κ) : (valV kvs k).isSome = (valG kws k).isSome := by
  cases e : valG kws k with
  | none => rw [h.valN e]; rfl
  | some x => obtain ⟨v, h1, _⟩ := h.valS e; rw [h1]; rfl
theorem KRep.app : ∀ {a : List (κ × V)} {b : List (κ × MV)} {c : List (κ × V)} {d : List (κ × MV)}, KRep K ι C a b → KRep K ι C c d → KRep K ι C (a ++ c) (b ++ d)
  | [], [], _, _, _, s => s
  | [], _ :: _, _, _, h, _ => by have := h.len; cases this
  | _ :: _, [], _, _, h, _ => by have := h.len; cases this
  | p :: a, q :: b, c, d, h, s => by
    obtain ⟨h1, h2, h3⟩ := h.cases
    exact .cons h1 h2 (KRep.app h3 s)
theorem KRep.repl {v : V} {x : MV} (r : Rep K ι C v x) (k : κ) : ∀ {kvs : List (κ × V)} {kws : List (κ × MV)}, KRep K ι C kvs kws → KRep K ι C (kvs.map fun kv => if kv.1 = k then (kv.1, v) else kv) (replG kws k x)
  | [], [], h => h
  | [], _ :: _, h => by have := h.len; cases this
  | _ :: _, [], h => by have := h.len; cases this
  | p :: kvs, q :: kws, h => by
    obtain ⟨h1, h2, h3⟩ := h.cases
    have ih := KRep.repl r k h3
    show KRep K ι C ((if p.1 = k then (p.1, v) else p) :: _) ((if q.1 = k then (q.1, x) else q) :: _)
    by_cases e : q.1 = k
    · rw [if_pos e, if_pos (h1.trans e)]; exact .cons h1 r ih
    · rw [if_neg e, if_neg (fun z => e (h1.symm.trans z))]; exact .cons h1 h2 ih
theorem KRep.put {kvs : List (κ × V)} {kws : List (κ × MV)} {v : V} {x : MV} (h : KRep K ι C kvs kws) (r : Rep K ι C v x) (k : κ) : KRep K ι C (putK kvs k v) (putG kws k x) := by
  unfold putK putG hasG
  rw [valV_any, h.isSome k]
  cases (valG kws k).isSome with
  | true => exact h.repl r k
  | false => exact h.app (.cons rfl r ⟨rfl, .nil⟩)
end
def keyOf : MV → Option Key
  | .d (.int i) => some (.inl i)
  | .d (.str s) => some (.inr s)
  | _ => none
theorem keyOf_ok {v : V} {x : MV} {k : Key} (r : Rep K w.ι w.C v x) (e : keyOf x = some k) : v = kV k := by
  cases x with
  | d p =>
    cases p with
    | int i => cases e; cases r with | d r => cases r; rfl
    | str s => cases e; cases r with | d r => cases r; rfl
    | _ => cases e
  | _ => cases e
def asK (h : MH) : MV → Option (Nat × List (Key × MV))
  | .ref n => match h[n]? with
    | some (.dct kws) => some (n, kws)
    | _ => none
  | _ => none
theorem asK_of {v : MV} {n : Nat} {kws : List (Key × MV)} (e : asK h v = some (n, kws)) : v = .ref n ∧ h[n]? = some (.dct kws) := by
  cases v with
  | ref m =>
    unfold asK at e
    cases e1 : h[m]? with
    | none => simp only [e1] at e; cases e
    | some b =>
      cases b with
      | dct ys => simp only [e1] at e; cases e; exact ⟨rfl, e1⟩
      | lst _ => simp only [e1] at e; cases e
      | dctT _ => simp only [e1] at e; cases e
      | tab _ _ => simp only [e1] at e; cases e
      | dv _ => simp only [e1] at e; cases e
  | d _ => cases e
  | tup _ => cases e
theorem asK_ok (r : Rel K w h) {v : V} {x : MV} {n : Nat} {kws : List (Key × MV)} (rx : Rep K w.ι w.C v x) (e : asK h x = some (n, kws)) : ∃ a kvs, v = .ref a ∧ w.ι[n]? = some a ∧ w.H a = some (.dK kvs) ∧ KRep K w.ι w.C kvs kws := by
  obtain ⟨eo, ex⟩ := asK_of e
  subst eo
  obtain ⟨a, o, h1, h2, h3, h4⟩ := r.look rx ex
  cases h4 with
  | dct h4 h5 => exact ⟨a, _, h1, h2, h3, h4, h5⟩
/-- a dict stays a dict -/
theorem keep_dK {w' : Wd} {h' : MH} (s : Step w w') (r : Rel K w' h') {n : Nat} {a : Addr} {kws : List (Key × MV)} (ha : w.ι[n]? = some a) (e : h'[n]? = some (.dct kws)) : ∃ kvs, w'.H a = some (.dK kvs) ∧ KRep K w'.ι w'.C kvs kws := by
  obtain ⟨o, h1, h2⟩ := r.ob n a _ (pre_get s.pre ha) e
  cases h2 with
  | dct h4 h5 => exact ⟨_, h1, h4, h5⟩
def mDGet (md mk : ME) : ME := fun env h => (md env h).bind fun d => (mk env d.2).bind fun k => (asK k.2 d.1).bind fun t => (keyOf k.1).bind fun y => (valG t.2 y).map fun v => (v, k.2)
theorem sm_dget {td ty : TE} {md mk : ME} (hd : SimE K td md) (hk : SimE K ty mk) : SimE K (tDGet td ty) (mDGet md mk) := fun w h σ env v h' rl re e Q q => by
  obtain ⟨⟨a, h1⟩, e1, e⟩ := bind_of e
  obtain ⟨⟨b, h2⟩, e2, e⟩ := bind_of e
  obtain ⟨⟨n, kws⟩, e3, e⟩ := bind_of e
  obtain ⟨y, e4, e⟩ := bind_of e
  obtain ⟨x, e5, e⟩ := map_of e
  cases e
  refine hd w h σ env a h1 rl re e1 _ fun w1 u1 s1 r1 x1 => hk w1 h1 σ env b _ r1 (re.up s1) e2 _ fun w2 u2 s2 r2 x2 => ?_
  obtain ⟨ad, kvs, rfl, g1, g2, g3⟩ := asK_ok r2 (x1.up s2) e3
  have := keyOf_ok x2 e4
  subst this
  obtain ⟨u, f1, f2⟩ := g3.valS e5
  exact ⟨ad, u, rfl, .inl ⟨kvs, y, .inl g2, rfl, f1.symm⟩, q w2 u (s1.trans s2) r2 f2⟩
def mDIn (neg : Bool) (mk md : ME) : ME := fun env h => (mk env h).bind fun k => (md env k.2).bind fun d => (asK d.2 d.1).bind fun t => (keyOf k.1).map fun y => (.d (.bool (if neg = true then !(valG t.2 y).isSome else (valG t.2 y).isSome)), d.2)
theorem sm_din {td ty : TE} {md mk : ME} (hk : SimE K ty mk) (hd : SimE K td md) : SimE K (tDIn ty td) (mDIn false mk md) := fun w h σ env v h' rl re e Q q => by
  obtain ⟨⟨a, h1⟩, e1, e⟩ := bind_of e
  obtain ⟨⟨b, h2⟩, e2, e⟩ := bind_of e
  obtain ⟨⟨n, kws⟩, e3, e⟩ := bind_of e
  obtain ⟨y, e4, e⟩ := map_of e
  cases e
  refine hk w h σ env a h1 rl re e1 _ fun w1 u1 s1 r1 x1 => hd w1 h1 σ env b _ r1 (re.up s1) e2 _ fun w2 u2 s2 r2 x2 => ?_
  obtain ⟨ad, kvs, rfl, g1, g2, g3⟩ := asK_ok r2 x2 e3
  have := keyOf_ok (x1.up s2) e4
  subst this
  refine ⟨ad, _, rfl, .inl ⟨kvs, y, .inl g2, rfl, rfl⟩, q w2 _ (s1.trans s2) r2 ?_⟩
  rw [g3.isSome y]
  exact .d (.bl _)
theorem sm_dnotin {td ty : TE} {md mk : ME} (hk : SimE K ty mk) (hd : SimE K td md) : SimE K (tDNotIn ty td) (mDIn true mk md) := fun w h σ env v h' rl re e Q q => by
  obtain ⟨⟨a, h1⟩, e1, e⟩ := bind_of e
  obtain ⟨⟨b, h2⟩, e2, e⟩ := bind_of e
  obtain ⟨⟨n, kws⟩, e3, e⟩ := bind_of e
  obtain ⟨y, e4, e⟩ := map_of e
  cases e
  refine hk w h σ env a h1 rl re e1 _ fun w1 u1 s1 r1 x1 => hd w1 h1 σ env b _ r1 (re.up s1) e2 _ fun w2 u2 s2 r2 x2 => ?_
  obtain ⟨ad, kvs, rfl, g1, g2, g3⟩ := asK_ok r2 x2 e3
  have := keyOf_ok (x1.up s2) e4
  subst this
  refine ⟨ad, _, rfl, .inl ⟨kvs, y, .inl g2, rfl, rfl⟩, q w2 _ (s1.trans s2) r2 ?_⟩
  rw [g3.isSome y]
  exact .d (.bl _)
/-- d.get(k, x) -/
def mDGet2 (md mk mx : ME) : ME := fun env h => (md env h).bind fun d => (asK d.2 d.1).bind fun _ => (mk env d.2).bind fun k => (mx env k.2).bind fun x => (asK x.2 d.1).bind fun t => (keyOf k.1).map fun y => ((valG t.2 y).getD x.1, x.2)
theorem getD_rep {κ : Type} [DecidableEq κ] {ι : List Addr} {C : Hp} {kvs : List (κ × V)} {kws : List (κ × MV)} (h : KRep K ι C kvs kws) (k : κ) {u : V} {x : MV} (r : Rep K ι C u x) : Rep K ι C ((valV kvs k).getD u) ((valG kws k).getD x) := by
  cases e : valG kws k with
  | none => rw [h.valN e]; exact r
  | some y => obtain ⟨v, h1, h2⟩ := h.valS e; rw [h1]; exact h2
theorem sm_dget2 {td ty tx : TE} {md mk mx : ME} (hd : SimE K td md) (hk : SimE K ty mk) (hx : SimE K tx mx) : SimE K (tDGet2 td ty tx) (mDGet2 md mk mx) := fun w h σ env v h' rl re e Q q => by
  obtain ⟨⟨a, h1⟩, e1, e⟩ := bind_of e
  obtain ⟨⟨n0, kws0⟩, e0, e⟩ := bind_of e
  obtain ⟨⟨b, h2⟩, e2, e⟩ := bind_of e
  obtain ⟨⟨c, h3⟩, e3, e⟩ := bind_of e
  obtain ⟨⟨n, kws⟩, e4, e⟩ := bind_of e
  obtain ⟨y, e5, e⟩ := map_of e
  cases e
  refine hd w h σ env a h1 rl re e1 _ fun w1 u1 s1 r1 x1 => ?_
  obtain ⟨ad0, kvs0, rfl, g01, g02, g03⟩ := asK_ok r1 x1 e0
  refine ⟨ad0, rfl, .inl ⟨kvs0, .inl g02⟩, hk w1 h1 σ env b h2 r1 (re.up s1) e2 _ fun w2 u2 s2 r2 x2 => hx w2 h2 σ env c _ r2 ((re.up s1).up s2) e3 _ fun w3 u3 s3 r3 x3 => ?_⟩
  obtain ⟨ad, kvs, ea, g1, g2, g3⟩ := asK_ok r3 ((x1.up s2).up s3) e4
  cases ea
  have := keyOf_ok (x2.up s3) e5
  subst this
  exact ⟨_, .inl ⟨kvs, y, .inl g2, rfl, rfl⟩, q w3 _ ((s1.trans s2).trans s3) r3 (getD_rep g3 y x3)⟩
def mDNew : ME := fun _ h => some (.ref h.length, h ++ [.dct []])
theorem sm_dnew : SimE K tDNewK mDNew := fun w h σ env v h' rl re e Q q => by
  cases e
  intro p hp
  obtain ⟨s, r, g⟩ := alloc_ok (o := .dK []) (b := .dct []) rl hp (.dct rfl .nil)
  exact q (w.alloc p (.dK [])) (.ref p) s r (.ref g)
/-- {k: v, ..} -/
def mPairs : List (ME × ME) → Env → MH → Option (List (Key × MV) × MH)
  | [], _, h => some ([], h)
  | (mk, mv) :: r, env, h => (mk env h).bind fun k => (mv env k.2).bind fun v => (keyOf k.1).bind fun y => (mPairs r env v.2).map fun s => ((y, v.1) :: s.1, s.2)
def mergeG (kvs more : List (Key × MV)) : List (Key × MV) := more.foldl (fun acc kv => putG acc kv.1 kv.2) kvs
def mDisp (ps : List (ME × ME)) : ME := fun env h => (mPairs ps env h).bind fun r => if r.1.length ≤ 15 then some (.ref r.2.length, r.2 ++ [.dct (mergeG [] r.1)]) else none
inductive SimPs (K : PySem.W.Frag) : List (TE × TE) → List (ME × ME) → Prop
  | nil : SimPs K [] []
  | cons {tk tv : TE} {mk mv : ME} {ts : List (TE × TE)} {ms : List (ME × ME)} : SimE K tk mk → SimE K tv mv → SimPs K ts ms → SimPs K ((tk, tv) :: ts) ((mk, mv) :: ms)
theorem pairs_ok {ts : List (TE × TE)} {ms : List (ME × ME)} (hp : SimPs K ts ms) : ∀ (w : Wd) (h : MH) (σ : L2.St) (env : Env) (kws : List (Key × MV)) (h' : MH), Rel K w h → RepE K w σ env → mPairs ms env h = some (kws, h') → ∀ Q : List (V × V) → Hp → Prop,
    (∀ w' (kvs : List (Key × V)), Step w w' → Rel K w' h' → KRep K w'.ι w'.C kvs kws → Q (kvs.map fun kv => (kV kv.1, kv.2)) w'.H) → tPairs ts σ w.H Q := by
  induction hp with
  | nil => intro w h σ env kws h' rl re e Q q; cases e; exact q w [] (.refl _) rl ⟨rfl, .nil⟩
  | cons hk hv hr ih =>
    intro w h σ env kws h' rl re e Q q
    obtain ⟨⟨a, h1⟩, e1, e⟩ := bind_of e
    obtain ⟨⟨b, h2⟩, e2, e⟩ := bind_of e
    obtain ⟨y, e3, e⟩ := bind_of e
    obtain ⟨⟨r, h3⟩, e4, e⟩ := map_of e
    cases e
    refine hk w h σ env a h1 rl re e1 _ fun w1 u1 s1 r1 x1 => hv w1 h1 σ env b _ r1 (re.up s1) e2 _ fun w2 u2 s2 r2 x2 => ih w2 h2 σ env r h3 r2 ((re.up s1).up s2) e4 _ fun w3 kvs s3 r3 x3 => ?_
    have := keyOf_ok x1 e3
    subst this
    exact q w3 ((y, u2) :: kvs) ((s1.trans s2).trans s3) r3 (.cons rfl (x2.up s3) x3)
theorem merge_rep {ι : List Addr} {C : Hp} : ∀ {more : List (Key × V)} {morew : List (Key × MV)} {kvs : List (Key × V)} {kws : List (Key × MV)}, KRep K ι C more morew → KRep K ι C kvs kws → KRep K ι C (mergeK kvs more) (mergeG kws morew)
  | [], [], _, _, _, h => h
  | [], _ :: _, _, _, h, _ => by have := h.len; cases this
  | _ :: _, [], _, _, h, _ => by have := h.len; cases this
  | p :: more, q :: morew, kvs, kws, h, g => by
    obtain ⟨h1, h2, h3⟩ := h.cases
    show KRep K ι C (mergeK (putK kvs p.1 p.2) more) (mergeG (putG kws q.1 q.2) morew)
    rw [h1]
    exact merge_rep h3 (g.put h2 q.1)
theorem sm_disp {ts : List (TE × TE)} {ms : List (ME × ME)} (hp : SimPs K ts ms) : SimE K (tDisp ts) (mDisp ms) := fun w h σ env v h' rl re e Q q => by
  obtain ⟨⟨kws, h1⟩, e1, e⟩ := bind_of e
  simp only at e
  split at e
  · rename_i hz
    cases e
    intro p hpn
    obtain ⟨s0, r0⟩ := fresh_ok (o := .dK []) rl hpn
    refine pairs_ok hp _ h σ env kws h1 r0 (re.up s0) e1 _ fun w1 kvs s1 r1 x1 => ?_
    have hn0 := rl.notin hpn
    have hc0 := rl.cnone hpn
    have hp1 : w1.H p = some (.dK []) := s1.fr p _ upd_same hn0
    have hn1 : p ∉ w1.ι := fun m => by
      rcases s1.nw p m with z | z
      · exact hn0 z
      · have z' : upd w.H p (.dK []) p = none := z
        rw [upd_same] at z'; cases z'
    have hc1 : w1.C p = none := s1.nc p (by show upd w.H p (.dK []) p ≠ none; rw [upd_same]; exact fun z => nomatch z) hc0
    refine ⟨hp1, kvs, rfl, by rw [x1.len]; exact hz, ?_⟩
    -- p becomes one's own
    have pf : w1.ι <+: w1.ι ++ [p] := List.prefix_append _ _
    have mg := merge_rep x1 (show KRep K w1.ι w1.C [] [] from ⟨rfl, .nil⟩)
    obtain ⟨s2, r2⟩ := garb (o := .dK (mergeK [] kvs)) (s0.trans s1) r1 hpn hn1 hc1
    refine q ⟨w1.ι ++ [p], w1.C, upd w1.H p (.dK (mergeK [] kvs))⟩ (.ref p) ⟨s2.pre.trans pf, s2.ex, s2.fr, fun a m => ?_, s2.nc, s2.kp⟩ ⟨r2.ch, ?_, ?_, fun a m => ?_, fun n a b g1 g2 => ?_⟩ (.ref ?_)
    · rcases List.mem_append.mp m with z | z
      · exact s2.nw a z
      · rw [List.mem_singleton.mp z]; exact .inr hpn
    · show (w1.ι ++ [p]).length = _
      rw [List.length_append, List.length_append, r1.len]; rfl
    · refine List.nodup_append.mpr ⟨r1.nd, by simp, fun a m b m' => ?_⟩
      rw [List.mem_singleton.mp m']
      exact fun z => hn1 (by rw [← z]; exact m)
    · rcases List.mem_append.mp m with z | z
      · exact r1.ow a z
      · rw [List.mem_singleton.mp z]; exact hc1
    · replace g1 : (w1.ι ++ [p])[n]? = some a := g1
      replace g2 : (h1 ++ [Ob.dct (mergeG [] kws)])[n]? = some b := g2
      by_cases z : n < h1.length
      · rw [List.getElem?_append_left z] at g2
        rw [List.getElem?_append_left (by rw [r1.len]; exact z)] at g1
        obtain ⟨o, q1, q2⟩ := r2.ob n a b g1 g2
        exact ⟨o, q1, q2.mono pf fun _ _ q => q⟩
      · rw [List.getElem?_append_right (by omega)] at g2
        rw [List.getElem?_append_right (by rw [r1.len]; omega), r1.len] at g1
        have hz : n - h1.length = 0 := by
          cases hn : n - h1.length with
          | zero => rfl
          | succ k => rw [hn] at g2; simp at g2
        rw [hz] at g2 g1
        simp at g2 g1
        subst g2 g1
        exact ⟨_, upd_same, .dct mg.1 (mg.2.mono pf fun _ _ q => q)⟩
    · show (w1.ι ++ [p])[h1.length]? = some p
      rw [← r1.len, List.getElem?_append_right (Nat.le_refl _), Nat.sub_self]; rfl
  · cases e
/-- d[k] = v: the value first, then the dict, then the key -/
def mDPut (md mk mv : ME) : MS := fun env h => (mv env h).bind fun v => (md env v.2).bind fun d => (mk env d.2).bind fun k => (asK k.2 d.1).bind fun t => (keyOf k.1).bind fun y => if t.2.length < 100000 then some (.nx env (k.2.set t.1 (.dct (putG t.2 y v.1)))) else none
theorem ss_dput {td ty tv : TE} {md mk mv : ME} (hd : SimE K td md) (hk : SimE K ty mk) (hv : SimE K tv mv) : SimS K (sDPut td ty tv) (mDPut md mk mv) := fun D w h σ env r rl re e p => by
  obtain ⟨⟨v, hh1⟩, e1, e⟩ := bind_of e
  obtain ⟨⟨o, hh2⟩, e2, e⟩ := bind_of e
  obtain ⟨⟨i, hh3⟩, e3, e⟩ := bind_of e
  obtain ⟨⟨n, kws⟩, e4, e⟩ := bind_of e
  obtain ⟨y, e5, e⟩ := bind_of e
  simp only at e
  split at e
  · rename_i hz
    cases e
    refine hv w h σ env v hh1 rl re e1 _ fun w1 u1 s1 r1 x1 => hd w1 hh1 σ env _ hh2 r1 (re.up s1) e2 _ fun w2 u2 s2 r2 x2 => hk w2 hh2 σ env _ hh3 r2 ((re.up s1).up s2) e3 _ fun w3 u3 s3 r3 x3 => ?_
    obtain ⟨a, kvs, rfl, g1, g2, g3⟩ := asK_ok r3 (x2.up s3) e4
    have := keyOf_ok x3 e5
    subst this
    have x1' := (x1.up s2).up s3
    have mg := g3.put x1' y
    obtain ⟨s4, r4⟩ := write_ok (o := .dK (putK kvs y u1)) r3 g1 (.dct mg.1 mg.2)
    have ss := ((s1.trans s2).trans s3).trans s4
    exact ⟨a, _, rfl, .inl ⟨kvs, y, g2, rfl, by rw [g3.len]; exact Nat.lt_of_lt_of_le hz sl_100000, rfl⟩, p (w3.write a _) σ ss r4 (re.up ss)⟩
  · cases e
/-- len of a dict -/
def rLenD : List V → Hp → VK → Prop := fun xs H Q => ∃ a kvs, xs = [V.ref a] ∧ H a = some (.dK kvs) ∧ Q (.int kvs.length) H
def mLenD : MCa := fun xs h => (arg1 xs).bind fun x => (asK h x).map fun t => (.d (.int t.2.length), h)
theorem sc_lenD : SimC K rLenD mLenD := fun w h us xs v h' rl ra e Q q => by
  obtain ⟨x, e1, e⟩ := bind_of e
  obtain ⟨⟨n, kws⟩, e2, e⟩ := map_of e
  cases e
  rw [arg1_of e1] at ra
  obtain ⟨u, rfl, rx⟩ := ra.one
  obtain ⟨a, kvs, rfl, g1, g2, g3⟩ := asK_ok rl rx e2
  exact ⟨a, kvs, rfl, g2, by rw [g3.len]; exact q w _ (.refl _) rl (.d (.int _))⟩
/-- dict(d) -/
def mDictCp : MCa := fun xs h => (arg1 xs).bind fun x => (asK h x).map fun t => (.ref h.length, h ++ [.dct t.2])
theorem sc_dictCp : SimC K rDictCp mDictCp := fun w h us xs v h' rl ra e Q q => by
  obtain ⟨x, e1, e⟩ := bind_of e
  obtain ⟨⟨n, kws⟩, e2, e⟩ := map_of e
  cases e
  rw [arg1_of e1] at ra
  obtain ⟨u, rfl, rx⟩ := ra.one
  obtain ⟨a, kvs, rfl, g1, g2, g3⟩ := asK_ok rl rx e2
  refine ⟨a, kvs, rfl, .inl g2, fun p hp => ?_⟩
  obtain ⟨s, r, g⟩ := alloc_ok (o := .dK kvs) (b := .dct kws) rl hp (.dct g3.1 (g3.2.mono (List.prefix_append _ _) fun _ _ z => z))
  exact q (w.alloc p (.dK kvs)) (.ref p) s r (.ref g)
/-! ### slices -/
abbrev MO := Env → MH → Option (Option Int × MH)
def SimO (K : PySem.W.Frag) (t : TO) (m : MO) : Prop := ∀ w h σ env v h', Rel K w h → RepE K w σ env → m env h = some (v, h') → ∀ Q : Option Int → Hp → Prop, (∀ w', Step w w' → Rel K w' h' → Q v w'.H) → t σ w.H Q
def mNoPart : MO := fun _ h => some (none, h)
def mPart (me : ME) : MO := fun env h => (me env h).bind fun r => (asI r.1).map fun i => (some i, r.2)
theorem so_none : SimO K tNoPart mNoPart := fun w h σ env v h' rl re e Q q => by
  cases e
  exact q w (.refl _) rl
theorem so_some {te : TE} {me : ME} (he : SimE K te me) : SimO K (tPart te) (mPart me) := fun w h σ env v h' rl re e Q q => by
  obtain ⟨⟨a, h1⟩, e1, e⟩ := bind_of e
  obtain ⟨i, e2, e⟩ := map_of e
  cases e
  exact he w h σ env a _ rl re e1 _ fun w1 u s1 r1 x1 => ⟨i, asI_rep x1 e2, q w1 s1 r1⟩
def cutM {α : Type} (xs : List α) (lo hi : Option Int) : List α := (xs.drop (HT.sIx xs.length 0 lo)).take (HT.sIx xs.length xs.length hi - HT.sIx xs.length 0 lo)
theorem RepA.drop {ι : List Addr} {C : Hp} : ∀ {vs : List V} {xs : List MV} (n : Nat), RepA K ι C vs xs → RepA K ι C (vs.drop n) (xs.drop n)
  | _, _, 0, h => h
  | _, _, n + 1, .nil => .nil
  | _, _, n + 1, .cons _ t => RepA.drop n t
theorem RepA.take {ι : List Addr} {C : Hp} : ∀ {vs : List V} {xs : List MV} (n : Nat), RepA K ι C vs xs → RepA K ι C (vs.take n) (xs.take n)
  | _, _, 0, _ => .nil
  | _, _, n + 1, .nil => .nil
  | _, _, n + 1, .cons r t => .cons r (RepA.take n t)
theorem cut_rep {ι : List Addr} {C : Hp} {vs : List V} {xs : List MV} (r : RepA K ι C vs xs) (lo hi : Option Int) : RepA K ι C (cutV vs lo hi) (cutM xs lo hi) := by
  unfold cutV cutM
  rw [r.len]
  exact (r.drop _).take _
def mSlL (me : ME) (ml mh : MO) : MA := fun env h => (me env h).bind fun r => (ml env r.2).bind fun l => (mh env l.2).bind fun u => if isT r.1 = false then (itemsOf u.2 r.1).map fun xs => (cutM xs l.1 u.1, u.2) else none
theorem sm_slL {te : TE} {tl th : TO} {me : ME} {ml mh : MO} (h1 : SimE K te me) (h2 : SimO K tl ml) (h3 : SimO K th mh) : SimF K (tSl (rSlL K) te tl th) (mSlL me ml mh) := fun w h σ env v h' rl re e Q q => by
  obtain ⟨⟨a, hh1⟩, e1, e⟩ := bind_of e
  obtain ⟨⟨l, hh2⟩, e2, e⟩ := bind_of e
  obtain ⟨⟨u, hh3⟩, e3, e⟩ := bind_of e
  simp only at e
  split at e
  · rename_i ht
    obtain ⟨xs, e4, e⟩ := map_of e
    cases e
    refine h1 w h σ env a hh1 rl re e1 _ fun w1 x s1 r1 x1 => h2 w1 hh1 σ env l hh2 r1 (re.up s1) e2 _ fun w2 s2 r2 => h3 w2 hh2 σ env u _ r2 ((re.up s1).up s2) e3 _ fun w3 s3 r3 => ?_
    obtain ⟨p, vs, rfl, hs, rv⟩ := items_L r3 ((x1.up s2).up s3) e4 ht
    refine ⟨p, vs, rfl, hs, fun l' hl => ?_⟩
    obtain ⟨s4, r4⟩ := fresh_ok (o := .lst (cutV vs l u)) r3 hl
    have ss := (s1.trans s2).trans s3
    exact q _ l' _ (ss.trans s4) r4 (by
      cases z : w.H l' with
      | none => rfl
      | some o => exact absurd hl (ss.kp l' (by rw [z]; exact fun q => nomatch q))) upd_same (r3.notin hl) (r3.cnone hl) (cut_rep rv l u)
  · cases e
def mSlT (me : ME) (ml mh : MO) : ME := fun env h => (me env h).bind fun r => (ml env r.2).bind fun l => (mh env l.2).bind fun u => if isT r.1 = true then (itemsOf u.2 r.1).bind fun xs => if HT.sIx xs.length 0 l.1 = 0 ∧ HT.sIx xs.length xs.length u.1 = xs.length then none else some (mkTup (cutM xs l.1 u.1), u.2) else none
theorem sm_slT {te : TE} {tl th : TO} {me : ME} {ml mh : MO} (h1 : SimE K te me) (h2 : SimO K tl ml) (h3 : SimO K th mh) : SimE K (tSl (rSlT K) te tl th) (mSlT me ml mh) := fun w h σ env v h' rl re e Q q => by
  obtain ⟨⟨a, hh1⟩, e1, e⟩ := bind_of e
  obtain ⟨⟨l, hh2⟩, e2, e⟩ := bind_of e
  obtain ⟨⟨u, hh3⟩, e3, e⟩ := bind_of e
  simp only at e
  split at e
  · rename_i ht
    obtain ⟨xs, e4, e⟩ := bind_of e
    split at e
    · cases e
    · rename_i hw
      cases e
      refine h1 w h σ env a hh1 rl re e1 _ fun w1 x s1 r1 x1 => h2 w1 hh1 σ env l hh2 r1 (re.up s1) e2 _ fun w2 s2 r2 => h3 w2 hh2 σ env u _ r2 ((re.up s1).up s2) e3 _ fun w3 s3 r3 => ?_
      obtain ⟨p, vs, rfl, hs, rv⟩ := items_T r3 ((x1.up s2).up s3) e4 ht
      refine ⟨p, vs, rfl, ex_t r3.ch hs, by rw [rv.len]; exact hw, fun l' hl => ?_⟩
      obtain ⟨s4, r4⟩ := know_ok (o := .tup (cutV vs l u)) r3 hl
      exact q (w3.know l' _) _ (((s1.trans s2).trans s3).trans s4) r4 (mkTup_rep upd_same ((cut_rep rv l u).up s4))
  · cases e
end
end M
namespace M
open PySem PySem.Spec PyProof.Rows L2
open Evl (Ex ex_rd ex_l ex_t rMax2)
open G (dpx dpax dpa_len dpa_get dpa_app dpa_set ex_none wipe_get wipe_eq wipe_wipe RD UD CD Ret rMin2 rInt1 rAbs rTupOf rListOf)
/-! ### constants of the top -/
def GlV (K : PySem.W.Frag) (u : Value) (d : PyData) : Prop := ∃ v : V, RelV v u ∧ ∀ C, Dp K C v d
def GlD (K : PySem.W.Frag) (mg : Str → Option Value) (x : Str) (d : PyData) : Prop := ∃ u, mg x = some u ∧ GlV K u d
inductive GlVs (K : PySem.W.Frag) : List Value → List PyData → Prop
  | nil : GlVs K [] []
  | cons {u : Value} {d : PyData} {us : List Value} {ds : List PyData} : GlV K u d → GlVs K us ds → GlVs K (u :: us) (d :: ds)
theorem glVs_ok {K : PySem.W.Frag} {us : List Value} {ds : List PyData} (h : GlVs K us ds) : ∃ vs, Vals vs us ∧ ∀ C, DpAll K C vs ds := by
  induction h with
  | nil => exact ⟨[], .nil, fun _ => .nil⟩
  | cons h _ ih =>
    obtain ⟨v, r, d⟩ := h
    obtain ⟨vs, rs, ds⟩ := ih
    exact ⟨v :: vs, .cons r rs, fun C => .cons (d C) (ds C)⟩
theorem glV_tup {K : PySem.W.Frag} {a : Addr} {od : Option Addr} {its : Array Value} {n : Nat} {sl : Array (Option Value)} {ds : List PyData} (h : K.lookup a = some ⟨.type "tuple", od, .seq its n, sl⟩) (hz : its.size ≤ sizeLine) (hs : GlVs K its.toList ds) : GlV K (.ref a) (.tuple ds) := by
  obtain ⟨vs, r, d⟩ := glVs_ok hs
  exact ⟨.ref a, rfl, fun C => .tup (.inr ⟨_, its, n, h, rfl, rfl, hz, r⟩) (d C)⟩
def tGlD (K : PySem.W.Frag) (d : PyData) : TE := fun _ H Q => ∀ v, (∀ C, Dp K C v d) → Q v H
theorem pe_glD {X : Cx} {x : Str} {d : PyData} {pos : Pos} (hg : Gl X x) (h : GlD X.K X.mg x d) (hd : (x == ("__debug__" : Str)) = false := by decide) : PE X (.Name x pos) (tGlD X.K d) := by
  obtain ⟨u, hm, v, r, dp⟩ := h
  exact ⟨fun _ _ _ H _ I q => ld_glob I hg hm ⟨v, H, I, r, q v dp⟩ hd⟩
section
variable {K : PySem.W.Frag} {w : Wd} {h : MH}
theorem sm_glD {d : PyData} : SimE K (tGlD K d) (mK d) := fun w h σ env x h' rl re e Q q => by
  cases e
  exact fun v dp => q w v (.refl _) rl (.d (dp _))
def mPar (i j : Nat) (ma : MA) : MS := fun env h => (ma env h).bind fun r => (argsTT r.1).map fun p => .nx ((env.set i (some p.1)).set j (some p.2)) r.2
theorem ss_par {i j : Nat} {ta : TA} {ma : MA} (ha : SimA K ta ma) : SimS K (tPar i j ta) (mPar i j ma) := fun D w h σ env r rl re e p => by
  obtain ⟨⟨xs, h1⟩, e1, e⟩ := bind_of e
  obtain ⟨⟨x, y⟩, e2, e⟩ := map_of e
  cases e
  refine ha w h σ env xs _ rl re e1 _ fun w1 us s1 r1 x1 => ?_
  replace e2 : argsTT xs = some (x, y) := e2
  rw [argsTT_of e2] at x1
  obtain ⟨u, v, rfl, hx, hy⟩ := x1.two
  exact ⟨u, v, rfl, p w1 _ s1 r1 (((re.up s1).put hx i).put hy j)⟩
/-- a tuple of data, k times -/
def mRepA : MO2 := fun a b h => match a with
  | .d (.tuple ds) => (asI b).bind fun k => if ds ≠ [] ∧ ds.length ≤ 1000 ∧ 1 ≤ k ∧ k ≤ 1000 then some (.d (.tuple (List.replicate k.toNat ds).flatten), h) else none
  | _ => none
theorem sr_repA : SimR K (G.rRepA K) mRepA := fun w h x y a b v h' rl rx ry e Q q => by
  unfold mRepA at e
  split at e
  · rename_i ds
    obtain ⟨k, e1, e⟩ := bind_of e
    split at e
    · rename_i hk
      cases e
      have := asI_rep ry e1
      subst this
      refine G.rd_repA (K := K) hk.1 hk.2.1 hk.2.2.1 hk.2.2.2 w.C w.H x (.int k) rl.ch rx.dat (.int k) Q fun u H' t => ?_
      obtain ⟨C', a1, a2, a3, a4, a5⟩ := ret_dat t
      obtain ⟨s, r'⟩ := step_C rl a1 a2 a3 a4
      exact q ⟨w.ι, C', H'⟩ u s r' (.d a5)
    · cases e
  · cases e
/-! ### ascending numbers -/
def ins1 (x : Int) : List Int → List Int
  | [] => [x]
  | y :: ys => if x ≤ y then x :: y :: ys else y :: ins1 x ys
def isort : List Int → List Int
  | [] => []
  | x :: xs => ins1 x (isort xs)
theorem ins1_perm (x : Int) : ∀ ys : List Int, (ins1 x ys).Perm (x :: ys)
  | [] => .refl _
  | y :: ys => by
    unfold ins1
    split
    · exact .refl _
    · exact ((ins1_perm x ys).cons y).trans (List.Perm.swap x y ys)
theorem isort_perm : ∀ xs : List Int, (isort xs).Perm xs
  | [] => .refl _
  | x :: xs => (ins1_perm x _).trans ((isort_perm xs).cons x)
theorem ins1_asc (x : Int) : ∀ {ys : List Int}, ys.Pairwise (· ≤ ·) → (ins1 x ys).Pairwise (· ≤ ·)
  | [], _ => by simp [ins1]
  | y :: ys, h => by
    have hc := List.pairwise_cons.mp h
    unfold ins1
    split
    · rename_i hxy
      refine List.pairwise_cons.mpr ⟨fun z m => ?_, h⟩
      rcases List.mem_cons.mp m with rfl | m
      · exact hxy
      · exact Int.le_trans hxy (hc.1 z m)
    · rename_i hxy
      refine List.pairwise_cons.mpr ⟨fun z m => ?_, ins1_asc x hc.2⟩
      rcases List.mem_cons.mp ((ins1_perm x ys).mem_iff.mp m) with rfl | m
      · omega
      · exact hc.1 z m
theorem isort_asc : ∀ xs : List Int, (isort xs).Pairwise (· ≤ ·)
  | [] => .nil
  | x :: xs => ins1_asc x (isort_asc xs)
theorem asc_perm_eq : ∀ {xs ys : List Int}, xs.Perm ys → xs.Pairwise (· ≤ ·) → ys.Pairwise (· ≤ ·) → xs = ys
  | [], ys, p, _, _ => by simpa using p
  | x :: xs, [], p, _, _ => by simp at p
  | x :: xs, y :: ys, p, hx, hy => by
    have ax := List.pairwise_cons.mp hx
    have ay := List.pairwise_cons.mp hy
    have e : x = y := by
      have m1 : x ∈ y :: ys := p.mem_iff.mp List.mem_cons_self
      have m2 : y ∈ x :: xs := p.mem_iff.mpr List.mem_cons_self
      rcases List.mem_cons.mp m1 with e | m1
      · exact e
      · rcases List.mem_cons.mp m2 with e | m2
        · exact e.symm
        · exact Int.le_antisymm (ax.1 y m2) (ay.1 x m1)
    subst e
    rw [asc_perm_eq ((List.perm_cons x).mp p) ax.2 ay.2]
def intKeys : List Key → Option (List Int)
  | [] => some []
  | .inl i :: r => (intKeys r).map (i :: ·)
  | _ => none
theorem intKeys_of : ∀ {ks : List Key} {is : List Int}, intKeys ks = some is → ks = is.map Sum.inl
  | [], is, e => by cases e; rfl
  | .inl i :: r, is, e => by
    obtain ⟨js, e1, e2⟩ := map_of e
    subst e2
    rw [intKeys_of e1]; rfl
  | .inr _ :: _, _, e => by cases e
def rSortDI : List V → Hp → VK → Prop := fun vs H Q =>
  ∃ (a : Addr) (kvs : List (Key × V)) (ks : List Int),
    vs = [.ref a] ∧ Rd H a (.dK kvs) ∧ kvs.map (·.1) = ks.map Sum.inl ∧ ks.length < 64 ∧
    ∀ (ys : List Int) (p : Addr),
      ys.Perm ks → ys.Pairwise (· ≤ ·) → H p = none → Q (.ref p) (upd H p (.lst (ys.map V.int)))
def mSortDI : List MV → MH → Option (List MV × MH) := fun xs h => (arg1 xs).bind fun x => (asK h x).bind fun t => (intKeys (t.2.map (·.1))).bind fun ks => if ks.length < 64 then some ((isort ks).map fun k => .d (.int k), h) else none
theorem ints_rep {ι : List Addr} {C : Hp} : ∀ ks : List Int, RepA K ι C (ks.map V.int) (ks.map fun k => .d (.int k))
  | [] => .nil
  | k :: ks => .cons (.d (.int k)) (ints_rep ks)
theorem sf_sortDI : SimCF K rSortDI mSortDI := fun w h us xs ys h' rl ra e Q q => by
  obtain ⟨x, e1, e⟩ := bind_of e
  obtain ⟨⟨n, kws⟩, e2, e⟩ := bind_of e
  obtain ⟨ks, e3, e⟩ := bind_of e
  split at e
  · rename_i hz
    cases e
    rw [arg1_of e1] at ra
    obtain ⟨u, rfl, rx⟩ := ra.one
    obtain ⟨a, kvs, rfl, g1, g2, g3⟩ := asK_ok rl rx e2
    refine ⟨a, kvs, ks, rfl, .inl g2, g3.1.trans (intKeys_of e3), hz, fun zs p hp ha hn => ?_⟩
    have : zs = isort ks := asc_perm_eq (hp.trans (isort_perm ks).symm) ha (isort_asc ks)
    subst this
    obtain ⟨s, r⟩ := fresh_ok (o := .lst ((isort ks).map V.int)) rl hn
    exact q _ p _ s r hn upd_same (rl.notin hn) (rl.cnone hn) (ints_rep _)
  · cases e
end
/-! ### the law -/
def spLaw (K : PySem.W.Frag) : Sp := fun vs H Q _ => ∃ (a : Addr) (ns : List Int), vs = [.ref a] ∧ SqL K H a (ns.map V.int) ∧ ns.length ≤ 63 ∧ ∀ H', Q (.bl true) H'
theorem law_imp {K : PySem.W.Frag} {pf : List PyData → Option PyData} (tell : ∀ ns : List Int, ns.length ≤ 63 → pf [.list (ns.map .int)] = some (.bool true)) {vs : List V} {H : Hp} {Q : VK} {E : XK} (h : spLaw K vs H Q E) : spQ K pf vs H Q E := by
  obtain ⟨a, ns, rfl, hS, hl, q⟩ := h
  refine ⟨H, [.list (ns.map .int)], .bool true, Ex.refl H, .cons (.lst hS G.dpa_ints) .nil, tell ns hl, fun v H' r => ?_⟩
  obtain ⟨C', _, _, _, _, d⟩ := ret_dat r
  cases d
  exact q H'
end M
namespace M
open PySem PySem.Spec PyProof.Rows L2
open G (ti li)
/-! ### what things give -/
theorem e_arg1 {x : MV} : arg1 [x] = some x := rfl
theorem e_args1 {x : MV} : args1 [x] = asI x := rfl
theorem e_args2 {x y : MV} : args2 [x, y] = (asI x).bind fun i => (asI y).map fun j => (i, j) := rfl
theorem e_argsTT {x y : MV} : argsTT [x, y] = some (x, y) := rfl
theorem e_asI {i : Int} : asI (.d (.int i)) = some i := rfl
theorem e_asB {b : Bool} {h : MH} : asB (.d (.bool b), h) = some (b, h) := rfl
theorem e_itL {h : MH} {ds : List PyData} : itemsOf h (.d (.list ds)) = some (ds.map .d) := rfl
theorem e_itT {h : MH} {ds : List PyData} : itemsOf h (.d (.tuple ds)) = some (ds.map .d) := rfl
theorem e_itM {h : MH} {xs : List MV} : itemsOf h (.tup xs) = some xs := rfl
theorem e_isTL {ds : List PyData} : isT (.d (.list ds)) = false := rfl
theorem e_isTT {ds : List PyData} : isT (.d (.tuple ds)) = true := rfl
theorem e_isTM {xs : List MV} : isT (.tup xs) = true := rfl
theorem e_isTR {n : Nat} : isT (.ref n) = false := rfl
theorem e_rowL {h : MH} {ds : List PyData} : rowOf h (.d (.list ds)) = some ([], ds.map .d) := rfl
theorem e_rowT {h : MH} {ds : List PyData} : rowOf h (.d (.tuple ds)) = some ([], ds.map .d) := rfl
theorem e_rowM {h : MH} {xs : List MV} : rowOf h (.tup xs) = some ([], xs) := rfl
theorem e_allD0 : allD [] = some [] := rfl
theorem e_allD1 {p : PyData} {xs : List MV} : allD (.d p :: xs) = (allD xs).map (p :: ·) := rfl
theorem e_allDm (ds : List PyData) : allD (ds.map .d) = some ds := allD_map ds
theorem e_allDf {α : Type} (f : α → PyData) (ks : List α) : allD (ks.map fun k => .d (f k)) = some (ks.map f) := by
  rw [show (ks.map fun k => MV.d (f k)) = (ks.map f).map .d by rw [List.map_map]; rfl]
  exact allD_map _
theorem e_liftD {f : List PyData → Option PyData} {xs : List MV} {h : MH} {ds : List PyData} (e : allD xs = some ds) : liftD f xs h = (f ds).map fun r => (.d r, h) := by unfold liftD; rw [e]
theorem e_lift1 {f : List PyData → Option PyData} {a : PyData} {h : MH} : liftD f [.d a] h = (f [a]).map fun r => (.d r, h) := rfl
theorem e_lift2 {f : List PyData → Option PyData} {a b : PyData} {h : MH} : liftD f [.d a, .d b] h = (f [a, b]).map fun r => (.d r, h) := rfl
theorem e_lift3 {f : List PyData → Option PyData} {a b c : PyData} {h : MH} : liftD f [.d a, .d b, .d c] h = (f [a, b, c]).map fun r => (.d r, h) := rfl
theorem e_lift4 {f : List PyData → Option PyData} {a b c d : PyData} {h : MH} : liftD f [.d a, .d b, .d c, .d d] h = (f [a, b, c, d]).map fun r => (.d r, h) := rfl
theorem e_mkTup1 {a : PyData} : mkTup [.d a] = .d (.tuple [a]) := rfl
theorem e_mkTup2 {a b : PyData} : mkTup [.d a, .d b] = .d (.tuple [a, b]) := rfl
theorem e_mkTup3 {a b c : PyData} : mkTup [.d a, .d b, .d c] = .d (.tuple [a, b, c]) := rfl
theorem e_mkTup4 {a b c d : PyData} : mkTup [.d a, .d b, .d c, .d d] = .d (.tuple [a, b, c, d]) := rfl
theorem e_mkTup5 {a b c d e : PyData} : mkTup [.d a, .d b, .d c, .d d, .d e] = .d (.tuple [a, b, c, d, e]) := rfl
theorem e_mkTupm (ds : List PyData) : mkTup (ds.map .d) = .d (.tuple ds) := mkTup_d ds
theorem e_mkTupf {α : Type} (f : α → PyData) (ks : List α) : mkTup (ks.map fun k => .d (f k)) = .d (.tuple (ks.map f)) := by unfold mkTup; rw [e_allDf]
theorem e_mgTupT {n : Nat} {gs : MGs} {ds : List PyData} {env : Env} : mgTup n gs (.d (.tuple ds)) env = if ds.length = n then gs (ds.map .d) env else none := rfl
theorem e_mgTupM {n : Nat} {gs : MGs} {xs : List MV} {env : Env} : mgTup n gs (.tup xs) env = if xs.length = n then gs xs env else none := rfl
theorem e_mgCons {g : MG} {gs : MGs} {v : MV} {r : List MV} {env : Env} : mgCons g gs (v :: r) env = (g v env).bind (gs r) := rfl
theorem e_mgNil {env : Env} : mgNil [] env = some env := rfl
theorem e_mgName {i : Nat} {v : MV} {env : Env} : mgName i v env = some (env.set i (some v)) := rfl
theorem e_seqN {mb : MS} {e : Env} {h : MH} : mSeqK mb (.nx e h) = mb e h := rfl
theorem e_seqR {mb : MS} {v : MV} {h : MH} : mSeqK mb (.rt v h) = some (.rt v h) := rfl
theorem e_seqB {mb : MS} {e : Env} {h : MH} : mSeqK mb (.bk e h) = some (.bk e h) := rfl
theorem e_seqC {mb : MS} {e : Env} {h : MH} : mSeqK mb (.ct e h) = some (.ct e h) := rfl
theorem e_resR {v : MV} {h : MH} : resM (.rt v h) = some (v, h) := rfl
theorem e_resN {e : Env} {h : MH} : resM (.nx e h) = some (.d .none, h) := rfl
theorem e_mVar {i : Nat} {env : Env} {h : MH} : mVar i env h = match env[i]? with
  | some (some v) => some (v, h)
  | _ => none := rfl
theorem e_int1 {i : Int} : fInt1 [.int i] = some (.int i) := rfl
theorem e_int1b {b : Bool} : fInt1 [.bool b] = some (.int (if b then 1 else 0)) := rfl
theorem e_max2 {i j : Int} : fMax2 [.int i, .int j] = some (.int (max i j)) := rfl
theorem e_min2 {i j : Int} : fMin2 [.int i, .int j] = some (.int (min i j)) := rfl
theorem e_abs {i : Int} : fAbs [.int i] = some (.int (i.natAbs : Int)) := rfl
theorem e_allB {bs : List Bool} : fAll [.list (bs.map .bool)] = some (.bool (bs.all id)) := by unfold fAll; simp only [boolsOf_map]; rfl
theorem e_anyB {bs : List Bool} : fAny [.list (bs.map .bool)] = some (.bool (bs.any id)) := by unfold fAny; simp only [boolsOf_map]; rfl
theorem e_allF {α : Type} {ks : List α} {f : α → Bool} : fAll [.list (ks.map fun k => .bool (f k))] = some (.bool (ks.all f)) := by
  have := e_allB (bs := ks.map f)
  rw [List.map_map] at this
  rw [show (ks.map fun k => PyData.bool (f k)) = ks.map (PyData.bool ∘ f) from rfl, this]
  congr 2
  rw [List.all_map]; rfl
theorem e_anyF {α : Type} {ks : List α} {f : α → Bool} : fAny [.list (ks.map fun k => .bool (f k))] = some (.bool (ks.any f)) := by
  have := e_anyB (bs := ks.map f)
  rw [List.map_map] at this
  rw [show (ks.map fun k => PyData.bool (f k)) = ks.map (PyData.bool ∘ f) from rfl, this]
  congr 2
  rw [List.any_map]; rfl
theorem e_repA {ds : List PyData} {k : Int} {h : MH} (h1 : ds ≠ []) (h2 : ds.length ≤ 1000) (h3 : 1 ≤ k) (h4 : k ≤ 1000) : mRepA (.d (.tuple ds)) (.d (.int k)) h = some (.d (.tuple (List.replicate k.toNat ds).flatten), h) := by
  unfold mRepA
  simp only [e_asI, Option.bind_some]
  rw [if_pos ⟨h1, h2, h3, h4⟩]
theorem e_eqD {neg : Bool} {d e : PyData} {h : MH} (h1 : SeqAt.shaped d = true) (h2 : SeqAt.shaped e = true) : mEqD neg (.d d) (.d e) h = some (.d (.bool (if neg = true then !PyData.eqv d e else PyData.eqv d e)), h) := by
  unfold mEqD
  rw [reify_d, reify_d, Option.bind_some, Option.bind_some, if_pos ⟨h1, h2⟩]
theorem e_eqI {i j : Int} {h : MH} : mEqD false (.d (.int i)) (.d (.int j)) h = some (.d (.bool (decide (i = j))), h) := by rw [e_eqD (G.sh_int i) (G.sh_int j), G.eqv_int]; rfl
theorem e_neI {i j : Int} {h : MH} : mEqD true (.d (.int i)) (.d (.int j)) h = some (.d (.bool (!decide (i = j))), h) := by rw [e_eqD (G.sh_int i) (G.sh_int j), G.eqv_int]; rfl
theorem e_eqB {i j : Bool} {h : MH} : mEqD false (.d (.bool i)) (.d (.bool j)) h = some (.d (.bool (decide (i = j))), h) := by rw [e_eqD (G.sh_bool i) (G.sh_bool j), G.eqv_bool]; rfl
theorem e_neB {i j : Bool} {h : MH} : mEqD true (.d (.bool i)) (.d (.bool j)) h = some (.d (.bool (!decide (i = j))), h) := by rw [e_eqD (G.sh_bool i) (G.sh_bool j), G.eqv_bool]; rfl
theorem e_eqT {xs ys : List Int} {h : MH} : mEqD false (.d (ti xs)) (.d (ti ys)) h = some (.d (.bool (decide (xs = ys))), h) := by rw [e_eqD (G.sh_ti xs) (G.sh_ti ys), G.eqv_ti]; rfl
theorem e_neT {xs ys : List Int} {h : MH} : mEqD true (.d (ti xs)) (.d (ti ys)) h = some (.d (.bool (!decide (xs = ys))), h) := by rw [e_eqD (G.sh_ti xs) (G.sh_ti ys), G.eqv_ti]; rfl
theorem e_eqL {xs ys : List Int} {h : MH} : mEqD false (.d (li xs)) (.d (li ys)) h = some (.d (.bool (decide (xs = ys))), h) := by rw [e_eqD (G.sh_li xs) (G.sh_li ys), G.eqv_li]; rfl
theorem e_neL {xs ys : List Int} {h : MH} : mEqD true (.d (li xs)) (.d (li ys)) h = some (.d (.bool (!decide (xs = ys))), h) := by rw [e_eqD (G.sh_li xs) (G.sh_li ys), G.eqv_li]; rfl
theorem e_IC {c : Int → Int → Prop} {g : Int → Int → Int} {i j : Int} {h : MH} (hc : c i j) : mIC c g (.d (.int i)) (.d (.int j)) h = some (.d (.int (g i j)), h) := by
  show (asI (.d (.int i))).bind _ = _
  rw [e_asI, Option.bind_some, e_asI, Option.bind_some, if_pos hc]
theorem e_mod {i j : Int} {h : MH} (hj : 0 < j) : mIC (fun _ j => 0 < j) (fun i j => i % j) (.d (.int i)) (.d (.int j)) h = some (.d (.int (i % j)), h) := e_IC hj
theorem e_I {g : Int → Int → Int} {i j : Int} {h : MH} : mI g (.d (.int i)) (.d (.int j)) h = some (.d (.int (g i j)), h) := rfl
theorem e_IB {g : Int → Int → Bool} {i j : Int} {h : MH} : mIB g (.d (.int i)) (.d (.int j)) h = some (.d (.bool (g i j)), h) := rfl
theorem e_neg {i : Int} {h : MH} : mNeg (.d (.int i)) h = some (.d (.int (-i)), h) := rfl
theorem atI_map {α β : Type} (f : α → β) (xs : List α) (i : Int) : atI (xs.map f) i = (atI xs i).map f := by
  unfold atI
  rw [List.length_map]
  cases ixN xs.length i with
  | none => rfl
  | some j => simp
theorem atI_get {α : Type} {xs : List α} {i : Int} (h0 : 0 ≤ i) (h1 : i < xs.length) (z : α) : atI xs i = some (xs.getD i.toNat z) := by
  refine G.atI_ok h0 ?_
  rw [List.getD_eq_getElem?_getD, List.getElem?_eq_getElem (by omega)]; rfl
theorem e_ixL {ds : List PyData} {i : Int} {h : MH} {p : PyData} (e : atI ds i = some p) : mIx (.d (.list ds)) (.d (.int i)) h = some (.d p, h) := by
  show (itemsOf h (.d (.list ds))).bind _ = _
  rw [e_itL, Option.bind_some, e_asI, Option.bind_some, atI_map, e]; rfl
theorem e_ixT {ds : List PyData} {i : Int} {h : MH} {p : PyData} (e : atI ds i = some p) : mIx (.d (.tuple ds)) (.d (.int i)) h = some (.d p, h) := by
  show (itemsOf h (.d (.tuple ds))).bind _ = _
  rw [e_itT, Option.bind_some, e_asI, Option.bind_some, atI_map, e]; rfl
theorem e_ixLi {xs : List Int} {i : Int} {h : MH} (h0 : 0 ≤ i) (h1 : i < xs.length) : mIx (.d (li xs)) (.d (.int i)) h = some (.d (.int (xs.getD i.toNat 0)), h) := e_ixL (by rw [atI_map, atI_get h0 h1 0]; rfl)
theorem e_ixTi {xs : List Int} {i : Int} {h : MH} (h0 : 0 ≤ i) (h1 : i < xs.length) : mIx (.d (ti xs)) (.d (.int i)) h = some (.d (.int (xs.getD i.toNat 0)), h) := e_ixT (by rw [atI_map, atI_get h0 h1 0]; rfl)
theorem e_ixR {n : Nat} {xs : List MV} {i : Int} {h : MH} {x : MV} (hn : h[n]? = some (.lst xs)) (e : atI xs i = some x) : mIx (.ref n) (.d (.int i)) h = some (x, h) := by
  show (itemsOf h (.ref n)).bind _ = _
  have : itemsOf h (.ref n) = some xs := by
    show (asL h (.ref n)).map (·.2) = _
    unfold asL
    simp only [hn]; rfl
  rw [this, Option.bind_some, e_asI, Option.bind_some, e]; rfl
theorem e_itR {n : Nat} {xs : List MV} {h : MH} (hn : h[n]? = some (.lst xs)) : itemsOf h (.ref n) = some xs := by
  show (asL h (.ref n)).map (·.2) = _
  unfold asL
  simp only [hn]; rfl
theorem e_asL {n : Nat} {xs : List MV} {h : MH} (hn : h[n]? = some (.lst xs)) : asL h (.ref n) = some (n, xs) := by
  unfold asL
  simp only [hn]
theorem e_asK {n : Nat} {kws : List (Key × MV)} {h : MH} (hn : h[n]? = some (.dct kws)) : asK h (.ref n) = some (n, kws) := by
  unfold asK
  simp only [hn]
theorem e_keyI {i : Int} : keyOf (.d (.int i)) = some (.inl i) := rfl
theorem e_keyS {s : Str} : keyOf (.d (.str s)) = some (.inr s) := rfl
/-! ### loops -/
theorem lc_map {α : Type} {g : MG} {me : ME} {env : Env} {h : MH} (φ f : α → MV) : ∀ ks : List α, (∀ k ∈ ks, (g (φ k) env).bind (fun e => me e h) = some (f k, h)) → lcLoop g mYes me [] env (ks.map φ) h = some (ks.map f, h)
  | [], _ => by rw [List.map_nil, lcLoop, srcIf_nil]; rfl
  | k :: ks, hb => by
    rw [List.map_cons, lcLoop, srcIf_nil]
    have h1 := hb k List.mem_cons_self
    obtain ⟨e', e1, e2⟩ := bind_of h1
    rw [e1, Option.bind_some]
    show (some (true, h)).bind _ = _
    rw [Option.bind_some]
    simp only [if_true]
    rw [e2, Option.bind_some, lc_map φ f ks fun k m => hb k (List.mem_cons_of_mem _ m)]
    rfl
theorem lc_filt {α : Type} {g : MG} {mt : MT} {me : ME} {env : Env} {h : MH} (φ f : α → MV) (c : α → Bool) : ∀ ks : List α, (∀ k ∈ ks, (g (φ k) env).bind (fun e => mt e h) = some (c k, h)) → (∀ k ∈ ks, c k = true → (g (φ k) env).bind (fun e => me e h) = some (f k, h)) → lcLoop g mt me [] env (ks.map φ) h = some ((ks.filter c).map f, h)
  | [], _, _ => by rw [List.map_nil, lcLoop, srcIf_nil]; rfl
  | k :: ks, ht, hb => by
    rw [List.map_cons, lcLoop, srcIf_nil]
    have h1 := ht k List.mem_cons_self
    obtain ⟨e', e1, e2⟩ := bind_of h1
    rw [e1, Option.bind_some, e2, Option.bind_some]
    have ih := lc_filt φ f c ks (fun k m => ht k (List.mem_cons_of_mem _ m)) (fun k m => hb k (List.mem_cons_of_mem _ m))
    cases hc : c k with
    | true =>
      have h2 := hb k List.mem_cons_self hc
      rw [e1, Option.bind_some] at h2
      rw [if_pos rfl, h2, Option.bind_some, ih, List.filter_cons, if_pos hc]
      rfl
    | false =>
      rw [if_neg (fun z => nomatch z), ih, List.filter_cons, if_neg (by rw [hc]; decide)]
theorem mLc_map {α : Type} {mi : MI} {g : MG} {me : ME} {vs : List Nat} {env : Env} {h h1 : MH} (ks : List α) (φ f : α → MV) (hi : mi env h = some (([], ks.map φ), h1)) (hb : ∀ k ∈ ks, (g (φ k) (wipeM env vs)).bind (fun e => me e h1) = some (f k, h1)) (hz : ks.length ≤ 100000) : mLc mi g mYes me vs env h = some (ks.map f, h1) := by
  unfold mLc
  rw [hi, Option.bind_some]
  show (lcLoop g mYes me [] (wipeM env vs) (ks.map φ) h1).bind _ = _
  rw [lc_map φ f ks hb, Option.bind_some, if_pos (by simpa using hz)]
theorem mLc_filt {α : Type} {mi : MI} {g : MG} {mt : MT} {me : ME} {vs : List Nat} {env : Env} {h h1 : MH} (ks : List α) (φ f : α → MV) (c : α → Bool) (hi : mi env h = some (([], ks.map φ), h1)) (ht : ∀ k ∈ ks, (g (φ k) (wipeM env vs)).bind (fun e => mt e h1) = some (c k, h1)) (hb : ∀ k ∈ ks, c k = true → (g (φ k) (wipeM env vs)).bind (fun e => me e h1) = some (f k, h1)) (hz : ks.length ≤ 100000) :
    mLc mi g mt me vs env h = some ((ks.filter c).map f, h1) := by
  unfold mLc
  rw [hi, Option.bind_some]
  show (lcLoop g mt me [] (wipeM env vs) (ks.map φ) h1).bind _ = _
  rw [lc_filt φ f c ks ht hb, Option.bind_some, if_pos (by
    show ((ks.filter c).map f).length ≤ _
    rw [List.length_map]; exact Nat.le_trans (List.length_filter_le _ _) hz)]
/-- a loop with an invariant: Inv i env h ahead of turn i -/
theorem mLoop_inv {α : Type} {g : MG} {mb : MS} (φ : α → MV) (ks : List α) (Inv : Nat → Env → MH → Prop) (step : ∀ i k env h, ks[i]? = some k → Inv i env h → ∃ env1 env2 h2, g (φ k) env = some env1 ∧ mb env1 h = some (.nx env2 h2) ∧ Inv (i + 1) env2 h2) :
    ∀ (i : Nat) (env : Env) (h : MH), i ≤ ks.length → Inv i env h → ∃ env' h', mLoop g mb [] ((ks.drop i).map φ) env h = some (.nx env' h') ∧ Inv ks.length env' h' := by
  intro i
  generalize hn : ks.length - i = n
  induction n generalizing i with
  | zero =>
    intro env h hi inv
    have : i = ks.length := by omega
    subst this
    rw [List.drop_length, List.map_nil, mLoop, srcIf_nil]
    exact ⟨env, h, rfl, inv⟩
  | succ n ih =>
    intro env h hi inv
    have hlt : i < ks.length := by omega
    rw [List.drop_eq_getElem_cons hlt, List.map_cons, mLoop, srcIf_nil]
    obtain ⟨e1, e2, h2, g1, g2, g3⟩ := step i ks[i] env h (by simp [hlt]) inv
    rw [g1, Option.bind_some, g2, Option.bind_some]
    exact ih (i + 1) (by omega) e2 h2 hlt g3
theorem mFor_inv {α : Type} {mi : MI} {g : MG} {mb : MS} {env : Env} {h h1 : MH} (ks : List α) (φ : α → MV) (hi : mi env h = some (([], ks.map φ), h1)) (Inv : Nat → Env → MH → Prop) (h0 : Inv 0 env h1)
    (step : ∀ i k env h, ks[i]? = some k → Inv i env h → ∃ env1 env2 h2, g (φ k) env = some env1 ∧ mb env1 h = some (.nx env2 h2) ∧ Inv (i + 1) env2 h2) : ∃ env' h', mFor mi g mb env h = some (.nx env' h') ∧ Inv ks.length env' h' := by
  unfold mFor
  rw [hi, Option.bind_some]
  exact mLoop_inv φ ks Inv step 0 env h1 (Nat.zero_le _) h0
theorem e_zipT {ma : MA} {env : Env} {h h1 : MH} {xs ys : List PyData} (e : ma env h = some ([.d (.tuple xs), .d (.tuple ys)], h1)) : mZip ma env h = some (([], (xs.zip ys).map fun z => .d (.tuple [z.1, z.2])), h1) := by
  unfold mZip
  rw [e, Option.bind_some, e_argsTT, Option.bind_some]
  simp only [e_isTT, if_true, e_rowT, Option.bind_some, Option.map_some, List.nil_append]
  congr 3
  rw [List.zip_map, List.map_map]
  refine List.map_congr_left fun z _ => ?_
  rfl
theorem e_enumT {ma : MA} {env : Env} {h h1 : MH} {xs : List PyData} (e : ma env h = some ([.d (.tuple xs)], h1)) : mEnum ma env h = some (([], xs.zipIdx.map fun z => .d (.tuple [.int (z.2 : Int), z.1])), h1) := by
  unfold mEnum
  rw [e, Option.bind_some, e_arg1, Option.bind_some, e_rowT, Option.map_some]
  congr 3
  rw [List.zipIdx_map, List.map_map]
  refine List.map_congr_left fun z _ => ?_
  rfl
theorem e_enumL {ma : MA} {env : Env} {h h1 : MH} {xs : List PyData} (e : ma env h = some ([.d (.list xs)], h1)) : mEnum ma env h = some (([], xs.zipIdx.map fun z => .d (.tuple [.int (z.2 : Int), z.1])), h1) := by
  unfold mEnum
  rw [e, Option.bind_some, e_arg1, Option.bind_some, e_rowL, Option.map_some]
  congr 3
  rw [List.zipIdx_map, List.map_map]
  refine List.map_congr_left fun z _ => ?_
  rfl
theorem e_rng1 {ma : MA} {env : Env} {h h1 : MH} {n : Int} (e : ma env h = some ([.d (.int n)], h1)) (hn : n ≤ 100000000) (h0 : -100000000 ≤ n) : mRng1 ma env h = some (([], (List.range n.toNat).map fun (k : Nat) => .d (.int (k : Int))), h1) := by
  unfold mRng1
  rw [e, Option.bind_some, e_args1, e_asI, Option.bind_some, if_pos ⟨hn, h0⟩]
theorem e_lst {me : ME} {env : Env} {h h1 : MH} {ds : List PyData} (e : me env h = some (.d (.list ds), h1)) : mItL me env h = some (([], ds.map .d), h1) := by
  unfold mItL
  rw [e, Option.bind_some, if_pos e_isTL, e_rowL]; rfl
theorem e_tup {me : ME} {env : Env} {h h1 : MH} {ds : List PyData} (e : me env h = some (.d (.tuple ds), h1)) : mItT me env h = some (([], ds.map .d), h1) := by
  unfold mItT
  rw [e, Option.bind_some, if_pos e_isTT, e_rowT]; rfl
end M
namespace M
open PySem PySem.Spec PyProof.Rows L2
open G (ti li)
theorem e_asL0 {xs : List MV} {h : MH} : asL (Ob.lst xs :: h) (.ref 0) = some (0, xs) := rfl
theorem e_asL1 {xs : List MV} {a : Ob} {h : MH} : asL (a :: Ob.lst xs :: h) (.ref 1) = some (1, xs) := rfl
theorem e_asL2 {xs : List MV} {a b : Ob} {h : MH} : asL (a :: b :: Ob.lst xs :: h) (.ref 2) = some (2, xs) := rfl
theorem e_it0 {xs : List MV} {h : MH} : itemsOf (Ob.lst xs :: h) (.ref 0) = some xs := rfl
theorem e_it1 {xs : List MV} {a : Ob} {h : MH} : itemsOf (a :: Ob.lst xs :: h) (.ref 1) = some xs := rfl
theorem e_it2 {xs : List MV} {a b : Ob} {h : MH} : itemsOf (a :: b :: Ob.lst xs :: h) (.ref 2) = some xs := rfl
abbrev dI (x : Int) : MV := .d (.int x)
theorem re_ints (k : Nat) (h : MH) (xs : List Int) : mapO (reify k h) (xs.map dI) = some (xs.map .int) := by
  rw [show xs.map dI = (xs.map PyData.int).map .d by rw [List.map_map]; rfl]
  exact mapO_reify_d k h _
theorem re_ref {k : Nat} {h : MH} {n : Nat} {ys : List MV} {ds : List PyData} (hn : h[n]? = some (.lst ys)) (e : mapO (reify k h) ys = some ds) : reify (k + 1) h (.ref n) = some (.list ds) := by
  show (match h[n]? with | some (.lst xs) => (mapO (reify k h) xs).map PyData.list | _ => none) = _
  simp only [hn, e]; rfl
theorem re_li {k : Nat} {h : MH} {n : Nat} {xs : List Int} (hn : h[n]? = some (.lst (xs.map dI))) : reify (k + 1) h (.ref n) = some (li xs) := re_ref hn (re_ints k h xs)
theorem ii_map (xs : List Int) : (xs.map PyData.int).map MV.d = xs.map dI := by rw [List.map_map]; rfl
theorem cmul_r {i j : Int} (h : -(2 ^ 64) < j ∧ j < 2 ^ 64) : CMul i j ∨ CMulW i j := .inl (.inr h)
theorem cmul_l {i j : Int} (h : -(2 ^ 64) < i ∧ i < 2 ^ 64) : CMul i j ∨ CMulW i j := .inl (.inl h)
theorem cdiv_ok {i j : Int} (h0 : 0 < j) (h1 : j < 2 ^ 62) : CDivW i j := by
  refine ⟨h0, ?_⟩
  have : j.natAbs < 2 ^ 9000 := by
    have : j.natAbs < 2 ^ 62 := by omega
    exact Nat.lt_of_lt_of_le this (Nat.pow_le_pow_right (by decide) (by decide))
  by_cases hz : j.natAbs = 0
  · rw [hz]; decide
  · exact (Nat.log2_lt hz).mpr this
theorem cpow_ok {i j : Int} (h0 : 0 ≤ j) (h1 : j ≤ 64) (h2 : i.natAbs < 2 ^ 64) : CPow i j := ⟨h0, by omega, h2⟩
theorem e_pow1018 {h : MH} : mIC CPow (fun i j => i ^ j.toNat) (.d (.int 10)) (.d (.int 18)) h = some (.d (.int 1000000000000000000), h) := by
  rw [e_IC (cpow_ok (by decide) (by decide) (by decide))]
  rfl
end M
namespace M
open PySem PySem.Spec PyProof.Rows L2
open G (ti li)
theorem tup_ti {α : Type} (f : α → Int) (ks : List α) : PyData.tuple (ks.map fun k => .int (f k)) = ti (ks.map f) := by
  unfold ti
  rw [List.map_map]; rfl
theorem lst_li {α : Type} (f : α → Int) (ks : List α) : PyData.list (ks.map fun k => .int (f k)) = li (ks.map f) := by
  unfold li
  rw [List.map_map]; rfl
theorem key_ne {s t : Str} (h : (s == t) = false) : ((Sum.inr s : Key) = Sum.inr t) = False := by
  refine eq_false fun e => ?_
  injection e with e
  subst e
  simp at h
end M
namespace M
open PySem
theorem str_ne {s t : Str} (h : (s == t) = false) : (s = t) = False := by
  refine eq_false fun e => ?_
  subst e
  simp at h
end M
namespace M
open PySem
theorem e_mCons {ma : ME} {mr : MA} {env : Env} {h h1 h2 : MH} {x : MV} {xs : List MV} (e1 : ma env h = some (x, h1)) (e2 : mr env h1 = some (xs, h2)) : mCons ma mr env h = some (x :: xs, h2) := by
  unfold mCons
  rw [e1, Option.bind_some, e2]; rfl
theorem e_mTup {ma : MA} {env : Env} {h h1 : MH} {xs : List MV} (e1 : ma env h = some (xs, h1)) (hz : xs.length ≤ 100000 := by decide) : mTup ma env h = some (mkTup xs, h1) := by
  unfold mTup
  rw [e1, Option.bind_some, if_pos hz]
theorem e_mOp {mr : MO2} {ma mb : ME} {env : Env} {h h1 h2 : MH} {x y : MV} (e1 : ma env h = some (x, h1)) (e2 : mb env h1 = some (y, h2)) : mOp mr ma mb env h = mr x y h2 := by
  unfold mOp
  rw [e1, Option.bind_some, e2]; rfl
theorem e_mCB {mr : MCa} {ma : MA} {env : Env} {h h1 : MH} {xs : List MV} (e1 : ma env h = some (xs, h1)) : mCB mr ma env h = mr xs h1 := by
  unfold mCB
  rw [e1]; rfl
theorem e_mSeq {a b : MS} {env env1 : Env} {h h1 : MH} (e : a env h = some (.nx env1 h1)) : mSeq a b env h = b env1 h1 := by
  unfold mSeq
  rw [e]; rfl
theorem e_mAsg {me : ME} {g : MG} {env env1 : Env} {h h1 : MH} {v : MV} (e : me env h = some (v, h1)) (e2 : g v env = some env1) : mAsg me g env h = some (.nx env1 h1) := by
  unfold mAsg
  rw [e, Option.bind_some, e2]; rfl
theorem e_mIfS {mt : MT} {a b : MS} {env : Env} {h h1 : MH} {k : Bool} (e : mt env h = some (k, h1)) : mIfS mt a b env h = if k = true then a env h1 else b env h1 := by
  unfold mIfS
  rw [e]; rfl
theorem e_mTest {me : ME} {env : Env} {h h1 : MH} {k : Bool} (e : me env h = some (.d (.bool k), h1)) : mTest me env h = some (k, h1) := by
  unfold mTest
  rw [e]; rfl
theorem e_mDrop {me : ME} {env : Env} {h h1 : MH} {v : MV} (e : me env h = some (v, h1)) : mDrop me env h = some (.nx env h1) := by
  unfold mDrop
  rw [e]; rfl
end M
namespace M
open PySem
theorem e_ixL_0 { x : PyData} {xs : List PyData} {h : MH} : mIx (.d (.list (x :: xs))) (.d (.int 0)) h = some (.d x, h) := e_ixL (G.atI_ok (by decide) rfl)
theorem e_ixT_0 { x : PyData} {xs : List PyData} {h : MH} : mIx (.d (.tuple (x :: xs))) (.d (.int 0)) h = some (.d x, h) := e_ixT (G.atI_ok (by decide) rfl)
theorem e_ixL_1 {a0 x : PyData} {xs : List PyData} {h : MH} : mIx (.d (.list (a0 :: x :: xs))) (.d (.int 1)) h = some (.d x, h) := e_ixL (G.atI_ok (by decide) rfl)
theorem e_ixT_1 {a0 x : PyData} {xs : List PyData} {h : MH} : mIx (.d (.tuple (a0 :: x :: xs))) (.d (.int 1)) h = some (.d x, h) := e_ixT (G.atI_ok (by decide) rfl)
theorem e_ixL_2 {a0 a1 x : PyData} {xs : List PyData} {h : MH} : mIx (.d (.list (a0 :: a1 :: x :: xs))) (.d (.int 2)) h = some (.d x, h) := e_ixL (G.atI_ok (by decide) rfl)
theorem e_ixT_2 {a0 a1 x : PyData} {xs : List PyData} {h : MH} : mIx (.d (.tuple (a0 :: a1 :: x :: xs))) (.d (.int 2)) h = some (.d x, h) := e_ixT (G.atI_ok (by decide) rfl)
theorem e_ixL_3 {a0 a1 a2 x : PyData} {xs : List PyData} {h : MH} : mIx (.d (.list (a0 :: a1 :: a2 :: x :: xs))) (.d (.int 3)) h = some (.d x, h) := e_ixL (G.atI_ok (by decide) rfl)
theorem e_ixT_3 {a0 a1 a2 x : PyData} {xs : List PyData} {h : MH} : mIx (.d (.tuple (a0 :: a1 :: a2 :: x :: xs))) (.d (.int 3)) h = some (.d x, h) := e_ixT (G.atI_ok (by decide) rfl)
theorem e_ixL_4 {a0 a1 a2 a3 x : PyData} {xs : List PyData} {h : MH} : mIx (.d (.list (a0 :: a1 :: a2 :: a3 :: x :: xs))) (.d (.int 4)) h = some (.d x, h) := e_ixL (G.atI_ok (by decide) rfl)
theorem e_ixT_4 {a0 a1 a2 a3 x : PyData} {xs : List PyData} {h : MH} : mIx (.d (.tuple (a0 :: a1 :: a2 :: a3 :: x :: xs))) (.d (.int 4)) h = some (.d x, h) := e_ixT (G.atI_ok (by decide) rfl)
theorem e_ixL_5 {a0 a1 a2 a3 a4 x : PyData} {xs : List PyData} {h : MH} : mIx (.d (.list (a0 :: a1 :: a2 :: a3 :: a4 :: x :: xs))) (.d (.int 5)) h = some (.d x, h) := e_ixL (G.atI_ok (by decide) rfl)
theorem e_ixT_5 {a0 a1 a2 a3 a4 x : PyData} {xs : List PyData} {h : MH} : mIx (.d (.tuple (a0 :: a1 :: a2 :: a3 :: a4 :: x :: xs))) (.d (.int 5)) h = some (.d x, h) := e_ixT (G.atI_ok (by decide) rfl)
theorem e_ixL_6 {a0 a1 a2 a3 a4 a5 x : PyData} {xs : List PyData} {h : MH} : mIx (.d (.list (a0 :: a1 :: a2 :: a3 :: a4 :: a5 :: x :: xs))) (.d (.int 6)) h = some (.d x, h) := e_ixL (G.atI_ok (by decide) rfl)
theorem e_ixT_6 {a0 a1 a2 a3 a4 a5 x : PyData} {xs : List PyData} {h : MH} : mIx (.d (.tuple (a0 :: a1 :: a2 :: a3 :: a4 :: a5 :: x :: xs))) (.d (.int 6)) h = some (.d x, h) := e_ixT (G.atI_ok (by decide) rfl)
theorem e_ixL_7 {a0 a1 a2 a3 a4 a5 a6 x : PyData} {xs : List PyData} {h : MH} : mIx (.d (.list (a0 :: a1 :: a2 :: a3 :: a4 :: a5 :: a6 :: x :: xs))) (.d (.int 7)) h = some (.d x, h) := e_ixL (G.atI_ok (by decide) rfl)
theorem e_ixT_7 {a0 a1 a2 a3 a4 a5 a6 x : PyData} {xs : List PyData} {h : MH} : mIx (.d (.tuple (a0 :: a1 :: a2 :: a3 :: a4 :: a5 :: a6 :: x :: xs))) (.d (.int 7)) h = some (.d x, h) := e_ixT (G.atI_ok (by decide) rfl)
theorem e_ixL_8 {a0 a1 a2 a3 a4 a5 a6 a7 x : PyData} {xs : List PyData} {h : MH} : mIx (.d (.list (a0 :: a1 :: a2 :: a3 :: a4 :: a5 :: a6 :: a7 :: x :: xs))) (.d (.int 8)) h = some (.d x, h) := e_ixL (G.atI_ok (by decide) rfl)
theorem e_ixT_8 {a0 a1 a2 a3 a4 a5 a6 a7 x : PyData} {xs : List PyData} {h : MH} : mIx (.d (.tuple (a0 :: a1 :: a2 :: a3 :: a4 :: a5 :: a6 :: a7 :: x :: xs))) (.d (.int 8)) h = some (.d x, h) := e_ixT (G.atI_ok (by decide) rfl)
end M
namespace L2
open PySem PySem.Spec PyProof.Rows
/-! ### two dicts, equal or not -/
inductive HitsV (K : PySem.W.Frag) (H : Hp) (ls : List (Key × V)) : List (Key × V) → Bool → Prop
  | nil : HitsV K H ls [] true
  | miss {k : Key} {v : V} {r : List (Key × V)} : valV ls k = none → HitsV K H ls ((k, v) :: r) false
  | hit {k : Key} {v y : V} {r : List (Key × V)} {d e : PyData} {b : Bool} : valV ls k = some y → Dp K H v d → Dp K H y e → SeqAt.shaped d = true → SeqAt.shaped e = true → HitsV K H ls r b → HitsV K H ls ((k, v) :: r) (PyData.eqv d e && b)
def rDk (K : PySem.W.Frag) (neg : Bool) : R2 := fun x y H Q => ∃ (a b : Addr) (ks ls : List (Key × V)) (r : Bool), x = .ref a ∧ y = .ref b ∧ H a = some (.dK ks) ∧ H b = some (.dK ls) ∧ HitsV K H ls ks r ∧ Q (.bl (if neg = true then !((ks.length == ls.length) && r) else ((ks.length == ls.length) && r))) H
section
variable {X : Cx} {pins : List (Addr × Obj)} {σ : St} {H : Hp} {s : Shared}
theorem shaped_of {d : PyData} (h : SeqAt.shaped d = true) : d.canLay0 = true ∧ d.depth ≤ 64 := by
  unfold SeqAt.shaped at h
  simp only [Bool.and_eq_true, decide_eq_true_eq] at h
  omega
theorem hits_run2 (I : Inv X pins σ H s) {A : Around} (hu : A.units + 64 < cLine) {ls : List (Key × V)} {vb : List (Key × Value)} (rb : KV ls vb) {ks : List (Key × V)} {r : Bool} (h : HitsV X.K H ls ks r) : ∀ {va : List (Key × Value)}, KV ks va → PySem.W.KeqHits A s vb va r := by
  induction h with
  | nil => intro va k; cases k; exact .nil
  | @miss k0 v0 r0 hn =>
    intro va k
    cases k with
    | cons hq hr =>
      rename_i q _
      obtain ⟨q1, q2⟩ := q
      obtain ⟨e1, e2⟩ := hq
      cases e1
      have := rb.val k0
      rw [hn] at this
      refine .miss ?_
      cases hv : valueAt vb k0 with
      | none => rfl
      | some u => rw [hv] at this; cases this
  | @hit k0 v0 y0 r0 d0 e0 b0 hy hd he sd se _ ih =>
    intro va k
    cases k with
    | cons hq hr =>
      rename_i q _
      obtain ⟨q1, q2⟩ := q
      obtain ⟨e1, e2⟩ := hq
      cases e1
      have := rb.val k0
      rw [hy] at this
      cases hv : valueAt vb k0 with
      | none => rw [hv] at this; cases this
      | some u =>
        rw [hv] at this
        obtain ⟨as, r1⟩ := Dp.reads I _ _ _ hd e2
        have ru : RelV y0 u := by
          first | exact this | (cases this; assumption)
        obtain ⟨bs, r2⟩ := Dp.reads I _ _ _ he ru
        exact .hit hv (PySem.SeqAt.eqAt_reads _ _ A s _ _ as bs r1 r2 (shaped_of sd).1 (shaped_of se).1 (by have := (shaped_of sd).2; omega)) (ih hr)
end
theorem op_eqDk {X : Cx} (hu : X.A.units + 65 < cLine) : OpR X (compareOp .Eq) (rDk X.K false) := by
  intro pins s σ H x y v u Q I rx ry h
  obtain ⟨a, b, ks, ls, r, rfl, rfl, ea, eb, hp, q⟩ := h
  cases rx
  cases ry
  obtain ⟨_, ya, va, ra, da⟩ := dk_of I.hok ea
  obtain ⟨_, yb, vb, rb, db⟩ := dk_of I.hok eb
  refine PySem.W.keq_eq (knd := mixKind X.prog X.w) (r := r) ya yb da db (by omega) (fun _ => hits_run2 I (by show X.A.units + 1 + 64 < cLine; omega) rb hp ra) ?_
  rw [← ra.length, ← rb.length]
  exact ⟨.bl _, H, I, rfl, q⟩
theorem op_neDk {X : Cx} (hu : X.A.units + 65 < cLine) : OpR X (compareOp .NotEq) (rDk X.K true) := by
  intro pins s σ H x y v u Q I rx ry h
  obtain ⟨a, b, ks, ls, r, rfl, rfl, ea, eb, hp, q⟩ := h
  cases rx
  cases ry
  obtain ⟨_, ya, va, ra, da⟩ := dk_of I.hok ea
  obtain ⟨_, yb, vb, rb, db⟩ := dk_of I.hok eb
  refine PySem.W.keq_ne (knd := mixKind X.prog X.w) (r := r) ya yb da db (by omega) (fun _ => hits_run2 I (by show X.A.units + 1 + 64 < cLine; omega) rb hp ra) ?_
  rw [← ra.length, ← rb.length]
  exact ⟨.bl _, H, I, rfl, q⟩
end L2
namespace M
open PySem PySem.Spec PyProof.Rows L2
open Evl (Ex ex_rd ex_l ex_t rMax2)
open G (dpx dpax dpa_len dpa_get dpa_app dpa_set ex_none ti li)
section
variable {K : PySem.W.Frag} {w : Wd} {h : MH}
def hitsM (h : MH) (ls : List (Key × MV)) : List (Key × MV) → Option Bool
  | [] => some true
  | (k, x) :: r => match valG ls k with
    | none => some false
    | some y => (reify 6 h x).bind fun d => (reify 6 h y).bind fun e => if SeqAt.shaped d = true ∧ SeqAt.shaped e = true then (hitsM h ls r).map fun b => PyData.eqv d e && b else none
theorem hitsM_ok (r : Rel K w h) {ls : List (Key × V)} {lw : List (Key × MV)} (hl : KRep K w.ι w.C ls lw) : ∀ {ks : List (Key × V)} {kw : List (Key × MV)} {b : Bool}, KRep K w.ι w.C ks kw → hitsM h lw kw = some b → HitsV K w.H ls ks b
  | [], [], b, _, e => by cases e; exact .nil
  | [], _ :: _, _, hk, _ => by have := hk.len; cases this
  | _ :: _, [], _, hk, _ => by have := hk.len; cases this
  | (k, v) :: ks, (k', x) :: kw, b, hk, e => by
    obtain ⟨h1, h2, h3⟩ := hk.cases
    cases h1
    rw [hitsM] at e
    cases hv : valG lw k with
    | none =>
      rw [hv] at e
      cases e
      exact .miss (hl.valN hv)
    | some y =>
      simp only [hv] at e
      obtain ⟨d, e1, e⟩ := bind_of e
      obtain ⟨d', e2, e⟩ := bind_of e
      split at e
      · rename_i hs
        obtain ⟨c, e3, e⟩ := map_of e
        subst e
        obtain ⟨u, g1, g2⟩ := hl.valS hv
        exact .hit g1 (dpx vis_ex (reify_ok r 6 h2 e1)) (dpx vis_ex (reify_ok r 6 g2 e2)) hs.1 hs.2 (hitsM_ok r hl h3 e3)
      · cases e
def mDk (neg : Bool) : MO2 := fun a b h => (asK h a).bind fun s => (asK h b).bind fun t => (hitsM h t.2 s.2).map fun r => (.d (.bool (if neg = true then !((s.2.length == t.2.length) && r) else ((s.2.length == t.2.length) && r))), h)
theorem sr_dk {neg : Bool} : SimR K (rDk K neg) (mDk neg) := fun w h x y a b v h' rl rx ry e Q q => by
  obtain ⟨⟨n1, k1⟩, e1, e⟩ := bind_of e
  obtain ⟨⟨n2, k2⟩, e2, e⟩ := bind_of e
  obtain ⟨r, e3, e⟩ := map_of e
  cases e
  obtain ⟨ad, kvs, rfl, g1, g2, g3⟩ := asK_ok rl rx e1
  obtain ⟨ad', kvs', rfl, g1', g2', g3'⟩ := asK_ok rl ry e2
  refine ⟨ad, ad', kvs, kvs', r, rfl, rfl, g2, g2', hitsM_ok rl g3' g3 e3, ?_⟩
  rw [g3.len, g3'.len]
  exact q w _ (.refl _) rl (.d (.bl _))
/-- d.setdefault(k, x) -/
def mDSetd (md mk mx : ME) : ME := fun env h => (md env h).bind fun d => (asK d.2 d.1).bind fun _ => (mk env d.2).bind fun k => (mx env k.2).bind fun x => (asK x.2 d.1).bind fun t => (keyOf k.1).bind fun y => if t.2.length < 100000 then (match valG t.2 y with
  | some v => some (v, x.2)
  | none => some (x.1, x.2.set t.1 (.dct (putG t.2 y x.1)))) else none
theorem sm_dsetd {td ty tx : TE} {md mk mx : ME} (hd : SimE K td md) (hk : SimE K ty mk) (hx : SimE K tx mx) : SimE K (tDSetd td ty tx) (mDSetd md mk mx) := fun w h σ env v h' rl re e Q q => by
  obtain ⟨⟨a, h1⟩, e1, e⟩ := bind_of e
  obtain ⟨⟨n0, kws0⟩, e0, e⟩ := bind_of e
  obtain ⟨⟨b, h2⟩, e2, e⟩ := bind_of e
  obtain ⟨⟨c, h3⟩, e3, e⟩ := bind_of e
  obtain ⟨⟨n, kws⟩, e4, e⟩ := bind_of e
  obtain ⟨y, e5, e⟩ := bind_of e
  simp only at e
  split at e
  · rename_i hz
    refine hd w h σ env a h1 rl re e1 _ fun w1 u1 s1 r1 x1 => ?_
    obtain ⟨ad0, kvs0, rfl, g01, g02, g03⟩ := asK_ok r1 x1 e0
    refine ⟨ad0, rfl, .inl ⟨kvs0, .inl g02⟩, hk w1 h1 σ env b h2 r1 (re.up s1) e2 _ fun w2 u2 s2 r2 x2 => hx w2 h2 σ env c _ r2 ((re.up s1).up s2) e3 _ fun w3 u3 s3 r3 x3 => ?_⟩
    obtain ⟨ad, kvs, ea, g1, g2, g3⟩ := asK_ok r3 ((x1.up s2).up s3) e4
    cases ea
    have := keyOf_ok (x2.up s3) e5
    subst this
    have ss := (s1.trans s2).trans s3
    refine ⟨kvs, y, g2, rfl, by rw [g3.len]; exact Nat.lt_of_lt_of_le hz sl_100000, fun vv hv => ?_, fun hv => ?_⟩
    · cases hg : valG kws y with
      | none => rw [g3.valN hg] at hv; cases hv
      | some x =>
        simp only [hg] at e
        cases e
        obtain ⟨u, f1, f2⟩ := g3.valS hg
        rw [hv] at f1
        cases f1
        exact q w3 _ ss r3 f2
    · cases hg : valG kws y with
      | some x => obtain ⟨u, f1, f2⟩ := g3.valS hg; rw [hv] at f1; cases f1
      | none =>
        simp only [hg] at e
        cases e
        have mg := g3.put x3 y
        obtain ⟨s4, r4⟩ := write_ok (o := .dK (putK kvs y u3)) r3 g1 (.dct mg.1 mg.2)
        exact q (w3.write ad0 _) u3 (ss.trans s4) r4 (x3.up s4)
  · cases e
/-- xs[::-1] -/
def mRevL (me : ME) : MA := fun env h => (me env h).bind fun r => if isT r.1 = false then (itemsOf r.2 r.1).map fun xs => (xs.reverse, r.2) else none
theorem RepA.rev {ι : List Addr} {C : Hp} : ∀ {vs : List V} {xs : List MV}, RepA K ι C vs xs → RepA K ι C vs.reverse xs.reverse
  | _, _, .nil => .nil
  | _, _, .cons r t => by
    rw [List.reverse_cons, List.reverse_cons]
    exact (RepA.rev t).app (.cons r .nil)
theorem sm_revL {te : TE} {me : ME} (h1 : SimE K te me) : SimF K (tRevL K te) (mRevL me) := fun w h σ env v h' rl re e Q q => by
  obtain ⟨⟨a, hh1⟩, e1, e⟩ := bind_of e
  simp only at e
  split at e
  · rename_i ht
    obtain ⟨xs, e4, e⟩ := map_of e
    cases e
    refine h1 w h σ env a _ rl re e1 _ fun w1 x s1 r1 x1 => ?_
    obtain ⟨p, vs, rfl, hs, rv⟩ := items_L r1 x1 e4 ht
    refine ⟨p, vs, rfl, hs, fun l' hl => ?_⟩
    obtain ⟨s4, r4⟩ := fresh_ok (o := .lst vs.reverse) r1 hl
    exact q _ l' _ (s1.trans s4) r4 (by
      cases z : w.H l' with
      | none => rfl
      | some o => exact absurd hl (s1.kp l' (by rw [z]; exact fun q => nomatch q))) upd_same (r1.notin hl) (r1.cnone hl) rv.rev
  · cases e
/-- xs.pop(k) -/
def mPopAt (mo mi : ME) : ME := fun env h => (mo env h).bind fun o => (asL o.2 o.1).bind fun _ => (mi env o.2).bind fun i => (asL i.2 o.1).bind fun l => (asI i.1).bind fun k => if 0 ≤ k ∧ k < l.2.length then (l.2[k.toNat]?).map fun x => (x, i.2.set l.1 (.lst (l.2.eraseIdx k.toNat))) else none
theorem RepA.erase {ι : List Addr} {C : Hp} : ∀ {vs : List V} {xs : List MV} (n : Nat), RepA K ι C vs xs → RepA K ι C (vs.eraseIdx n) (xs.eraseIdx n)
  | _, _, _, .nil => .nil
  | _, _, 0, .cons _ t => t
  | _, _, n + 1, .cons r t => .cons r (RepA.erase n t)
end
end M
namespace M
open PySem PySem.Spec PyProof.Rows L2
open G (ti li)
/-! ### kinds of data that == tells apart -/
structure Enc {α : Type} [DecidableEq α] (f : α → PyData) (n : Nat) : Prop where
  eq : ∀ a b, PyData.eqv (f a) (f b) = decide (a = b)
  lay : ∀ a, (f a).canLay0 = true
  dep : ∀ a, (f a).depth ≤ n
section
variable {α β γ δ : Type} [DecidableEq α] [DecidableEq β] [DecidableEq γ] [DecidableEq δ] {f : α → PyData} {g : β → PyData} {k : γ → PyData} {l : δ → PyData} {n m p q : Nat}
theorem Enc.mono (E : Enc f n) (h : n ≤ m) : Enc f m := ⟨E.eq, E.lay, fun a => Nat.le_trans (E.dep a) h⟩
theorem Enc.int : Enc PyData.int 0 := ⟨G.eqv_int, fun _ => by rw [PyData.canLay0], fun _ => by rw [PyData.depth]; exact Nat.le_refl _⟩
theorem Enc.bool : Enc PyData.bool 0 := ⟨G.eqv_bool, fun _ => by rw [PyData.canLay0], fun _ => by rw [PyData.depth]; exact Nat.le_refl _⟩
theorem Enc.sh (E : Enc f n) (a : α) (h : n ≤ 64 := by decide) : SeqAt.shaped (f a) = true := by
  unfold SeqAt.shaped
  rw [E.lay a, Bool.true_and, decide_eq_true_iff]
  exact Nat.le_trans (E.dep a) h
theorem Enc.comap (E : Enc f n) (i : β → α) (hi : ∀ a b, i a = i b → a = b) : Enc (fun b => f (i b)) n :=
  ⟨fun a b => by rw [E.eq]; exact decide_eq_decide.mpr ⟨hi a b, fun e => by rw [e]⟩, fun b => E.lay _, fun b => E.dep _⟩
theorem Enc.pair (E : Enc f n) (F : Enc g m) : Enc (fun x : α × β => .tuple [f x.1, g x.2]) (max n m + 1) := by
  refine ⟨fun a b => ?_, fun a => ?_, fun a => ?_⟩
  · rw [PyData.eqv, PyData.eqvAll, PyData.eqvAll, PyData.eqvAll, E.eq, F.eq, Bool.and_true, ← Bool.decide_and]
    exact decide_eq_decide.mpr Prod.ext_iff.symm
  · simp only [PyData.canLay0, PyData.canLayAll0, E.lay, F.lay, Bool.and_true]
  · have := E.dep a.1
    have := F.dep a.2
    simp only [PyData.depth, PyData.depthAll]
    omega
theorem Enc.trip (E : Enc f n) (F : Enc g m) (I : Enc k p) : Enc (fun x : α × β × γ => .tuple [f x.1, g x.2.1, k x.2.2]) (max n (max m p) + 1) := by
  refine ⟨fun a b => ?_, fun a => ?_, fun a => ?_⟩
  · rw [PyData.eqv, PyData.eqvAll, PyData.eqvAll, PyData.eqvAll, PyData.eqvAll, E.eq, F.eq, I.eq, Bool.and_true, ← Bool.decide_and, ← Bool.decide_and]
    exact decide_eq_decide.mpr (by rw [Prod.ext_iff, Prod.ext_iff])
  · simp only [PyData.canLay0, PyData.canLayAll0, E.lay, F.lay, I.lay, Bool.and_true]
  · have := E.dep a.1
    have := F.dep a.2.1
    have := I.dep a.2.2
    simp only [PyData.depth, PyData.depthAll]
    omega
theorem Enc.quad (E : Enc f n) (F : Enc g m) (I : Enc k p) (J : Enc l q) : Enc (fun x : α × β × γ × δ => .tuple [f x.1, g x.2.1, k x.2.2.1, l x.2.2.2]) (max (max n m) (max p q) + 1) := by
  refine ⟨fun a b => ?_, fun a => ?_, fun a => ?_⟩
  · rw [PyData.eqv, PyData.eqvAll, PyData.eqvAll, PyData.eqvAll, PyData.eqvAll, PyData.eqvAll, E.eq, F.eq, I.eq, J.eq, Bool.and_true, ← Bool.decide_and, ← Bool.decide_and, ← Bool.decide_and]
    exact decide_eq_decide.mpr (by rw [Prod.ext_iff, Prod.ext_iff, Prod.ext_iff])
  · simp only [PyData.canLay0, PyData.canLayAll0, E.lay, F.lay, I.lay, J.lay, Bool.and_true]
  · have := E.dep a.1
    have := F.dep a.2.1
    have := I.dep a.2.2.1
    have := J.dep a.2.2.2
    simp only [PyData.depth, PyData.depthAll]
    omega
theorem Enc.eqAll (E : Enc f n) : ∀ xs ys : List α, PyData.eqvAll (xs.map f) (ys.map f) = decide (xs = ys)
  | [], [] => by simp [PyData.eqvAll]
  | [], _ :: _ => by simp [PyData.eqvAll]
  | _ :: _, [] => by simp [PyData.eqvAll]
  | x :: xs, y :: ys => by
    rw [List.map_cons, List.map_cons, PyData.eqvAll, E.eq, E.eqAll xs ys, ← Bool.decide_and]
    exact decide_eq_decide.mpr (by simp)
theorem Enc.layAll (E : Enc f n) : ∀ xs : List α, PyData.canLayAll0 (xs.map f) = true
  | [] => by simp [PyData.canLayAll0]
  | x :: xs => by rw [List.map_cons, PyData.canLayAll0, E.lay, E.layAll xs]; rfl
theorem Enc.depAll (E : Enc f n) : ∀ xs : List α, PyData.depthAll (xs.map f) ≤ n
  | [] => by simp [PyData.depthAll]
  | x :: xs => by
    rw [List.map_cons, PyData.depthAll]
    have := E.depAll xs
    have := E.dep x
    omega
theorem Enc.list (E : Enc f n) : Enc (fun xs : List α => .list (xs.map f)) (n + 1) :=
  ⟨fun a b => by rw [PyData.eqv]; exact E.eqAll a b, fun a => by rw [PyData.canLay0]; exact E.layAll a, fun a => by rw [PyData.depth]; exact Nat.succ_le_succ (E.depAll a)⟩
theorem Enc.tup (E : Enc f n) : Enc (fun xs : List α => .tuple (xs.map f)) (n + 1) :=
  ⟨fun a b => by rw [PyData.eqv]; exact E.eqAll a b, fun a => by rw [PyData.canLay0]; exact E.layAll a, fun a => by rw [PyData.depth]; exact Nat.succ_le_succ (E.depAll a)⟩
theorem e_eqE (E : Enc f n) {neg : Bool} {a b : α} {h : MH} (hn : n ≤ 64 := by decide) : mEqD neg (.d (f a)) (.d (f b)) h = some (.d (.bool (if neg = true then !decide (a = b) else decide (a = b))), h) := by
  rw [e_eqD (E.sh a hn) (E.sh b hn), E.eq]
theorem e_eqR (E : Enc f n) {neg : Bool} {a b : α} {h : MH} {x y : MV} (hx : reify 6 h x = some (f a)) (hy : reify 6 h y = some (f b)) (hn : n ≤ 64 := by decide) : mEqD neg x y h = some (.d (.bool (if neg = true then !decide (a = b) else decide (a = b))), h) := by
  unfold mEqD
  rw [hx, hy, Option.bind_some, Option.bind_some, if_pos ⟨E.sh a hn, E.sh b hn⟩, E.eq]
theorem Enc.any (E : Enc f n) (a : α) : ∀ bs : List α, ((bs.map f).any fun z => PyData.eqv z (f a)) = decide (a ∈ bs)
  | [] => by simp
  | b :: bs => by
    rw [List.map_cons, List.any_cons, E.any a bs, E.eq, ← Bool.decide_or]
    exact decide_eq_decide.mpr (by rw [List.mem_cons]; exact or_congr ⟨Eq.symm, Eq.symm⟩ Iff.rfl)
theorem e_inR (E : Enc f n) {neg : Bool} {a : α} {bs : List α} {h : MH} {x y : MV} (hx : reify 6 h x = some (f a)) (hy : reify 6 h y = some (.list (bs.map f))) (hn : n ≤ 63 := by decide) : mInD neg x y h = some (.d (.bool (if neg = true then !decide (a ∈ bs) else decide (a ∈ bs))), h) := by
  unfold mInD
  rw [hx, hy, Option.bind_some, Option.bind_some]
  show (some (bs.map f)).bind _ = _
  rw [Option.bind_some, if_pos ⟨E.sh a (by omega), E.list.sh bs (by omega)⟩, E.any]
/-! ### what is read off the heap -/
theorem re_map (f : α → PyData) (k : Nat) (h : MH) (xs : List α) : mapO (reify k h) (xs.map fun x => .d (f x)) = some (xs.map f) := by
  rw [show (xs.map fun x => MV.d (f x)) = (xs.map f).map .d by rw [List.map_map]; rfl]
  exact mapO_reify_d _ _ _
theorem re_lst (f : α → PyData) {k : Nat} {h : MH} {n : Nat} {xs : List α} (hn : h[n]? = some (.lst (xs.map fun x => .d (f x)))) : reify (k + 1) h (.ref n) = some (.list (xs.map f)) := re_ref hn (re_map f _ _ _)
theorem mapO_map {α β : Type} (f : α → Option β) (g : α → β) (xs : List α) (h : ∀ x ∈ xs, f x = some (g x)) : mapO f xs = some (xs.map g) := mapO_some h
/-- refs of lists -/
theorem re_refs (f : α → PyData) {k : Nat} {h : MH} : ∀ {rs : List Nat} {xss : List (List α)}, rs.length = xss.length → (∀ (i r : Nat) (xs : List α), rs[i]? = some r → xss[i]? = some xs → h[r]? = some (.lst (xs.map fun x => .d (f x)))) → mapO (reify (k + 1) h) (rs.map MV.ref) = some (xss.map fun xs => .list (xs.map f))
  | [], [], _, _ => rfl
  | [], _ :: _, e, _ => by cases e
  | _ :: _, [], e, _ => by cases e
  | r :: rs, xs :: xss, e, hh => by
    rw [List.map_cons, mapO, re_lst f (hh 0 r xs rfl rfl), re_refs f (by simpa using e) (fun i r' xs' h1 h2 => hh (i + 1) r' xs' (by simpa using h1) (by simpa using h2))]
    rfl
end
/-! ### more of what things give -/
theorem flat_rep (k : Nat) (x : PyData) : (List.replicate k [x]).flatten = List.replicate k x := by
  induction k with
  | zero => rfl
  | succ k ih => rw [List.replicate_succ, List.flatten_cons, ih]; rfl
theorem flat_repM (k : Nat) (x : MV) : (List.replicate k [x]).flatten = List.replicate k x := by
  induction k with
  | zero => rfl
  | succ k ih => rw [List.replicate_succ, List.flatten_cons, ih]; rfl
theorem e_liftR {f : List PyData → Option PyData} {xs : List MV} {h : MH} {ds : List PyData} {r : PyData} (ha : allD xs = none) (e : mapO (reify 6 h) xs = some ds) (hf : f ds = some r) (hn : noL r = true) : liftD f xs h = some (.d r, h) := by
  unfold liftD
  rw [ha]
  simp only [e, Option.bind_some, hf, hn, if_true]
theorem kk_bb : kitB "bool" "bool" = some true := by decide +kernel
theorem e_isiBB {b : Bool} {h : MH} {me : ME} {env : Env} (e : me env h = some (.d (.bool b), h)) : mIsi "bool" me env h = some (.d (.bool true), h) := by
  unfold mIsi
  rw [e, Option.bind_some]
  show (kitB "bool" "bool").map _ = _
  rw [kk_bb]; rfl
theorem allD_dI (xs : List Int) : allD (xs.map dI) = some (xs.map .int) := by
  rw [show xs.map dI = (xs.map PyData.int).map .d by rw [List.map_map]; rfl]
  exact allD_map _
theorem mkTup_dI (xs : List Int) : mkTup (xs.map dI) = .d (ti xs) := by unfold mkTup; rw [allD_dI]
theorem tupR {h : MH} {n : Nat} {xs : List Int} (hn : h[n]? = some (.lst (xs.map dI))) : mTupOf [.ref n] h = some (.d (ti xs), h) := by
  unfold mTupOf
  rw [e_arg1, Option.bind_some, e_itR hn, Option.map_some, e_isTR, mkTup_dI]; rfl
theorem ixR_dI {h : MH} {n : Nat} {xs : List Int} {i : Int} (hn : h[n]? = some (.lst (xs.map dI))) (h0 : 0 ≤ i) (h1 : i < xs.length) : mIx (.ref n) (.d (.int i)) h = some (dI (xs.getD i.toNat 0), h) := e_ixR hn (by rw [atI_map, atI_get h0 h1 0]; rfl)
theorem set_getD (xs : List Int) (j : Nat) (v : Int) (k : Nat) : (xs.set j v).getD k 0 = if j = k ∧ j < xs.length then v else xs.getD k 0 := by
  simp only [List.getD_eq_getElem?_getD, List.getElem?_set]
  by_cases e : j = k
  · subst e
    by_cases hl : j < xs.length
    · simp [hl]
    · simp [hl]
  · simp [e]
theorem map_range_get (xs : List Int) : (List.range xs.length).map (fun k => xs.getD k 0) = xs := by
  refine List.ext_getElem? fun k => ?_
  by_cases hk : k < xs.length
  · simp [hk, List.getD_eq_getElem?_getD]
  · rw [List.getElem?_eq_none (by simp; omega), List.getElem?_eq_none (by omega)]
/-! ### < over pairs of numbers -/
abbrev kD (k : Int × Int) : PyData := .tuple [.int k.1, .int k.2]
def kLt (a b : Int × Int) : Bool := decide (a.1 < b.1) || (decide (a.1 = b.1) && decide (a.2 < b.2))
theorem lt_kD (a b : Int × Int) : PySem.W.dataLt (kD a) (kD b) = kLt a b := by
  rw [PySem.W.dataLt_tuple]
  by_cases h1 : a.1 = b.1
  · rw [PySem.W.dataLt_all_yes (by simp [PySem.W.alike]) (by rw [G.eqv_int]; exact decide_eq_true h1)]
    by_cases h2 : a.2 = b.2
    · rw [PySem.W.dataLt_all_yes (by simp [PySem.W.alike]) (by rw [G.eqv_int]; exact decide_eq_true h2)]
      simp only [PySem.W.keyToksAll, kLt, h1, h2, Int.lt_irrefl, decide_false, Bool.and_false, Bool.or_false]
      exact PyProof.Rows.lex_self (O := PyProof.Rows.itemOrd) _ _ _
    · rw [PySem.W.dataLt_all_no (by simp [PySem.W.alike]) (by rw [G.eqv_int]; exact decide_eq_false h2), PySem.W.dataLt_int]
      simp [kLt, h1]
  · rw [PySem.W.dataLt_all_no (by simp [PySem.W.alike]) (by rw [G.eqv_int]; exact decide_eq_false h1), PySem.W.dataLt_int]
    simp [kLt, h1]
theorem al_kD (a b : Int × Int) : PySem.W.alike (kD a) (kD b) = true := by simp [PySem.W.alike, PySem.W.alikeAll]
theorem de_kD (a : Int × Int) : (kD a).depth = 1 := by simp [PyData.depth, PyData.depthAll]
theorem e_cmpK {fn : PyData → PyData → Bool} {a b : Int × Int} {h : MH} : mCmp fn (.d (kD a)) (.d (kD b)) h = some (.d (.bool (fn (kD a) (kD b))), h) := by
  unfold mCmp
  rw [reify_d, reify_d, Option.bind_some, Option.bind_some, if_pos ⟨al_kD a b, by simp, by rw [de_kD, de_kD]; decide⟩]
theorem e_gtK {a b : Int × Int} {h : MH} : mCmp fGt (.d (kD a)) (.d (kD b)) h = some (.d (.bool (kLt b a)), h) := by rw [e_cmpK]; unfold fGt; rw [lt_kD]
theorem e_leK {a b : Int × Int} {h : MH} : mCmp fLe (.d (kD a)) (.d (kD b)) h = some (.d (.bool (!kLt b a)), h) := by rw [e_cmpK]; unfold fLe; rw [lt_kD]
theorem e_geK {a b : Int × Int} {h : MH} : mCmp fGe (.d (kD a)) (.d (kD b)) h = some (.d (.bool (!kLt a b)), h) := by rw [e_cmpK]; unfold fGe; rw [lt_kD]
theorem Enc.k : Enc kD 1 := Enc.int.pair Enc.int
/-! ### comprehensions that change the heap -/
theorem lc_inv {α : Type} {g : MG} {me : ME} {env : Env} (φ : α → MV) (Inv : Nat → List MV → MH → Prop) (ks : List α)
    (step : ∀ i k xs h, ks[i]? = some k → Inv i xs h → ∃ x h', (g (φ k) env).bind (fun e => me e h) = some (x, h') ∧ Inv (i + 1) (xs ++ [x]) h') :
    ∀ (i : Nat) (xs : List MV) (h : MH), i ≤ ks.length → Inv i xs h → ∃ ys h', lcLoop g mYes me [] env ((ks.drop i).map φ) h = some (ys, h') ∧ Inv ks.length (xs ++ ys) h' := by
  intro i
  generalize hn : ks.length - i = n
  induction n generalizing i with
  | zero =>
    intro xs h hi inv
    have : i = ks.length := by omega
    subst this
    rw [List.drop_length, List.map_nil, lcLoop, srcIf_nil]
    exact ⟨[], h, rfl, by rw [List.append_nil]; exact inv⟩
  | succ n ih =>
    intro xs h hi inv
    have hlt : i < ks.length := by omega
    rw [List.drop_eq_getElem_cons hlt, List.map_cons, lcLoop, srcIf_nil]
    obtain ⟨x, h1, g1, g2⟩ := step i ks[i] xs h (by simp [hlt]) inv
    obtain ⟨ys, h2, g3, g4⟩ := ih (i + 1) (by omega) (xs ++ [x]) h1 hlt g2
    refine ⟨x :: ys, h2, ?_, by rw [List.append_assoc] at g4; exact g4⟩
    obtain ⟨e', e1, e2⟩ := bind_of g1
    rw [e1, Option.bind_some]
    show (some (true, h)).bind _ = _
    rw [Option.bind_some]
    simp only [if_true]
    rw [e2, Option.bind_some, g3]
    rfl
theorem mLc_inv {α : Type} {mi : MI} {g : MG} {me : ME} {vs : List Nat} {env : Env} {h h1 : MH} (ks : List α) (φ : α → MV) (hi : mi env h = some (([], ks.map φ), h1)) (Inv : Nat → List MV → MH → Prop) (h0 : Inv 0 [] h1)
    (step : ∀ i k xs h, ks[i]? = some k → Inv i xs h → ∃ x h', (g (φ k) (wipeM env vs)).bind (fun e => me e h) = some (x, h') ∧ Inv (i + 1) (xs ++ [x]) h') (hz : ∀ xs h, Inv ks.length xs h → xs.length ≤ 100000) : ∃ ys h', mLc mi g mYes me vs env h = some (ys, h') ∧ Inv ks.length ys h' := by
  obtain ⟨ys, h', e, iv⟩ := lc_inv φ Inv ks step 0 [] h1 (Nat.zero_le _) h0
  refine ⟨ys, h', ?_, iv⟩
  unfold mLc
  rw [hi, Option.bind_some]
  show (lcLoop g mYes me [] (wipeM env vs) (ks.map φ) h1).bind _ = _
  rw [List.drop_zero] at e
  rw [e, Option.bind_some, if_pos (show ys.length ≤ 100000 from hz ys h' iv)]
theorem e_nilR {α : Type} [DecidableEq α] {f : α → PyData} {n : Nat} (E : Enc f n) {neg : Bool} {a : List α} {h : MH} {x : MV} (hx : reify 6 h x = some (.list (a.map f))) (hn : n ≤ 63 := by decide) : mEqD neg x (.d (.list [])) h = some (.d (.bool (if neg = true then !decide (a = []) else decide (a = []))), h) :=
  e_eqR E.list (a := a) (b := []) hx (reify_d _ _ _) (by omega)
/-! ### loops over a list of one's own -/
theorem srcIf_ok {α : Type} {src : List (Nat × List MV)} {h : MH} {o : Option α} (e : ∀ s ∈ src, h[s.1]? = some (.lst s.2)) : srcIf src h o = o := by
  unfold srcIf
  rw [if_pos e]
theorem lc_invS {α : Type} {g : MG} {me : ME} {env : Env} {src : List (Nat × List MV)} (φ : α → MV) (Inv : Nat → List MV → MH → Prop) (ks : List α) (hs : ∀ i xs h, Inv i xs h → ∀ s ∈ src, h[s.1]? = some (.lst s.2))
    (step : ∀ i k xs h, ks[i]? = some k → Inv i xs h → ∃ x h', (g (φ k) env).bind (fun e => me e h) = some (x, h') ∧ Inv (i + 1) (xs ++ [x]) h') :
    ∀ (i : Nat) (xs : List MV) (h : MH), i ≤ ks.length → Inv i xs h → ∃ ys h', lcLoop g mYes me src env ((ks.drop i).map φ) h = some (ys, h') ∧ Inv ks.length (xs ++ ys) h' := by
  intro i
  generalize hn : ks.length - i = n
  induction n generalizing i with
  | zero =>
    intro xs h hi inv
    have : i = ks.length := by omega
    subst this
    rw [List.drop_length, List.map_nil, lcLoop, srcIf_ok (hs _ _ _ inv)]
    exact ⟨[], h, rfl, by rw [List.append_nil]; exact inv⟩
  | succ n ih =>
    intro xs h hi inv
    have hlt : i < ks.length := by omega
    rw [List.drop_eq_getElem_cons hlt, List.map_cons, lcLoop, srcIf_ok (hs _ _ _ inv)]
    obtain ⟨x, h1, g1, g2⟩ := step i ks[i] xs h (by simp [hlt]) inv
    obtain ⟨ys, h2, g3, g4⟩ := ih (i + 1) (by omega) (xs ++ [x]) h1 hlt g2
    refine ⟨x :: ys, h2, ?_, by rw [List.append_assoc] at g4; exact g4⟩
    obtain ⟨e', e1, e2⟩ := bind_of g1
    rw [e1, Option.bind_some]
    show (some (true, h)).bind _ = _
    rw [Option.bind_some]
    simp only [if_true]
    rw [e2, Option.bind_some, g3]
    rfl
theorem mLc_invS {α : Type} {mi : MI} {g : MG} {me : ME} {vs : List Nat} {env : Env} {h h1 : MH} {src : List (Nat × List MV)} (ks : List α) (φ : α → MV) (hi : mi env h = some ((src, ks.map φ), h1)) (Inv : Nat → List MV → MH → Prop) (h0 : Inv 0 [] h1) (hs : ∀ i xs h, Inv i xs h → ∀ s ∈ src, h[s.1]? = some (.lst s.2))
    (step : ∀ i k xs h, ks[i]? = some k → Inv i xs h → ∃ x h', (g (φ k) (wipeM env vs)).bind (fun e => me e h) = some (x, h') ∧ Inv (i + 1) (xs ++ [x]) h') (hz : ∀ xs h, Inv ks.length xs h → xs.length ≤ 100000) : ∃ ys h', mLc mi g mYes me vs env h = some (ys, h') ∧ Inv ks.length ys h' := by
  obtain ⟨ys, h', e, iv⟩ := lc_invS φ Inv ks hs step 0 [] h1 (Nat.zero_le _) h0
  refine ⟨ys, h', ?_, iv⟩
  unfold mLc
  rw [hi, Option.bind_some]
  show (lcLoop g mYes me src (wipeM env vs) (ks.map φ) h1).bind _ = _
  rw [List.drop_zero] at e
  rw [e, Option.bind_some, if_pos (show ys.length ≤ 100000 from hz ys h' iv)]
theorem e_ref {me : ME} {env : Env} {h h1 : MH} {n : Nat} {xs : List MV} (e : me env h = some (.ref n, h1)) (hn : h1[n]? = some (.lst xs)) : mItL me env h = some (([(n, xs)], xs), h1) := by
  unfold mItL
  rw [e, Option.bind_some]
  show (if isT (.ref n) = false then (rowOf h1 (.ref n)).map _ else none) = _
  rw [if_pos (e_isTR (n := n)), rowOf, e_asL hn]
  rfl
theorem e_cmpI {fn : PyData → PyData → Bool} {i j : Int} {h : MH} : mCmp fn (.d (.int i)) (.d (.int j)) h = some (.d (.bool (fn (.int i) (.int j))), h) := by
  unfold mCmp
  rw [reify_d, reify_d, Option.bind_some, Option.bind_some, if_pos ⟨by simp [PySem.W.alike], by simp, by simp [PyData.depth]⟩]
theorem e_ltI {i j : Int} {h : MH} : mCmp fLt (.d (.int i)) (.d (.int j)) h = some (.d (.bool (decide (i < j))), h) := by rw [e_cmpI]; unfold fLt; rw [PySem.W.dataLt_int]
end M
namespace M
open PySem PySem.Spec PyProof.Rows L2
open Evl (Ex ex_rd ex_l ex_t rMax2)
open G (dpx dpax dpa_len dpa_get dpa_app dpa_set ex_none wipe_get wipe_eq wipe_wipe RD UD CD Ret rMin2 rInt1 rAbs rTupOf rListOf)
/-! ### sorted(xs), data -/
noncomputable def srtD (ds : List PyData) : List PyData := ds.mergeSort (PySem.W.dataLe false id)
def rSortDD (K : PySem.W.Frag) : List V → Hp → VK → Prop := fun vs H Q => ∃ (C : Hp) (a : Addr) (xs : List V) (ds : List PyData), vs = [.ref a] ∧ Ex C H ∧ SqL K H a xs ∧ DpAll K C xs ds ∧ PySem.W.AllAlike ds ∧ PySem.W.Sortable ds ∧ (∀ d ∈ ds, d.depth ≤ 60) ∧
  ∀ (ys : List V) (p : Addr), DpAll K C ys (srtD ds) → H p = none → Q (.ref p) (upd H p (.lst ys))
theorem hu66 {A : Around} {k : Nat} (hr : Room k A) : A.units + 62 < cLine := by have := hr.un; omega
section
variable {K : PySem.W.Frag} {C : Hp}
theorem each_zip {X : Cx} {R : Value → V × PyData → Prop} (hR : ∀ v x d, RelV x v → Dp X.K C x d → R v (x, d)) : ∀ {xs : List V} {vs : List Value} {ds : List PyData}, Vals xs vs → DpAll X.K C xs ds → PySem.W.EachIs R vs (xs.zip ds)
  | _, _, _, .nil, .nil => .nil
  | _, _, _, .cons r rs, .cons d ds => .cons (hR _ _ _ r d) (each_zip hR rs ds)
theorem each_out {R : Value → V × PyData → Prop} (hR : ∀ v b, R v b → RelV b.1 v ∧ Dp K C b.1 b.2) : ∀ {vs : List Value} {bs : List (V × PyData)}, PySem.W.EachIs R vs bs → Vals (bs.map (·.1)) vs ∧ DpAll K C (bs.map (·.1)) (bs.map (·.2))
  | _, _, .nil => ⟨.nil, .nil⟩
  | _, _, .cons r rs => ⟨.cons (hR _ _ r).1 (each_out hR rs).1, .cons (hR _ _ r).2 (each_out hR rs).2⟩
theorem zip_snd {α β : Type} : ∀ {xs : List α} {ys : List β}, xs.length = ys.length → (xs.zip ys).map (·.2) = ys
  | [], [], _ => rfl
  | _ :: xs, y :: ys, h => by rw [List.zip_cons_cons, List.map_cons, zip_snd (by simpa using h)]
theorem cr_sortedDD {X : Cx} (hu : X.A.units + 62 < cLine) : CallR X (.builtin "sorted") (rSortDD X.K) := by
  intro pins s σ H vs us Q I r h
  obtain ⟨C, a, xs, ds, rfl, ex, hs, hd, ha, hk, hz, q⟩ := h
  obtain ⟨its, rv, hl, hlen⟩ := I.list hs
  rw [Vals.ref1 r]
  have hxd : xs.length = ds.length := dpa_len hd
  have hm : (xs.zip ds).map (·.2) = ds := zip_snd hxd
  refine PySem.W.sorted_data (R := fun v (b : V × PyData) => RelV b.1 v ∧ Dp X.K C b.1 b.2) (bs := xs.zip ds) (enc := fun b => b.2) hl.isList (each_zip (fun v x d h1 h2 => ⟨h1, h2⟩) rv hd)
    (each_zip (R := fun v b => ∃ as, Reads s.heap v b.2 as) (fun v x d h1 h2 => Dp.reads I d x v (dpx ex h2) h1) rv hd) (by rw [hm]; exact ha) (by rw [hm]; exact hk) (by rw [List.length_zip, ← hxd, Nat.min_self]; exact hlen) (fun b hb => ?_) fun out h1 h2 => ?_
  · have : b.2 ∈ ds := (List.of_mem_zip (a := b.1) (b := b.2) hb).2
    have := hz _ this
    omega
  · obtain ⟨k1, k2⟩ := each_out (fun _ _ h => h) h2
    obtain ⟨ep, he'⟩ := PyProof.Rows.sortedAll_at s.heap its out.toArray
    have hml : (((xs.zip ds).mergeSort (PySem.W.dataLe false fun b => b.2)).map (·.1)).length ≤ sizeLine := by
      rw [List.length_map, List.length_mergeSort, List.length_zip, ← hxd, Nat.min_self]; exact hlen
    have hms : ((xs.zip ds).mergeSort (PySem.W.dataLe false fun b => b.2)).map (·.2) = srtD ds := by
      rw [List.map_mergeSort (r := PySem.W.dataLe false fun b : V × PyData => b.2) (s := PySem.W.dataLe false id) (f := fun b : V × PyData => b.2) (fun a _ b _ => rfl), hm]; rfl
    rw [hms] at k2
    exact ⟨.ref _, upd H (s.heap.objs.size + 1) (.lst _), I.laid (t' := s.toks) (fun _ _ => PyProof.Rows.sortedAll_old) (Nat.le_succ _) ⟨hml, out, ep, k1, he'⟩, rfl, q _ _ k2 (I.hok.fresh (Nat.le_succ _))⟩
noncomputable def mSortD : List MV → MH → Option (List MV × MH) := fun xs h => (arg1 xs).bind fun x => if isT x = false then (itemsOf h x).bind fun ys => (allD ys).bind fun ds => open Classical in if PySem.W.AllAlike ds ∧ PySem.W.Sortable ds ∧ ∀ d ∈ ds, d.depth ≤ 60 then some ((srtD ds).map .d, h) else none else none
theorem sf_sortD : SimCF K (rSortDD K) mSortD := fun w h us xs ys h' rl ra e Q q => by
  obtain ⟨x, e1, e⟩ := bind_of e
  split at e
  · rename_i ht
    obtain ⟨zs, e2, e⟩ := bind_of e
    obtain ⟨ds, e3, e⟩ := bind_of e
    split at e
    · rename_i hz
      cases e
      rw [arg1_of e1] at ra
      obtain ⟨u, rfl, rx⟩ := ra.one
      obtain ⟨p, vs, rfl, sq, rp⟩ := items_L rl rx e2 ht
      rw [allD_eq e3] at rp
      refine ⟨w.C, p, vs, ds, rfl, rl.ch, sq, rp.toD, hz.1, hz.2.1, hz.2.2, fun ys a hd hn => ?_⟩
      obtain ⟨s, r⟩ := fresh_ok (o := .lst ys) rl hn
      exact q _ a _ s r hn upd_same (rl.notin hn) (rl.cnone hn) (RepA.ofD hd)
    · cases e
  · cases e
end
/-! ### the order of what is sorted -/
theorem e_sortD {x : MV} {h : MH} {α : Type} (f : α → PyData) (xs : List α) (ht : isT x = false) (hi : itemsOf h x = some (xs.map fun a => .d (f a))) (ha : ∀ a b, PySem.W.alike (f a) (f b) = true) (hk : ∀ a, ∃ d r, f a = .tuple (d :: r)) (hz : ∀ a, (f a).depth ≤ 60) : mSortD [x] h = some ((srtD (xs.map f)).map .d, h) := by
  unfold mSortD
  rw [e_arg1, Option.bind_some, if_pos ht, hi, Option.bind_some, e_allDf, Option.bind_some, if_pos]
  refine ⟨fun d hd d' hd' => ?_, .inl fun d hd => ?_, fun d hd => ?_⟩
  · obtain ⟨a, _, rfl⟩ := List.mem_map.mp hd
    obtain ⟨b, _, rfl⟩ := List.mem_map.mp hd'
    exact ha a b
  · obtain ⟨a, _, rfl⟩ := List.mem_map.mp hd
    exact hk a
  · obtain ⟨a, _, rfl⟩ := List.mem_map.mp hd
    exact hz a
/-- what is sorted stands in the order, nothing lost -/
theorem srt_map {α : Type} (f : α → PyData) (le : α → α → Bool) (hle : ∀ a b, (!PySem.W.dataLt (f b) (f a)) = le a b) (xs : List α) : srtD (xs.map f) = (xs.mergeSort le).map f := by
  unfold srtD
  rw [List.map_mergeSort (s := PySem.W.dataLe false id) (r := le) (fun a _ b _ => ?_)]
  rw [← hle a b]
  exact (congrFun (congrFun (PySem.W.dataLe_eq false (id : PyData → PyData)) (f a)) (f b)).symm
end M
namespace M
open PySem PySem.Spec PyProof.Rows L2
open Evl (Ex ex_rd ex_l ex_t rMax2)
open G (dpx dpax dpa_len dpa_get dpa_app dpa_set ex_none wipe_get wipe_eq wipe_wipe RD UD CD Ret rMin2 rInt1 rAbs rTupOf rListOf li ti rSetLi tSoSet)
/-! ### over a list or a tuple -/
def iOr (w1 w2 : TI) : TI := fun σ H R => w1 σ H R ∨ w2 σ H R
theorem pi_or {X : Cx} {tg iter : Expr} {w1 w2 : TI} (h1 : PI X tg iter w1) (h2 : PI X tg iter w2) : PI X tg iter (iOr w1 w2) := ⟨fun pins s σ H R I h => h.elim (h1.run pins s σ H R I) (h2.run pins s σ H R I)⟩
def mItA (me : ME) : MI := fun env h => (me env h).bind fun r => (rowOf r.2 r.1).map fun s => (s, r.2)
theorem si_any {K : PySem.W.Frag} {te : TE} {me : ME} (h : SimE K te me) : SimI K (iOr (iList K te) (iTup K te)) (mItA me) := fun w h0 σ env si h' rl re e R q => by
  obtain ⟨⟨x, h1⟩, e1, e⟩ := bind_of e
  cases t : isT x with
  | false => exact .inl (si_list h w h0 σ env si h' rl re (by
      show (me env h0).bind _ = _
      rw [e1, Option.bind_some]
      simp only [t, if_true]
      exact e) R q)
  | true => exact .inr (si_tup h w h0 σ env si h' rl re (by
      show (me env h0).bind _ = _
      rw [e1, Option.bind_some]
      simp only [t, if_true]
      exact e) R q)
/-! ### ascending, each once -/
def insU (x : Int) : List Int → List Int
  | [] => [x]
  | y :: ys => if x < y then x :: y :: ys else if x = y then y :: ys else y :: insU x ys
def ascU : List Int → List Int
  | [] => []
  | x :: xs => insU x (ascU xs)
theorem mem_insU (x z : Int) : ∀ ys : List Int, z ∈ insU x ys ↔ z = x ∨ z ∈ ys
  | [] => by simp [insU]
  | y :: ys => by
    unfold insU
    split
    · simp
    · split
      · rename_i e
        rw [e]; simp
      · rw [List.mem_cons, mem_insU x z ys, List.mem_cons]
        exact ⟨fun h => by rcases h with h | h | h <;> simp [h], fun h => by rcases h with h | h | h <;> simp [h]⟩
theorem mem_ascU (z : Int) : ∀ xs : List Int, z ∈ ascU xs ↔ z ∈ xs
  | [] => Iff.rfl
  | x :: xs => by rw [ascU, mem_insU, mem_ascU z xs, List.mem_cons]
theorem insU_asc (x : Int) : ∀ {ys : List Int}, ys.Pairwise (· < ·) → (insU x ys).Pairwise (· < ·)
  | [], _ => by simp [insU]
  | y :: ys, h => by
    have hc := List.pairwise_cons.mp h
    unfold insU
    split
    · rename_i hxy
      refine List.pairwise_cons.mpr ⟨fun z m => ?_, h⟩
      rcases List.mem_cons.mp m with rfl | m
      · exact hxy
      · exact Int.lt_trans hxy (hc.1 z m)
    · split
      · exact h
      · refine List.pairwise_cons.mpr ⟨fun z m => ?_, insU_asc x hc.2⟩
        rcases (mem_insU x z ys).mp m with rfl | m
        · omega
        · exact hc.1 z m
theorem ascU_asc : ∀ xs : List Int, (ascU xs).Pairwise (· < ·)
  | [] => .nil
  | x :: xs => insU_asc x (ascU_asc xs)
theorem asc_same : ∀ {xs ys : List Int}, xs.Pairwise (· < ·) → ys.Pairwise (· < ·) → (∀ z, z ∈ xs ↔ z ∈ ys) → xs = ys
  | [], [], _, _, _ => rfl
  | [], y :: ys, _, _, h => by have := (h y).mpr List.mem_cons_self; cases this
  | x :: xs, [], _, _, h => by have := (h x).mp List.mem_cons_self; cases this
  | x :: xs, y :: ys, hx, hy, h => by
    have ax := List.pairwise_cons.mp hx
    have ay := List.pairwise_cons.mp hy
    have e : x = y := by
      have m1 := (h x).mp List.mem_cons_self
      have m2 := (h y).mpr List.mem_cons_self
      rcases List.mem_cons.mp m1 with e | m1
      · exact e
      · rcases List.mem_cons.mp m2 with e | m2
        · exact e.symm
        · have := ax.1 y m2; have := ay.1 x m1; omega
    subst e
    rw [asc_same ax.2 ay.2 fun z => ?_]
    constructor
    · intro m
      rcases List.mem_cons.mp ((h z).mp (List.mem_cons_of_mem _ m)) with e | m'
      · subst e; exact absurd (ax.1 z m) (Int.lt_irrefl z)
      · exact m'
    · intro m
      rcases List.mem_cons.mp ((h z).mpr (List.mem_cons_of_mem _ m)) with e | m'
      · subst e; exact absurd (ay.1 z m) (Int.lt_irrefl z)
      · exact m'
def intsOf : List MV → Option (List Int)
  | [] => some []
  | x :: xs => (asI x).bind fun i => (intsOf xs).map (i :: ·)
theorem intsOf_map : ∀ ns : List Int, intsOf (ns.map dI) = some ns
  | [] => rfl
  | n :: ns => by
    show (asI (dI n)).bind _ = _
    rw [e_asI, Option.bind_some, intsOf_map ns]; rfl
theorem intsOf_eq : ∀ {xs : List MV} {ns : List Int}, intsOf xs = some ns → xs = ns.map dI
  | [], ns, h => by cases h; rfl
  | x :: xs, ns, h => by
    obtain ⟨i, e1, h⟩ := bind_of h
    obtain ⟨r, e2, h⟩ := map_of h
    subst h
    rw [asI_of e1, intsOf_eq e2]; rfl
theorem rep_ints {K : PySem.W.Frag} {ι : List Addr} {C : Hp} : ∀ {vs : List V} {ns : List Int}, RepA K ι C vs (ns.map dI) → vs = ns.map V.int
  | _, [], .nil => rfl
  | _, n :: ns, .cons r t => by
    rw [rep_ints t]
    cases r with
    | d h => cases h; rfl
def mSoSet (ml : MA) : MA := fun env h => (ml env h).bind fun r => (arg1 r.1).bind fun x => if isT x = false then (itemsOf r.2 x).bind fun ys => (intsOf ys).bind fun ns => if ns.length < 64 then some ((ascU ns).map dI, r.2) else none else none
theorem sm_soSet {K : PySem.W.Frag} {tl : TA} {ml : MA} (h : SimA K tl ml) : SimF K (tSoSet K tl) (mSoSet ml) := fun w h0 σ env xs h' rl re e Q q wd => by
  obtain ⟨⟨as, h1⟩, e1, e⟩ := bind_of e
  obtain ⟨x, e2, e⟩ := bind_of e
  split at e
  · rename_i ht
    obtain ⟨ys, e3, e⟩ := bind_of e
    obtain ⟨ns, e4, e⟩ := bind_of e
    split at e
    · rename_i hz
      cases e
      refine h w h0 σ env as h1 rl re e1 _ fun w1 us s1 r1 x1 => ?_
      replace e2 : arg1 as = some x := e2
      rw [arg1_of e2] at x1
      obtain ⟨u, rfl, rx⟩ := x1.one
      obtain ⟨p0, vs, rfl, sq, rp⟩ := items_L r1 rx e3 ht
      rw [intsOf_eq e4] at rp
      rw [rep_ints rp] at sq
      refine ⟨_, ns, rfl, sq, by simp only [scanBound]; omega, fun p n le hp => ?_⟩
      show rSortedSet wd [V.ref p] _ Q
      refine ⟨p, _, n, rfl, upd_same, by omega, fun ks q2 g1 g2 _ g3 => ?_⟩
      have e5 : ks = ascU ns := asc_same g1 (ascU_asc ns) fun z => by rw [g2 z, mem_ascU]; simp
      subst e5
      obtain ⟨s2, r2⟩ := fresh_ok (o := SetO wd p (fun j => decide (j ∈ ns)) n) r1 hp
      obtain ⟨s3, r3⟩ := fresh_ok (o := .lst ((ascU ns).map V.int)) r2 g3
      have sA := (s1.trans s2).trans s3
      have hq0 : w.H q2 = none := by
        cases z : w.H q2 with
        | none => rfl
        | some o => exact absurd g3 ((s1.trans s2).kp q2 (by rw [z]; exact fun q => nomatch q))
      exact q _ q2 _ sA r3 hq0 upd_same (r2.notin g3) (r2.cnone g3) (by
        have := ints_rep (K := K) (ι := w1.ι) (C := w1.C) (ascU ns)
        exact this)
    · cases e
  · cases e
theorem e_lift5 {f : List PyData → Option PyData} {a b c d e : PyData} {h : MH} : liftD f [.d a, .d b, .d c, .d d, .d e] h = (f [a, b, c, d, e]).map fun r => (.d r, h) := rfl
end M
namespace M
open PySem PySem.Spec PyProof.Rows L2
/-! ### the body of a key, over the heap alone -/
def Keep (h h' : Heap) : Prop := ∀ b o, h.get? b = some o → h'.get? b = some o
theorem Keep.refl (h : Heap) : Keep h h := fun _ _ e => e
theorem Keep.trans {h h1 h2 : Heap} (a : Keep h h1) (b : Keep h1 h2) : Keep h h2 := fun c o e => b c o (a c o e)
/-- e gives f of the datum that x stands for -/
def KB (prog : Program) (w : World) (sc : Scope) (x : Str) (e : Expr) (f : PyData → Option PyData) : Prop :=
  ∀ (env : PySem.Env) (A : Around) (E : Value → Shared → Prop) (v : Value) (d r : PyData) (as : List Addr) (s : Shared) (m : Str → Option Value) (Q : Value → Shared → Prop), env.scope = sc → s.heap.Ns env.locals m → m x = some v → Reads s.heap v d as → f d = some r →
    (∀ (u : Value) (bs : List Addr) (h' : Heap) (tk : Nat), Keep s.heap h' → Reads h' u r bs → Q u { s with heap := h', toks := tk }) → wpAny (model prog w) A (eval e env) Q E s
section
variable {prog : Program} {w : World} {sc : Scope} {x : Str}
theorem kb_name {p : Pos} (hk : sc.kind = .function) (hl : sc.names.lookup x = some .local) (hd : (x == ("__debug__" : Str)) = false := by decide) : KB prog w sc x (.Name x p) some := fun env A E v d r as s m Q es hn hm rd e q => by
  cases e
  refine wpAny_Name (wpAny_loadName_local (by rw [es]; exact hk) (show env.scope.names.lookup x = some .local by rw [es]; exact hl) hn hm ?_) hd
  exact q v as s.heap s.toks (Keep.refl _) rd
theorem reads_at : ∀ {h : Heap} {vs : List Value} {ds : List PyData} {as : List Addr} {j : Nat} {d : PyData}, ReadsAll h vs ds as → ds[j]? = some d → ∃ v bs, vs[j]? = some v ∧ Reads h v d bs
  | _, _, _, _, _, _, .nil, e => by simp at e
  | _, _, _, _, 0, _, .cons r _, e => by simp at e; subst e; exact ⟨_, _, rfl, r⟩
  | _, _, _, _, j + 1, _, .cons _ rs, e => by
    obtain ⟨v, bs, h1, h2⟩ := reads_at rs (show _ = some _ by simpa using e)
    exact ⟨v, bs, by simpa using h1, h2⟩
theorem readsAll_len : ∀ {h : Heap} {vs : List Value} {ds : List PyData} {as : List Addr}, ReadsAll h vs ds as → vs.length = ds.length
  | _, _, _, _, .nil => rfl
  | _, _, _, _, .cons _ rs => by rw [List.length_cons, List.length_cons, readsAll_len rs]
theorem readsAll_keeps {h h' : Heap} (k : Keep h h') : ∀ {vs : List Value} {ds : List PyData} {as : List Addr}, ReadsAll h vs ds as → ReadsAll h' vs ds as
  | _, _, _, .nil => .nil
  | _, _, _, .cons r rs => .cons (PyProof.Rows.Reads.keeps k r) (readsAll_keeps k rs)
def fIx (f : PyData → Option PyData) (j : Nat) : PyData → Option PyData := fun d => (f d).bind fun r => match r with
  | .tuple ds => ds[j]?
  | _ => none
theorem kb_ix {e : Expr} {f : PyData → Option PyData} {j k : Nat} {p p2 : Pos} (h : KB prog w sc x e f) (hj : j < 1000) (hs : ∀ o i, subscripted (.Constant (.int (j : Int)) k p) false o i = operate [o, i] (getItem o i)) : KB prog w sc x (.Subscript e (.Constant (.int (j : Int)) k p) p2) (fIx f j) := fun env A E v d r as s m Q es hn hm rd hf q => by
  obtain ⟨t, e1, e2⟩ := bind_of hf
  refine Subscript_ (h env A E v d t as s m _ es hn hm rd e1 fun u bs h' tk kp ru => wpAny_Constant_int ?_)
  split at e2
  · rename_i ds
    cases ru with
    | tuple ho hc hd ra =>
      rename_i a o vs n
      obtain ⟨y, cs, g1, g2⟩ := reads_at ra e2
      have hlt : j < vs.toList.length := (List.getElem?_eq_some_iff.mp g1).1
      refine subscriptTail_builtinR (x := y) (IsTup.typeIs ⟨o, ho, hc, n, hd⟩) slot_tuple_getitem.lookup
        (PyProof.Rows.getItem_tuple (j := j) (Q := fun r' s' => r' = y ∧ Q r' s') ⟨o, ho, hc, n, hd⟩ (by omega) (by omega) ?_ ?_ ⟨rfl, ?_⟩) (hs _ _)
      · unfold seqIndex?
        rw [Array.length_toList] at hlt
        simp
        omega
      · rw [← g1]; simp
      · exact q y cs h' _ kp g2
  · cases e2
def KBs (prog : Program) (w : World) (sc : Scope) (x : Str) (es : List Expr) (f : PyData → Option (List PyData)) : Prop :=
  ∀ (pos : Pos) (env : PySem.Env) (A : Around) (E : Value → Shared → Prop) (v : Value) (d : PyData) (rs : List PyData) (as : List Addr) (s : Shared) (m : Str → Option Value) (Q : List Value → Shared → Prop), env.scope = sc → s.heap.Ns env.locals m → m x = some v → Reads s.heap v d as → f d = some rs →
    (∀ (us : List Value) (bs : List Addr) (h' : Heap) (tk : Nat), Keep s.heap h' → ReadsAll h' us rs bs → Q us { s with heap := h', toks := tk }) → wpAny (model prog w) A (spliced (backTo pos (starEach es env))) Q E s
theorem kbs_nil : KBs prog w sc x [] (fun _ => some []) := fun pos env A E v d rs as s m Q es hn hm rd hf q => by
  cases hf
  exact Calls.spliced_nil (q [] [] s.heap s.toks (Keep.refl _) .nil)
theorem kbs_cons {e : Expr} {es : List Expr} {f : PyData → Option PyData} {g : PyData → Option (List PyData)} (h : KB prog w sc x e f) (hr : KBs prog w sc x es g) (hs : ∀ env : PySem.Env, starEach (e :: es) env = (false, eval e env) :: starEach es env := by intro; rfl) :
    KBs prog w sc x (e :: es) (fun d => (f d).bind fun a => (g d).map fun r => a :: r) := fun pos env A E v d rs as s m Q es' hn hm rd hf q => by
  obtain ⟨a, e1, e2⟩ := bind_of hf
  obtain ⟨r, e3, e4⟩ := map_of e2
  subst e4
  rw [hs]
  show wpAny _ _ (spliced ((false, eval e env) :: backTo pos (starEach es env))) _ _ s
  refine Calls.spliced_cons (h env A E v d a as s m _ es' hn hm rd e1 fun u bs h' tk kp ru => ?_)
  refine hr pos env A E v d r as { s with heap := h', toks := tk } m _ es' (hn.keeps kp) hm (PyProof.Rows.Reads.keeps kp rd) e3 fun us cs h2 tk2 kp2 rus => ?_
  exact q (u :: us) (bs ++ cs) h2 tk2 (kp.trans kp2) (.cons (PyProof.Rows.Reads.keeps kp2 ru) rus)
theorem kb_tup {es : List Expr} {k : Nat} {p : Pos} {g : PyData → Option (List PyData)} (h : KBs prog w sc x es g) (hz : ∀ d rs, g d = some rs → rs.length ≤ 1000) : KB prog w sc x (.Tuple es k p) (fun d => (g d).map .tuple) := fun env A E v d r as s m Q es' hn hm rd hf q => by
  obtain ⟨rs, e1, e2⟩ := map_of hf
  subst e2
  refine wpAny_Tuple_spliced (h p env A E v d rs as s m _ es' hn hm rd e1 fun us bs h' tk kp rus => ?_)
  have hl : us.length = rs.length := readsAll_len rus
  have := hz d rs e1
  refine ⟨by rw [sizeLine_eq]; omega, ?_⟩
  have kp2 : Keep h' (h'.push { cls := .type "tuple", data := .seq us.toArray }) := fun b o e => Heap.get?_push_of_some _ e
  exact q _ bs _ tk (kp.trans kp2) (.tuple (Heap.get?_push_size _ rfl) rfl rfl (by simpa using readsAll_keeps kp2 rus))
mutual
theorem reads_noL : ∀ {h : Heap} {v : Value} {d : PyData} {as : List Addr}, noL d = true → Reads h v d as → as = []
  | _, _, _, _, _, .none => rfl
  | _, _, _, _, _, .bool _ => rfl
  | _, _, _, _, _, .int _ _ => rfl
  | _, _, _, _, _, .str _ _ => rfl
  | _, _, _, _, n, .list _ _ _ _ => by rw [noL] at n; cases n
  | _, _, _, _, n, .tuple _ _ _ ra => readsA_noL (by rw [noL] at n; exact n) ra
  | _, _, _, _, n, .dict _ _ _ _ _ => by rw [noL] at n; cases n
theorem readsA_noL : ∀ {h : Heap} {vs : List Value} {ds : List PyData} {as : List Addr}, noLA ds = true → ReadsAll h vs ds as → as = []
  | _, _, _, _, _, .nil => rfl
  | _, _, _, _, n, .cons r rs => by
    rw [noLA, Bool.and_eq_true] at n
    rw [reads_noL n.1 r, readsA_noL n.2 rs]; rfl
end
structure KeyS (sc : Scope) (x : Str) : Prop where
  kind : sc.kind = .function
  co : sc.isCoroutine = false
  gen : sc.isGenerator = false
  loc : sc.names.lookup x = some .local
  nc : ∀ y ∈ sc.names, y.2 ≠ .cell
theorem key_turn {f c' : Addr} {q : Str} {pm ctv : Value} {params : Arguments} {body : Expr} {g : PyData → Option PyData} (S : KeyS sc x) (B : KB prog w sc x body g) (hbind : ∀ v, bindArgs (PySem.W.kla_fn "<lambda>" q params body sc [] pm (.ref c') ctv) ⟨[v], []⟩ = pure [(x, v)])
    {A : Around} {s : Shared} {v : Value} {d r : PyData} {as : List Addr} (hd : A.depth < recursionLimit) (hf : s.heap.get? f = some (PySem.W.kla_obj "<lambda>" q params body sc [] pm c' ctv)) (hc : s.heap.CodeRec (.ref c') q) (lim : s.heap.NoLimit) (rd : Reads s.heap v d as) (hg : g d = some r) (hn : noL r = true) :
    wpAny (model prog w) A (call (.ref f) [v]) (PySem.W.KeyPure r s) (fun _ _ => False) s := by
  refine wpAny_call (PySem.W.kla_callFunE hd hf rfl S.co S.gen rfl hc ?_)
  rw [hbind v]
  refine wpAny_pure (wpAny_newFunctionEnv S.nc (fun y hy => by rw [List.mem_singleton.mp hy]; exact S.loc) (fun h₁ hns hsb => ⟨lim.fresh _ hsb, ?_⟩) S.kind)
  have kp : Keep s.heap h₁ := fun b o e => hsb.extBut b o (Nat.ne_of_lt (Heap.lt_size e)) (Heap.get?_push_of_some _ e)
  refine PySem.W.kla_codeExpr (B _ _ _ v d r as _ _ _ rfl hns (by simp) (PyProof.Rows.Reads.keeps kp rd) hg fun u bs h' tk kp2 ru => ?_)
  have hb := reads_noL hn ru
  subst hb
  exact ⟨h', tk, rfl, kp.trans kp2, ru⟩
end
end M
namespace M
open PySem PySem.Spec PyProof.Rows L2
open Evl (Ex ex_rd ex_l ex_t rMax2)
open G (dpx dpax dpa_len ex_none)
/-! ### sorted(xs, key=f), f a lambda -/
/-- the object at f is that lambda -/
def LamO (f c' : Addr) (q : Str) (params : Arguments) (body : Expr) (sc : Scope) : HO := .ext fun h => ∃ pm ctv, h.get? f = some (PySem.W.kla_obj "<lambda>" q params body sc [] pm c' ctv)
/-- the code objects that are told by name -/
noncomputable def keyD (g : PyData → Option PyData) (d : PyData) : PyData := (g d).getD .none
noncomputable def srtK (g : PyData → Option PyData) (ds : List PyData) : List PyData := ds.mergeSort (PySem.W.dataLe false (keyD g))
def KeysOk (g : PyData → Option PyData) (ds : List PyData) : Prop := (∀ d ∈ ds, ∃ r, g d = some r ∧ noL r = true ∧ r.depth ≤ 60) ∧ PySem.W.AllAlike (ds.map (keyD g)) ∧ PySem.W.Sortable (ds.map (keyD g))
def rSortLam (K : PySem.W.Frag) (q : Str) (params : Arguments) (body : Expr) (sc : Scope) (g : PyData → Option PyData) : List V → List V → Hp → VK → Prop := fun vs zs H Q =>
  ∃ (C : Hp) (f c' a : Addr) (xs : List V) (ds : List PyData), vs = [.ref a] ∧ zs = [.ref f] ∧ H f = some (LamO f c' q params body sc) ∧ H c' = some (LamX.CodeO c' q) ∧ Ex C H ∧ SqL K H a xs ∧ DpAll K C xs ds ∧ KeysOk g ds ∧
    ∀ (ys : List V) (p : Addr), DpAll K C ys (srtK g ds) → H p = none → Q (.ref p) (upd H p (.lst ys))
theorem cr_sortLam {X : Cx} {q : Str} {params : Arguments} {body : Expr} {sc : Scope} {x : Str} {g : PyData → Option PyData} {k : Nat} (hr : Room k X.A) (S : KeyS sc x) (B : KB X.prog X.w sc x body g)
    (hbind : ∀ pm c' ctv v, bindArgs (PySem.W.kla_fn "<lambda>" q params body sc [] pm (.ref c') ctv) ⟨[v], []⟩ = pure [(x, v)]) : CallRK X (.builtin "sorted") [Str.ofString "key"] (rSortLam X.K q params body sc g) := by
  intro pins s σ H vs zs us ws Q I r rz h
  obtain ⟨C, f, c', a, xs, ds, rfl, rfl, hf, hc, ex, hs, hd, ⟨hg, hal, hk⟩, qq⟩ := h
  obtain ⟨its, rv, hl, hlen⟩ := I.list hs
  rw [Vals.ref1 r, Vals.ref1 rz]
  have hxd : xs.length = ds.length := dpa_len hd
  have hm : (xs.zip ds).map (·.2) = ds := zip_snd hxd
  have hm2 : (xs.zip ds).map (fun b => keyD g b.2) = ds.map (keyD g) := by
    rw [show (xs.zip ds).map (fun b => keyD g b.2) = ((xs.zip ds).map (·.2)).map (keyD g) by rw [List.map_map]; rfl, hm]
  have key : ∀ d ∈ ds, g d = some (keyD g d) ∧ noL (keyD g d) = true ∧ (keyD g d).depth ≤ 60 := fun d m => by
    obtain ⟨r, e1, e2, e3⟩ := hg d m
    unfold keyD
    rw [e1]
    exact ⟨rfl, e2, e3⟩
  obtain ⟨⟨pm, ctv, hfo⟩, _, _⟩ := I.hok f _ hf
  have hcr : s.heap.CodeRec (.ref c') q := by
    obtain ⟨⟨oc, vs, t, h1, h2, h3⟩, _, _⟩ := I.hok c' _ hc
    exact ⟨c', oc, vs, t, rfl, h1, h2, h3⟩
  refine PySem.W.sorted_key_data (b := false) (R := fun v (b : V × PyData) => RelV b.1 v ∧ Dp X.K C b.1 b.2) (bs := xs.zip ds) (fun b => keyD g b.2) hl.isList (each_zip (fun v x d h1 h2 => ⟨h1, h2⟩) rv hd) (by rw [hm2]; exact hal) (by rw [hm2]; exact hk)
    (by rw [List.length_zip, ← hxd, Nat.min_self]; exact hlen) (fun b hb => ?_) (PyProof.Rows.ksk_s1 _ _) (fun _ => PyProof.Rows.ksk_l1 _ _) (fun _ => PyProof.Rows.ksk_t1 _ _) (fun v b hR hb h tk kp => ?_) fun out c h' tk kp nf hD h1 h2 => ?_
  · have := (key b.2 (List.of_mem_zip (a := b.1) (b := b.2) hb).2).2.2
    have := hr.un
    omega
  · obtain ⟨k1, k2, _⟩ := key b.2 (List.of_mem_zip (a := b.1) (b := b.2) hb).2
    obtain ⟨as, rd⟩ := Dp.reads I b.2 b.1 v (dpx ex hR.2) hR.1
    refine key_turn (d := b.2) (as := as) S B (hbind pm c' ctv) ?_ (kp _ _ hfo) (hcr.keeps kp) (I.nolimit.keeps kp) (PyProof.Rows.Reads.keeps kp rd) k1 k2
    have := hr.dp
    show X.A.depth < recursionLimit
    omega
  · obtain ⟨k1, k2⟩ := each_out (fun _ _ h => h) h2
    have hml : (((xs.zip ds).mergeSort (PySem.W.dataLe false fun b => keyD g b.2)).map (·.1)).length ≤ sizeLine := by
      rw [List.length_map, List.length_mergeSort, List.length_zip, ← hxd, Nat.min_self]; exact hlen
    have hms : ((xs.zip ds).mergeSort (PySem.W.dataLe false fun b => keyD g b.2)).map (·.2) = srtK g ds := by
      rw [List.map_mergeSort (r := PySem.W.dataLe false fun b : V × PyData => keyD g b.2) (s := PySem.W.dataLe false (keyD g)) (f := fun b : V × PyData => b.2) (fun a _ b _ => rfl), hm]; rfl
    rw [hms] at k2
    exact ⟨.ref _, upd H (s.heap.objs.size + 1) (.lst _), I.laid (t' := tk) kp (Nat.le_succ _) ⟨hml, out, c, k1, hD⟩, rfl, qq _ _ k2 (I.hok.fresh (Nat.le_succ _))⟩
end M
namespace M
open PySem PySem.Spec PyProof.Rows L2
open Evl (Ex ex_rd ex_l ex_t rMax2)
open G (dpx dpax dpa_len ex_none)
open LamX (TabS TabB CodeO among_app inv_table)
/-! ### a lambda is made -/
/-- what the making does to what is held: nothing, or the table grows by a code object that is new -/
def Made (P : Addr) (q : Str) (H : Hp) (c' : Addr) (H1 : Hp) : Prop := H1 = H ∨ ∃ ps ps' : Array Value, H P = some (.tbl ps) ∧ H c' = none ∧ (∀ (pos : Pos) (cv : Value), codeAmong pos ps'.toList = some cv → codeAmong pos ps.toList = some cv ∨ cv = .ref c') ∧ H1 = upd (upd H P (.tbl ps')) c' (CodeO c' q)
def tLamO (P : Addr) (q : Str) (params : Arguments) (body : Expr) (sc : Scope) : TE := fun _ H Q => TabS H P q ∧ ∀ (f c' : Addr) (H1 : Hp), Made P q H c' H1 → TabS H1 P q → H1 f = none → H1 c' = some (CodeO c' q) → Q (.ref f) (upd H1 f (LamO f c' q params body sc))
theorem no_clo {cells : List (Str × Addr)} {sc : Scope} (h : ∀ y ∈ sc.names, y.2 ≠ .free) : cloFrom cells sc.names [] = [] := by
  refine List.eq_nil_iff_forall_not_mem.mpr fun y hy => ?_
  rcases cloFrom_mem hy with z | ⟨z, _⟩
  · cases z
  · exact h _ z rfl
theorem lamO_ok {P : Program} {w : World} {H : Hp} {h : Heap} {f c' : Addr} {q : Str} {params : Arguments} {body : Expr} {sc : Scope} {pm ctv : Value} (e : h.get? f = some (PySem.W.kla_obj "<lambda>" q params body sc [] pm c' ctv)) : ObjOk P w H h f (LamO f c' q params body sc) :=
  ⟨⟨pm, ctv, e⟩, ⟨_, e⟩, fun _ _ ⟨a, b, z⟩ st => ⟨a, b, st _ z⟩⟩
theorem pe_lamO {X : Cx} {c P : Addr} {q : Str} {params : Arguments} {body : Expr} {sc : Scope} {pos : Pos} (TB : TabB X.base X.mg c P) (hcode : X.env.code = .ref c) (hq : X.env.qual ++ "<lambda>" = q) (hdef : defaultsOf params X.env = ([], [])) (hfree : ∀ y ∈ sc.names, y.2 ≠ .free) :
    PE X (.Lambda params body sc pos) (tLamO P q params body sc) := by
  refine ⟨fun pins s σ H Q I h => ?_⟩
  obtain ⟨⟨ps, hP, ht, ha⟩, h⟩ := h
  refine PySem.W.kla_eval hdef ?_
  rw [hq]
  have hclo : closureFor sc X.env = pure [] := by
    rw [closure_ok (scope := sc) (env := X.env) fun y m e => absurd e (hfree y m), no_clo hfree]
  have bP := TB.bm.keeps I.bk
  have hP' : s.heap.get? P = some { cls := .none, data := .fields ps } := I.hok P _ hP
  cases hc : codeAmong pos ps.toList with
  | none =>
    refine PySem.W.kla_makeFunction (mg := X.mg) (c := c) (P := P) (ps := ps) hclo I.ok.glob (I.mod.glob.keeps I.bk) hcode (TB.code.keeps I.bk) hP' ht hc TB.gP bP fun c' ctv h' tk hx hge hlt hrec htb => ?_
    obtain ⟨c2, oc, vs, t, z, hoc, hdc, hvc⟩ := hrec
    cases z
    have nC : H c' = none := I.hok.fresh hge
    have hsz : s.heap.objs.size ≤ h'.objs.size := Nat.le_trans hge (Nat.le_of_lt hlt)
    have J := inv_table (t' := tk) (more := #[rawInt pos.line, rawInt pos.col, .ref c']) I hP (fun b o hb e => hx b o hb e) htb hge ⟨oc, vs, t, hoc, hdc, hvc⟩
    obtain ⟨H1, hH1⟩ : ∃ H1, H1 = upd (upd H P (.tbl (ps ++ #[rawInt pos.line, rawInt pos.col, .ref c']))) c' (CodeO c' q) := ⟨_, rfl⟩
    rw [← hH1] at J
    have nPc : P ≠ c' := fun z => by rw [z, nC] at hP; cases hP
    have c1 : H1 c' = some (CodeO c' q) := by rw [hH1, upd_same]
    have keepC : ∀ b q', H b = some (CodeO b q') → H1 b = some (CodeO b q') := fun b q' e => by
      rw [hH1, upd_ne (fun z => by rw [z, nC] at e; cases e), upd_ne (fun z => by rw [z, hP] at e; exact LamX.codeO_ne ps (Option.some.inj e).symm)]
      exact e
    have tb1 : TabS H1 P q := by
      refine ⟨ps ++ #[rawInt pos.line, rawInt pos.col, .ref c'], by rw [hH1, upd_ne nPc, upd_same], ?_, fun p' cv hcv => ?_⟩
      · rw [Array.toList_append]
        exact PySem.TriplesOk_snoc _ _ _ _ ht
      · rw [Array.toList_append] at hcv
        rcases among_app _ ht hcv with z | z
        · obtain ⟨c0, e1, e2⟩ := ha p' cv z
          exact ⟨c0, e1, keepC _ _ e2⟩
        · exact ⟨c', z, c1⟩
    have nf : H1 h'.objs.size = none := J.hok.fresh (Nat.le_refl _)
    exact ⟨.ref h'.objs.size, _, J.laid (t' := tk) (fun b u e => Heap.get?_push_of_some _ e) (Nat.le_refl _) (lamO_ok (Heap.get?_push_size _ rfl)), rfl, h _ c' H1 (.inr ⟨ps, _, hP, nC, fun p' cv hcv => among_app _ ht (by rw [Array.toList_append] at hcv; exact hcv), hH1⟩) tb1 nf c1⟩
  | some cv =>
    obtain ⟨c', z, hco⟩ := ha pos cv hc
    subst z
    refine PySem.W.kla_makeFunctionHit (mg := X.mg) (c := c) (P := P) (ps := ps) hclo I.ok.glob (I.mod.glob.keeps I.bk) hcode (TB.code.keeps I.bk) hP' ht hc bP fun ctv h' tk hx hsz => ?_
    have J : Inv X pins σ H { s with heap := h', toks := tk } := I.kept hx
    exact ⟨.ref h'.objs.size, _, J.laid (t' := tk) (fun b u e => Heap.get?_push_of_some _ e) (Nat.le_refl _) (lamO_ok (Heap.get?_push_size _ rfl)), rfl, h _ c' H (.inl rfl) ⟨ps, hP, ht, ha⟩ (J.hok.fresh (Nat.le_refl _)) hco⟩
end M
namespace M
open PySem PySem.Spec PyProof.Rows L2
open Evl (Ex ex_rd ex_l ex_t rMax2)
open G (dpx dpax dpa_len ex_none)
open LamX (TabS TabB CodeO)
/-! ### sorted(e, key=lambda ..) -/
def qlam (x : Str) : Str := (x ++ ".<locals>.") ++ "<lambda>"
def lamArgs : Expr → Arguments
  | .Lambda a _ _ _ => a
  | _ => ⟨[], [], none, [], [], none, []⟩
def lamBody : Expr → Expr
  | .Lambda _ b _ _ => b
  | e => e
def lamScope : Expr → Scope
  | .Lambda _ _ s _ => s
  | _ => { kind := .function, names := [], isGenerator := false, isCoroutine := false, more := [] }
def tSortLam (K : PySem.W.Frag) (P : Addr) (q : Str) (lam : Expr) (g : PyData → Option PyData) (te : TE) : TE := tCKw (rSortLam K q (lamArgs lam) (lamBody lam) (lamScope lam) g) (tCons te tNil) (tCons (tLamO P q (lamArgs lam) (lamBody lam) (lamScope lam)) tNil)
theorem len_nil : ∀ (d : PyData) (rs : List PyData), (fun _ : PyData => some ([] : List PyData)) d = some rs → rs.length ≤ 0 := fun d rs e => by cases e; exact Nat.le_refl _
theorem len_cons {n : Nat} {f : PyData → Option PyData} {g : PyData → Option (List PyData)} (h : ∀ d rs, g d = some rs → rs.length ≤ n) : ∀ (d : PyData) (rs : List PyData), ((f d).bind fun a => (g d).map fun r => a :: r) = some rs → rs.length ≤ n + 1 := fun d rs e => by
  obtain ⟨a, _, e2⟩ := bind_of e
  obtain ⟨r, e3, e4⟩ := map_of e2
  subst e4
  exact Nat.succ_le_succ (h d r e3)
theorem len_le {n : Nat} {g : PyData → Option (List PyData)} (h : ∀ d rs, g d = some rs → rs.length ≤ n) (hn : n ≤ 1000) : ∀ d rs, g d = some rs → rs.length ≤ 1000 := fun d rs e => Nat.le_trans (h d rs e) hn
theorem pe_sortLam {X : Cx} {c P : Addr} {q : Str} {lam e : Expr} {x : Str} {g : PyData → Option PyData} {k : Nat} {te : TE} {p pos kpos lpos : Pos} (hr : Room k X.A) (TB : TabB X.base X.mg c P) (hcode : X.env.code = .ref c) (hq : X.env.qual ++ "<lambda>" = q)
    (hdef : defaultsOf (lamArgs lam) X.env = ([], [])) (hfree : ∀ y ∈ (lamScope lam).names, y.2 ≠ .free) (S : KeyS (lamScope lam) x) (B : KB X.prog X.w (lamScope lam) x (lamBody lam) g)
    (hbind : ∀ pm c' ctv v, bindArgs (PySem.W.kla_fn "<lambda>" q (lamArgs lam) (lamBody lam) (lamScope lam) [] pm (.ref c') ctv) ⟨[v], []⟩ = pure [(x, v)]) (hg : Gl X "sorted") (hm : X.mg "sorted" = none) (he : PE X e te)
    (h1 : starEach [e] X.env = (false, eval e X.env) :: starEach [] X.env := by rfl) (h2 : (backTo pos (starEach [e] X.env)).any (·.1) = false := by rfl)
    (h3 : (backToKw pos (keywordEach [⟨some "key", .Lambda (lamArgs lam) (lamBody lam) (lamScope lam) lpos, kpos⟩] X.env)).all (·.1.isSome) = true := by rfl) (h4 : (backToKw pos (keywordEach [⟨some "key", .Lambda (lamArgs lam) (lamBody lam) (lamScope lam) lpos, kpos⟩] X.env)).any (·.1.isNone) = false := by rfl)
    (h5 : (backToKw pos (keywordEach [⟨some "key", .Lambda (lamArgs lam) (lamBody lam) (lamScope lam) lpos, kpos⟩] X.env)).filterMap (·.1) = [Str.ofString "key"] := by rfl) :
    PE X (.Call (.Name "sorted" p) [e] [⟨some "key", .Lambda (lamArgs lam) (lamBody lam) (lamScope lam) lpos, kpos⟩] pos) (tSortLam X.K P q lam g te) :=
  pe_callBK (cr_sortLam hr S B hbind) hg hm rfl (pa_cons he pa_nil h1) (pk_cons (pe_lamO TB hcode hq hdef hfree) pk_nil) (by decide) (by decide) (by rw [h1]; rfl) h2 h3 h4 h5
noncomputable def mSortLam (i : Nat) (P : Addr) (q : Str) (g : PyData → Option PyData) (me : ME) : MA := fun env h => (me env h).bind fun r => open Classical in if r.2[i]? = some (.tab P q) ∧ isT r.1 = false then (itemsOf r.2 r.1).bind fun ys => (allD ys).bind fun ds => if KeysOk g ds then some ((srtK g ds).map .d, r.2) else none else none
/-- behind the making of a lambda -/
theorem made_ok {K : PySem.W.Frag} {w : Wd} {h : MH} (r : Rel K w h) {P c' : Addr} {q : Str} {H1 : Hp} (hP : P ∈ w.ι) (m : Made P q w.H c' H1) (tb : TabS H1 P q) (hq : ∀ (n : Nat) (b : Ob), w.ι[n]? = some P → h[n]? = some b → b = .tab P q) :
    ∃ C1 : Hp, Step w ⟨w.ι, C1, H1⟩ ∧ Rel K ⟨w.ι, C1, H1⟩ h := by
  rcases m with rfl | ⟨ps, ps', hp, hc, hold, e⟩
  · exact ⟨w.C, .refl w, r⟩
  · have nPc : P ≠ c' := fun z => by rw [z, hc] at hp; cases hp
    have cC : w.C c' = none := r.cnone hc
    have nc' : c' ∉ w.ι := r.notin hc
    have H1P : H1 P = some (.tbl ps') := by rw [e, upd_ne nPc, upd_same]
    have H1c : H1 c' = some (CodeO c' q) := by rw [e, upd_same]
    have H1o : ∀ a, a ≠ P → a ≠ c' → H1 a = w.H a := fun a z1 z2 => by rw [e, upd_ne z2, upd_ne z1]
    have ex : Ex w.C (upd w.C c' (CodeO c' q)) := Ex.new cC
    refine ⟨upd w.C c' (CodeO c' q), ⟨List.prefix_refl _, ex, fun a o z n => ?_, fun a m => .inl m, fun a z z2 => ?_, fun a z => ?_⟩, ⟨fun a o z => ?_, r.len, r.nd, fun a m => ?_, fun n a b z1 z2 => ?_⟩⟩
    · show H1 a = some o
      rw [H1o a (fun y => n (by rw [y]; exact hP)) (fun y => by rw [y, hc] at z; cases z)]
      exact z
    · show upd w.C c' _ a = none
      rw [upd_ne (fun y => z (by rw [y]; exact hc))]
      exact z2
    · show H1 a ≠ none
      by_cases y : a = P
      · rw [y, H1P]; exact fun z => nomatch z
      · rw [H1o a y (fun y => z (by rw [y]; exact hc))]; exact z
    · show H1 a = some o
      replace z : upd w.C c' (CodeO c' q) a = some o := z
      by_cases y : a = c'
      · rw [y, upd_same] at z
        rw [y, H1c]; exact z
      · rw [upd_ne y] at z
        rw [H1o a (fun y2 => by rw [y2, r.ow P hP] at z; cases z) y]
        exact r.ch a o z
    · show upd w.C c' _ a = none
      rw [upd_ne (fun y => nc' (by rw [← y]; exact m))]
      exact r.ow a m
    · by_cases y : a = P
      · subst y
        rw [hq n b z1 z2]
        obtain ⟨ps2, t1, t2, t3⟩ := tb
        rw [H1P] at t1
        cases t1
        refine ⟨_, H1P, .tab t2 fun pos cv hcv => ?_⟩
        obtain ⟨o, g1, g2⟩ := r.ob n a b z1 z2
        rw [hq n b z1 z2] at g2
        cases g2 with
        | tab u1 u2 =>
          rw [hp] at g1
          cases g1
          rcases hold pos cv hcv with v | v
          · obtain ⟨c0, v1, v2⟩ := u2 pos cv v
            exact ⟨c0, v1, ex _ _ v2⟩
          · exact ⟨c', v, upd_same⟩
      · obtain ⟨o, g1, g2⟩ := r.ob n a b z1 z2
        refine ⟨o, ?_, g2.mono (List.prefix_refl _) ex⟩
        show H1 a = some o
        rw [H1o a y (fun y2 => by rw [y2, hc] at g1; cases g1)]
        exact g1
theorem sm_sortLam {K : PySem.W.Frag} {i : Nat} {P : Addr} {q : Str} {lam : Expr} {g : PyData → Option PyData} {te : TE} {me : ME} (ha : SimE K te me) : SimF K (tSortLam K P q lam g te) (mSortLam i P q g me) := fun w h0 σ env xs h' rl re e Q qq => by
  obtain ⟨⟨x, h1⟩, e1, e⟩ := bind_of e
  split at e
  · rename_i hz
    obtain ⟨ys, e2, e⟩ := bind_of e
    obtain ⟨ds, e3, e⟩ := bind_of e
    split at e
    · rename_i hk
      cases e
      obtain ⟨hi, ht⟩ := hz
      replace hi : h1[i]? = some (.tab P q) := hi
      refine ha w h0 σ env x h1 rl re e1 _ fun w1 u s1 r1 rx => ?_
      have hil : i < w1.ι.length := by rw [r1.len]; exact (List.getElem?_eq_some_iff.mp hi).1
      obtain ⟨o, g1, g2⟩ := r1.ob i w1.ι[i] _ (List.getElem?_eq_getElem hil) hi
      have hιP : w1.ι[i] = P := by cases g2; rfl
      rw [hιP] at g1 g2
      have hPm : P ∈ w1.ι := by rw [← hιP]; exact List.getElem_mem hil
      have only : ∀ (n : Nat) (b : Ob), w1.ι[n]? = some P → h1[n]? = some b → b = .tab P q := fun n b z1 z2 => by
        have : n = i := by
          have z3 : w1.ι[i]? = some P := by rw [List.getElem?_eq_getElem hil, hιP]
          exact ((List.getElem?_inj (List.getElem?_eq_some_iff.mp z1).1 r1.nd).mp (z1.trans z3.symm))
        subst this
        rw [hi] at z2
        exact (Option.some.inj z2).symm
      cases g2 with
      | tab u1 u2 =>
        rename_i ps
        refine ⟨⟨ps, g1, u1, fun pos cv hcv => ?_⟩, fun f c' H1 mk tb nf hc' => ?_⟩
        · obtain ⟨c0, v1, v2⟩ := u2 pos cv hcv
          exact ⟨c0, v1, r1.ch _ _ v2⟩
        · obtain ⟨C1, s2, r2⟩ := made_ok r1 hPm mk tb only
          obtain ⟨s3, r3⟩ := fresh_ok (o := LamO f c' q (lamArgs lam) (lamBody lam) (lamScope lam)) r2 nf
          have s23 := s2.trans s3
          obtain ⟨p, vs, hu, sq, rp⟩ := items_L r3 (rx.up s23) e2 ht
          rw [allD_eq e3] at rp
          have nfc : c' ≠ f := fun z => by rw [z, nf] at hc'; cases hc'
          refine ⟨C1, f, c', p, vs, ds, by rw [hu], rfl, upd_same, by rw [upd_ne nfc]; exact hc', r3.ch, sq, rp.toD, hk, fun zs a hd hn => ?_⟩
          obtain ⟨s4, r4⟩ := fresh_ok (o := .lst zs) r3 hn
          have sA := (s1.trans s23).trans s4
          have hq0 : w.H a = none := by
            cases z : w.H a with
            | none => rfl
            | some o => exact absurd hn ((s1.trans s23).kp a (by rw [z]; exact fun q => nomatch q))
          exact qq _ a _ sA r4 hq0 upd_same (r3.notin hn) (r3.cnone hn) (RepA.ofD hd)
    · cases e
  · cases e
/-! ### defs that make lambdas, and the end -/
theorem Fun.okC {P : Program} {w : World} {K : PySem.W.Frag} {mg : Str → Option Value} {base : Heap} {x qual : Str} {st : Stmt} {f : Addr} {fd : FuncData} {N ps : List Str} {k : Nat} {sp : Sp} (F : Fun K x qual st f fd) (S : FnScope N ps (defScope st)) (len : ∀ vs H Q E, sp vs H Q E → vs.length = ps.length)
    (hbody : ∀ (A : Around) (outer : List PySem.Env) (s : Shared) (H : Hp) (vs : List V) (Q : VK) (E : XK), Room k (A.deeper (envOfC qual (defScope st) s.heap.objs.size f fd.code)) → sp vs H Q E →
      ∃ t, PSs (cxOf CX0 P w K mg base N qual (defScope st) f fd.code A outer s H E).nox (defBody st) t ∧ t { nx := fun _ H' => Q .non H', rt := Q } (L2.start N vs) H) : FnOk P w K mg base CX0 (k + 1) f fd ps sp := by
  obtain ⟨oc, od, kV, doc, pm, an, cdv, ct, osl, rfl, lk, hcd⟩ := F.ex
  refine fn_of lk hcd S len fun A outer s H vs Q E hr hsp => ?_
  obtain ⟨t, h, q⟩ := hbody A outer s H vs Q E hr hsp
  exact ⟨t, h.nox, q⟩
theorem fn_okHC {P : Program} {w : World} {K : PySem.W.Frag} {mg : Str → Option Value} {base : Heap} {x qual : Str} {st : Stmt} {f : Addr} {fd : FuncData} {N ps : List Str} {k : Nat} {tr : TS} {ms : MS} {np nN : Nat} (F : Fun K x qual st f fd) (S : FnScope N ps (defScope st)) (hnp : ps.length = np) (hN : N.length = nN)
    (pst : ∀ (A : Around) (outer : List PySem.Env) (s : Shared) (H : Hp) (E : XK), Room k (A.deeper (envOfC qual (defScope st) s.heap.objs.size f fd.code)) → PSs (cxOf CX0 P w K mg base N qual (defScope st) f fd.code A outer s H E).nox (defBody st) tr)
    (hs : SimS K tr ms) : FnOk P w K mg base CX0 (k + 1) f fd ps (spH K (toHeap np nN ms)) := by
  refine Fun.okC F S (fun vs H Q E h => ?_) (fun A outer s H vs Q E hr h => ⟨_, pst A outer s H E hr, ?_⟩)
  · obtain ⟨wd, h, xs, v, h', _, _, ra, e, _⟩ := h
    rw [ra.len, toHeap_len e, hnp]
  · obtain ⟨wd, h, xs, v, h', rfl, rl, ra, e, q⟩ := h
    exact run_ok hs rl ra e hN q
end M
namespace M
open PySem PySem.Spec PyProof.Rows L2
open Evl (Ex ex_rd ex_l ex_t rMax2)
open LamX (TabS TabB CodeO)
/-! ### the end of a law whose program makes lambdas -/
theorem sp_start {K : PySem.W.Frag} {f : MCa} {cs : List (Addr × Str)} {H : Hp} {a : Addr} {ns : List Int} {Q : VK} {E : XK} (hH : ∀ p ∈ cs, H p.1 = some (.tbl #[])) (nd : (cs.map (·.1)).Nodup) (hS : SqL K H a (ns.map V.int))
    (tell : ∃ h', f [.d (.list (ns.map .int))] (cs.map fun p => .tab p.1 p.2) = some (.d (.bool true), h')) (hQ : ∀ H', Q (.bl true) H') : spH K f [.ref a] H Q E := by
  obtain ⟨h', e⟩ := tell
  obtain ⟨C, hC⟩ : ∃ C : Hp, C = fun b => if b ∈ cs.map (·.1) then none else H b := ⟨_, rfl⟩
  have isT : ∀ b, b ∈ cs.map (·.1) → H b = some (.tbl #[]) := fun b hb => by
    obtain ⟨p, hp, e⟩ := List.mem_map.mp hb
    rw [← e]; exact hH p hp
  have eC : ∀ b o, H b = some o → (∀ ps, o ≠ .tbl ps) → C b = some o := fun b o z n => by
    rw [hC]
    show (if b ∈ cs.map (·.1) then none else H b) = some o
    rw [if_neg fun m => n #[] (by rw [isT b m] at z; exact (Option.some.inj z).symm)]
    exact z
  have hSC : SqL K C a (ns.map V.int) := by
    rcases hS with (z | ⟨ob, z⟩) | z
    · exact .inl (.inl (eC _ _ z fun ps y => nomatch y))
    · exact .inl (.inr ⟨ob, eC _ _ z fun ps y => nomatch y⟩)
    · exact .inr z
  refine ⟨⟨cs.map (·.1), C, H⟩, _, [.d (.list (ns.map .int))], .d (.bool true), h', rfl, ⟨fun b o z => ?_, by simp, nd, fun b m => ?_, fun n b ob z1 z2 => ?_⟩, .cons (.d (.lst hSC G.dpa_ints)) .nil, e, fun w' u _ _ ru => ?_⟩
  · rw [hC] at z
    replace z : (if b ∈ cs.map (·.1) then none else H b) = some o := z
    split at z
    · cases z
    · exact z
  · rw [hC]
    exact if_pos m
  · rw [List.getElem?_map] at z1 z2
    cases y : cs[n]? with
    | none => rw [y] at z1; cases z1
    | some p =>
      rw [y] at z1 z2
      cases z1
      cases z2
      exact ⟨_, hH p (List.mem_of_getElem? y), .tab True.intro fun pos cv hcv => by
        replace hcv : codeAmong pos [] = some cv := hcv
        simp [codeAmong] at hcv⟩
  · cases ru with
    | d h => cases h; exact hQ _
theorem walk_ofL {l : PySem.W.OpenLaw} {n k : Nat} {q : Program} {loose : List Str} {XP : (Str → Option Value) → Heap → Prop} {YP : World → Heap → Prop} {d : DefRec} {K : Params → PySem.W.Frag} {CX : World → CXT} {x : Str}
    (hmost : l.most = some n) (hsize : n ≤ sizeLine) (hnodef : d.params.defaults = []) (hroom : Room k callerA) (hin : ∀ (w : World) (h : Heap), YP w h → (K w.params).In h)
    (F : ∀ (w : World) (mg : Str → Option Value) (fa : Addr) (h : Heap), YP w h → (K w.params).In h → h.Ns mainGlobals mg → mg d.name = some (.ref fa) → (∀ nm : Str, ((recsOf q).any fun e => e.name == nm) = true → ∀ ga, mg nm = some (.ref ga) → LamX.OwnTab (K w.params) ga h) → LamX.LawAtS l w (K w.params) (CX w) k n x mg fa h)
    (hnox : ∀ (w : World) (H : Hp) (s : Shared) (e : Value) (s' : Shared), CX w [] H s (fun _ _ _ => False) e s' → False) :
    PySem.W.WalkO q loose XP YP l.row.toRowW d [] (fun f vs => PySem.call f vs) := by
  refine Att.attach_callB hmost hnodef fun w s0 s1 mg mb fa ob pm cd doc a vs ns top yp hob hdat hcode hname hlist hnums hlen hbits hgens => ?_
  have inK := hin w _ yp
  have own : ∀ nm : Str, ((recsOf q).any fun e => e.name == nm) = true → ∀ ga, mg nm = some (.ref ga) → LamX.OwnTab (K w.params) ga s1.heap := fun nm hnm ga hga c P o1 f1 e1 dd us sl k1 k2 k3 k4 k5 => by
    obtain ⟨r, hr, hrn⟩ := List.any_eq_true.mp hnm
    obtain ⟨a2, o2, f2, c2, P2, g1, g2, g3, g4, g5, g6⟩ := top.T.tab r hr
    rw [beq_iff_eq.mp hrn, hga] at g1
    cases g1
    have z := inK _ _ k1
    rw [g2] at z
    cases z
    rw [k2] at g3
    cases g3
    rw [k3] at g4
    cases g4
    obtain ⟨⟨oc, vc, y1, _, y3, y4⟩, yP⟩ := g6
    have z2 := inK _ _ k4
    rw [y1] at z2
    cases z2
    cases y3
    rw [k5] at y4
    cases y4
    exact yP
  obtain ⟨fd, cs, sp, hT, nT, hC, hb, hsp, hF⟩ := F w mg fa _ yp inK top.T.g hname own
  exact LamX.law_callTs inK top.T.g top.T.b top.T.builtins top.T.nolimit hgens hT nT hC top.T.bmain hlist hnums (Nat.le_trans hlen hsize) hroom hF hb (fun H hH hS => hsp H a ns hlen hbits hH hS) fun H e s' => hnox w H s1 e s'
end M
namespace M
open PySem PySem.Spec PyProof.Rows L2
open Evl (Ex ex_rd ex_l ex_t rMax2)
open G (dpx dpax dpa_len ex_none)
/-! ### dict(pairs) with tuples as keys, known by its values; list(d.values()) -/
theorem dvP_ok {P : Program} {w : World} {H : Hp} {h : Heap} {a : Addr} {vs : List V} (x : dvP a vs h) : ObjOk P w H h a (.ext (dvP a vs)) :=
  ⟨x, (let ⟨_, _, o, _, _, e, _⟩ := x; ⟨o, e⟩), fun h1 h2 y k => let ⟨y1, y2, o, es, ep, e, r⟩ := y; ⟨y1, y2, o, es, ep, k o e, r⟩⟩
inductive PairsV (K : PySem.W.Frag) (H : Hp) : List V → List (List Key × V) → Prop
  | nil : PairsV K H [] []
  | cons {t b : Addr} {v : V} {ks : List Key} {vs : List V} {qs : List (List Key × V)} : SqT K H t [.ref b, v] → SqT K H b (ks.map kV) → PairsV K H vs qs → PairsV K H (.ref t :: vs) ((ks, v) :: qs)
def rDictP (K : PySem.W.Frag) : List V → Hp → VK → Prop := fun xs H Q => ∃ p vs qs, xs = [.ref p] ∧ SqL K H p vs ∧ PairsV K H vs qs ∧ (qs.map (·.1)).Nodup ∧ ∀ a, H a = none → Q (.ref a) (upd H a (.ext (dvP a (qs.map (·.2)))))
section
variable {X : Cx}
theorem pairsV_conc {pins : List (Addr × Obj)} {s : Shared} {σ : L2.St} {H : Hp} (I : Inv X pins σ H s) : ∀ {vs : List V} {qs : List (List Key × V)} {its : List Value}, PairsV X.K H vs qs → Vals vs its →
    ∃ (ps : List (List Key × Addr × Value)) (ts : List Addr), its = ts.map Value.ref ∧ ts.length = ps.length ∧ ps.map (·.1) = qs.map (·.1) ∧ Vals (qs.map (·.2)) (ps.map (·.2.2)) ∧ (∀ x ∈ ps, (tupleKind (mixKind X.prog X.w)).is s.heap x.1 x.2.1) ∧
      ∀ (j : Nat) (t : Addr) (x : List Key × Addr × Value), ts[j]? = some t → ps[j]? = some x → s.heap.IsTuple t #[.ref x.2.1, x.2.2]
  | _, _, _, .nil, .nil => ⟨[], [], rfl, rfl, rfl, .nil, (fun _ h => nomatch h), fun j t x e => by simp at e⟩
  | _, _, _, .cons (t := t) (b := b) (v := v) (ks := ks) h1 h2 h3, .cons (l₂ := its) r1 r2 => by
    obtain ⟨ps, ts, e1, e2, e3, e4, e5, e6⟩ := pairsV_conc I h3 r2
    cases r1
    obtain ⟨i1, u1, p1, _⟩ := I.tuple h1
    obtain ⟨i2, u2, p2, _⟩ := I.tuple h2
    obtain ⟨x1, x2, rfl, y1, y2⟩ := u1.two
    cases y1
    refine ⟨(ks, b, x2) :: ps, t :: ts, by rw [e1]; rfl, by simp [e2], by simp [e3], .cons y2 e4, fun x hx => ?_, fun j t' x z1 z2 => ?_⟩
    · rcases List.mem_cons.mp hx with rfl | hx
      · obtain ⟨o, g1, g2, n, g3⟩ := p2
        exact ⟨o, i2.toArray, n, g1, g2, g3, by simpa using items_are u2⟩
      · exact e5 x hx
    · cases j with
      | zero =>
        simp at z1 z2
        subst z1; subst z2
        obtain ⟨o, g1, g2, n, g3⟩ := p1
        exact ⟨o, g1, g2, n, g3⟩
      | succ j => exact e6 j t' x (by simpa using z1) (by simpa using z2)
theorem cr_dictP {k : Nat} (hr : Room k X.A) : CallR X (.type "dict") (rDictP X.K) := by
  intro pins s σ H xs us Q I r h
  obtain ⟨p, vs, qs, rfl, hl, hp, hn, q⟩ := h
  obtain ⟨u, rfl, rx⟩ := r.one
  cases rx
  obtain ⟨its, rv, pl, hz⟩ := I.list hl
  obtain ⟨ps, ts, e1, e2, e3, e4, e5, e6⟩ := pairsV_conc I hp rv
  have hlen : vs.length = ps.length := by rw [rv.length, e1, List.length_map, e2]
  have hnd : (ps.map (·.1)).Nodup := by rw [e3]; exact hn
  obtain ⟨o, n, g1, g2, g3, g4⟩ := pl
  refine call_dict_pairsH (knd := tupleKind (mixKind X.prog X.w)) (ps := ps) (PairArg.list p its.toArray (fun j => (ts[j]?).getD 0) (ps.map fun x => (Value.ref x.2.1, x.2.2))) hr.hd (by have := hr.un; show X.A.units + 2 < cLine; omega) ⟨⟨o, n, g1, g2, g3, g4⟩, ?_, ?_⟩ ⟨by simp, ?_⟩ ?_ (by simp; omega) ?_
  · simp [e1, e2]
  · intro j k' v' hj
    obtain ⟨x, hx, hx2⟩ := by rw [List.getElem?_map] at hj; exact Option.map_eq_some_iff.mp hj
    cases hx2
    have hjl : j < ts.length := by rw [e2]; exact (List.getElem?_eq_some_iff.mp hx).1
    refine ⟨?_, .inl ?_⟩
    · rw [List.getElem?_toArray, e1, List.getElem?_map, List.getElem?_eq_getElem hjl]
      show _ = some (Value.ref ((ts[j]?).getD 0))
      rw [List.getElem?_eq_getElem hjl]
      rfl
    · have : ts[j]? = some ts[j] := List.getElem?_eq_getElem hjl
      show s.heap.IsTuple ((ts[j]?).getD 0) _
      rw [this]
      exact e6 j _ x this hx
  · intro i key v hrel
    obtain ⟨x, hx, hx2⟩ := by
      replace hrel : (ps.map fun x => (Value.ref x.2.1, x.2.2))[i]? = some (key, v) := hrel
      rw [List.getElem?_map] at hrel; exact Option.map_eq_some_iff.mp hrel
    cases hx2
    exact ⟨x.1, x.2.1, hx, rfl⟩
  · intro h' hk x hx
    obtain ⟨o', its', n', g1', g2', g3', g4'⟩ := e5 x hx
    exact ⟨o', its', n', hk _ _ (Nat.ne_of_lt (Heap.lt_size g1')) (fun z => nomatch z) g1', g2', g3', g4'⟩
  · intro h' tk hd' hk
    rw [storedAllH_nil_of_nodup ps hnd] at hd'
    obtain ⟨o', es, ep, d1, d2, d3, d4, _, _⟩ := hd'
    refine ⟨.ref s.heap.objs.size, _, I.laid (t' := tk) (o := .ext (dvP s.heap.objs.size (qs.map (·.2)))) (fun b u e => hk b u (fun z => nomatch z) e) (Nat.le_refl _) (dvP_ok ⟨?_, ?_, o', es, ep, d1, d2, d3, ?_⟩), rfl, q _ (I.hok.fresh (Nat.le_refl _))⟩
    · have := I.big
      simp only [beq_eq_false_iff_ne, ne_eq]
      exact Nat.ne_of_gt this
    · have z1 : (qs.map (·.2)).length = ps.length := by
        have := congrArg List.length e3
        simpa using this.symm
      rw [z1, ← hlen]; exact hz
    · have : es.toList.map (·.val) = ps.map (·.2.2) := by
        rw [d4, List.map_map]
        rfl
      rw [this]
      exact e4
def viewO (p a : Addr) : HO := .ext fun h => h.IsValuesView p a
def rVals : V → List V → Hp → VK → Prop := fun x xs H Q => ∃ a vs, x = .ref a ∧ xs = [] ∧ H a = some (.ext (dvP a vs)) ∧ ∀ p, H p = none → Q (.ref p) (upd H p (viewO p a))
theorem mt_vals : MtR X "dict.values" rVals := by
  intro pins s σ H x xs v us Q I rx rxs h
  obtain ⟨a, vs, rfl, rfl, ha, q⟩ := h
  cases rx
  cases rxs
  obtain ⟨⟨y1, y2, o, es, ep, e, ex, dd, _⟩, _⟩ := (show ObjOk X.prog X.w H s.heap a (.ext (dvP a vs)) from I.hok a _ ha)
  refine call_meetsIn PySem.F.slot_dict_values ⟨o, e, ex.1⟩ PySem.F.entry_dict_values (PySem.F.args_dict_values_1 _) (meets_dict_values_raw a y1) ⟨⟨es, ep, o, e, ex, dd⟩, ?_⟩
  have hf : H s.heap.objs.size = none := I.hok.fresh (Nat.le_refl _)
  exact ⟨.ref s.heap.objs.size, upd H s.heap.objs.size (viewO s.heap.objs.size a), I.laid (t' := s.toks) (fun b u e => Heap.get?_push_of_some _ e) (Nat.le_refl _) ⟨⟨_, Heap.get?_push_size _ rfl, rfl, rfl⟩, ⟨_, Heap.get?_push_size _ rfl⟩, fun h1 h2 x k => let ⟨o, ho, r⟩ := x; ⟨o, k o ho, r⟩⟩, rfl, q _ hf⟩
def tVals (to : TE) : TE := fun σ H Q => to σ H fun x H1 => rVals x [] H1 Q
theorem pe_vals {o : Expr} {to : TE} {apos cpos : Pos} (ho : PE X o to) (hbase : attributeBase o "values" X.env (eval o X.env) = eval o X.env := by rfl) (hline : (apos.endLine == cpos.line) = true := by rfl) : PE X (.Call (.Attribute o "values" apos) [] [] cpos) (tVals to) := by
  refine ⟨fun pins s σ H Q I h => ?_⟩
  refine wpAny_Call_method0_late hbase hline (thn (ho.run pins s σ H _ I h) fun v s1 ⟨x, H1, I1, r1, q1⟩ => ?_)
  obtain ⟨a, vs, rfl, _, ha, q2⟩ := id q1
  cases r1
  obtain ⟨⟨y1, y2, ob, es, ep, e, ex, dd, _⟩, _⟩ := (show ObjOk X.prog X.w H1 s1.heap a (.ext (dvP a vs)) from I1.hok a _ ha)
  exact ⟨"dict", "dict.values", PySem.F.plainAttrs_dict, PySem.F.slot_dict_values, PySem.F.type_dict_values, ⟨ob, e, ex.1⟩, (fun b eb => by cases eb; exact ⟨ob, e, ex.2.1⟩), Calls.callWith_builtin rfl (PySem.evalArgs_none (mt_vals pins s1 σ H1 (.ref a) [] (.ref a) [] Q I1 rfl .nil q1))⟩
def rListV : List V → Hp → VK → Prop := fun xs H Q => ∃ p a vs, xs = [.ref p] ∧ H p = some (viewO p a) ∧ H a = some (.ext (dvP a vs)) ∧ ∀ l, H l = none → Q (.ref l) (upd H l (.lst vs))
theorem cr_listV {k : Nat} (hr : Room k X.A) : CallR X (.type "list") rListV := by
  intro pins s σ H xs us Q I r h
  obtain ⟨p, a, vs, rfl, hp, ha, q⟩ := h
  obtain ⟨u, rfl, rx⟩ := r.one
  cases rx
  obtain ⟨⟨y1, y2, o, es, ep, e, ex, dd, rv⟩, _⟩ := (show ObjOk X.prog X.w H s.heap a (.ext (dvP a vs)) from I.hok a _ ha)
  obtain ⟨hv, _⟩ := (show ObjOk X.prog X.w H s.heap p (viewO p a) from I.hok p _ hp)
  have hl : vs.length = es.size := by rw [rv.length]; simp
  refine PySem.W.kdl_call (PySem.KdlSrc.rawValues (ep := ep)) hr.hd ⟨hv, o, e, ex, dd⟩ (by omega) fun h' tk acc' c' kp e' it => ?_
  have ea : acc'.toList = es.toList.map (·.val) := by
    apply List.ext_getElem?
    intro j
    rw [List.getElem?_map]
    cases hj : acc'.toList[j]? with
    | none =>
      have h1 := List.getElem?_eq_none_iff.mp hj
      rw [Array.length_toList, it.1] at h1
      rw [List.getElem?_eq_none (by rw [Array.length_toList]; exact h1)]
      rfl
    | some v =>
      obtain ⟨hi, hv'⟩ := it.2 j v (by rw [← Array.getElem?_toList]; exact hj)
      rw [List.getElem?_eq_getElem (by rw [Array.length_toList]; exact hi), hv']
      simp
  refine ⟨.ref s.heap.objs.size, _, I.laid (t' := tk) (o := .lst vs) kp (Nat.le_refl _) ?_, rfl, q _ (I.hok.fresh (Nat.le_refl _))⟩
  exact ⟨y2, acc'.toList, c', by rw [ea]; exact rv, by rw [Array.toArray_toList]; exact e'⟩
end
/-! ### in the model -/
def keysOf : List PyData → Option (List Key)
  | [] => some []
  | .int i :: r => (keysOf r).map (Sum.inl i :: ·)
  | .str s :: r => (keysOf r).map (Sum.inr s :: ·)
  | _ => none
def pairsD : List PyData → Option (List (List Key × PyData))
  | [] => some []
  | .tuple [.tuple ks, v] :: r => (keysOf ks).bind fun k => (pairsD r).map ((k, v) :: ·)
  | _ => none
theorem keysOf_ok {K : PySem.W.Frag} {C : Hp} : ∀ {ds : List PyData} {ks : List Key} {vs : List V}, keysOf ds = some ks → DpAll K C vs ds → vs = ks.map kV
  | [], ks, vs, e, h => by cases e; cases h; rfl
  | .int i :: r, ks, vs, e, h => by
    obtain ⟨k', e1, e2⟩ := map_of e
    cases e2
    cases h with
    | cons h1 h2 => cases h1; rw [keysOf_ok e1 h2]; rfl
  | .str s :: r, ks, vs, e, h => by
    obtain ⟨k', e1, e2⟩ := map_of e
    cases e2
    cases h with
    | cons h1 h2 => cases h1; rw [keysOf_ok e1 h2]; rfl
  | .none :: _, _, _, e, _ => by cases e
  | .bool _ :: _, _, _, e, _ => by cases e
  | .list _ :: _, _, _, e, _ => by cases e
  | .tuple _ :: _, _, _, e, _ => by cases e
  | .dict _ :: _, _, _, e, _ => by cases e
theorem pairsD_ok {K : PySem.W.Frag} {C H : Hp} (hx : Ex C H) : ∀ {ds : List PyData} {qs : List (List Key × PyData)} {vs : List V}, pairsD ds = some qs → DpAll K C vs ds → ∃ ws, PairsV K H vs ws ∧ ws.map (·.1) = qs.map (·.1) ∧ DpAll K C (ws.map (·.2)) (qs.map (·.2)) := by
  intro ds
  induction ds with
  | nil => intro qs vs e h; cases e; cases h; exact ⟨[], .nil, rfl, .nil⟩
  | cons d r ih =>
    intro qs vs e h
    unfold pairsD at e
    split at e
    · rename_i z; cases z
    · rename_i ks v r' z
      cases z
      obtain ⟨k, e1, e⟩ := bind_of e
      obtain ⟨q', e2, e⟩ := map_of e
      cases e
      cases h with
      | cons h1 h2 =>
        obtain ⟨ws, w1, w2, w3⟩ := ih e2 h2
        cases h1 with
        | tup s1 a1 =>
          cases a1 with
          | cons b1 b2 =>
            cases b2 with
            | cons b2 b3 =>
              cases b3
              cases b1 with
              | tup s2 a2 =>
                have := keysOf_ok e1 a2
                subst this
                exact ⟨_ :: ws, .cons (ex_t hx s1) (ex_t hx s2) w1, by simp [w2], .cons b2 w3⟩
    · cases e
def mDictP : MCa := fun xs h => (arg1 xs).bind fun x => if isT x = false then (itemsOf h x).bind fun ys => (allD ys).bind fun ds => (pairsD ds).bind fun qs => if (qs.map (·.1)).Nodup then some (.ref h.length, h ++ [.dv ((qs.map (·.2)).map .d)]) else none else none
theorem sc_dictP {K : PySem.W.Frag} : SimC K (rDictP K) mDictP := fun w h us xs v h' rl ra e Q q => by
  obtain ⟨x, e1, e⟩ := bind_of e
  split at e
  · rename_i ht
    obtain ⟨ys, e2, e⟩ := bind_of e
    obtain ⟨ds, e3, e⟩ := bind_of e
    obtain ⟨qs, e4, e⟩ := bind_of e
    split at e
    · rename_i hn
      cases e
      rw [arg1_of e1] at ra
      obtain ⟨u, rfl, rx⟩ := ra.one
      obtain ⟨p, vs, rfl, sq, rp⟩ := items_L rl rx e2 ht
      rw [allD_eq e3] at rp
      obtain ⟨ws, w1, w2, w3⟩ := pairsD_ok rl.ch e4 rp.toD
      refine ⟨p, vs, ws, rfl, sq, w1, by rw [w2]; exact hn, fun a ha => ?_⟩
      obtain ⟨s, r, g⟩ := alloc_ok (o := .ext (dvP a (ws.map (·.2)))) (b := .dv ((qs.map (·.2)).map .d)) rl ha (.dv ((RepA.ofD w3).mono (List.prefix_append _ _) fun _ _ z => z))
      exact q (w.alloc a _) (.ref a) s r (.ref g)
    · cases e
  · cases e
def asDv (h : MH) : MV → Option (List MV)
  | .ref n => match h[n]? with
    | some (.dv xs) => some xs
    | _ => none
  | _ => none
theorem asDv_of {h : MH} {v : MV} {xs : List MV} (e : asDv h v = some xs) : ∃ n, v = .ref n ∧ h[n]? = some (.dv xs) := by
  cases v with
  | ref m =>
    unfold asDv at e
    cases e1 : h[m]? with
    | none => simp only [e1] at e; cases e
    | some b =>
      cases b with
      | dv ys => simp only [e1] at e; cases e; exact ⟨m, rfl, e1⟩
      | lst _ => simp only [e1] at e; cases e
      | dct _ => simp only [e1] at e; cases e
      | dctT _ => simp only [e1] at e; cases e
      | tab _ _ => simp only [e1] at e; cases e
  | d _ => cases e
  | tup _ => cases e
def tListVals (to : TE) : TE := tCB rListV (tCons (tVals to) tNil)
def mListVals (me : ME) : MA := fun env h => (me env h).bind fun r => (asDv r.2 r.1).map fun xs => (xs, r.2)
theorem pe_listVals {X : Cx} {k : Nat} {o : Expr} {to : TE} {p pos apos cpos : Pos} (hr : Room k X.A) (hg : Gl X "list") (hm : X.mg "list" = none) (ho : PE X o to) (hbase : attributeBase o "values" X.env (eval o X.env) = eval o X.env) (hline : (apos.endLine == cpos.line) = true)
    (h1 : starEach [(.Call (.Attribute o "values" apos) [] [] cpos)] X.env = (false, eval (.Call (.Attribute o "values" apos) [] [] cpos) X.env) :: starEach [] X.env) (h2 : (backTo pos (starEach [] X.env)).any (·.1) = false) : PE X (.Call (.Name "list" p) [.Call (.Attribute o "values" apos) [] [] cpos] [] pos) (tListVals to) :=
  pe_callTy (cr_listV hr) hg hm (by decide +kernel) (pa_cons (pe_vals ho hbase hline) pa_nil)
theorem sm_listVals {K : PySem.W.Frag} {te : TE} {me : ME} (ha : SimE K te me) : SimF K (tListVals te) (mListVals me) := fun w h0 σ env xs h' rl re e Q qq => by
  obtain ⟨⟨x, h1⟩, e1, e⟩ := bind_of e
  obtain ⟨ys, e2, e⟩ := map_of e
  cases e
  refine ha w h0 σ env x _ rl re e1 _ fun w1 u s1 r1 rx => ?_
  obtain ⟨n, rfl, en⟩ := asDv_of e2
  obtain ⟨a, o, z1, z2, z3, z4⟩ := r1.look rx en
  cases z4 with
  | dv z4 =>
    rename_i vs
    refine ⟨a, vs, z1, rfl, z3, fun p hp => ?_⟩
    obtain ⟨s2, r2⟩ := fresh_ok (o := viewO p a) r1 hp
    have nap : a ≠ p := fun z => by rw [z, hp] at z3; cases z3
    refine ⟨p, a, vs, rfl, upd_same, by rw [upd_ne nap]; exact z3, fun l hl => ?_⟩
    obtain ⟨s3, r3⟩ := fresh_ok (o := .lst vs) r2 hl
    have sA := (s1.trans s2).trans s3
    have hq0 : w.H l = none := by
      cases z : w.H l with
      | none => rfl
      | some o => exact absurd hl ((s1.trans s2).kp l (by rw [z]; exact fun q => nomatch q))
    exact qq _ l _ sA r3 hq0 upd_same (r2.notin hl) (r2.cnone hl) (z4.mono (List.prefix_refl _) (fun _ _ z => z))
end M
namespace M
open PySem PySem.Spec PyProof.Rows L2
open Evl (Ex ex_rd ex_l ex_t rMax2)
open G (dpx dpax dpa_len ex_none)
/-! ### a dict of the module with text keys -/
inductive TabIs (K : PySem.W.Frag) : List DictEntry → List (Str × PyData) → Prop
  | nil : TabIs K [] []
  | cons {i : Int} {x : Str} {t : Tok} {u : Value} {d : PyData} {es : List DictEntry} {tab : List (Str × PyData)} : GlV K u d → TabIs K es tab → TabIs K (⟨i, .str x t, u⟩ :: es) ((x, d) :: tab)
def TabAt (K : PySem.W.Frag) (a : Addr) (tab : List (Str × PyData)) : Prop := ∀ z, match valG tab z with
  | some d => ∃ u, PySem.W.nsIn K a z = some (some u) ∧ GlV K u d
  | none => PySem.W.nsIn K a z = some none
theorem tabIs_find {K : PySem.W.Frag} (z : Str) : ∀ {es : List DictEntry} {tab : List (Str × PyData)}, TabIs K es tab → (match es.find? (·.key.isStr z) with
    | some e => ∃ d, valG tab z = some d ∧ GlV K e.val d
    | none => valG tab z = none) ∧ es.any (·.refKey) = false
  | _, _, .nil => ⟨rfl, rfl⟩
  | _, _, .cons (x := x) (t := t) (u := u) (d := d) (tab := tab) g r => by
    obtain ⟨h1, h2⟩ := tabIs_find z r
    refine ⟨?_, by rw [List.any_cons, h2]; rfl⟩
    rw [List.find?_cons, valG]
    by_cases e : x = z
    · subst e
      rw [show (Value.str x t).isStr x = true by simp [Value.isStr]]
      simp only [if_true]
      exact ⟨d, rfl, g⟩
    · rw [show (Value.str x t).isStr z = false by simp [Value.isStr, e]]
      rw [if_neg e]
      exact h1
theorem tabAt_of {K : PySem.W.Frag} {a : Addr} {es : Array DictEntry} {n : Nat} {od : Option Addr} {c : Value} {sl : Array (Option Value)} {tab : List (Str × PyData)} (h : K.lookup a = some ⟨c, od, .dict es n, sl⟩) (t : TabIs K es.toList tab) : TabAt K a tab := fun z => by
  obtain ⟨h1, h2⟩ := tabIs_find z t
  unfold PySem.W.nsIn
  rw [h]
  cases e : es.toList.find? (·.key.isStr z) with
  | some en =>
    rw [e] at h1
    obtain ⟨d, g1, g2⟩ := h1
    rw [g1]
    exact ⟨en.val, by simp only [e], g2⟩
  | none =>
    rw [e] at h1
    replace h1 : valG tab z = none := h1
    rw [h1]
    simp only [e, h2]
    rfl
def GlT (w : World) (K : PySem.W.Frag) (mg : Str → Option Value) (x : Str) (tab : List (Str × PyData)) : Prop := ∃ d es n, mg x = some (.ref d) ∧ KDict K w d es n ∧ TabAt K d tab
def tKIx (K : PySem.W.Frag) (tab : List (Str × PyData)) (te : TE) : TE := fun σ H Q => te σ H fun y H1 => ∃ z d, y = .str z ∧ valG tab z = some d ∧ ∀ v, (∀ C, Dp K C v d) → Q v H1
def tKIn (neg : Bool) (tab : List (Str × PyData)) (te : TE) : TE := fun σ H Q => te σ H fun y H1 => ∃ z, y = .str z ∧ Q (.bl (if neg = true then !(valG tab z).isSome else (valG tab z).isSome)) H1
section
variable {X : Cx} {x : Str} {tab : List (Str × PyData)} {i : Expr} {te : TE} {p pos : Pos}
theorem pe_glR {d : Addr} (hg : Gl X x) (hm : X.mg x = some (.ref d)) (hd : (x == ("__debug__" : Str)) = false) : PE X (.Name x pos) (fun _ H Q => Q (.ref d) H) :=
  ⟨fun _ _ _ H _ I q => ld_glob I hg hm ⟨.ref d, H, I, rfl, q⟩ hd⟩
theorem pe_kix (hg : Gl X x) (G : GlT X.w X.K X.mg x tab) (hi : PE X i te) (hs : NoSl i) (hd : (x == ("__debug__" : Str)) = false := by decide) : PE X (.Subscript (.Name x p) i pos) (tKIx X.K tab te) := by
  obtain ⟨d, es, n, hm, D, T⟩ := G
  have ho : PE X (.Name x p) (fun _ H Q => Q (.ref d) H) := pe_glR hg hm hd
  refine ⟨fun pins s σ H Q I h => ?_⟩
  refine subD_of PySem.F.slot_dict_getitem.lookup hs (thn (ho.run pins s σ H (fun y H1 => y = .ref d ∧ H1 = H) I ⟨rfl, rfl⟩) fun u s1 ⟨y0, H1, I1, rx, e1, e2⟩ => ?_)
  subst e1
  subst e2
  obtain rfl : u = Value.ref d := rx
  refine thn (hi.run pins s1 σ _ _ I1 h) fun iv s2 ⟨y, H2, I2, ry, z, dd, ey, g, q2⟩ => ?_
  subst ey
  have tz := T z
  rw [g] at tz
  obtain ⟨u0, g1, v0, g2, g3⟩ := tz
  exact ⟨kd_type D I2, op_item_kd D pins s2 σ H2 (.ref d) (.str z) (.ref d) iv Q I2 rfl ry ⟨z, u0, v0, rfl, rfl, g1, g2, q2 v0 g3⟩⟩
theorem ns_some {K : PySem.W.Frag} {d : Addr} (T : TabAt K d tab) (z : Str) : ∃ r, PySem.W.nsIn K d z = some r ∧ r.isSome = (valG tab z).isSome := by
  have tz := T z
  cases e : valG tab z with
  | some dd =>
    rw [e] at tz
    obtain ⟨u, g, _⟩ := tz
    exact ⟨some u, g, rfl⟩
  | none =>
    rw [e] at tz
    exact ⟨none, tz, rfl⟩
theorem pc_kin (hg : Gl X x) (G : GlT X.w X.K X.mg x tab) (hi : PE X i te) (hd : (x == ("__debug__" : Str)) = false := by decide) : PC X .In i (.Name x p) (tKIn false tab te) := by
  obtain ⟨d, es, n, hm, D, T⟩ := G
  have ho : PE X (.Name x p) (fun _ H Q => Q (.ref d) H) := pe_glR hg hm hd
  refine ⟨fun pins s σ H Q I h => ?_⟩
  refine thn (hi.run pins s σ H _ I h) fun iv s1 ⟨y, H1, I1, ry, z, ey, q1⟩ => thn (ho.run pins s1 σ H1 (fun y0 H2 => y0 = .ref d ∧ H2 = H1) I1 ⟨rfl, rfl⟩) fun u s2 ⟨y0, H2, I2, rx, e1, e2⟩ => ?_
  subst e1
  subst e2
  subst ey
  obtain ⟨r, g1, g2⟩ := ns_some T z
  exact op_in_kd D pins s2 σ _ (.str z) (.ref d) iv u Q I2 ry rx ⟨z, r, rfl, rfl, g1, by rw [g2]; exact q1⟩
theorem pc_knotin (hg : Gl X x) (G : GlT X.w X.K X.mg x tab) (hi : PE X i te) (hd : (x == ("__debug__" : Str)) = false := by decide) : PC X .NotIn i (.Name x p) (tKIn true tab te) := by
  obtain ⟨d, es, n, hm, D, T⟩ := G
  have ho : PE X (.Name x p) (fun _ H Q => Q (.ref d) H) := pe_glR hg hm hd
  refine ⟨fun pins s σ H Q I h => ?_⟩
  refine thn (hi.run pins s σ H _ I h) fun iv s1 ⟨y, H1, I1, ry, z, ey, q1⟩ => thn (ho.run pins s1 σ H1 (fun y0 H2 => y0 = .ref d ∧ H2 = H1) I1 ⟨rfl, rfl⟩) fun u s2 ⟨y0, H2, I2, rx, e1, e2⟩ => ?_
  subst e1
  subst e2
  subst ey
  obtain ⟨r, g1, g2⟩ := ns_some T z
  exact op_notIn_kd D pins s2 σ _ (.str z) (.ref d) iv u Q I2 ry rx ⟨z, r, rfl, rfl, g1, by rw [g2]; exact q1⟩
end
def asS : MV → Option Str
  | .d (.str z) => some z
  | _ => none
theorem asS_rep {K : PySem.W.Frag} {ι : List Addr} {C : Hp} {v : V} {x : MV} {z : Str} (r : Rep K ι C v x) (e : asS x = some z) : v = .str z := by
  cases x with
  | d p =>
    cases p with
    | str s => cases e; cases r with | d r => cases r; rfl
    | _ => cases e
  | _ => cases e
def mKIx (tab : List (Str × PyData)) (me : ME) : ME := fun env h => (me env h).bind fun r => (asS r.1).bind fun z => (valG tab z).map fun d => (.d d, r.2)
def mKIn (neg : Bool) (tab : List (Str × PyData)) (me : ME) : ME := fun env h => (me env h).bind fun r => (asS r.1).map fun z => (.d (.bool (if neg = true then !(valG tab z).isSome else (valG tab z).isSome)), r.2)
section
variable {K : PySem.W.Frag} {te : TE} {me : ME}
theorem sm_kix {tab : List (Str × PyData)} (he : SimE K te me) : SimE K (tKIx K tab te) (mKIx tab me) := fun w h σ env v h' rl re e Q q => by
  obtain ⟨⟨a, h1⟩, e1, e⟩ := bind_of e
  obtain ⟨z, e2, e⟩ := bind_of e
  obtain ⟨d, e3, e⟩ := map_of e
  cases e
  exact he w h σ env a _ rl re e1 _ fun w1 u1 s1 r1 x1 => ⟨z, d, asS_rep x1 e2, e3, fun v dv => q w1 v s1 r1 (.d (dv _))⟩
theorem sm_kin {neg : Bool} {tab : List (Str × PyData)} (he : SimE K te me) : SimE K (tKIn neg tab te) (mKIn neg tab me) := fun w h σ env v h' rl re e Q q => by
  obtain ⟨⟨a, h1⟩, e1, e⟩ := bind_of e
  obtain ⟨z, e2, e⟩ := map_of e
  cases e
  exact he w h σ env a _ rl re e1 _ fun w1 u1 s1 r1 x1 => ⟨z, asS_rep x1 e2, q w1 _ s1 r1 (.d (.bl _))⟩
/-! ### texts -/
def chM (z : Str) : List MV := z.cps.toList.map fun c => .d (.str ⟨#[c]⟩)
def mItS (me : ME) : MI := fun env h => (me env h).bind fun r => (asS r.1).map fun z => (([], chM z), r.2)
theorem si_str (he : SimE K te me) : SimI K (iStr te) (mItS me) := fun w h0 σ env si h' rl re e R q => by
  obtain ⟨⟨a, h1⟩, e1, e⟩ := bind_of e
  obtain ⟨z, e2, e⟩ := map_of e
  cases e
  refine he w h0 σ env a _ rl re e1 _ fun w1 u s1 r1 x1 => ⟨z, asS_rep x1 e2, q w1 _ s1 r1 fun w2 h2 s2 r2 hs => ⟨?_, fun i x ex => ?_⟩⟩
  · show z.cps.size ≤ (chM z).length
    simp [chM]
  · have hl : i < z.cps.size := by
      have := (List.getElem?_eq_some_iff.mp ex).1
      simpa [chM] using this
    refine ⟨hl, fun u' H' y => ?_⟩
    obtain ⟨rfl, c, hc, rfl⟩ := y
    have hx : x = .d (.str ⟨#[c]⟩) := by
      unfold chM at ex
      rw [List.getElem?_map, Array.getElem?_toList, hc] at ex
      cases ex
      rfl
    subst hx
    exact same_step r2 (.d (.str _))
def mIxS : MO2 := fun a b h => (asS a).bind fun z => (asI b).bind fun i => if z.length ≤ 1000 then (atI z.cps.toList i).map fun c => (.d (.str ⟨#[c]⟩), h) else none
theorem sr_ixS : SimR K (rIx K) mIxS := fun w h x y a b v h' rl rx ry e Q q => by
  obtain ⟨z, e1, e⟩ := bind_of e
  obtain ⟨i, e2, e⟩ := bind_of e
  split at e
  · rename_i hz
    obtain ⟨c, e3, e⟩ := map_of e
    cases e
    exact .inr (.inr ⟨z, i, c, asS_rep rx e1, asI_rep ry e2, Nat.le_trans hz (by rw [sizeLine_eq]; decide), e3, q w _ (.refl _) rl (.d (.str _))⟩)
  · cases e
def rLenS : List V → Hp → VK → Prop := fun xs H Q => ∃ z : Str, xs = [.str z] ∧ z.length ≤ sizeLine ∧ Q (.int z.length) H
theorem cr_lenS {X : Cx} : CallR X (.builtin "len") rLenS := call_len_str
def mLenS : MCa := fun xs h => (arg1 xs).bind fun x => (asS x).bind fun z => if z.length ≤ 1000 then some (.d (.int z.length), h) else none
theorem sc_lenS : SimC K rLenS mLenS := fun w h us xs v h' rl ra e Q q => by
  obtain ⟨x, e1, e⟩ := bind_of e
  obtain ⟨z, e2, e⟩ := bind_of e
  split at e
  · rename_i hz
    cases e
    rw [arg1_of e1] at ra
    obtain ⟨u, rfl, rx⟩ := ra.one
    exact ⟨z, by rw [asS_rep rx e2], Nat.le_trans hz (by rw [sizeLine_eq]; decide), q w _ (.refl _) rl (.d (.int _))⟩
  · cases e
/-! ### d.get(k); is True, is not False -/
def mDGet1 (md mk : ME) : ME := fun env h => (md env h).bind fun d => (asK d.2 d.1).bind fun _ => (mk env d.2).bind fun k => (asK k.2 d.1).bind fun t => (keyOf k.1).map fun y => ((valG t.2 y).getD (.d .none), k.2)
theorem sm_dget1 {td ty : TE} {md mk : ME} (hd : SimE K td md) (hk : SimE K ty mk) : SimE K (tDGet1 td ty) (mDGet1 md mk) := fun w h σ env v h' rl re e Q q => by
  obtain ⟨⟨a, h1⟩, e1, e⟩ := bind_of e
  obtain ⟨⟨n0, kws0⟩, e0, e⟩ := bind_of e
  obtain ⟨⟨b, h2⟩, e2, e⟩ := bind_of e
  obtain ⟨⟨n, kws⟩, e3, e⟩ := bind_of e
  obtain ⟨y, e4, e⟩ := map_of e
  cases e
  refine hd w h σ env a h1 rl re e1 _ fun w1 u1 s1 r1 x1 => ?_
  obtain ⟨a0, kvs0, rfl, f1, f2, f3⟩ := asK_ok r1 x1 e0
  refine ⟨a0, rfl, .inl ⟨kvs0, .inl f2⟩, hk w1 h1 σ env b _ r1 (re.up s1) e2 _ fun w2 u2 s2 r2 x2 => ?_⟩
  obtain ⟨ad, kvs, hu, g1, g2, g3⟩ := asK_ok r2 (x1.up s2) e3
  cases hu
  have := keyOf_ok x2 e4
  subst this
  exact ⟨_, .inl ⟨kvs, y, .inl g2, rfl, rfl⟩, q w2 _ (s1.trans s2) r2 (getD_rep g3 y (.d .non))⟩
def mIsB (neg : Bool) : MO2 := fun a b h => match a, b with
  | .d (.bool x), .d (.bool y) => some (.d (.bool (if neg = true then !decide (x = y) else decide (x = y))), h)
  | _, _ => none
theorem bool_rep {ι : List Addr} {C : Hp} {v : V} {x : Bool} (r : Rep K ι C v (.d (.bool x))) : v = .bl x := by
  cases r with | d r => cases r; rfl
theorem isB_of {neg : Bool} {a b v : MV} {h h' : MH} (e : mIsB neg a b h = some (v, h')) : ∃ x y, a = .d (.bool x) ∧ b = .d (.bool y) ∧ v = .d (.bool (if neg = true then !decide (x = y) else decide (x = y))) ∧ h' = h := by
  unfold mIsB at e
  split at e
  · cases e; exact ⟨_, _, rfl, rfl, rfl, rfl⟩
  · cases e
theorem sr_isB : SimR K rIsB (mIsB false) := fun w h x y a b v h' rl rx ry e Q q => by
  obtain ⟨p, r, rfl, rfl, rfl, rfl⟩ := isB_of e
  exact ⟨p, r, bool_rep rx, bool_rep ry, q w _ (.refl _) rl (.d (.bl _))⟩
theorem sr_notB : SimR K rNotB (mIsB true) := fun w h x y a b v h' rl rx ry e Q q => by
  obtain ⟨p, r, rfl, rfl, rfl, rfl⟩ := isB_of e
  exact ⟨p, r, bool_rep rx, bool_rep ry, q w _ (.refl _) rl (.d (.bl _))⟩
end
end M
namespace M
open PySem PySem.Spec PyProof.Rows L2
open Evl (Ex ex_rd ex_l ex_t rMax2)
open G (dpx dpax dpa_len ex_none)
/-! ### xs.pop(0) as a statement; max(xs) of a list of ints -/
def mPop0 (mo : ME) : MS := fun env h => (mo env h).bind fun o => (asL o.2 o.1).bind fun l => match l.2 with
  | [] => none
  | _ :: r => some (.nx env (o.2.set l.1 (.lst r)))
section
variable {K : PySem.W.Frag} {to_ : TE} {mo : ME}
theorem ss_pop0 (h1 : SimE K to_ mo) : SimS K (tDrop (tBM K "list" rPopAt to_ (tCons (tC (.int 0)) tNil))) (mPop0 mo) := fun D w h σ env r rl re e p => by
  obtain ⟨⟨o, hh1⟩, e1, e⟩ := bind_of e
  obtain ⟨⟨n, xs⟩, e4, e⟩ := bind_of e
  cases xs with
  | nil => cases e
  | cons x rest =>
    cases e
    obtain ⟨eo, ex⟩ := asL_of e4
    simp only at eo ex
    subst eo
    refine h1 w h σ env _ hh1 rl re e1 _ fun w1 u1 s1 r1 x1 => ?_
    obtain ⟨a, vs0, rfl, g01, g02, g03⟩ := r1.lst x1 ex
    cases g03 with
    | cons q1 q2 =>
      rename_i v vs
      refine ⟨.inl ⟨rfl, _, .inl (.inl g02)⟩, ?_⟩
      obtain ⟨s4, r4⟩ := write_ok (o := .lst vs) r1 g01 (.lst q2)
      have ss := s1.trans s4
      refine ⟨a, v :: vs, 0, 0, v, rfl, rfl, g02, by decide, by decide, ?_, rfl, p (w1.write a _) σ ss r4 (re.up ss)⟩
      rw [List.length_cons]
      unfold seqIndex?
      simp
      try omega
def maxI : List Int → Int
  | [] => 0
  | [x] => x
  | x :: xs => max x (maxI xs)
theorem maxI_ge : ∀ {xs : List Int} {y : Int}, y ∈ xs → y ≤ maxI xs
  | [x], y, h => by rw [List.mem_singleton.mp h]; exact Int.le_refl _
  | x :: z :: xs, y, h => by
    rw [maxI]
    rcases List.mem_cons.mp h with rfl | h
    · exact Int.le_max_left _ _
    · exact Int.le_trans (maxI_ge h) (Int.le_max_right _ _)
    · simp
theorem maxI_mem : ∀ {xs : List Int}, xs ≠ [] → maxI xs ∈ xs
  | [x], _ => by rw [maxI]; exact List.mem_singleton.mpr rfl
  | x :: z :: xs, _ => by
    rw [maxI]
    · have ih := maxI_mem (xs := z :: xs) (by simp)
      rcases Int.le_total x (maxI (z :: xs)) with h | h
      · rw [Int.max_eq_right h]; exact List.mem_cons_of_mem _ ih
      · rw [Int.max_eq_left h]; exact List.mem_cons_self
    · simp
def mMaxL : MCa := fun xs h => (arg1 xs).bind fun x => if isT x = false then (itemsOf h x).bind fun ys => (intsOf ys).bind fun ns => if ns ≠ [] then some (.d (.int (maxI ns)), h) else none else none
theorem sc_maxL : SimC K (rMax K) mMaxL := fun w h us xs v h' rl ra e Q q => by
  obtain ⟨x, e1, e⟩ := bind_of e
  split at e
  · rename_i ht
    obtain ⟨ys, e2, e⟩ := bind_of e
    obtain ⟨ns, e3, e⟩ := bind_of e
    split at e
    · rename_i hne
      cases e
      rw [arg1_of e1] at ra
      obtain ⟨u, rfl, rx⟩ := ra.one
      obtain ⟨p, vs, rfl, sq, rp⟩ := items_L rl rx e2 ht
      rw [intsOf_eq e3] at rp
      rw [rep_ints rp] at sq
      refine ⟨p, ns, rfl, sq, List.length_pos_iff.mpr hne, fun m hm hy => ?_⟩
      have : m = maxI ns := Int.le_antisymm (maxI_ge hm) (hy _ (maxI_mem hne))
      rw [this]
      exact q w _ (.refl _) rl (.d (.int _))
    · cases e
  · cases e
end
/-! ### slices in a key -/
def fSl (f : PyData → Option PyData) (j : Nat) : PyData → Option PyData := fun d => (f d).bind fun r => match r with
  | .tuple ds => if j < ds.length ∧ ds.length ≤ 1000 then some (.tuple (ds.take j)) else none
  | _ => none
theorem readsAll_take : ∀ {h : Heap} {vs : List Value} {ds : List PyData} {as : List Addr} (j : Nat), ReadsAll h vs ds as → ∃ bs, ReadsAll h (vs.take j) (ds.take j) bs
  | _, _, _, _, 0, _ => ⟨[], .nil⟩
  | _, _, _, _, _ + 1, .nil => ⟨[], .nil⟩
  | _, _, _, _, j + 1, .cons r rs => by
    obtain ⟨bs, h1⟩ := readsAll_take j rs
    exact ⟨_, .cons r h1⟩
theorem kb_sl {prog : Program} {w : World} {sc : Scope} {x : Str} {e : Expr} {f : PyData → Option PyData} {j k : Nat} {p p2 p3 : Pos} (h : KB prog w sc x e f) (hj : j < 1000) : KB prog w sc x (.Subscript e (.Slice none (some (.Constant (.int (j : Int)) k p)) none p2) p3) (fSl f j) := fun env A E v d r as s m Q es hn hm rd hf q => by
  obtain ⟨t, e1, e2⟩ := bind_of hf
  refine Subscript_ (h env A E v d t as s m _ es hn hm rd e1 fun u bs h' tk kp ru => ?_)
  refine wpAny_Slice ?_
  rw [evalPart_none]
  refine wpAny_pure ?_
  rw [evalPart_some]
  refine wpAny_Constant_int ?_
  refine wpAny_pure ?_
  split at e2
  · rename_i ds
    split at e2
    · rename_i hz
      cases e2
      cases ru with
      | tuple ho hc hd ra =>
        rename_i a o vs n
        have kp2 : ∀ z : Obj, Keep h' (h'.push z) := fun z b o e => Heap.get?_push_of_some _ e
        have kp3 : ∀ z y : Obj, Keep h' ((h'.push z).push y) := fun z y b o e => Heap.get?_push_of_some _ (Heap.get?_push_of_some _ e)
        have ht : IsTup h' a vs := ⟨o, ho, hc, n, hd⟩
        have hl : vs.toList.length = ds.length := readsAll_len ra
        rw [Array.length_toList] at hl
        refine tail_any (ops := [.ref h'.objs.size, .ref a]) (T := "tuple") ⟨o, kp2 _ a o ho, hc⟩ slot_tuple_getitem.lookup (HT.getItem_tuple_cut (lo := none) (hi := some (j : Int)) ⟨o, kp2 _ a o ho, hc, n, hd⟩ (Heap.IsSliceOf.new ..) .none (.int _ _) ?_ ?_ (by rw [sizeLine_eq]; omega)) (by with_unfolding_all rfl)
        · rw [hl, HT.sIx_nat]
          omega
        · rw [hl, HT.sIx_nat, HT.sIx_none]
          obtain ⟨cs, hcs⟩ := readsAll_take j ra
          refine q _ cs _ _ (kp.trans (kp3 _ _)) (.tuple (Heap.get?_push_size _ rfl) rfl rfl ?_)
          have e3 : min j ds.length - 0 = j := by omega
          rw [e3, List.drop_zero]
          simpa using readsAll_keeps (kp3 _ _) hcs
    · cases e2
  · cases e2
/-! ### sorted(set(xs)), xs a list or a tuple -/
def rSetX (w : World) (K : PySem.W.Frag) : List V → Hp → VK → Prop := fun vs H Q => ∃ (a : Addr) (ns : List Int), vs = [V.ref a] ∧ (SqL K H a (ns.map V.int) ∨ SqT K H a (ns.map V.int)) ∧ ns.length + 1 < scanBound ∧ ∀ (p : Addr) (n : Nat), n ≤ ns.length → H p = none → Q (.ref p) (upd H p (SetO w p (fun j => decide (j ∈ ns)) n))
def tSoSetX (K : PySem.W.Frag) (t : TA) : TE := fun σ H Q => ∀ w : World, tCB (rSortedSet w) (tCons (tCB (rSetX w K) t) tNil) σ H Q
section
variable {X : Cx}
theorem cr_setX (hc : X.calm = true) : CallR X (.type "set") (rSetX X.w X.K) := by
  intro pins s σ H vs us Q I r h
  obtain ⟨a, ns, rfl, hs, room, q⟩ := h
  rcases hs with hs | hs
  · exact G.cr_setLi hc pins s σ H _ us Q I r ⟨a, ns, rfl, hs, room, q⟩
  · obtain ⟨its, rv, ht, _⟩ := I.tuple hs
    rw [Vals.ref1 r]
    obtain ⟨o, h1, h2, n, h3⟩ := ht
    refine call_set_tupI ns (I.ok.hd hc) ⟨o, h1, h2, n, h3⟩ rv.ints room fun g k c st le old => ?_
    have hp := I.hok.fresh (Nat.le_refl _)
    exact ⟨.ref _, upd H s.heap.objs.size (SetO X.w s.heap.objs.size (fun j => decide (j ∈ ns)) c), I.laid (t' := k) old (Nat.le_refl _) (setO_new st), rfl, q _ c le hp⟩
theorem pe_soSetX {p p2 pos pos2 : Pos} {e : Expr} {t : TA} (hc : X.calm = true) (g1 : Gl X "sorted") (m1 : X.mg "sorted" = none) (g2 : Gl X "set") (m2 : X.mg "set" = none) (ha : PA X [e] t)
    (h1 : starEach [e] X.env = (false, eval e X.env) :: starEach [] X.env := by rfl) (h2 : starEach [Expr.Call (.Name "set" p2) [e] [] pos2] X.env = (false, eval (Expr.Call (.Name "set" p2) [e] [] pos2) X.env) :: starEach [] X.env := by rfl)
    (h3 : (backTo pos2 (starEach [] X.env)).any (·.1) = false := by rfl) (h4 : (backTo pos (starEach [] X.env)).any (·.1) = false := by rfl) :
    PE X (.Call (.Name "sorted" p) [.Call (.Name "set" p2) [e] [] pos2] [] pos) (tSoSetX X.K t) := by
  have A := pe_callTy (p := p2) (cr_setX hc) g2 m2 (by decide +kernel) ha (he := h1) (hpl := h3)
  have B := pe_callB (p := p) (cr_sortedSet hc) g1 m1 (by decide +kernel) (pa_cons A pa_nil h2) (he := h2) (hpl := h4)
  exact ⟨fun pins s σ H Q I h => B.run pins s σ H Q I (h X.w)⟩
end
def mSoSetX (ml : MA) : MA := fun env h => (ml env h).bind fun r => (arg1 r.1).bind fun x => (itemsOf r.2 x).bind fun ys => (intsOf ys).bind fun ns => if ns.length < 64 then some ((ascU ns).map dI, r.2) else none
theorem sm_soSetX {K : PySem.W.Frag} {tl : TA} {ml : MA} (h : SimA K tl ml) : SimF K (tSoSetX K tl) (mSoSetX ml) := fun w h0 σ env xs h' rl re e Q q wd => by
  obtain ⟨⟨as, h1⟩, e1, e⟩ := bind_of e
  obtain ⟨x, e2, e⟩ := bind_of e
  obtain ⟨ys, e3, e⟩ := bind_of e
  obtain ⟨ns, e4, e⟩ := bind_of e
  split at e
  · rename_i hz
    cases e
    refine h w h0 σ env as h1 rl re e1 _ fun w1 us s1 r1 x1 => ?_
    replace e2 : arg1 as = some x := e2
    rw [arg1_of e2] at x1
    obtain ⟨u, rfl, rx⟩ := x1.one
    obtain ⟨p0, vs, rfl, sq, rp⟩ := items_ok r1 rx e3
    rw [intsOf_eq e4] at rp
    rw [rep_ints rp] at sq
    refine ⟨_, ns, rfl, sq, by simp only [scanBound]; omega, fun p n le hp => ?_⟩
    show rSortedSet wd [V.ref p] _ Q
    refine ⟨p, _, n, rfl, upd_same, by omega, fun ks q2 g1 g2 _ g3 => ?_⟩
    have e5 : ks = ascU ns := asc_same g1 (ascU_asc ns) fun z => by rw [g2 z, mem_ascU]; simp
    subst e5
    obtain ⟨s2, r2⟩ := fresh_ok (o := SetO wd p (fun j => decide (j ∈ ns)) n) r1 hp
    obtain ⟨s3, r3⟩ := fresh_ok (o := .lst ((ascU ns).map V.int)) r2 g3
    have sA := (s1.trans s2).trans s3
    have hq0 : w.H q2 = none := by
      cases z : w.H q2 with
      | none => rfl
      | some o => exact absurd g3 ((s1.trans s2).kp q2 (by rw [z]; exact fun q => nomatch q))
    exact q _ q2 _ sA r3 hq0 upd_same (r2.notin g3) (r2.cnone g3) (by
      have := ints_rep (K := K) (ι := w1.ι) (C := w1.C) (ascU ns)
      exact this)
  · cases e
/-! ### xs.extend(ys), both lists of one's own -/
def mExt (mo me : ME) : MS := fun env h => (mo env h).bind fun o => (asL o.2 o.1).bind fun _ => (me env o.2).bind fun r => (asL r.2 o.1).bind fun l => (asL r.2 r.1).bind fun q => if l.2.length + q.2.length ≤ 100000 then some (.nx env (r.2.set l.1 (.lst (l.2 ++ q.2)))) else none
theorem ss_ext {K : PySem.W.Frag} {to_ te : TE} {mo me : ME} (h1 : SimE K to_ mo) (h2 : SimE K te me) : SimS K (tDrop (tBM K "list" rExtend to_ (tCons te tNil))) (mExt mo me) := fun D w h σ env r rl re e p => by
  obtain ⟨⟨o, hh1⟩, e1, e⟩ := bind_of e
  obtain ⟨⟨n0, xs0⟩, e0, e⟩ := bind_of e
  obtain ⟨⟨v, hh2⟩, e2, e⟩ := bind_of e
  obtain ⟨⟨n, xs⟩, e4, e⟩ := bind_of e
  obtain ⟨⟨m, ys⟩, e5, e⟩ := bind_of e
  simp only at e
  split at e
  · rename_i hz
    cases e
    obtain ⟨eo, ex⟩ := asL_of e4
    obtain ⟨ev, ey⟩ := asL_of e5
    obtain ⟨eo0, ex0⟩ := asL_of e0
    simp only at eo ex eo0 ex0 ev ey
    subst eo
    cases eo0
    subst ev
    refine h1 w h σ env _ hh1 rl re e1 _ fun w1 u1 s1 r1 x1 => ?_
    obtain ⟨a, vs0, rfl, g01, g02, g03⟩ := r1.lst x1 ex0
    refine ⟨.inl ⟨rfl, _, .inl (.inl g02)⟩, h2 w1 hh1 σ env _ hh2 r1 (re.up s1) e2 _ fun w2 u2 s2 r2 x2 => ?_⟩
    obtain ⟨a', vs, ea, g1, g2, g3⟩ := r2.lst (x1.up s2) ex
    cases ea
    obtain ⟨b, us, rfl, f1, f2, f3⟩ := r2.lst x2 ey
    obtain ⟨s4, r4⟩ := write_ok (o := .lst (vs ++ us)) r2 g1 (.lst (g3.app f3))
    have ss := (s1.trans s2).trans s4
    exact ⟨a, b, vs, us, rfl, rfl, g2, f2, by rw [g3.len, f3.len]; exact Nat.le_trans hz sl_100000, p (w2.write a _) σ ss r4 (re.up ss)⟩
  · cases e
end M
namespace M
open PySem PySem.Spec PyProof.Rows L2
open Evl (Ex ex_rd ex_l ex_t rMax2)
open G (dpx dpax dpa_len dpa_get dpa_app dpa_set ex_none wipe_get wipe_eq wipe_wipe RD UD CD Ret)
/-! ### dicts with tuples as keys -/
def keyT : MV → Option (List Key)
  | .tup xs => mapO keyOf xs
  | _ => none
section
variable {K : PySem.W.Frag} {w : Wd} {h : MH}
theorem keysT_ok : ∀ {vs : List V} {xs : List MV} {ks : List Key}, RepA K w.ι w.C vs xs → mapO keyOf xs = some ks → vs = ks.map kV
  | _, [], ks, .nil, e => by cases e; rfl
  | _, x :: xs, ks, .cons r t, e => by
    rw [mapO] at e
    cases e1 : keyOf x with
    | none => rw [e1] at e; cases e
    | some k =>
      rw [e1] at e
      cases e2 : mapO keyOf xs with
      | none => rw [e2] at e; cases e
      | some ls => rw [e2] at e; cases e; rw [keyOf_ok r e1, keysT_ok t e2]; rfl
theorem keyT_ok {v : V} {x : MV} {ks : List Key} (r : Rep K w.ι w.C v x) (e : keyT x = some ks) : ∃ b, v = .ref b ∧ w.C b = some (.tup (ks.map kV)) := by
  cases x with
  | tup xs =>
    cases r with
    | tup q a => rw [keysT_ok a e] at q; exact ⟨_, rfl, q⟩
  | d _ => cases e
  | ref _ => cases e
def asKT (h : MH) : MV → Option (Nat × List (List Key × MV))
  | .ref n => match h[n]? with
    | some (.dctT kws) => some (n, kws)
    | _ => none
  | _ => none
theorem asKT_of {v : MV} {n : Nat} {kws : List (List Key × MV)} (e : asKT h v = some (n, kws)) : v = .ref n ∧ h[n]? = some (.dctT kws) := by
  cases v with
  | ref m =>
    unfold asKT at e
    cases e1 : h[m]? with
    | none => simp only [e1] at e; cases e
    | some b =>
      cases b with
      | dctT ys => simp only [e1] at e; cases e; exact ⟨rfl, e1⟩
      | _ => simp only [e1] at e; cases e
  | d _ => cases e
  | tup _ => cases e
theorem e_asKT {n : Nat} {kws : List (List Key × MV)} {h : MH} (hn : h[n]? = some (.dctT kws)) : asKT h (.ref n) = some (n, kws) := by
  unfold asKT; simp only [hn]
theorem asKT_ok (r : Rel K w h) {v : V} {x : MV} {n : Nat} {kws : List (List Key × MV)} (rx : Rep K w.ι w.C v x) (e : asKT h x = some (n, kws)) : ∃ a kvs, v = .ref a ∧ w.ι[n]? = some a ∧ w.H a = some (.dT kvs) ∧ KRep K w.ι w.C kvs kws := by
  obtain ⟨eo, ex⟩ := asKT_of e
  subst eo
  obtain ⟨a, o, h1, h2, h3, h4⟩ := r.look rx ex
  cases h4 with
  | dctT h4 h5 => exact ⟨a, _, h1, h2, h3, h4, h5⟩
end
section
variable {K : PySem.W.Frag} {td ty tx tv : TE} {md mk mx mv : ME}
def mTupK (ma : MA) : ME := fun env h => (ma env h).bind fun r => if r.1.length ≤ 100000 then some (.tup r.1, r.2) else none
theorem sm_tupK {tl : TA} {ml : MA} (ha : SimA K tl ml) : SimE K (tTup tl) (mTupK ml) := fun w h σ env v h' rl re e Q q => by
  obtain ⟨⟨a, h1⟩, e1, e⟩ := bind_of e
  simp only at e
  split at e
  · rename_i hz
    cases e
    refine ha w h σ env _ _ rl re e1 _ fun w1 xs s1 r1 x1 => ⟨by rw [x1.len]; exact Nat.le_trans hz sl_100000, fun p hp => ?_⟩
    obtain ⟨s2, r2⟩ := know_ok (o := .tup xs) r1 hp
    exact q (w1.know p (.tup xs)) _ (s1.trans s2) r2 (.tup upd_same (x1.up s2))
  · cases e
def mTGet (md mk : ME) : ME := fun env h => (md env h).bind fun d => (mk env d.2).bind fun k => (asKT k.2 d.1).bind fun t => (keyT k.1).bind fun y => (valG t.2 y).map fun v => (v, k.2)
theorem sm_tget (hd : SimE K td md) (hk : SimE K ty mk) : SimE K (tDGet td ty) (mTGet md mk) := fun w h σ env v h' rl re e Q q => by
  obtain ⟨⟨a, h1⟩, e1, e⟩ := bind_of e
  obtain ⟨⟨b, h2⟩, e2, e⟩ := bind_of e
  obtain ⟨⟨n, kws⟩, e3, e⟩ := bind_of e
  obtain ⟨y, e4, e⟩ := bind_of e
  obtain ⟨x, e5, e⟩ := map_of e
  cases e
  refine hd w h σ env a h1 rl re e1 _ fun w1 u1 s1 r1 x1 => hk w1 h1 σ env b _ r1 (re.up s1) e2 _ fun w2 u2 s2 r2 x2 => ?_
  obtain ⟨ad, kvs, rfl, g1, g2, g3⟩ := asKT_ok r2 (x1.up s2) e3
  obtain ⟨bb, rfl, gb⟩ := keyT_ok x2 e4
  obtain ⟨u, f1, f2⟩ := g3.valS e5
  exact ⟨ad, u, rfl, .inr ⟨kvs, y, bb, .inl g2, rfl, r2.ch _ _ gb, f1.symm⟩, q w2 u (s1.trans s2) r2 f2⟩
def mTIn (neg : Bool) (mk md : ME) : ME := fun env h => (mk env h).bind fun k => (md env k.2).bind fun d => (asKT d.2 d.1).bind fun t => (keyT k.1).map fun y => (.d (.bool (if neg = true then !(valG t.2 y).isSome else (valG t.2 y).isSome)), d.2)
theorem sm_tin (hk : SimE K ty mk) (hd : SimE K td md) : SimE K (tDIn ty td) (mTIn false mk md) := fun w h σ env v h' rl re e Q q => by
  obtain ⟨⟨a, h1⟩, e1, e⟩ := bind_of e
  obtain ⟨⟨b, h2⟩, e2, e⟩ := bind_of e
  obtain ⟨⟨n, kws⟩, e3, e⟩ := bind_of e
  obtain ⟨y, e4, e⟩ := map_of e
  cases e
  refine hk w h σ env a h1 rl re e1 _ fun w1 u1 s1 r1 x1 => hd w1 h1 σ env b _ r1 (re.up s1) e2 _ fun w2 u2 s2 r2 x2 => ?_
  obtain ⟨ad, kvs, rfl, g1, g2, g3⟩ := asKT_ok r2 x2 e3
  obtain ⟨bb, rfl, gb⟩ := keyT_ok (x1.up s2) e4
  refine ⟨ad, _, rfl, .inr ⟨kvs, y, bb, .inl g2, rfl, r2.ch _ _ gb, rfl⟩, q w2 _ (s1.trans s2) r2 ?_⟩
  rw [g3.isSome y]
  exact .d (.bl _)
theorem sm_tnotin (hk : SimE K ty mk) (hd : SimE K td md) : SimE K (tDNotIn ty td) (mTIn true mk md) := fun w h σ env v h' rl re e Q q => by
  obtain ⟨⟨a, h1⟩, e1, e⟩ := bind_of e
  obtain ⟨⟨b, h2⟩, e2, e⟩ := bind_of e
  obtain ⟨⟨n, kws⟩, e3, e⟩ := bind_of e
  obtain ⟨y, e4, e⟩ := map_of e
  cases e
  refine hk w h σ env a h1 rl re e1 _ fun w1 u1 s1 r1 x1 => hd w1 h1 σ env b _ r1 (re.up s1) e2 _ fun w2 u2 s2 r2 x2 => ?_
  obtain ⟨ad, kvs, rfl, g1, g2, g3⟩ := asKT_ok r2 x2 e3
  obtain ⟨bb, rfl, gb⟩ := keyT_ok (x1.up s2) e4
  refine ⟨ad, _, rfl, .inr ⟨kvs, y, bb, .inl g2, rfl, r2.ch _ _ gb, rfl⟩, q w2 _ (s1.trans s2) r2 ?_⟩
  rw [g3.isSome y]
  exact .d (.bl _)
def mTGet2 (md mk mx : ME) : ME := fun env h => (md env h).bind fun d => (asKT d.2 d.1).bind fun _ => (mk env d.2).bind fun k => (mx env k.2).bind fun x => (asKT x.2 d.1).bind fun t => (keyT k.1).map fun y => ((valG t.2 y).getD x.1, x.2)
theorem sm_tget2 (hd : SimE K td md) (hk : SimE K ty mk) (hx : SimE K tx mx) : SimE K (tDGet2 td ty tx) (mTGet2 md mk mx) := fun w h σ env v h' rl re e Q q => by
  obtain ⟨⟨a, h1⟩, e1, e⟩ := bind_of e
  obtain ⟨⟨n0, kws0⟩, e0, e⟩ := bind_of e
  obtain ⟨⟨b, h2⟩, e2, e⟩ := bind_of e
  obtain ⟨⟨c, h3⟩, e3, e⟩ := bind_of e
  obtain ⟨⟨n, kws⟩, e4, e⟩ := bind_of e
  obtain ⟨y, e5, e⟩ := map_of e
  cases e
  refine hd w h σ env a h1 rl re e1 _ fun w1 u1 s1 r1 x1 => ?_
  obtain ⟨ad0, kvs0, rfl, g01, g02, g03⟩ := asKT_ok r1 x1 e0
  refine ⟨ad0, rfl, .inr ⟨kvs0, .inl g02⟩, hk w1 h1 σ env b h2 r1 (re.up s1) e2 _ fun w2 u2 s2 r2 x2 => hx w2 h2 σ env c _ r2 ((re.up s1).up s2) e3 _ fun w3 u3 s3 r3 x3 => ?_⟩
  obtain ⟨ad, kvs, ea, g1, g2, g3⟩ := asKT_ok r3 ((x1.up s2).up s3) e4
  cases ea
  obtain ⟨bb, rfl, gb⟩ := keyT_ok (x2.up s3) e5
  exact ⟨_, .inr ⟨kvs, y, bb, .inl g2, rfl, r3.ch _ _ gb, rfl⟩, q w3 _ ((s1.trans s2).trans s3) r3 (getD_rep g3 y x3)⟩
def mTNew : ME := fun _ h => some (.ref h.length, h ++ [.dctT []])
theorem sm_tnew : SimE K tDNewT mTNew := fun w h σ env v h' rl re e Q q => by
  cases e
  intro p hp
  obtain ⟨s, r, g⟩ := alloc_ok (o := .dT []) (b := .dctT []) rl hp (.dctT rfl .nil)
  exact q (w.alloc p (.dT [])) (.ref p) s r (.ref g)
def mTPut (md mk mv : ME) : MS := fun env h => (mv env h).bind fun v => (md env v.2).bind fun d => (mk env d.2).bind fun k => (asKT k.2 d.1).bind fun t => (keyT k.1).bind fun y => if t.2.length < 100000 then some (.nx env (k.2.set t.1 (.dctT (putG t.2 y v.1)))) else none
theorem ss_tput (hd : SimE K td md) (hk : SimE K ty mk) (hv : SimE K tv mv) : SimS K (sDPut td ty tv) (mTPut md mk mv) := fun D w h σ env r rl re e p => by
  obtain ⟨⟨v, hh1⟩, e1, e⟩ := bind_of e
  obtain ⟨⟨d, hh2⟩, e2, e⟩ := bind_of e
  obtain ⟨⟨k, hh3⟩, e3, e⟩ := bind_of e
  obtain ⟨⟨n, kws⟩, e4, e⟩ := bind_of e
  obtain ⟨y, e5, e⟩ := bind_of e
  simp only at e
  split at e
  · rename_i hz
    cases e
    refine hv w h σ env v hh1 rl re e1 _ fun w1 u1 s1 r1 x1 => hd w1 hh1 σ env d hh2 r1 (re.up s1) e2 _ fun w2 u2 s2 r2 x2 => hk w2 hh2 σ env k hh3 r2 ((re.up s1).up s2) e3 _ fun w3 u3 s3 r3 x3 => ?_
    obtain ⟨a, kvs, rfl, g1, g2, g3⟩ := asKT_ok r3 (x2.up s3) e4
    obtain ⟨bb, rfl, gb⟩ := keyT_ok x3 e5
    have x1' := (x1.up s2).up s3
    have gp := g3.put x1' y
    obtain ⟨s4, r4⟩ := write_ok (o := .dT (putK kvs y u1)) r3 g1 (.dctT gp.1 gp.2)
    have ss := ((s1.trans s2).trans s3).trans s4
    exact ⟨a, _, rfl, .inr ⟨kvs, y, bb, g2, rfl, r3.ch _ _ gb, by rw [g3.len]; exact Nat.lt_of_lt_of_le hz sl_100000, rfl⟩, p (w3.write a _) σ ss r4 (re.up ss)⟩
  · cases e
def mLenT : MCa := fun xs h => (arg1 xs).bind fun x => (asKT h x).map fun t => (.d (.int t.2.length), h)
theorem sc_lenT : SimC K rLenT mLenT := fun w h us xs v h' rl ra e Q q => by
  obtain ⟨x, e1, e⟩ := bind_of e
  obtain ⟨⟨n, kws⟩, e2, e⟩ := map_of e
  cases e
  rw [arg1_of e1] at ra
  obtain ⟨u, rfl, rx⟩ := ra.one
  obtain ⟨a, kvs, rfl, g1, g2, g3⟩ := asKT_ok rl rx e2
  refine ⟨a, kvs, rfl, g2, ?_⟩
  have := g3.len
  rw [this]
  exact q w _ (.refl _) rl (.d (.int _))
end
end M
namespace M
open PySem PySem.Spec PyProof.Rows L2
open G (ti li)
/-! ### slots and heaps by what is known of them -/
abbrev At (env : Env) (i : Nat) (v : MV) : Prop := env[i]? = some (some v)
theorem at_lt {env : Env} {i : Nat} {v : MV} (a : At env i v) : i < env.length := (List.getElem?_eq_some_iff.mp a).1
theorem at_ne {env : Env} {i j : Nat} {v : MV} {x : Option MV} (a : At env i v) (n : j ≠ i) : At (env.set j x) i v := by
  show (env.set j x)[i]? = _
  rw [List.getElem?_set_ne n]; exact a
theorem at_eq {env : Env} {i : Nat} {v : MV} (l : i < env.length) : At (env.set i (some v)) i v := List.getElem?_set_self l
theorem e_v {env : Env} {i : Nat} {v : MV} {h : MH} (a : At env i v) : mVar i env h = some (v, h) := by
  unfold mVar
  rw [show env[i]? = some (some v) from a]
theorem asL_ref {h : MH} {n : Nat} : asL h (.ref n) = match h[n]? with | some (.lst xs) => some (n, xs) | _ => none := by
  unfold asL; rfl
theorem asK_ref {h : MH} {n : Nat} : asK h (.ref n) = match h[n]? with | some (.dct xs) => some (n, xs) | _ => none := by
  unfold asK; rfl
theorem asKT_ref {h : MH} {n : Nat} : asKT h (.ref n) = match h[n]? with | some (.dctT xs) => some (n, xs) | _ => none := by
  unfold asKT; rfl
theorem it_ref {h : MH} {n : Nat} : itemsOf h (.ref n) = (asL h (.ref n)).map (·.2) := rfl
/-- a heap laid out by roles -/
structure Lay {ρ : Type} (D : ρ → Prop) (loc : ρ → Nat) (c : ρ → Ob) (h : MH) : Prop where
  inj : ∀ r s, D r → D s → loc r = loc s → r = s
  at_ : ∀ r, D r → h[loc r]? = some (c r)
section
variable {ρ : Type} {D : ρ → Prop} {loc : ρ → Nat} {c c' : ρ → Ob} {h : MH}
theorem Lay.lt (L : Lay D loc c h) {r : ρ} (hr : D r) : loc r < h.length := (List.getElem?_eq_some_iff.mp (L.at_ r hr)).1
theorem Lay.set (L : Lay D loc c h) {r : ρ} (hr : D r) {o : Ob} (ho : c' r = o) (e : ∀ s, D s → s ≠ r → c' s = c s) : Lay D loc c' (h.set (loc r) o) where
  inj := L.inj
  at_ s hs := by
    by_cases z : s = r
    · subst z
      rw [List.getElem?_set_self (L.lt hs), ho]
    · rw [List.getElem?_set_ne (fun y => z (L.inj s r hs hr y.symm)), e s hs z]
      exact L.at_ s hs
theorem Lay.imp (L : Lay D loc c h) (e : ∀ s, D s → c' s = c s) : Lay D loc c' h := ⟨L.inj, fun s hs => by rw [e s hs]; exact L.at_ s hs⟩
theorem Lay.app (L : Lay D loc c h) (g : MH) : Lay D loc c (h ++ g) := ⟨L.inj, fun s hs => by rw [List.getElem?_append_left (L.lt hs)]; exact L.at_ s hs⟩
/-- one role more -/
theorem Lay.grow {D' : ρ → Prop} {loc' : ρ → Nat} (L : Lay D loc c h) (r : ρ) {o : Ob} (hl : loc' r = h.length) (ho : c' r = o) (hD : ∀ s, D' s → s ≠ r → D s) (hloc : ∀ s, D' s → s ≠ r → loc' s = loc s) (hc : ∀ s, D' s → s ≠ r → c' s = c s) : Lay D' loc' c' (h ++ [o]) where
  inj a b ha hb e := by
    by_cases z : a = r
    · by_cases y : b = r
      · rw [z, y]
      · have := L.lt (hD b hb y)
        rw [z, hl, hloc b hb y] at e
        omega
    · by_cases y : b = r
      · have := L.lt (hD a ha z)
        rw [y, hl, hloc a ha z] at e
        omega
      · rw [hloc a ha z, hloc b hb y] at e
        exact L.inj a b (hD a ha z) (hD b hb y) e
  at_ a ha := by
    by_cases z : a = r
    · rw [z, hl, List.getElem?_append_right (Nat.le_refl _), Nat.sub_self, ho]; rfl
    · rw [hloc a ha z, hc a ha z, List.getElem?_append_left (L.lt (hD a ha z))]
      exact L.at_ a (hD a ha z)
end
/-! ### what a dict holds -/
section
variable {κ β : Type} [DecidableEq κ]
theorem valG_nil (k : κ) : valG ([] : List (κ × β)) k = none := rfl
theorem valG_cons (p : κ × β) (ps : List (κ × β)) (k : κ) : valG (p :: ps) k = if p.1 = k then some p.2 else valG ps k := by rw [valG]
theorem valG_app (a b : List (κ × β)) (k : κ) : valG (a ++ b) k = match valG a k with | some v => some v | none => valG b k := by
  induction a with
  | nil => rfl
  | cons p a ih =>
    rw [List.cons_append, valG_cons, valG_cons]
    by_cases e : p.1 = k
    · rw [if_pos e, if_pos e]
    · rw [if_neg e, if_neg e]; exact ih
theorem valG_repl (a : List (κ × β)) (k : κ) (v : β) (j : κ) : valG (replG a k v) j = if j = k ∧ (valG a k).isSome = true then some v else valG a j := by
  induction a with
  | nil => simp [replG, valG_nil]
  | cons p a ih =>
    have e0 : replG (p :: a) k v = (if p.1 = k then (p.1, v) else p) :: replG a k v := rfl
    rw [e0, valG_cons, ih, valG_cons, valG_cons]
    by_cases e : p.1 = k
    · by_cases f : j = k
      · subst f; simp [e]
      · have : ¬ p.1 = j := fun z => f (z.symm.trans e)
        have f' : ¬ k = j := fun z => f z.symm
        simp [e, f, f']
    · by_cases f : p.1 = j
      · have : ¬ j = k := fun z => e (f.trans z)
        simp [e, f, this]
      · simp [e, f]
theorem valG_put (a : List (κ × β)) (k : κ) (v : β) (j : κ) : valG (putG a k v) j = if j = k then some v else valG a j := by
  unfold putG hasG
  by_cases e : (valG a k).isSome = true
  · rw [if_pos e, valG_repl]
    simp [e]
  · have en : valG a k = none := by
      cases z : valG a k with
      | none => rfl
      | some x => rw [z] at e; exact absurd rfl e
    rw [if_neg e, valG_app]
    by_cases f : j = k
    · subst f
      simp [en, valG_cons]
    · have f' : ¬ k = j := fun z => f z.symm
      cases z : valG a j with
      | none => simp [f, f', valG_cons, valG_nil]
      | some x => simp [f]
theorem put_len (a : List (κ × β)) (k : κ) (v : β) : (putG a k v).length ≤ a.length + 1 := by
  unfold putG
  split
  · unfold replG; rw [List.length_map]; omega
  · simp
end
theorem keyT_ii (i j : Int) : keyT (.tup [.d (.int i), .d (.int j)]) = some [.inl i, .inl j] := rfl
section
variable {ρ : Type} {D : ρ → Prop} {loc : ρ → Nat} {c c' : ρ → Ob} {h : MH}
theorem Lay.ne (L : Lay D loc c h) {r s : ρ} (hr : D r) (hs : D s) (n : r ≠ s) : loc r ≠ loc s := fun e => n (L.inj r s hr hs e)
theorem Lay.set2 (L : Lay D loc c h) {r s : ρ} (hr : D r) (hs : D s) (n : r ≠ s) {o p : Ob} (ho : c' r = o) (hp : c' s = p) (e : ∀ x, D x → x ≠ r → x ≠ s → c' x = c x) : Lay D loc c' ((h.set (loc r) o).set (loc s) p) where
  inj := L.inj
  at_ x hx := by
    by_cases z : x = s
    · subst z
      rw [List.getElem?_set_self (by rw [List.length_set]; exact L.lt hx), hp]
    · rw [List.getElem?_set_ne (L.ne hs hx (Ne.symm z))]
      by_cases y : x = r
      · subst y
        rw [List.getElem?_set_self (L.lt hx), ho]
      · rw [List.getElem?_set_ne (L.ne hr hx (Ne.symm y)), e x hx y z]
        exact L.at_ x hx
end
/-! ### comprehensions over a list of one's own, the heap stays -/
theorem lc_filtS {α : Type} {src : List (Nat × List MV)} {g : MG} {mt : MT} {me : ME} {env : Env} {h : MH} (hs : ∀ s ∈ src, h[s.1]? = some (.lst s.2)) (φ f : α → MV) (c : α → Bool) : ∀ ks : List α, (∀ k ∈ ks, (g (φ k) env).bind (fun e => mt e h) = some (c k, h)) → (∀ k ∈ ks, c k = true → (g (φ k) env).bind (fun e => me e h) = some (f k, h)) → lcLoop g mt me src env (ks.map φ) h = some ((ks.filter c).map f, h)
  | [], _, _ => by rw [List.map_nil, lcLoop, srcIf_ok hs]; rfl
  | k :: ks, ht, hb => by
    rw [List.map_cons, lcLoop, srcIf_ok hs]
    have h1 := ht k List.mem_cons_self
    obtain ⟨e', e1, e2⟩ := bind_of h1
    rw [e1, Option.bind_some, e2, Option.bind_some]
    have ih := lc_filtS hs φ f c ks (fun k m => ht k (List.mem_cons_of_mem _ m)) (fun k m => hb k (List.mem_cons_of_mem _ m))
    cases hc : c k with
    | true =>
      have h2 := hb k List.mem_cons_self hc
      rw [e1, Option.bind_some] at h2
      rw [if_pos rfl, h2, Option.bind_some, ih, List.filter_cons, if_pos hc]
      rfl
    | false =>
      rw [if_neg (fun z => nomatch z), ih, List.filter_cons, if_neg (by rw [hc]; decide)]
theorem mLc_filtS {α : Type} {src : List (Nat × List MV)} {mi : MI} {g : MG} {mt : MT} {me : ME} {vs : List Nat} {env : Env} {h h1 : MH} (ks : List α) (φ f : α → MV) (c : α → Bool) (hi : mi env h = some ((src, ks.map φ), h1)) (hs : ∀ s ∈ src, h1[s.1]? = some (.lst s.2)) (ht : ∀ k ∈ ks, (g (φ k) (wipeM env vs)).bind (fun e => mt e h1) = some (c k, h1)) (hb : ∀ k ∈ ks, c k = true → (g (φ k) (wipeM env vs)).bind (fun e => me e h1) = some (f k, h1)) (hz : ks.length ≤ 100000) :
    mLc mi g mt me vs env h = some ((ks.filter c).map f, h1) := by
  unfold mLc
  rw [hi, Option.bind_some]
  show (lcLoop g mt me src (wipeM env vs) (ks.map φ) h1).bind _ = _
  rw [lc_filtS hs φ f c ks ht hb, Option.bind_some, if_pos (by
    show ((ks.filter c).map f).length ≤ _
    rw [List.length_map]; exact Nat.le_trans (List.length_filter_le _ _) hz)]
theorem mLc_mapS {α : Type} {src : List (Nat × List MV)} {mi : MI} {g : MG} {me : ME} {vs : List Nat} {env : Env} {h h1 : MH} (ks : List α) (φ f : α → MV) (hi : mi env h = some ((src, ks.map φ), h1)) (hs : ∀ s ∈ src, h1[s.1]? = some (.lst s.2)) (hb : ∀ k ∈ ks, (g (φ k) (wipeM env vs)).bind (fun e => me e h1) = some (f k, h1)) (hz : ks.length ≤ 100000) : mLc mi g mYes me vs env h = some (ks.map f, h1) := by
  have := mLc_filtS (mt := mYes) ks φ f (fun _ => true) hi hs (fun k hk => by
    obtain ⟨e', e1, e2⟩ := bind_of (hb k hk)
    rw [e1]; rfl) (fun k hk _ => hb k hk) hz
  rwa [List.filter_eq_self.mpr (fun _ _ => rfl)] at this
theorem filt_zip {α : Type} (n : Nat) : ∀ (xs : List α) (k : Nat), (xs.zipIdx k).filter (fun z => decide ((n : Int) < (z.2 : Nat) + 1)) = (xs.zipIdx k).drop (n - k)
  | [], k => by simp
  | x :: xs, k => by
    rw [List.zipIdx_cons, List.filter_cons]
    by_cases e : n < k + 1
    · have : (decide ((n : Int) < ((x, k).2 : Nat) + 1)) = true := by simp; omega
      rw [if_pos this, filt_zip n xs (k + 1), show n - (k + 1) = 0 by omega, show n - k = 0 by omega]
      rfl
    · have : ¬ (decide ((n : Int) < ((x, k).2 : Nat) + 1)) = true := by simp; omega
      rw [if_neg this, filt_zip n xs (k + 1), show n - k = (n - (k + 1)) + 1 by omega]
      rfl
theorem drop_zip {α : Type} : ∀ (xs : List α) (j k : Nat), (xs.zipIdx k).drop j = (xs.drop j).zipIdx (k + j)
  | xs, 0, k => rfl
  | [], j + 1, k => by simp
  | x :: xs, j + 1, k => by
    rw [List.zipIdx_cons, List.drop_succ_cons, List.drop_succ_cons, drop_zip xs j (k + 1), show k + 1 + j = k + (j + 1) by omega]
theorem at_l0 {α : Type} {x : α} {xs : List α} : atI (x :: xs) 0 = some x := by
  rw [atI_get (by decide) (by simp [List.length_cons] <;> omega) x]; rfl
theorem at_l1 {α : Type} {x y : α} {xs : List α} : atI (x :: y :: xs) 1 = some y := by
  rw [atI_get (by decide) (by simp [List.length_cons] <;> omega) x]; rfl
theorem at_l2 {α : Type} {x y z : α} {xs : List α} : atI (x :: y :: z :: xs) 2 = some z := by
  rw [atI_get (by decide) (by simp [List.length_cons] <;> omega) x]; rfl
theorem at_l3 {α : Type} {x y z w : α} {xs : List α} : atI (x :: y :: z :: w :: xs) 3 = some w := by
  rw [atI_get (by decide) (by simp [List.length_cons] <;> omega) x]; rfl
theorem at_l4 {α : Type} {x y z w v : α} {xs : List α} : atI (x :: y :: z :: w :: v :: xs) 4 = some v := by
  rw [atI_get (by decide) (by simp [List.length_cons] <;> omega) x]; rfl
/-! ### data that may be compared -/
def pl (n : Nat) (d : PyData) : Prop := PyData.canLay0 d = true ∧ d.depth ≤ n
theorem pl_up {n m : Nat} {d : PyData} (h : pl n d) (e : n ≤ m) : pl m d := ⟨h.1, Nat.le_trans h.2 e⟩
theorem pl_int {n : Nat} (i : Int) : pl n (.int i) := ⟨by rw [PyData.canLay0], by rw [PyData.depth]; omega⟩
theorem pl_bool {n : Nat} (b : Bool) : pl n (.bool b) := ⟨by rw [PyData.canLay0], by rw [PyData.depth]; omega⟩
theorem pl_none {n : Nat} : pl n .none := ⟨by rw [PyData.canLay0], by rw [PyData.depth]; omega⟩
theorem pl_str {n : Nat} {s : Str} (h : PyData.strOk s = true) : pl n (.str s) := ⟨by rw [PyData.canLay0, h], by rw [PyData.depth]; omega⟩
theorem plA {n : Nat} : ∀ {ds : List PyData}, (∀ d ∈ ds, pl n d) → PyData.canLayAll0 ds = true ∧ PyData.depthAll ds ≤ n
  | [], _ => ⟨by rw [PyData.canLayAll0], by rw [PyData.depthAll]; omega⟩
  | d :: ds, h => by
    obtain ⟨h1, h2⟩ := h d List.mem_cons_self
    obtain ⟨h3, h4⟩ := plA (ds := ds) fun x m => h x (List.mem_cons_of_mem _ m)
    exact ⟨by rw [PyData.canLayAll0, h1, h3]; rfl, by rw [PyData.depthAll]; omega⟩
theorem pl_tup {n : Nat} {ds : List PyData} (h : ∀ d ∈ ds, pl n d) : pl (n + 1) (.tuple ds) := ⟨by rw [PyData.canLay0]; exact (plA h).1, by rw [PyData.depth]; have := (plA h).2; omega⟩
theorem pl_list {n : Nat} {ds : List PyData} (h : ∀ d ∈ ds, pl n d) : pl (n + 1) (.list ds) := ⟨by rw [PyData.canLay0]; exact (plA h).1, by rw [PyData.depth]; have := (plA h).2; omega⟩
theorem pl_t2 {n : Nat} {a b : PyData} (h1 : pl n a) (h2 : pl n b) : pl (n + 1) (.tuple [a, b]) := pl_tup fun d m => by
  rcases List.mem_cons.mp m with e | m
  · rw [e]; exact h1
  · rw [List.mem_singleton.mp m]; exact h2
theorem pl_t3 {n : Nat} {a b c : PyData} (h1 : pl n a) (h2 : pl n b) (h3 : pl n c) : pl (n + 1) (.tuple [a, b, c]) := pl_tup fun d m => by
  rcases List.mem_cons.mp m with e | m
  · rw [e]; exact h1
  · rcases List.mem_cons.mp m with e | m
    · rw [e]; exact h2
    · rw [List.mem_singleton.mp m]; exact h3
theorem pl_sh {n : Nat} {d : PyData} (h : pl n d) (e : n ≤ 64 := by decide) : SeqAt.shaped d = true := by
  unfold SeqAt.shaped
  rw [h.1, Bool.true_and, decide_eq_true_iff]
  exact Nat.le_trans h.2 e
theorem e_sameR {neg : Bool} {d : PyData} {x y : MV} {h : MH} (hx : reify 6 h x = some d) (hy : reify 6 h y = some d) (hd : SeqAt.shaped d = true) : mEqD neg x y h = some (.d (.bool (!neg)), h) := by
  unfold mEqD
  have hc : d.canLay0 = true := by
    unfold SeqAt.shaped at hd
    exact (Bool.and_eq_true_iff.mp hd).1
  rw [hx, hy, Option.bind_some, Option.bind_some, if_pos ⟨hd, hd⟩, SeqAt.eqv_refl d hc]
  cases neg <;> rfl
theorem e_same {neg : Bool} {d : PyData} {h : MH} (hd : SeqAt.shaped d = true) : mEqD neg (.d d) (.d d) h = some (.d (.bool (!neg)), h) := e_sameR (reify_d _ _ _) (reify_d _ _ _) hd
/-- a list against the empty one -/
theorem e_nilE {neg : Bool} {ds : List PyData} {x : MV} {h : MH} (hx : reify 6 h x = some (.list ds)) (hd : SeqAt.shaped (.list ds) = true) : mEqD neg x (.d (.list [])) h = some (.d (.bool (if neg = true then !decide (ds = []) else decide (ds = []))), h) := by
  unfold mEqD
  rw [hx, reify_d, Option.bind_some, Option.bind_some, if_pos ⟨hd, pl_sh (n := 1) (pl_list fun d m => nomatch m)⟩]
  cases ds with
  | nil => rw [PyData.eqv, PyData.eqvAll]; simp
  | cons a as => rw [PyData.eqv, PyData.eqvAll]; simp
/-! ### a written dict -/
theorem valG_out {κ β : Type} [DecidableEq κ] {kvs : List (κ × β)} {k : κ} (h : k ∉ kvs.map (·.1)) : valG kvs k = none := by
  induction kvs with
  | nil => rfl
  | cons p ps ih =>
    rw [List.map_cons, List.mem_cons] at h
    rw [valG_cons, if_neg (fun e => h (.inl e.symm)), ih (fun e => h (.inr e))]
theorem mergeG_app : ∀ {more kvs : List (Key × MV)}, ((kvs ++ more).map (·.1)).Nodup → mergeG kvs more = kvs ++ more
  | [], kvs, _ => by simp [mergeG]
  | p :: more, kvs, h => by
    have e : putG kvs p.1 p.2 = kvs ++ [p] := by
      unfold putG hasG
      rw [valG_out]
      · rfl
      · rw [List.map_append, List.nodup_append] at h
        exact fun m => h.2.2 _ m _ (by simp) rfl
    show mergeG (putG kvs p.1 p.2) more = _
    rw [e, mergeG_app (by rw [List.append_assoc]; exact h), List.append_assoc]; rfl
theorem mergeG_new {more : List (Key × MV)} (h : (more.map (·.1)).Nodup) : mergeG [] more = more := mergeG_app (kvs := []) h
end M
namespace M
open PySem PySem.Spec PyProof.Rows L2
open Evl (Ex ex_rd ex_l ex_t rMax2)
open G (dpx dpax dpa_len dpa_get dpa_app dpa_set ex_none wipe_get wipe_eq wipe_wipe RD UD CD Ret ti li)
/-! ### {k: v for ..} -/
noncomputable def dcLoop (g : MG) (mt : MT) (mk mv : ME) (src : List (Nat × List MV)) (env : Env) : List MV → List (Key × MV) → MH → Option (List (Key × MV) × MH)
  | [], acc, h => srcIf src h (some (acc, h))
  | x :: xs, acc, h => srcIf src h ((g x env).bind fun env' => (mt env' h).bind fun b => if b.1 = true then (mk env' b.2).bind fun y => (mv env' y.2).bind fun z => (keyOf y.1).bind fun k => if acc.length < 100000 then dcLoop g mt mk mv src env xs (putG acc k z.1) z.2 else none else dcLoop g mt mk mv src env xs acc b.2)
noncomputable def mDc (mi : MI) (g : MG) (mt : MT) (mk mv : ME) (vs : List Nat) : ME := fun env h => (mi env h).bind fun s => (dcLoop g mt mk mv s.1.1 (wipeM env vs) s.1.2 [] s.2).map fun r => (.ref r.2.length, r.2 ++ [.dct r.1])
section
variable {K : PySem.W.Frag} {wi : TI} {mi : MI} {g : TG} {mg : MG} {tk tv : TE} {mk mv : ME} {tt : TT} {mt : MT}
theorem KRep.mono' {ι ι' : List Addr} {C C' : Hp} {kvs : List (Key × V)} {kws : List (Key × MV)} (p : ι <+: ι') (e : Ex C C') (h : KRep K ι C kvs kws) : KRep K ι' C' kvs kws := ⟨h.1, h.2.mono p e⟩
theorem KRep.up' {w w' : Wd} {kvs : List (Key × V)} {kws : List (Key × MV)} (s : Step w w') (h : KRep K w.ι w.C kvs kws) : KRep K w'.ι w'.C kvs kws := h.mono' s.pre s.ex
theorem sm_dc {vs : List Nat} (hI : SimI K wi mi) (hg : SimG K g mg vs) (ht : SimT K tt mt) (hk : SimE K tk mk) (hv : SimE K tv mv) : SimE K (tDc wi g tt tk tv vs) (mDc mi mg mt mk mv vs) := fun w h σ env v0 hE0 rl re e Q q => by
  obtain ⟨⟨⟨src, items⟩, h1⟩, e1, e⟩ := bind_of e
  obtain ⟨⟨kws, hE⟩, e2, e⟩ := map_of e
  cases e
  refine hI w h σ env _ h1 rl re e1 _ fun w1 J s1 r1 ok D hD => ?_
  have hD0 : w.H D = none := by
    cases z : w.H D with
    | none => rfl
    | some o => exact absurd hD (s1.kp D (by rw [z]; exact fun q => nomatch q))
  refine ⟨fun i m H' => ∃ w' h' acc accM, w'.H = H' ∧ H' D = some (.dK acc) ∧ D ∉ w'.ι ∧ w'.C D = none ∧ Step w1 w' ∧ Rel K w' h' ∧ KRep K w'.ι w'.C acc accM ∧ i ≤ items.length ∧ m = items.length - i ∧
    dcLoop mg mt mk mv src (wipeM env vs) (items.drop i) accM h' = some (kws, hE), ?_, ?_⟩
  · obtain ⟨s2, r2⟩ := garb (o := .dK []) (Step.refl w1) r1 hD (r1.notin hD) (r1.cnone hD)
    exact ⟨_, ⟨w1.ι, w1.C, upd w1.H D (.dK [])⟩, h1, [], [], rfl, upd_same, r1.notin hD, r1.cnone hD, s2, r2, ⟨rfl, .nil⟩, Nat.zero_le _, rfl, e2⟩
  · rintro i m H' ⟨w', h', acc, accM, rfl, hA, hi, hc, s2, r2, ra, hl, rfl, el⟩
    by_cases hlt : i < items.length
    · rw [List.drop_eq_getElem_cons hlt, dcLoop] at el
      obtain ⟨hs, el⟩ := srcIf_of el
      obtain ⟨env2, g1, el⟩ := bind_of el
      obtain ⟨⟨b, h2⟩, g2, el⟩ := bind_of el
      obtain ⟨_, go⟩ := ok w' h' s2 r2 hs
      obtain ⟨go1, go2⟩ := go i items[i] (by simp [hlt])
      refine .inr ⟨go1, fun H2 => ∃ w' h' acc accM, w'.H = H2 ∧ H2 D = some (.dK acc) ∧ D ∉ w'.ι ∧ w'.C D = none ∧ Step w1 w' ∧ Rel K w' h' ∧ KRep K w'.ι w'.C acc accM ∧ dcLoop mg mt mk mv src (wipeM env vs) (items.drop (i + 1)) accM h' = some (kws, hE), fun H2 n => ?_, fun u H2 y => ?_⟩
      · obtain ⟨w', h', acc, accM, a1, a2, a3, a4, a5, a6, a7, a9⟩ := n
        exact ⟨_, by omega, w', h', acc, accM, a1, a2, a3, a4, a5, a6, a7, hlt, rfl, a9⟩
      · obtain ⟨w3, rfl, s3, r3, x3⟩ := go2 u H2 y
        have stay : ∀ {wa wb : Wd}, Step wa wb → wa.H D = some (.dK acc) → D ∉ wa.ι → wa.C D = none → wb.H D = some (.dK acc) ∧ D ∉ wb.ι ∧ wb.C D = none := fun {wa wb} s a b c => by
          refine ⟨s.fr D _ a b, fun m => ?_, s.nc D (by rw [a]; exact fun q => nomatch q) c⟩
          rcases s.nw D m with z | z
          · exact b z
          · rw [a] at z; cases z
        obtain ⟨d1, d2, d3⟩ := stay s3 hA hi hc
        have rw0 : RepE K w3 (wipe σ vs) (wipeM env vs) := (((re.up s1).up s2).up s3).wipe vs
        refine hg w3 h' _ _ u items[i] env2 r3 rw0 x3 g1 _ fun σ3 re3 l3 k3 => ⟨?_, ?_⟩
        · rw [show wipe σ3 vs = wipe (wipe σ vs) vs from wipe_eq l3 k3, wipe_wipe]
        · refine ht w3 h' σ3 env2 b h2 r3 re3 g2 _ fun w4 s4 r4 => ?_
          obtain ⟨d4, d5, d6⟩ := stay s4 d1 d2 d3
          cases b with
          | true =>
            replace el : (mk env2 h2).bind (fun y => (mv env2 y.2).bind fun z => (keyOf y.1).bind fun k => if accM.length < 100000 then dcLoop mg mt mk mv src (wipeM env vs) (items.drop (i + 1)) (putG accM k z.1) z.2 else none) = some (kws, hE) := el
            obtain ⟨⟨y, h3⟩, g3, el⟩ := bind_of el
            obtain ⟨⟨z, h4⟩, g4, el⟩ := bind_of el
            obtain ⟨k, g5, el⟩ := bind_of el
            simp only at el
            split at el
            · rename_i hz
              refine iteT (hk w4 h2 σ3 env2 y h3 r4 (re3.up s4) g3 _ fun w5 uy s5 r5 x5 => hv w5 h3 σ3 env2 z h4 r5 ((re3.up s4).up s5) g4 _ fun w6 uz s6 r6 x6 => ?_)
              obtain ⟨d7, d8, d9⟩ := stay s5 d4 d5 d6
              obtain ⟨d10, d11, d12⟩ := stay s6 d7 d8 d9
              have := keyOf_ok (x5.up s6) g5
              subst this
              have ss := (((s2.trans s3).trans s4).trans s5).trans s6
              have ra6 := (((ra.up' s3).up' s4).up' s5).up' s6
              have rp := ra6.put x6 k
              obtain ⟨s7, r7⟩ := garb (o := .dK (putK acc k uz)) ss r6 hD d11 d12
              exact ⟨acc, k, rfl, d10, by rw [ra6.len]; exact Nat.lt_of_lt_of_le hz sl_100000, ⟨w6.ι, w6.C, upd w6.H D (.dK (putK acc k uz))⟩, h4, putK acc k uz, putG accM k z, rfl, upd_same, d11, d12, s7, r7, rp, el⟩
            · cases el
          | false =>
            exact iteF ⟨w4, h2, acc, accM, rfl, d4, d5, d6, (s2.trans s3).trans s4, r4, (ra.up' s3).up' s4, el⟩
    · have ei : i = items.length := by omega
      subst ei
      rw [List.drop_length, dcLoop] at el
      obtain ⟨hs, el⟩ := srcIf_of el
      cases el
      refine .inl ⟨(ok w' _ s2 r2 hs).1, ?_⟩
      replace r2 : Rel K w' hE := r2
      have pf : w'.ι <+: w'.ι ++ [D] := List.prefix_append _ _
      have s12 := s1.trans s2
      refine q ⟨w'.ι ++ [D], w'.C, w'.H⟩ (.ref D) ⟨s12.pre.trans pf, s12.ex, s12.fr, fun a m => ?_, s12.nc, s12.kp⟩ ⟨r2.ch, ?_, ?_, fun a m => ?_, fun n a b e1 e2 => ?_⟩ (.ref ?_)
      · rcases List.mem_append.mp m with z | z
        · exact s12.nw a z
        · rw [List.mem_singleton.mp z]; exact .inr hD0
      · show (w'.ι ++ [D]).length = _
        rw [List.length_append, List.length_append, r2.len]; rfl
      · refine List.nodup_append.mpr ⟨r2.nd, by simp, fun a m b m' => ?_⟩
        rw [List.mem_singleton.mp m']
        exact fun z => hi (by rw [← z]; exact m)
      · rcases List.mem_append.mp m with z | z
        · exact r2.ow a z
        · rw [List.mem_singleton.mp z]; exact hc
      · replace e1 : (w'.ι ++ [D])[n]? = some a := e1
        replace e2 : (hE ++ [Ob.dct kws])[n]? = some b := e2
        by_cases z : n < hE.length
        · rw [List.getElem?_append_left z] at e2
          rw [List.getElem?_append_left (by rw [r2.len]; exact z)] at e1
          obtain ⟨o, q1, q2⟩ := r2.ob n a b e1 e2
          exact ⟨o, q1, q2.mono pf fun _ _ q => q⟩
        · rw [List.getElem?_append_right (by omega)] at e2
          rw [List.getElem?_append_right (by rw [r2.len]; omega), r2.len] at e1
          have hz : n - hE.length = 0 := by
            cases hn : n - hE.length with
            | zero => rfl
            | succ k => rw [hn] at e2; simp at e2
          rw [hz] at e2 e1
          simp at e2 e1
          subst e2 e1
          exact ⟨_, hA, .dct ra.1 (ra.2.mono pf fun _ _ q => q)⟩
      · show (w'.ι ++ [D])[hE.length]? = some D
        rw [← r2.len, List.getElem?_append_right (Nat.le_refl _), Nat.sub_self]; rfl
/-- over data, the heap stays -/
theorem dc_data {α : Type} {h : MH} {env : Env} (φ : α → MV) (kf : α → Key) (vf : α → MV) : ∀ (ks : List α) (acc : List (Key × MV)), (∀ k ∈ ks, ∃ e', mg (φ k) env = some e' ∧ ∃ y, mk e' h = some (y, h) ∧ keyOf y = some (kf k) ∧ mv e' h = some (vf k, h)) → acc.length + ks.length < 100000 →
    dcLoop mg mYes mk mv [] env (ks.map φ) acc h = some (ks.foldl (fun a k => putG a (kf k) (vf k)) acc, h)
  | [], acc, _, _ => by rw [List.map_nil, dcLoop, srcIf_nil]; rfl
  | k :: ks, acc, hb, hz => by
    obtain ⟨e', e1, y, e2, e3, e4⟩ := hb k List.mem_cons_self
    rw [List.map_cons, dcLoop, srcIf_nil, e1, Option.bind_some]
    show (some (true, h)).bind _ = _
    rw [Option.bind_some]
    have hp := put_len acc (kf k) (vf k)
    rw [List.length_cons] at hz
    simp only [if_true, e2, Option.bind_some, e4, e3]
    rw [if_pos (by omega), dc_data φ kf vf ks (putG acc (kf k) (vf k)) (fun x m => hb x (List.mem_cons_of_mem _ m)) (by omega)]
    rfl
theorem mDc_data {α : Type} {h h1 : MH} {env : Env} {vs : List Nat} (ks : List α) (φ : α → MV) (kf : α → Key) (vf : α → MV) (hi : mi env h = some (([], ks.map φ), h1)) (hb : ∀ k ∈ ks, ∃ e', mg (φ k) (wipeM env vs) = some e' ∧ ∃ y, mk e' h1 = some (y, h1) ∧ keyOf y = some (kf k) ∧ mv e' h1 = some (vf k, h1)) (hz : ks.length < 100000) :
    mDc mi mg mYes mk mv vs env h = some (.ref h1.length, h1 ++ [.dct (ks.foldl (fun a k => putG a (kf k) (vf k)) [])]) := by
  unfold mDc
  rw [hi, Option.bind_some]
  show (dcLoop mg mYes mk mv [] (wipeM env vs) (ks.map φ) [] h1).map _ = _
  rw [dc_data φ kf vf ks [] hb (by simpa using hz)]
  rfl
end
/-! ### xs.pop(0) as a value -/
def mPop0E (mo : ME) : ME := fun env h => (mo env h).bind fun o => (asL o.2 o.1).bind fun l => match l.2 with
  | x :: r => some (x, o.2.set l.1 (.lst r))
  | [] => none
theorem sm_pop0 {K : PySem.W.Frag} {to_ : TE} {mo : ME} (h1 : SimE K to_ mo) : SimE K (tBM K "list" rPopAt to_ (tCons (tC (.int 0)) tNil)) (mPop0E mo) := fun w h σ env v h' rl re e Q p => by
  obtain ⟨⟨o, hh1⟩, e1, e⟩ := bind_of e
  obtain ⟨⟨n, xs⟩, e4, e⟩ := bind_of e
  cases xs with
  | nil => cases e
  | cons x rest =>
    cases e
    obtain ⟨eo, ex⟩ := asL_of e4
    simp only at eo ex
    subst eo
    refine h1 w h σ env _ hh1 rl re e1 _ fun w1 u1 s1 r1 x1 => ?_
    obtain ⟨a, vs0, rfl, g01, g02, g03⟩ := r1.lst x1 ex
    cases g03 with
    | cons q1 q2 =>
      rename_i v vs
      refine ⟨.inl ⟨rfl, _, .inl (.inl g02)⟩, ?_⟩
      obtain ⟨s4, r4⟩ := write_ok (o := .lst vs) r1 g01 (.lst q2)
      have ss := s1.trans s4
      refine ⟨a, v :: vs, 0, 0, v, rfl, rfl, g02, by decide, by decide, ?_, rfl, p (w1.write a _) v ss r4 (q1.up s4)⟩
      rw [List.length_cons]
      unfold seqIndex?
      simp
      try omega
end M
namespace M
open PySem PySem.Spec PyProof.Rows L2
open Evl (Ex ex_rd ex_l ex_t rMax2)
open G (rMin2 rInt1 rAbs rTupOf rListOf cr_len cr_max2 cr_min2 cr_int1 cr_abs cr_tup cr_list op_repA op_mulA op_catS pi_enumA pe_soSet ti li)
/-! ### the text -/
def topS (i : Nat) : Stmt := PySem.Challenge.pw_commonage_k28_locks_and_barriers.main.body.getD i (.Pass ⟨0, 0, 0, 0⟩)
abbrev s_zero_clock : Stmt := topS 1
abbrev N_zero_clock : List Str := ["machines"]
theorem sc_zero_clock : FnScope N_zero_clock ["machines"] (defScope s_zero_clock) := ⟨rfl, rfl, rfl, by decide +kernel, rfl, by decide +kernel, by decide +kernel⟩
abbrev s_manager_of : Stmt := topS 3
abbrev N_manager_of : List Str := ["lock", "machines"]
theorem sc_manager_of : FnScope N_manager_of ["lock", "machines"] (defScope s_manager_of) := ⟨rfl, rfl, rfl, by decide +kernel, rfl, by decide +kernel, by decide +kernel⟩
abbrev s_new_lock : Stmt := topS 4
abbrev N_new_lock : List Str := ["machines"]
theorem sc_new_lock : FnScope N_new_lock ["machines"] (defScope s_new_lock) := ⟨rfl, rfl, rfl, by decide +kernel, rfl, by decide +kernel, by decide +kernel⟩
abbrev s_granted : Stmt := topS 5
abbrev N_granted : List Str := ["lock", "machine", "clock"]
theorem sc_granted : FnScope N_granted ["lock", "machine", "clock"] (defScope s_granted) := ⟨rfl, rfl, rfl, by decide +kernel, rfl, by decide +kernel, by decide +kernel⟩
abbrev s_ask : Stmt := topS 6
abbrev N_ask : List Str := ["lock", "machine", "clock"]
theorem sc_ask : FnScope N_ask ["lock", "machine", "clock"] (defScope s_ask) := ⟨rfl, rfl, rfl, by decide +kernel, rfl, by decide +kernel, by decide +kernel⟩
abbrev s_let_go : Stmt := topS 7
abbrev N_let_go : List Str := ["lock", "clock", "machine", "asked"]
theorem sc_let_go : FnScope N_let_go ["lock", "clock"] (defScope s_let_go) := ⟨rfl, rfl, rfl, by decide +kernel, rfl, by decide +kernel, by decide +kernel⟩
abbrev s_new_master : Stmt := topS 9
abbrev N_new_master : List Str := []
theorem sc_new_master : FnScope N_new_master [] (defScope s_new_master) := ⟨rfl, rfl, rfl, by decide +kernel, rfl, by decide +kernel, by decide +kernel⟩
abbrev s_come : Stmt := topS 10
abbrev N_come : List Str := ["master", "machine", "clock", "ended", "row"]
theorem sc_come : FnScope N_come ["master", "machine", "clock", "ended"] (defScope s_come) := ⟨rfl, rfl, rfl, by decide +kernel, rfl, by decide +kernel, by decide +kernel⟩
abbrev s_has_all : Stmt := topS 11
abbrev N_has_all : List Str := ["rows", "machines", "present", "machine", "_"]
theorem sc_has_all : FnScope N_has_all ["rows", "machines"] (defScope s_has_all) := ⟨rfl, rfl, rfl, by decide +kernel, rfl, by decide +kernel, by decide +kernel⟩
abbrev s_is_complete : Stmt := topS 12
abbrev N_is_complete : List Str := ["master", "machines"]
theorem sc_is_complete : FnScope N_is_complete ["master", "machines"] (defScope s_is_complete) := ⟨rfl, rfl, rfl, by decide +kernel, rfl, by decide +kernel, by decide +kernel⟩
abbrev s_clocks_of : Stmt := topS 13
abbrev N_clocks_of : List Str := ["master", "machine", "clock"]
theorem sc_clocks_of : FnScope N_clocks_of ["master"] (defScope s_clocks_of) := ⟨rfl, rfl, rfl, by decide +kernel, rfl, by decide +kernel, by decide +kernel⟩
abbrev s_go_on : Stmt := topS 14
abbrev N_go_on : List Str := ["master", "machines"]
theorem sc_go_on : FnScope N_go_on ["master", "machines"] (defScope s_go_on) := ⟨rfl, rfl, rfl, by decide +kernel, rfl, by decide +kernel, by decide +kernel⟩
abbrev s_is_over : Stmt := topS 15
abbrev N_is_over : List Str := ["master"]
theorem sc_is_over : FnScope N_is_over ["master"] (defScope s_is_over) := ⟨rfl, rfl, rfl, by decide +kernel, rfl, by decide +kernel, by decide +kernel⟩
abbrev s__law_next : Stmt := topS 17
abbrev N__law_next : List Str := ["tape", "many", "rest", "cell"]
theorem sc__law_next : FnScope N__law_next ["tape", "many"] (defScope s__law_next) := ⟨rfl, rfl, rfl, by decide +kernel, rfl, by decide +kernel, by decide +kernel⟩
abbrev s__law_lock : Stmt := topS 18
abbrev N__law_lock : List Str := ["tape", "lock", "world", "clock", "machines", "machine", "waiting", "due", "first", "row"]
theorem sc__law_lock : FnScope N__law_lock ["tape", "lock", "world", "clock", "machines"] (defScope s__law_lock) := ⟨rfl, rfl, rfl, by decide +kernel, rfl, by decide +kernel, by decide +kernel⟩
abbrev s__law_master : Stmt := topS 19
abbrev N__law_master : List Str := ["tape", "master", "came", "ended", "clock", "machines", "machine", "for_good", "due", "told"]
theorem sc__law_master : FnScope N__law_master ["tape", "master", "came", "ended", "clock", "machines"] (defScope s__law_master) := ⟨rfl, rfl, rfl, by decide +kernel, rfl, by decide +kernel, by decide +kernel⟩
abbrev s_law : Stmt := topS 20
abbrev N_law : List Str := ["script", "tape", "machines", "lock", "world", "master", "came", "ended", "number", "turn", "clock", "k"]
theorem sc_law : FnScope N_law ["script"] (defScope s_law) := ⟨rfl, rfl, rfl, by decide +kernel, rfl, by decide +kernel, by decide +kernel⟩
noncomputable def ml_zero_clock_1 : MS :=
(mRet (mOp mRepA (mTup (mCons (mK (.int 0)) mNil)) (mVar 0)))
noncomputable def m_zero_clock : MS :=
ml_zero_clock_1
noncomputable def pf_zero_clock : List PyData → Option PyData := toPure 1 1 m_zero_clock
noncomputable def tr_zero_clock (K : PySem.W.Frag) : TS :=
(tRet (tOp (G.rRepA K) (tTup (tCons (tC (.int 0)) tNil)) (tVar 0)))
theorem sim_zero_clock (K : PySem.W.Frag) : SimS K (tr_zero_clock K) m_zero_clock :=
(ss_ret (sm_op (sm_tup (sm_cons sm_int sm_nil)) sm_var sr_repA))
noncomputable def ml_manager_of_1 : MS :=
(mRet (mOp (mIC (fun _ j => 0 < j) fun i j => i % j) (mVar 0) (mVar 1)))
noncomputable def m_manager_of : MS :=
ml_manager_of_1
noncomputable def pf_manager_of : List PyData → Option PyData := toPure 2 2 m_manager_of
noncomputable def tr_manager_of (K : PySem.W.Frag) : TS :=
(tRet (tOp (rI (fun _ j => 0 < j) fun i j => .int (i % j)) (tVar 0) (tVar 1)))
theorem sim_manager_of (K : PySem.W.Frag) : SimS K (tr_manager_of K) m_manager_of :=
(ss_ret (sm_op sm_var sm_var sr_intC))
noncomputable def ml_new_lock_1 : MS :=
(mRet (mDisp (((mK (.str "holder")), (mK .none)) :: (((mK (.str "queue")), (mDat (mLst mNil))) :: (((mK (.str "clock")), (mCB (liftD pf_zero_clock) (mCons (mVar 0) mNil))) :: (((mK (.str "grants")), (mK (.int 0))) :: []))))))
noncomputable def m_new_lock : MS :=
ml_new_lock_1
noncomputable def fn_new_lock : MCa := toHeap 1 1 m_new_lock
noncomputable def tr_new_lock (K : PySem.W.Frag) : TS :=
(tRet (tDisp (((tC (.str "holder")), (tC .non)) :: (((tC (.str "queue")), (tLst tNil)) :: (((tC (.str "clock")), (tCall (spQ K pf_zero_clock) [] E0 (tCons (tVar 0) tNil))) :: (((tC (.str "grants")), (tC (.int 0))) :: []))))))
theorem sim_new_lock (K : PySem.W.Frag) : SimS K (tr_new_lock K) m_new_lock :=
(ss_ret (sm_disp (.cons sm_str sm_non (.cons sm_str (sm_dat (sm_lst sm_nil)) (.cons sm_str (sm_callQ (sm_cons sm_var sm_nil)) (.cons sm_str sm_int .nil))))))
noncomputable def ml_granted_3 : MS :=
(mRet (mTup (mCons (mVar 1) (mCons (mVar 2) (mCons (mDGet (mVar 0) (mK (.str "grants"))) (mCons (mDGet (mVar 0) (mK (.str "clock"))) mNil))))))
noncomputable def ml_granted_2 : MS :=
(mDPut (mVar 0) (mK (.str "grants")) (mOp (mI fun i j => i + j) (mDGet (mVar 0) (mK (.str "grants"))) (mK (.int 1))))
noncomputable def ml_granted_1 : MS :=
(mDPut (mVar 0) (mK (.str "holder")) (mVar 1))
noncomputable def m_granted : MS :=
(mSeq ml_granted_1
(mSeq ml_granted_2
ml_granted_3))
noncomputable def fn_granted : MCa := toHeap 3 3 m_granted
noncomputable def tr_granted (K : PySem.W.Frag) : TS :=
(tSeq (sDPut (tVar 0) (tC (.str "holder")) (tVar 1))
(tSeq (sDPut (tVar 0) (tC (.str "grants")) (tOp (rI0 fun i j => .int (i + j)) (tDGet (tVar 0) (tC (.str "grants"))) (tC (.int 1))))
(tRet (tTup (tCons (tVar 1) (tCons (tVar 2) (tCons (tDGet (tVar 0) (tC (.str "grants"))) (tCons (tDGet (tVar 0) (tC (.str "clock"))) tNil))))))))
theorem sim_granted (K : PySem.W.Frag) : SimS K (tr_granted K) m_granted :=
(ss_seq (ss_dput sm_var sm_str sm_var)
(ss_seq (ss_dput sm_var sm_str (sm_op (sm_dget sm_var sm_str) sm_int sr_int))
(ss_ret (sm_tup (sm_cons sm_var (sm_cons sm_var (sm_cons (sm_dget sm_var sm_str) (sm_cons (sm_dget sm_var sm_str) sm_nil))))))))
noncomputable def ml_ask_4 : MS :=
(mRet (mK .none))
noncomputable def ml_ask_3 : MS :=
(mDPut (mVar 0) (mK (.str "queue")) (mDat (mCatE (mDGet (mVar 0) (mK (.str "queue"))) (mDat (mLst (mCons (mTup (mCons (mVar 1) (mCons (mVar 2) mNil))) mNil))))))
noncomputable def mc_ask_1 : MT :=
(mTest (mOp (mIsN false) (mDGet (mVar 0) (mK (.str "holder"))) (mK .none)))
noncomputable def ml_ask_2 : MS :=
(mRet (mCB fn_granted (mCons (mVar 0) (mCons (mVar 1) (mCons (mVar 2) mNil)))))
noncomputable def ml_ask_1 : MS :=
(mIfS mc_ask_1
ml_ask_2
mNext)
noncomputable def m_ask : MS :=
(mSeq ml_ask_1
(mSeq ml_ask_3
ml_ask_4))
noncomputable def fn_ask : MCa := toHeap 3 3 m_ask
noncomputable def tr_ask (K : PySem.W.Frag) : TS :=
(tSeq (tIfS (tTest (tOp rIsN (tDGet (tVar 0) (tC (.str "holder"))) (tC .non)))
(tRet (tCall (spH K fn_granted) [] E0 (tCons (tVar 0) (tCons (tVar 1) (tCons (tVar 2) tNil)))))
tNext)
(tSeq (sDPut (tVar 0) (tC (.str "queue")) (tOp (G.rCatS K) (tDGet (tVar 0) (tC (.str "queue"))) (tLst (tCons (tTup (tCons (tVar 1) (tCons (tVar 2) tNil))) tNil))))
(tRet (tC .non))))
theorem sim_ask (K : PySem.W.Frag) : SimS K (tr_ask K) m_ask :=
(ss_seq (ss_if (sm_test (sm_op (sm_dget sm_var sm_str) sm_non sr_isN))
(ss_ret (sm_callH (sm_cons sm_var (sm_cons sm_var (sm_cons sm_var sm_nil)))))
ss_next)
(ss_seq (ss_dput sm_var sm_str (sm_dat (sm_catS (sm_dget sm_var sm_str) (sm_dat (sm_lst (sm_cons (sm_tup (sm_cons sm_var (sm_cons sm_var sm_nil))) sm_nil))))))
(ss_ret sm_non)))
noncomputable def ml_let_go_7 : MS :=
(mRet (mCB fn_granted (mCons (mVar 0) (mCons (mVar 2) (mCons (mVar 3) mNil)))))
noncomputable def ml_let_go_6 : MS :=
(mDPut (mVar 0) (mK (.str "queue")) (mDat (mSlL (mDGet (mVar 0) (mK (.str "queue"))) (mPart (mK (.int 1))) mNoPart)))
noncomputable def ml_let_go_5 : MS :=
(mAsg (mOp mIx (mDGet (mVar 0) (mK (.str "queue"))) (mK (.int 0))) (mgTup 2 (mgCons (mgName 2) (mgCons (mgName 3) mgNil))))
noncomputable def mc_let_go_3 : MT :=
(mTest (mOp (mEqD false) (mCB mLen (mCons (mDGet (mVar 0) (mK (.str "queue"))) mNil)) (mK (.int 0))))
noncomputable def ml_let_go_4 : MS :=
(mRet (mK .none))
noncomputable def ml_let_go_3 : MS :=
(mIfS mc_let_go_3
ml_let_go_4
mNext)
noncomputable def ml_let_go_2 : MS :=
(mDPut (mVar 0) (mK (.str "clock")) (mVar 1))
noncomputable def ml_let_go_1 : MS :=
(mDPut (mVar 0) (mK (.str "holder")) (mK .none))
noncomputable def m_let_go : MS :=
(mSeq ml_let_go_1
(mSeq ml_let_go_2
(mSeq ml_let_go_3
(mSeq ml_let_go_5
(mSeq ml_let_go_6
ml_let_go_7)))))
noncomputable def fn_let_go : MCa := toHeap 2 4 m_let_go
noncomputable def tr_let_go (K : PySem.W.Frag) : TS :=
(tSeq (sDPut (tVar 0) (tC (.str "holder")) (tC .non))
(tSeq (sDPut (tVar 0) (tC (.str "clock")) (tVar 1))
(tSeq (tIfS (tTest (tOp (rEqD K) (tCB (G.rLen K) (tCons (tDGet (tVar 0) (tC (.str "queue"))) tNil)) (tC (.int 0))))
(tRet (tC .non))
tNext)
(tSeq (tAsg (tOp (rIx K) (tDGet (tVar 0) (tC (.str "queue"))) (tC (.int 0))) (gTup K 2 (gCons (gName 2) (gCons (gName 3) gNil))))
(tSeq (sDPut (tVar 0) (tC (.str "queue")) (tSl (rSlL K) (tDGet (tVar 0) (tC (.str "queue"))) (tPart (tC (.int 1))) tNoPart))
(tRet (tCall (spH K fn_granted) [] E0 (tCons (tVar 0) (tCons (tVar 2) (tCons (tVar 3) tNil))))))))))
theorem sim_let_go (K : PySem.W.Frag) : SimS K (tr_let_go K) m_let_go :=
(ss_seq (ss_dput sm_var sm_str sm_non)
(ss_seq (ss_dput sm_var sm_str sm_var)
(ss_seq (ss_if (sm_test (sm_op (sm_cb (sm_cons (sm_dget sm_var sm_str) sm_nil) sc_len) sm_int sr_eq))
(ss_ret sm_non)
ss_next)
(ss_seq (ss_asg (sm_op (sm_dget sm_var sm_str) sm_int sr_ix) (sg_tup (sg_cons (sg_name (js := [2, 3]) (by decide)) (sg_cons (sg_name (js := [2, 3]) (by decide)) sg_nil))))
(ss_seq (ss_dput sm_var sm_str (sm_dat (sm_slL (sm_dget sm_var sm_str) (so_some sm_int) so_none)))
(ss_ret (sm_callH (sm_cons sm_var (sm_cons sm_var (sm_cons sm_var sm_nil))))))))))
noncomputable def ml_new_master_1 : MS :=
(mRet (mDisp (((mK (.str "come")), (mDat (mLst mNil))) :: (((mK (.str "ended")), (mDat (mLst mNil))) :: (((mK (.str "number")), (mK (.int 0))) :: (((mK (.str "over")), (mK (.bool false))) :: []))))))
noncomputable def m_new_master : MS :=
ml_new_master_1
noncomputable def fn_new_master : MCa := toHeap 0 0 m_new_master
noncomputable def tr_new_master (K : PySem.W.Frag) : TS :=
(tRet (tDisp (((tC (.str "come")), (tLst tNil)) :: (((tC (.str "ended")), (tLst tNil)) :: (((tC (.str "number")), (tC (.int 0))) :: (((tC (.str "over")), (tC (.bl false))) :: []))))))
theorem sim_new_master (K : PySem.W.Frag) : SimS K (tr_new_master K) m_new_master :=
(ss_ret (sm_disp (.cons sm_str (sm_dat (sm_lst sm_nil)) (.cons sm_str (sm_dat (sm_lst sm_nil)) (.cons sm_str sm_int (.cons sm_str sm_bl .nil))))))
noncomputable def mc_come_3 : MT :=
(mTest (mVar 3))
noncomputable def ml_come_4 : MS :=
(mDPut (mVar 0) (mK (.str "ended")) (mDat (mCatE (mDGet (mVar 0) (mK (.str "ended"))) (mDat (mLst (mCons (mVar 4) mNil))))))
noncomputable def ml_come_3 : MS :=
(mIfS mc_come_3
ml_come_4
mNext)
noncomputable def ml_come_2 : MS :=
(mDPut (mVar 0) (mK (.str "come")) (mDat (mCatE (mDGet (mVar 0) (mK (.str "come"))) (mDat (mLst (mCons (mVar 4) mNil))))))
noncomputable def ml_come_1 : MS :=
(mAsg (mTup (mCons (mVar 1) (mCons (mVar 2) mNil))) (mgName 4))
noncomputable def m_come : MS :=
(mSeq ml_come_1
(mSeq ml_come_2
ml_come_3))
noncomputable def fn_come : MCa := toHeap 4 5 m_come
noncomputable def tr_come (K : PySem.W.Frag) : TS :=
(tSeq (tAsg (tTup (tCons (tVar 1) (tCons (tVar 2) tNil))) (gName 4))
(tSeq (sDPut (tVar 0) (tC (.str "come")) (tOp (G.rCatS K) (tDGet (tVar 0) (tC (.str "come"))) (tLst (tCons (tVar 4) tNil))))
(tIfS (tB (tVar 3))
(sDPut (tVar 0) (tC (.str "ended")) (tOp (G.rCatS K) (tDGet (tVar 0) (tC (.str "ended"))) (tLst (tCons (tVar 4) tNil))))
tNext)))
theorem sim_come (K : PySem.W.Frag) : SimS K (tr_come K) m_come :=
(ss_seq (ss_asg (sm_tup (sm_cons sm_var (sm_cons sm_var sm_nil))) (sg_name (js := [4]) (by decide)))
(ss_seq (ss_dput sm_var sm_str (sm_dat (sm_catS (sm_dget sm_var sm_str) (sm_dat (sm_lst (sm_cons sm_var sm_nil))))))
(ss_if (sm_B sm_var)
(ss_dput sm_var sm_str (sm_dat (sm_catS (sm_dget sm_var sm_str) (sm_dat (sm_lst (sm_cons sm_var sm_nil))))))
ss_next)))
noncomputable def ml_has_all_2 : MS :=
(mRet (mCB (liftD fAll) (mCons (mDat (mLc (mRng1 (mCons (mVar 1) mNil)) (mgName 3) mYes (mOp (mInD false) (mVar 3) (mVar 2)) [3])) mNil)))
noncomputable def ml_has_all_1 : MS :=
(mAsg (mDat (mLc (mItL (mVar 0)) (mgTup 2 (mgCons (mgName 3) (mgCons (mgName 4) mgNil))) mYes (mVar 3) [3, 4])) (mgName 2))
noncomputable def m_has_all : MS :=
(mSeq ml_has_all_1
ml_has_all_2)
noncomputable def pf_has_all : List PyData → Option PyData := toPure 2 5 m_has_all
noncomputable def tr_has_all (K : PySem.W.Frag) : TS :=
(tSeq (tAsg (tLc (iList K (tVar 0)) (gTup K 2 (gCons (gName 3) (gCons (gName 4) gNil))) tYes (tVar 3) [3, 4]) (gName 2))
(tRet (tCB (rAll K) (tCons (tLc (iRng1 (tCons (tVar 1) tNil)) (gName 3) tYes (tOp (rInD K) (tVar 3) (tVar 2)) [3]) tNil))))
theorem sim_has_all (K : PySem.W.Frag) : SimS K (tr_has_all K) m_has_all :=
(ss_seq (ss_asg (sm_dat (sm_lc (si_list sm_var) (sg_tup (sg_cons (sg_name (js := [3, 4]) (by decide)) (sg_cons (sg_name (js := [3, 4]) (by decide)) sg_nil))) sm_yes sm_var)) (sg_name (js := [2]) (by decide)))
(ss_ret (sm_cb (sm_cons (sm_dat (sm_lc (si_rng1 (sm_cons sm_var sm_nil)) (sg_name (js := [3]) (by decide)) sm_yes (sm_op sm_var sm_var sr_in))) sm_nil) sc_all)))
noncomputable def ml_is_over_1 : MS :=
(mRet (mDGet (mVar 0) (mK (.str "over"))))
noncomputable def m_is_over : MS :=
ml_is_over_1
noncomputable def fn_is_over : MCa := toHeap 1 1 m_is_over
noncomputable def tr_is_over (K : PySem.W.Frag) : TS :=
(tRet (tDGet (tVar 0) (tC (.str "over"))))
theorem sim_is_over (K : PySem.W.Frag) : SimS K (tr_is_over K) m_is_over :=
(ss_ret (sm_dget sm_var sm_str))
noncomputable def ml_is_complete_1 : MS :=
(mRet (mAndV (mNotV (mCB fn_is_over (mCons (mVar 0) mNil))) (mCB (liftD pf_has_all) (mCons (mDGet (mVar 0) (mK (.str "come"))) (mCons (mVar 1) mNil)))))
noncomputable def m_is_complete : MS :=
ml_is_complete_1
noncomputable def fn_is_complete : MCa := toHeap 2 2 m_is_complete
noncomputable def tr_is_complete (K : PySem.W.Frag) : TS :=
(tRet (tAndV (tNotV (tCall (spH K fn_is_over) [] E0 (tCons (tVar 0) tNil))) (tCall (spQ K pf_has_all) [] E0 (tCons (tDGet (tVar 0) (tC (.str "come"))) (tCons (tVar 1) tNil)))))
theorem sim_is_complete (K : PySem.W.Frag) : SimS K (tr_is_complete K) m_is_complete :=
(ss_ret (sm_andV (sm_notV (sm_callH (sm_cons sm_var sm_nil))) (sm_callQ (sm_cons (sm_dget sm_var sm_str) (sm_cons sm_var sm_nil)))))
noncomputable def ml_clocks_of_1 : MS :=
(mRet (mDc (mItL (mDGet (mVar 0) (mK (.str "come")))) (mgTup 2 (mgCons (mgName 1) (mgCons (mgName 2) mgNil))) mYes (mVar 1) (mVar 2) [1, 2]))
noncomputable def m_clocks_of : MS :=
ml_clocks_of_1
noncomputable def fn_clocks_of : MCa := toHeap 1 3 m_clocks_of
noncomputable def tr_clocks_of (K : PySem.W.Frag) : TS :=
(tRet (tDc (iList K (tDGet (tVar 0) (tC (.str "come")))) (gTup K 2 (gCons (gName 1) (gCons (gName 2) gNil))) tYes (tVar 1) (tVar 2) [1, 2]))
theorem sim_clocks_of (K : PySem.W.Frag) : SimS K (tr_clocks_of K) m_clocks_of :=
(ss_ret (sm_dc (si_list (sm_dget sm_var sm_str)) (sg_tup (sg_cons (sg_name (js := [1, 2]) (by decide)) (sg_cons (sg_name (js := [1, 2]) (by decide)) sg_nil))) sm_yes sm_var sm_var))
noncomputable def ml_go_on_5 : MS :=
(mRet (mDGet (mVar 0) (mK (.str "number"))))
noncomputable def mc_go_on_1 : MT :=
(mNot (mTest (mCB fn_is_over (mCons (mVar 0) mNil))))
noncomputable def ml_go_on_4 : MS :=
(mDPut (mVar 0) (mK (.str "over")) (mCB (liftD pf_has_all) (mCons (mDGet (mVar 0) (mK (.str "ended"))) (mCons (mVar 1) mNil))))
noncomputable def ml_go_on_3 : MS :=
(mDPut (mVar 0) (mK (.str "come")) (mDat (mCBF mListOf (mCons (mDGet (mVar 0) (mK (.str "ended"))) mNil))))
noncomputable def ml_go_on_2 : MS :=
(mDPut (mVar 0) (mK (.str "number")) (mOp (mI fun i j => i + j) (mDGet (mVar 0) (mK (.str "number"))) (mK (.int 1))))
noncomputable def ml_go_on_1 : MS :=
(mIfS mc_go_on_1
(mSeq ml_go_on_2
(mSeq ml_go_on_3
ml_go_on_4))
mNext)
noncomputable def m_go_on : MS :=
(mSeq ml_go_on_1
ml_go_on_5)
noncomputable def fn_go_on : MCa := toHeap 2 2 m_go_on
noncomputable def tr_go_on (K : PySem.W.Frag) : TS :=
(tSeq (tIfS (tNot (tB (tCall (spH K fn_is_over) [] E0 (tCons (tVar 0) tNil))))
(tSeq (sDPut (tVar 0) (tC (.str "number")) (tOp (rI0 fun i j => .int (i + j)) (tDGet (tVar 0) (tC (.str "number"))) (tC (.int 1))))
(tSeq (sDPut (tVar 0) (tC (.str "come")) (tCB (rListOf K) (tCons (tDGet (tVar 0) (tC (.str "ended"))) tNil)))
(sDPut (tVar 0) (tC (.str "over")) (tCall (spQ K pf_has_all) [] E0 (tCons (tDGet (tVar 0) (tC (.str "ended"))) (tCons (tVar 1) tNil))))))
tNext)
(tRet (tDGet (tVar 0) (tC (.str "number")))))
theorem sim_go_on (K : PySem.W.Frag) : SimS K (tr_go_on K) m_go_on :=
(ss_seq (ss_if (sm_not (sm_B (sm_callH (sm_cons sm_var sm_nil))))
(ss_seq (ss_dput sm_var sm_str (sm_op (sm_dget sm_var sm_str) sm_int sr_int))
(ss_seq (ss_dput sm_var sm_str (sm_dat (sm_cbF (sm_cons (sm_dget sm_var sm_str) sm_nil) sf_list)))
(ss_dput sm_var sm_str (sm_callQ (sm_cons (sm_dget sm_var sm_str) (sm_cons sm_var sm_nil))))))
ss_next)
(ss_ret (sm_dget sm_var sm_str)))
noncomputable def ml__law_next_12 : MS :=
(mRet (mOp (mIC (fun _ j => 0 < j) fun i j => i % j) (mCB (liftD fInt1) (mCons (mVar 2) mNil)) (mVar 1)))
noncomputable def ml__law_next_11 : MS :=
(mSetL (mOp (mIC CDivW fun i j => i / j) (mVar 2) (mVar 1)) (mVar 0) (mK (.int 2)))
noncomputable def mc__law_next_2 : MT :=
(mTest (mOp (mEqD false) (mVar 2) (mK (.int 0))))
noncomputable def mc__law_next_8 : MT :=
(mTest (mOp (mIB fun i j => decide (i < j)) (mVar 3) (mOp (mIC CPow fun i j => i ^ j.toNat) (mK (.int 10)) (mK (.int 18)))))
noncomputable def ml__law_next_10 : MS :=
(mRet (mOp (mIC (fun _ j => 0 < j) fun i j => i % j) (mOp (mIC (fun _ j => 0 < j) fun i j => i % j) (mCB (liftD fInt1) (mCons (mOp (mIC (fun i j => CMul i j ∨ CMulW i j) fun i j => i * j) (mOp (mIC CDivW fun i j => i / j) (mOp mIx (mVar 0) (mK (.int 3))) (mK (.int 5))) (mK (.int 48271))) mNil)) (mK (.int 2147483647))) (mVar 1)))
noncomputable def ml__law_next_9 : MS :=
(mSetL (mOp (mIC (fun _ j => 0 < j) fun i j => i % j) (mCB (liftD fInt1) (mCons (mOp (mI fun i j => i + j) (mOp (mI fun i j => i + j) (mOp (mIC (fun i j => CMul i j ∨ CMulW i j) fun i j => i * j) (mOp mIx (mVar 0) (mK (.int 3))) (mK (.int 69621))) (mOp (mIC (fun i j => CMul i j ∨ CMulW i j) fun i j => i * j) (mVar 3) (mK (.int 40692)))) (mK (.int 17))) mNil)) (mK (.int 2147483647))) (mVar 0) (mK (.int 3)))
noncomputable def ml__law_next_8 : MS :=
(mIfS mc__law_next_8
(mSeq ml__law_next_9
ml__law_next_10)
mNext)
noncomputable def ml__law_next_7 : MS :=
(mAsg (mVar 3) (mgName 2))
noncomputable def mc__law_next_4 : MT :=
(mTest (mOp (mIB fun i j => decide (i < j)) (mOp mIx (mVar 0) (mK (.int 1))) (mCB mLen (mCons (mOp mIx (mVar 0) (mK (.int 0))) mNil))))
noncomputable def ml__law_next_6 : MS :=
(mSetL (mOp (mI fun i j => i + j) (mOp mIx (mVar 0) (mK (.int 1))) (mK (.int 1))) (mVar 0) (mK (.int 1)))
noncomputable def ml__law_next_5 : MS :=
(mAsg (mCB (liftD fAbs) (mCons (mCB (liftD fInt1) (mCons (mOp mIx (mOp mIx (mVar 0) (mK (.int 0))) (mOp mIx (mVar 0) (mK (.int 1)))) mNil)) mNil)) (mgName 3))
noncomputable def ml__law_next_4 : MS :=
(mIfS mc__law_next_4
(mSeq ml__law_next_5
ml__law_next_6)
mNext)
noncomputable def ml__law_next_3 : MS :=
(mAsg (mK (.int 0)) (mgName 3))
noncomputable def ml__law_next_2 : MS :=
(mIfS mc__law_next_2
(mSeq ml__law_next_3
(mSeq ml__law_next_4
(mSeq ml__law_next_7
ml__law_next_8)))
mNext)
noncomputable def ml__law_next_1 : MS :=
(mAsg (mOp mIx (mVar 0) (mK (.int 2))) (mgName 2))
noncomputable def m__law_next : MS :=
(mSeq ml__law_next_1
(mSeq ml__law_next_2
(mSeq ml__law_next_11
ml__law_next_12)))
noncomputable def fn__law_next : MCa := toHeap 2 4 m__law_next
noncomputable def tr__law_next (K : PySem.W.Frag) : TS :=
(tSeq (tAsg (tOp (rIx K) (tVar 0) (tC (.int 2))) (gName 2))
(tSeq (tIfS (tTest (tOp (rEqD K) (tVar 2) (tC (.int 0))))
(tSeq (tAsg (tC (.int 0)) (gName 3))
(tSeq (tIfS (tTest (tOp (rI0 fun i j => .bl (decide (i < j))) (tOp (rIx K) (tVar 0) (tC (.int 1))) (tCB (G.rLen K) (tCons (tOp (rIx K) (tVar 0) (tC (.int 0))) tNil))))
(tSeq (tAsg (tCB rAbs (tCons (tCB rInt1 (tCons (tOp (rIx K) (tOp (rIx K) (tVar 0) (tC (.int 0))) (tOp (rIx K) (tVar 0) (tC (.int 1)))) tNil)) tNil)) (gName 3))
(tAsg (tOp (rI0 fun i j => .int (i + j)) (tOp (rIx K) (tVar 0) (tC (.int 1))) (tC (.int 1))) (gSub (tVar 0) (tC (.int 1)) rSetL)))
tNext)
(tSeq (tAsg (tVar 3) (gName 2))
(tIfS (tTest (tOp (rI0 fun i j => .bl (decide (i < j))) (tVar 3) (tOp (rI CPow fun i j => .int (i ^ j.toNat)) (tC (.int 10)) (tC (.int 18)))))
(tSeq (tAsg (tOp (rI (fun _ j => 0 < j) fun i j => .int (i % j)) (tCB rInt1 (tCons (tOp (rI0 fun i j => .int (i + j)) (tOp (rI0 fun i j => .int (i + j)) (tOp (rI (fun i j => CMul i j ∨ CMulW i j) fun i j => .int (i * j)) (tOp (rIx K) (tVar 0) (tC (.int 3))) (tC (.int 69621))) (tOp (rI (fun i j => CMul i j ∨ CMulW i j) fun i j => .int (i * j)) (tVar 3) (tC (.int 40692)))) (tC (.int 17))) tNil)) (tC (.int 2147483647))) (gSub (tVar 0) (tC (.int 3)) rSetL))
(tRet (tOp (rI (fun _ j => 0 < j) fun i j => .int (i % j)) (tOp (rI (fun _ j => 0 < j) fun i j => .int (i % j)) (tCB rInt1 (tCons (tOp (rI (fun i j => CMul i j ∨ CMulW i j) fun i j => .int (i * j)) (tOp (rI CDivW fun i j => .int (i / j)) (tOp (rIx K) (tVar 0) (tC (.int 3))) (tC (.int 5))) (tC (.int 48271))) tNil)) (tC (.int 2147483647))) (tVar 1))))
tNext))))
tNext)
(tSeq (tAsg (tOp (rI CDivW fun i j => .int (i / j)) (tVar 2) (tVar 1)) (gSub (tVar 0) (tC (.int 2)) rSetL))
(tRet (tOp (rI (fun _ j => 0 < j) fun i j => .int (i % j)) (tCB rInt1 (tCons (tVar 2) tNil)) (tVar 1))))))
theorem sim__law_next (K : PySem.W.Frag) : SimS K (tr__law_next K) m__law_next :=
(ss_seq (ss_asg (sm_op sm_var sm_int sr_ix) (sg_name (js := [2]) (by decide)))
(ss_seq (ss_if (sm_test (sm_op sm_var sm_int sr_eq))
(ss_seq (ss_asg sm_int (sg_name (js := [3]) (by decide)))
(ss_seq (ss_if (sm_test (sm_op (sm_op sm_var sm_int sr_ix) (sm_cb (sm_cons (sm_op sm_var sm_int sr_ix) sm_nil) sc_len) sr_bl))
(ss_seq (ss_asg (sm_cb (sm_cons (sm_cb (sm_cons (sm_op (sm_op sm_var sm_int sr_ix) (sm_op sm_var sm_int sr_ix) sr_ix) sm_nil) sc_int1) sm_nil) sc_abs) (sg_name (js := [3]) (by decide)))
(ss_setL (sm_op (sm_op sm_var sm_int sr_ix) sm_int sr_int) sm_var sm_int))
ss_next)
(ss_seq (ss_asg sm_var (sg_name (js := [2]) (by decide)))
(ss_if (sm_test (sm_op sm_var (sm_op sm_int sm_int sr_intC) sr_bl))
(ss_seq (ss_setL (sm_op (sm_cb (sm_cons (sm_op (sm_op (sm_op (sm_op sm_var sm_int sr_ix) sm_int sr_intC) (sm_op sm_var sm_int sr_intC) sr_int) sm_int sr_int) sm_nil) sc_int1) sm_int sr_intC) sm_var sm_int)
(ss_ret (sm_op (sm_op (sm_cb (sm_cons (sm_op (sm_op (sm_op sm_var sm_int sr_ix) sm_int sr_intC) sm_int sr_intC) sm_nil) sc_int1) sm_int sr_intC) sm_var sr_intC)))
ss_next))))
ss_next)
(ss_seq (ss_setL (sm_op sm_var sm_var sr_intC) sm_var sm_int)
(ss_ret (sm_op (sm_cb (sm_cons sm_var sm_nil) sc_int1) sm_var sr_intC)))))
noncomputable def ml__law_lock_22 : MS :=
(mRet (mOp (mEqD false) (mCB fn_ask (mCons (mVar 1) (mCons (mVar 5) (mCons (mVar 3) mNil)))) (mVar 7)))
noncomputable def mc__law_lock_16 : MT :=
(mTest (mOp (mIsN false) (mOp mIx (mVar 2) (mK (.int 0))) (mK .none)))
noncomputable def ml__law_lock_19 : MS :=
(mAsg (mTup (mCons (mVar 5) (mCons (mVar 3) (mCons (mOp mIx (mVar 2) (mK (.int 3))) (mCons (mOp mIx (mVar 2) (mK (.int 2))) mNil))))) (mgName 7))
noncomputable def ml__law_lock_18 : MS :=
(mSetL (mOp (mI fun i j => i + j) (mOp mIx (mVar 2) (mK (.int 3))) (mK (.int 1))) (mVar 2) (mK (.int 3)))
noncomputable def ml__law_lock_17 : MS :=
(mSetL (mVar 5) (mVar 2) (mK (.int 0)))
noncomputable def ml__law_lock_21 : MS :=
(mApp (mOp mIx (mVar 2) (mK (.int 1))) (mTup (mCons (mVar 5) (mCons (mVar 3) mNil))))
noncomputable def ml__law_lock_16 : MS :=
(mIfS mc__law_lock_16
(mSeq ml__law_lock_17
(mSeq ml__law_lock_18
ml__law_lock_19))
ml__law_lock_21)
noncomputable def ml__law_lock_15 : MS :=
(mAsg (mK .none) (mgName 7))
noncomputable def mc__law_lock_13 : MT :=
(mTest (mOp (mInD false) (mVar 5) (mVar 6)))
noncomputable def ml__law_lock_14 : MS :=
(mRet (mK (.bool true)))
noncomputable def ml__law_lock_13 : MS :=
(mIfS mc__law_lock_13
ml__law_lock_14
mNext)
noncomputable def mc__law_lock_3 : MT :=
(mTest (mOp (mEqD false) (mOp mIx (mVar 2) (mK (.int 0))) (mVar 5)))
noncomputable def ml__law_lock_12 : MS :=
(mRet (mOp (mEqD false) (mCB fn_let_go (mCons (mVar 1) (mCons (mVar 3) mNil))) (mVar 7)))
noncomputable def mc__law_lock_7 : MT :=
(mTest (mOp (mEqD true) (mOp mIx (mVar 2) (mK (.int 1))) (mDat (mLst mNil))))
noncomputable def ml__law_lock_11 : MS :=
(mAsg (mTup (mCons (mOp mIx (mVar 8) (mK (.int 0))) (mCons (mOp mIx (mVar 8) (mK (.int 1))) (mCons (mOp mIx (mVar 2) (mK (.int 3))) (mCons (mVar 3) mNil))))) (mgName 7))
noncomputable def ml__law_lock_10 : MS :=
(mSetL (mOp mIx (mVar 8) (mK (.int 0))) (mVar 2) (mK (.int 0)))
noncomputable def ml__law_lock_9 : MS :=
(mSetL (mOp (mI fun i j => i + j) (mOp mIx (mVar 2) (mK (.int 3))) (mK (.int 1))) (mVar 2) (mK (.int 3)))
noncomputable def ml__law_lock_8 : MS :=
(mAsg (mPop0E (mOp mIx (mVar 2) (mK (.int 1)))) (mgName 8))
noncomputable def ml__law_lock_7 : MS :=
(mIfS mc__law_lock_7
(mSeq ml__law_lock_8
(mSeq ml__law_lock_9
(mSeq ml__law_lock_10
ml__law_lock_11)))
mNext)
noncomputable def ml__law_lock_6 : MS :=
(mSetL (mK .none) (mVar 2) (mK (.int 0)))
noncomputable def ml__law_lock_5 : MS :=
(mSetL (mVar 3) (mVar 2) (mK (.int 2)))
noncomputable def ml__law_lock_4 : MS :=
(mAsg (mK .none) (mgName 7))
noncomputable def ml__law_lock_3 : MS :=
(mIfS mc__law_lock_3
(mSeq ml__law_lock_4
(mSeq ml__law_lock_5
(mSeq ml__law_lock_6
(mSeq ml__law_lock_7
ml__law_lock_12))))
mNext)
noncomputable def ml__law_lock_2 : MS :=
(mAsg (mDat (mLc (mItL (mOp mIx (mVar 2) (mK (.int 1)))) (mgName 9) mYes (mOp mIx (mVar 9) (mK (.int 0))) [9])) (mgName 6))
noncomputable def ml__law_lock_1 : MS :=
(mAsg (mCB fn__law_next (mCons (mVar 0) (mCons (mVar 4) mNil))) (mgName 5))
noncomputable def m__law_lock : MS :=
(mSeq ml__law_lock_1
(mSeq ml__law_lock_2
(mSeq ml__law_lock_3
(mSeq ml__law_lock_13
(mSeq ml__law_lock_15
(mSeq ml__law_lock_16
ml__law_lock_22))))))
noncomputable def fn__law_lock : MCa := toHeap 5 10 m__law_lock
noncomputable def tr__law_lock (K : PySem.W.Frag) : TS :=
(tSeq (tAsg (tCall (spH K fn__law_next) [] E0 (tCons (tVar 0) (tCons (tVar 4) tNil))) (gName 5))
(tSeq (tAsg (tLc (iList K (tOp (rIx K) (tVar 2) (tC (.int 1)))) (gName 9) tYes (tOp (rIx K) (tVar 9) (tC (.int 0))) [9]) (gName 6))
(tSeq (tIfS (tTest (tOp (rEqD K) (tOp (rIx K) (tVar 2) (tC (.int 0))) (tVar 5)))
(tSeq (tAsg (tC .non) (gName 7))
(tSeq (tAsg (tVar 3) (gSub (tVar 2) (tC (.int 2)) rSetL))
(tSeq (tAsg (tC .non) (gSub (tVar 2) (tC (.int 0)) rSetL))
(tSeq (tIfS (tTest (tOp (rNeD K) (tOp (rIx K) (tVar 2) (tC (.int 1))) (tLst tNil)))
(tSeq (tAsg (tBM K "list" rPopAt (tOp (rIx K) (tVar 2) (tC (.int 1))) (tCons (tC (.int 0)) tNil)) (gName 8))
(tSeq (tAsg (tOp (rI0 fun i j => .int (i + j)) (tOp (rIx K) (tVar 2) (tC (.int 3))) (tC (.int 1))) (gSub (tVar 2) (tC (.int 3)) rSetL))
(tSeq (tAsg (tOp (rIx K) (tVar 8) (tC (.int 0))) (gSub (tVar 2) (tC (.int 0)) rSetL))
(tAsg (tTup (tCons (tOp (rIx K) (tVar 8) (tC (.int 0))) (tCons (tOp (rIx K) (tVar 8) (tC (.int 1))) (tCons (tOp (rIx K) (tVar 2) (tC (.int 3))) (tCons (tVar 3) tNil))))) (gName 7)))))
tNext)
(tRet (tOp (rEqD K) (tCall (spH K fn_let_go) [] E0 (tCons (tVar 1) (tCons (tVar 3) tNil))) (tVar 7)))))))
tNext)
(tSeq (tIfS (tTest (tOp (rInD K) (tVar 5) (tVar 6)))
(tRet (tC (.bl true)))
tNext)
(tSeq (tAsg (tC .non) (gName 7))
(tSeq (tIfS (tTest (tOp rIsN (tOp (rIx K) (tVar 2) (tC (.int 0))) (tC .non)))
(tSeq (tAsg (tVar 5) (gSub (tVar 2) (tC (.int 0)) rSetL))
(tSeq (tAsg (tOp (rI0 fun i j => .int (i + j)) (tOp (rIx K) (tVar 2) (tC (.int 3))) (tC (.int 1))) (gSub (tVar 2) (tC (.int 3)) rSetL))
(tAsg (tTup (tCons (tVar 5) (tCons (tVar 3) (tCons (tOp (rIx K) (tVar 2) (tC (.int 3))) (tCons (tOp (rIx K) (tVar 2) (tC (.int 2))) tNil))))) (gName 7))))
(tDrop (tBM K "list" rAppend (tOp (rIx K) (tVar 2) (tC (.int 1))) (tCons (tTup (tCons (tVar 5) (tCons (tVar 3) tNil))) tNil))))
(tRet (tOp (rEqD K) (tCall (spH K fn_ask) [] E0 (tCons (tVar 1) (tCons (tVar 5) (tCons (tVar 3) tNil)))) (tVar 7)))))))))
theorem sim__law_lock (K : PySem.W.Frag) : SimS K (tr__law_lock K) m__law_lock :=
(ss_seq (ss_asg (sm_callH (sm_cons sm_var (sm_cons sm_var sm_nil))) (sg_name (js := [5]) (by decide)))
(ss_seq (ss_asg (sm_dat (sm_lc (si_list (sm_op sm_var sm_int sr_ix)) (sg_name (js := [9]) (by decide)) sm_yes (sm_op sm_var sm_int sr_ix))) (sg_name (js := [6]) (by decide)))
(ss_seq (ss_if (sm_test (sm_op (sm_op sm_var sm_int sr_ix) sm_var sr_eq))
(ss_seq (ss_asg sm_non (sg_name (js := [7]) (by decide)))
(ss_seq (ss_setL sm_var sm_var sm_int)
(ss_seq (ss_setL sm_non sm_var sm_int)
(ss_seq (ss_if (sm_test (sm_op (sm_op sm_var sm_int sr_ix) (sm_dat (sm_lst sm_nil)) sr_ne))
(ss_seq (ss_asg (sm_pop0 (sm_op sm_var sm_int sr_ix)) (sg_name (js := [8]) (by decide)))
(ss_seq (ss_setL (sm_op (sm_op sm_var sm_int sr_ix) sm_int sr_int) sm_var sm_int)
(ss_seq (ss_setL (sm_op sm_var sm_int sr_ix) sm_var sm_int)
(ss_asg (sm_tup (sm_cons (sm_op sm_var sm_int sr_ix) (sm_cons (sm_op sm_var sm_int sr_ix) (sm_cons (sm_op sm_var sm_int sr_ix) (sm_cons sm_var sm_nil))))) (sg_name (js := [7]) (by decide))))))
ss_next)
(ss_ret (sm_op (sm_callH (sm_cons sm_var (sm_cons sm_var sm_nil))) sm_var sr_eq))))))
ss_next)
(ss_seq (ss_if (sm_test (sm_op sm_var sm_var sr_in))
(ss_ret sm_bl)
ss_next)
(ss_seq (ss_asg sm_non (sg_name (js := [7]) (by decide)))
(ss_seq (ss_if (sm_test (sm_op (sm_op sm_var sm_int sr_ix) sm_non sr_isN))
(ss_seq (ss_setL sm_var sm_var sm_int)
(ss_seq (ss_setL (sm_op (sm_op sm_var sm_int sr_ix) sm_int sr_int) sm_var sm_int)
(ss_asg (sm_tup (sm_cons sm_var (sm_cons sm_var (sm_cons (sm_op sm_var sm_int sr_ix) (sm_cons (sm_op sm_var sm_int sr_ix) sm_nil))))) (sg_name (js := [7]) (by decide)))))
(ss_app (sm_op sm_var sm_int sr_ix) (sm_tup (sm_cons sm_var (sm_cons sm_var sm_nil)))))
(ss_ret (sm_op (sm_callH (sm_cons sm_var (sm_cons sm_var (sm_cons sm_var sm_nil)))) sm_var sr_eq))))))))
noncomputable def ml__law_master_10 : MS :=
(mRet (mAndV (mIsi "bool" (mVar 9)) (mAndV (mOp (mEqD false) (mVar 9) (mVar 8)) (mOp (mDk false) (mCB fn_clocks_of (mCons (mVar 1) mNil)) (mVar 2)))))
noncomputable def ml__law_master_9 : MS :=
(mAsg (mCB fn_is_complete (mCons (mVar 1) (mCons (mVar 5) mNil))) (mgName 9))
noncomputable def ml__law_master_8 : MS :=
(mAsg (mOp (mEqD false) (mCB mLenD (mCons (mVar 2) mNil)) (mVar 5)) (mgName 8))
noncomputable def mc__law_master_2 : MT :=
(mTest (mDIn true (mVar 6) (mVar 2)))
noncomputable def mc__law_master_6 : MT :=
(mTest (mVar 7))
noncomputable def ml__law_master_7 : MS :=
(mDPut (mVar 3) (mVar 6) (mVar 4))
noncomputable def ml__law_master_6 : MS :=
(mIfS mc__law_master_6
ml__law_master_7
mNext)
noncomputable def ml__law_master_5 : MS :=
(mDPut (mVar 2) (mVar 6) (mVar 4))
noncomputable def ml__law_master_4 : MS :=
(mDrop (mCB fn_come (mCons (mVar 1) (mCons (mVar 6) (mCons (mVar 4) (mCons (mVar 7) mNil))))))
noncomputable def ml__law_master_3 : MS :=
(mAsg (mOp (mEqD false) (mCB fn__law_next (mCons (mVar 0) (mCons (mK (.int 6)) mNil))) (mK (.int 0))) (mgName 7))
noncomputable def ml__law_master_2 : MS :=
(mIfS mc__law_master_2
(mSeq ml__law_master_3
(mSeq ml__law_master_4
(mSeq ml__law_master_5
ml__law_master_6)))
mNext)
noncomputable def ml__law_master_1 : MS :=
(mAsg (mCB fn__law_next (mCons (mVar 0) (mCons (mVar 5) mNil))) (mgName 6))
noncomputable def m__law_master : MS :=
(mSeq ml__law_master_1
(mSeq ml__law_master_2
(mSeq ml__law_master_8
(mSeq ml__law_master_9
ml__law_master_10))))
noncomputable def fn__law_master : MCa := toHeap 6 10 m__law_master
noncomputable def tr__law_master (K : PySem.W.Frag) : TS :=
(tSeq (tAsg (tCall (spH K fn__law_next) [] E0 (tCons (tVar 0) (tCons (tVar 5) tNil))) (gName 6))
(tSeq (tIfS (tB (tDNotIn (tVar 6) (tVar 2)))
(tSeq (tAsg (tOp (rEqD K) (tCall (spH K fn__law_next) [] E0 (tCons (tVar 0) (tCons (tC (.int 6)) tNil))) (tC (.int 0))) (gName 7))
(tSeq (tDrop (tCall (spH K fn_come) [] E0 (tCons (tVar 1) (tCons (tVar 6) (tCons (tVar 4) (tCons (tVar 7) tNil))))))
(tSeq (sDPut (tVar 2) (tVar 6) (tVar 4))
(tIfS (tB (tVar 7))
(sDPut (tVar 3) (tVar 6) (tVar 4))
tNext))))
tNext)
(tSeq (tAsg (tOp (rEqD K) (tCB rLenD (tCons (tVar 2) tNil)) (tVar 5)) (gName 8))
(tSeq (tAsg (tCall (spH K fn_is_complete) [] E0 (tCons (tVar 1) (tCons (tVar 5) tNil))) (gName 9))
(tRet (tAndV (G.tIsi K (tVar 9) "bool") (tAndV (tOp (rEqD K) (tVar 9) (tVar 8)) (tOp (rDk K false) (tCall (spH K fn_clocks_of) [] E0 (tCons (tVar 1) tNil)) (tVar 2)))))))))
theorem sim__law_master (K : PySem.W.Frag) : SimS K (tr__law_master K) m__law_master :=
(ss_seq (ss_asg (sm_callH (sm_cons sm_var (sm_cons sm_var sm_nil))) (sg_name (js := [6]) (by decide)))
(ss_seq (ss_if (sm_B (sm_dnotin sm_var sm_var))
(ss_seq (ss_asg (sm_op (sm_callH (sm_cons sm_var (sm_cons sm_int sm_nil))) sm_int sr_eq) (sg_name (js := [7]) (by decide)))
(ss_seq (ss_drop (sm_callH (sm_cons sm_var (sm_cons sm_var (sm_cons sm_var (sm_cons sm_var sm_nil))))))
(ss_seq (ss_dput sm_var sm_var sm_var)
(ss_if (sm_B sm_var)
(ss_dput sm_var sm_var sm_var)
ss_next))))
ss_next)
(ss_seq (ss_asg (sm_op (sm_cb (sm_cons sm_var sm_nil) sc_lenD) sm_var sr_eq) (sg_name (js := [8]) (by decide)))
(ss_seq (ss_asg (sm_callH (sm_cons sm_var (sm_cons sm_var sm_nil))) (sg_name (js := [9]) (by decide)))
(ss_ret (sm_andV (sm_isi sm_var) (sm_andV (sm_op sm_var sm_var sr_eq) (sm_op (sm_callH (sm_cons sm_var sm_nil)) sm_var sr_dk))))))))
noncomputable def ml_law_28 : MS :=
(mRet (mK (.bool true)))
noncomputable def mc_law_26 : MT :=
(mTest (mOp (mEqD true) (mCB (liftD pf_manager_of) (mCons (mOp (mIC (fun _ j => 0 < j) fun i j => i % j) (mVar 9) (mK (.int 4))) (mCons (mVar 2) mNil))) (mOp (mIC (fun _ j => 0 < j) fun i j => i % j) (mOp (mIC (fun _ j => 0 < j) fun i j => i % j) (mVar 9) (mK (.int 4))) (mVar 2))))
noncomputable def ml_law_27 : MS :=
(mRet (mK (.bool false)))
noncomputable def ml_law_26 : MS :=
(mIfS mc_law_26
ml_law_27
mNext)
noncomputable def mc_law_11 : MT :=
(mTest (mOp (mEqD false) (mCB fn__law_next (mCons (mVar 1) (mCons (mK (.int 2)) mNil))) (mK (.int 0))))
noncomputable def mc_law_14 : MT :=
(mOr (mTest (mOp (mEqD true) (mDGet (mVar 3) (mK (.str "holder"))) (mOp mIx (mVar 4) (mK (.int 0))))) (mOr (mTest (mOp (mEqD true) (mDGet (mVar 3) (mK (.str "grants"))) (mOp mIx (mVar 4) (mK (.int 3))))) (mTest (mOp (mEqD true) (mDGet (mVar 3) (mK (.str "queue"))) (mOp mIx (mVar 4) (mK (.int 1)))))))
noncomputable def ml_law_15 : MS :=
(mRet (mK (.bool false)))
noncomputable def ml_law_14 : MS :=
(mIfS mc_law_14
ml_law_15
mNext)
noncomputable def mc_law_12 : MT :=
(mNot (mTest (mCB fn__law_lock (mCons (mVar 1) (mCons (mVar 3) (mCons (mVar 4) (mCons (mVar 10) (mCons (mVar 2) mNil))))))))
noncomputable def ml_law_13 : MS :=
(mRet (mK (.bool false)))
noncomputable def ml_law_12 : MS :=
(mIfS mc_law_12
ml_law_13
mNext)
noncomputable def mc_law_16 : MT :=
(mNot (mTest (mCB fn_is_over (mCons (mVar 5) mNil))))
noncomputable def mc_law_19 : MT :=
(mTest (mOp (mEqD false) (mCB mLenD (mCons (mVar 6) mNil)) (mVar 2)))
noncomputable def mc_law_24 : MT :=
(mOr (mTest (mOp (mEqD true) (mCB fn_is_over (mCons (mVar 5) mNil)) (mOp (mEqD false) (mCB mLenD (mCons (mVar 7) mNil)) (mVar 2)))) (mTest (mCB fn_is_complete (mCons (mVar 5) (mCons (mVar 2) mNil)))))
noncomputable def ml_law_25 : MS :=
(mRet (mK (.bool false)))
noncomputable def ml_law_24 : MS :=
(mIfS mc_law_24
ml_law_25
mNext)
noncomputable def ml_law_23 : MS :=
(mAsg (mCB mDictCp (mCons (mVar 7) mNil)) (mgName 6))
noncomputable def mc_law_21 : MT :=
(mOr (mTest (mOp (mEqD true) (mCB fn_go_on (mCons (mVar 5) (mCons (mVar 2) mNil))) (mVar 8))) (mTest (mOp (mEqD true) (mDGet (mVar 5) (mK (.str "number"))) (mVar 8))))
noncomputable def ml_law_22 : MS :=
(mRet (mK (.bool false)))
noncomputable def ml_law_21 : MS :=
(mIfS mc_law_21
ml_law_22
mNext)
noncomputable def ml_law_20 : MS :=
(mAsg (mOp (mI fun i j => i + j) (mVar 8) (mK (.int 1))) (mgName 8))
noncomputable def ml_law_19 : MS :=
(mIfS mc_law_19
(mSeq ml_law_20
(mSeq ml_law_21
(mSeq ml_law_23
ml_law_24)))
mNext)
noncomputable def mc_law_17 : MT :=
(mNot (mTest (mCB fn__law_master (mCons (mVar 1) (mCons (mVar 5) (mCons (mVar 6) (mCons (mVar 7) (mCons (mVar 10) (mCons (mVar 2) mNil)))))))))
noncomputable def ml_law_18 : MS :=
(mRet (mK (.bool false)))
noncomputable def ml_law_17 : MS :=
(mIfS mc_law_17
ml_law_18
mNext)
noncomputable def ml_law_16 : MS :=
(mIfS mc_law_16
(mSeq ml_law_17
ml_law_19)
mNext)
noncomputable def ml_law_11 : MS :=
(mIfS mc_law_11
(mSeq ml_law_12
ml_law_14)
ml_law_16)
noncomputable def ml_law_10 : MS :=
(mAsg (mCB mTupOf (mCons (mDat (mLc (mRng1 (mCons (mVar 2) mNil)) (mgName 11) mYes (mCB fn__law_next (mCons (mVar 1) (mCons (mK (.int 9)) mNil))) [11])) mNil)) (mgName 10))
noncomputable def mb_law_9 : MS :=
(mSeq ml_law_10
(mSeq ml_law_11
ml_law_26))
noncomputable def ml_law_9 : MS :=
(mFor (mRng1 (mCons (mOp (mI fun i j => i + j) (mK (.int 1)) (mCB fn__law_next (mCons (mVar 1) (mCons (mK (.int 60)) mNil)))) mNil)) (mgName 9) mb_law_9)
noncomputable def ml_law_8 : MS :=
(mAsg (mK (.int 0)) (mgName 8))
noncomputable def ml_law_7 : MS :=
(mAsg mDNew (mgName 7))
noncomputable def ml_law_6 : MS :=
(mAsg mDNew (mgName 6))
noncomputable def ml_law_5 : MS :=
(mAsg (mCB fn_new_master mNil) (mgName 5))
noncomputable def ml_law_4 : MS :=
(mAsg (mNew (mLst (mCons (mK .none) (mCons (mNew (mLst mNil)) (mCons (mOp mRepA (mTup (mCons (mK (.int 0)) mNil)) (mVar 2)) (mCons (mK (.int 0)) mNil)))))) (mgName 4))
noncomputable def ml_law_3 : MS :=
(mAsg (mCB fn_new_lock (mCons (mVar 2) mNil)) (mgName 3))
noncomputable def ml_law_2 : MS :=
(mAsg (mOp (mI fun i j => i + j) (mK (.int 2)) (mCB fn__law_next (mCons (mVar 1) (mCons (mK (.int 3)) mNil)))) (mgName 2))
noncomputable def ml_law_1 : MS :=
(mAsg (mNew (mLst (mCons (mDat (mCBF mListOf (mCons (mVar 0) mNil))) (mCons (mK (.int 0)) (mCons (mK (.int 0)) (mCons (mK (.int 9)) mNil)))))) (mgName 1))
noncomputable def m_law : MS :=
(mSeq ml_law_1
(mSeq ml_law_2
(mSeq ml_law_3
(mSeq ml_law_4
(mSeq ml_law_5
(mSeq ml_law_6
(mSeq ml_law_7
(mSeq ml_law_8
(mSeq ml_law_9
ml_law_28)))))))))
noncomputable def pf_law : List PyData → Option PyData := toPure 1 12 m_law
noncomputable def tr_law (K : PySem.W.Frag) : TS :=
(tSeq (tAsg (tLst (tCons (tCB (rListOf K) (tCons (tVar 0) tNil)) (tCons (tC (.int 0)) (tCons (tC (.int 0)) (tCons (tC (.int 9)) tNil))))) (gName 1))
(tSeq (tAsg (tOp (rI0 fun i j => .int (i + j)) (tC (.int 2)) (tCall (spH K fn__law_next) [] E0 (tCons (tVar 1) (tCons (tC (.int 3)) tNil)))) (gName 2))
(tSeq (tAsg (tCall (spH K fn_new_lock) [] E0 (tCons (tVar 2) tNil)) (gName 3))
(tSeq (tAsg (tLst (tCons (tC .non) (tCons (tLst tNil) (tCons (tOp (G.rRepA K) (tTup (tCons (tC (.int 0)) tNil)) (tVar 2)) (tCons (tC (.int 0)) tNil))))) (gName 4))
(tSeq (tAsg (tCall (spH K fn_new_master) [] E0 tNil) (gName 5))
(tSeq (tAsg tDNewK (gName 6))
(tSeq (tAsg tDNewK (gName 7))
(tSeq (tAsg (tC (.int 0)) (gName 8))
(tSeq (tFor (iRng1 (tCons (tOp (rI0 fun i j => .int (i + j)) (tC (.int 1)) (tCall (spH K fn__law_next) [] E0 (tCons (tVar 1) (tCons (tC (.int 60)) tNil)))) tNil)) (gName 9)
(tSeq (tAsg (tCB (rTupOf K) (tCons (tLc (iRng1 (tCons (tVar 2) tNil)) (gName 11) tYes (tCall (spH K fn__law_next) [] E0 (tCons (tVar 1) (tCons (tC (.int 9)) tNil))) [11]) tNil)) (gName 10))
(tSeq (tIfS (tTest (tOp (rEqD K) (tCall (spH K fn__law_next) [] E0 (tCons (tVar 1) (tCons (tC (.int 2)) tNil))) (tC (.int 0))))
(tSeq (tIfS (tNot (tB (tCall (spH K fn__law_lock) [] E0 (tCons (tVar 1) (tCons (tVar 3) (tCons (tVar 4) (tCons (tVar 10) (tCons (tVar 2) tNil))))))))
(tRet (tC (.bl false)))
tNext)
(tIfS (tOr (tTest (tOp (rNeD K) (tDGet (tVar 3) (tC (.str "holder"))) (tOp (rIx K) (tVar 4) (tC (.int 0))))) (tOr (tTest (tOp (rNeD K) (tDGet (tVar 3) (tC (.str "grants"))) (tOp (rIx K) (tVar 4) (tC (.int 3))))) (tTest (tOp (rNeD K) (tDGet (tVar 3) (tC (.str "queue"))) (tOp (rIx K) (tVar 4) (tC (.int 1)))))))
(tRet (tC (.bl false)))
tNext))
(tIfS (tNot (tB (tCall (spH K fn_is_over) [] E0 (tCons (tVar 5) tNil))))
(tSeq (tIfS (tNot (tB (tCall (spH K fn__law_master) [] E0 (tCons (tVar 1) (tCons (tVar 5) (tCons (tVar 6) (tCons (tVar 7) (tCons (tVar 10) (tCons (tVar 2) tNil)))))))))
(tRet (tC (.bl false)))
tNext)
(tIfS (tTest (tOp (rEqD K) (tCB rLenD (tCons (tVar 6) tNil)) (tVar 2)))
(tSeq (tAsg (tOp (rI0 fun i j => .int (i + j)) (tVar 8) (tC (.int 1))) (gName 8))
(tSeq (tIfS (tOr (tTest (tOp (rNeD K) (tCall (spH K fn_go_on) [] E0 (tCons (tVar 5) (tCons (tVar 2) tNil))) (tVar 8))) (tTest (tOp (rNeD K) (tDGet (tVar 5) (tC (.str "number"))) (tVar 8))))
(tRet (tC (.bl false)))
tNext)
(tSeq (tAsg (tCB rDictCp (tCons (tVar 7) tNil)) (gName 6))
(tIfS (tOr (tTest (tOp (rNeD K) (tCall (spH K fn_is_over) [] E0 (tCons (tVar 5) tNil)) (tOp (rEqD K) (tCB rLenD (tCons (tVar 7) tNil)) (tVar 2)))) (tB (tCall (spH K fn_is_complete) [] E0 (tCons (tVar 5) (tCons (tVar 2) tNil)))))
(tRet (tC (.bl false)))
tNext))))
tNext))
tNext))
(tIfS (tTest (tOp (rNeD K) (tCall (spQ K pf_manager_of) [] E0 (tCons (tOp (rI (fun _ j => 0 < j) fun i j => .int (i % j)) (tVar 9) (tC (.int 4))) (tCons (tVar 2) tNil))) (tOp (rI (fun _ j => 0 < j) fun i j => .int (i % j)) (tOp (rI (fun _ j => 0 < j) fun i j => .int (i % j)) (tVar 9) (tC (.int 4))) (tVar 2))))
(tRet (tC (.bl false)))
tNext))))
(tRet (tC (.bl true))))))))))))
theorem sim_law (K : PySem.W.Frag) : SimS K (tr_law K) m_law :=
(ss_seq (ss_asg (sm_new (sm_lst (sm_cons (sm_dat (sm_cbF (sm_cons sm_var sm_nil) sf_list)) (sm_cons sm_int (sm_cons sm_int (sm_cons sm_int sm_nil)))))) (sg_name (js := [1]) (by decide)))
(ss_seq (ss_asg (sm_op sm_int (sm_callH (sm_cons sm_var (sm_cons sm_int sm_nil))) sr_int) (sg_name (js := [2]) (by decide)))
(ss_seq (ss_asg (sm_callH (sm_cons sm_var sm_nil)) (sg_name (js := [3]) (by decide)))
(ss_seq (ss_asg (sm_new (sm_lst (sm_cons sm_non (sm_cons (sm_new (sm_lst sm_nil)) (sm_cons (sm_op (sm_tup (sm_cons sm_int sm_nil)) sm_var sr_repA) (sm_cons sm_int sm_nil)))))) (sg_name (js := [4]) (by decide)))
(ss_seq (ss_asg (sm_callH sm_nil) (sg_name (js := [5]) (by decide)))
(ss_seq (ss_asg sm_dnew (sg_name (js := [6]) (by decide)))
(ss_seq (ss_asg sm_dnew (sg_name (js := [7]) (by decide)))
(ss_seq (ss_asg sm_int (sg_name (js := [8]) (by decide)))
(ss_seq (ss_for (si_rng1 (sm_cons (sm_op sm_int (sm_callH (sm_cons sm_var (sm_cons sm_int sm_nil))) sr_int) sm_nil)) (sg_name (js := [9]) (by decide))
(ss_seq (ss_asg (sm_cb (sm_cons (sm_dat (sm_lc (si_rng1 (sm_cons sm_var sm_nil)) (sg_name (js := [11]) (by decide)) sm_yes (sm_callH (sm_cons sm_var (sm_cons sm_int sm_nil))))) sm_nil) sc_tup) (sg_name (js := [10]) (by decide)))
(ss_seq (ss_if (sm_test (sm_op (sm_callH (sm_cons sm_var (sm_cons sm_int sm_nil))) sm_int sr_eq))
(ss_seq (ss_if (sm_not (sm_B (sm_callH (sm_cons sm_var (sm_cons sm_var (sm_cons sm_var (sm_cons sm_var (sm_cons sm_var sm_nil))))))))
(ss_ret sm_bl)
ss_next)
(ss_if (sm_or (sm_test (sm_op (sm_dget sm_var sm_str) (sm_op sm_var sm_int sr_ix) sr_ne)) (sm_or (sm_test (sm_op (sm_dget sm_var sm_str) (sm_op sm_var sm_int sr_ix) sr_ne)) (sm_test (sm_op (sm_dget sm_var sm_str) (sm_op sm_var sm_int sr_ix) sr_ne))))
(ss_ret sm_bl)
ss_next))
(ss_if (sm_not (sm_B (sm_callH (sm_cons sm_var sm_nil))))
(ss_seq (ss_if (sm_not (sm_B (sm_callH (sm_cons sm_var (sm_cons sm_var (sm_cons sm_var (sm_cons sm_var (sm_cons sm_var (sm_cons sm_var sm_nil)))))))))
(ss_ret sm_bl)
ss_next)
(ss_if (sm_test (sm_op (sm_cb (sm_cons sm_var sm_nil) sc_lenD) sm_var sr_eq))
(ss_seq (ss_asg (sm_op sm_var sm_int sr_int) (sg_name (js := [8]) (by decide)))
(ss_seq (ss_if (sm_or (sm_test (sm_op (sm_callH (sm_cons sm_var (sm_cons sm_var sm_nil))) sm_var sr_ne)) (sm_test (sm_op (sm_dget sm_var sm_str) sm_var sr_ne)))
(ss_ret sm_bl)
ss_next)
(ss_seq (ss_asg (sm_cb (sm_cons sm_var sm_nil) sc_dictCp) (sg_name (js := [6]) (by decide)))
(ss_if (sm_or (sm_test (sm_op (sm_callH (sm_cons sm_var sm_nil)) (sm_op (sm_cb (sm_cons sm_var sm_nil) sc_lenD) sm_var sr_eq) sr_ne)) (sm_B (sm_callH (sm_cons sm_var (sm_cons sm_var sm_nil)))))
(ss_ret sm_bl)
ss_next))))
ss_next))
ss_next))
(ss_if (sm_test (sm_op (sm_callQ (sm_cons (sm_op sm_var sm_int sr_intC) (sm_cons sm_var sm_nil))) (sm_op (sm_op sm_var sm_int sr_intC) sm_var sr_intC) sr_ne))
(ss_ret sm_bl)
ss_next))))
(ss_ret sm_bl))))))))))
/-! ### what the top has left -/
structure Fx (K : PySem.W.Frag) (mg : Str → Option Value) where
  a_zero_clock : Addr
  d_zero_clock : FuncData
  F_zero_clock : Fun K "zero_clock" "zero_clock" s_zero_clock a_zero_clock d_zero_clock
  b_zero_clock : Binds K d_zero_clock ["machines"] []
  g_zero_clock : mg "zero_clock" = some (.ref a_zero_clock)
  a_manager_of : Addr
  d_manager_of : FuncData
  F_manager_of : Fun K "manager_of" "manager_of" s_manager_of a_manager_of d_manager_of
  b_manager_of : Binds K d_manager_of ["lock", "machines"] []
  g_manager_of : mg "manager_of" = some (.ref a_manager_of)
  a_new_lock : Addr
  d_new_lock : FuncData
  F_new_lock : Fun K "new_lock" "new_lock" s_new_lock a_new_lock d_new_lock
  b_new_lock : Binds K d_new_lock ["machines"] []
  g_new_lock : mg "new_lock" = some (.ref a_new_lock)
  a_granted : Addr
  d_granted : FuncData
  F_granted : Fun K "granted" "granted" s_granted a_granted d_granted
  b_granted : Binds K d_granted ["lock", "machine", "clock"] []
  g_granted : mg "granted" = some (.ref a_granted)
  a_ask : Addr
  d_ask : FuncData
  F_ask : Fun K "ask" "ask" s_ask a_ask d_ask
  b_ask : Binds K d_ask ["lock", "machine", "clock"] []
  g_ask : mg "ask" = some (.ref a_ask)
  a_let_go : Addr
  d_let_go : FuncData
  F_let_go : Fun K "let_go" "let_go" s_let_go a_let_go d_let_go
  b_let_go : Binds K d_let_go ["lock", "clock"] []
  g_let_go : mg "let_go" = some (.ref a_let_go)
  a_new_master : Addr
  d_new_master : FuncData
  F_new_master : Fun K "new_master" "new_master" s_new_master a_new_master d_new_master
  b_new_master : Binds K d_new_master [] []
  g_new_master : mg "new_master" = some (.ref a_new_master)
  a_come : Addr
  d_come : FuncData
  F_come : Fun K "come" "come" s_come a_come d_come
  b_come : Binds K d_come ["master", "machine", "clock", "ended"] []
  g_come : mg "come" = some (.ref a_come)
  a_has_all : Addr
  d_has_all : FuncData
  F_has_all : Fun K "has_all" "has_all" s_has_all a_has_all d_has_all
  b_has_all : Binds K d_has_all ["rows", "machines"] []
  g_has_all : mg "has_all" = some (.ref a_has_all)
  a_is_complete : Addr
  d_is_complete : FuncData
  F_is_complete : Fun K "is_complete" "is_complete" s_is_complete a_is_complete d_is_complete
  b_is_complete : Binds K d_is_complete ["master", "machines"] []
  g_is_complete : mg "is_complete" = some (.ref a_is_complete)
  a_clocks_of : Addr
  d_clocks_of : FuncData
  F_clocks_of : Fun K "clocks_of" "clocks_of" s_clocks_of a_clocks_of d_clocks_of
  b_clocks_of : Binds K d_clocks_of ["master"] []
  g_clocks_of : mg "clocks_of" = some (.ref a_clocks_of)
  a_go_on : Addr
  d_go_on : FuncData
  F_go_on : Fun K "go_on" "go_on" s_go_on a_go_on d_go_on
  b_go_on : Binds K d_go_on ["master", "machines"] []
  g_go_on : mg "go_on" = some (.ref a_go_on)
  a_is_over : Addr
  d_is_over : FuncData
  F_is_over : Fun K "is_over" "is_over" s_is_over a_is_over d_is_over
  b_is_over : Binds K d_is_over ["master"] []
  g_is_over : mg "is_over" = some (.ref a_is_over)
  a__law_next : Addr
  d__law_next : FuncData
  F__law_next : Fun K "_law_next" "_law_next" s__law_next a__law_next d__law_next
  b__law_next : Binds K d__law_next ["tape", "many"] []
  g__law_next : mg "_law_next" = some (.ref a__law_next)
  a__law_lock : Addr
  d__law_lock : FuncData
  F__law_lock : Fun K "_law_lock" "_law_lock" s__law_lock a__law_lock d__law_lock
  b__law_lock : Binds K d__law_lock ["tape", "lock", "world", "clock", "machines"] []
  g__law_lock : mg "_law_lock" = some (.ref a__law_lock)
  a__law_master : Addr
  d__law_master : FuncData
  F__law_master : Fun K "_law_master" "_law_master" s__law_master a__law_master d__law_master
  b__law_master : Binds K d__law_master ["tape", "master", "came", "ended", "clock", "machines"] []
  g__law_master : mg "_law_master" = some (.ref a__law_master)
  a_law : Addr
  d_law : FuncData
  F_law : Fun K "law" "law" s_law a_law d_law
  b_law : Binds K d_law ["script"] []
  g_law : mg "law" = some (.ref a_law)
  m_abs : mg "abs" = none
  m_all : mg "all" = none
  m_bool : mg "bool" = none
  m_dict : mg "dict" = none
  m_int : mg "int" = none
  m_isinstance : mg "isinstance" = none
  m_len : mg "len" = none
  m_list : mg "list" = none
  m_range : mg "range" = none
  m_tuple : mg "tuple" = none
section
variable {P : Program} {w : World} {K : PySem.W.Frag} {mg : Str → Option Value} {base : Heap}
theorem ps_zero_clock (Z : Fx K mg)   {cdv : Value} {A : Around} {outer : List PySem.Env} {s : Shared} {H : Hp} {E : XK} (hr : Room 0 (A.deeper (envOfC "zero_clock" (defScope s_zero_clock) s.heap.objs.size Z.a_zero_clock cdv))) :
    PSs (cxOf CX0 P w K mg base N_zero_clock "zero_clock" (defScope s_zero_clock) Z.a_zero_clock cdv A outer s H E).nox (defBody s_zero_clock) (tr_zero_clock K) :=
  (pss_one (ps_ret (pe_op op_repA (pe_tup (pa_cons pe_int pa_nil)) (pv 0))))
theorem ps_manager_of (Z : Fx K mg)   {cdv : Value} {A : Around} {outer : List PySem.Env} {s : Shared} {H : Hp} {E : XK} (hr : Room 0 (A.deeper (envOfC "manager_of" (defScope s_manager_of) s.heap.objs.size Z.a_manager_of cdv))) :
    PSs (cxOf CX0 P w K mg base N_manager_of "manager_of" (defScope s_manager_of) Z.a_manager_of cdv A outer s H E).nox (defBody s_manager_of) (tr_manager_of K) :=
  (pss_one (ps_ret (pe_op op_mod (pv 0) (pv 1))))
theorem ps_new_lock (Z : Fx K mg)  (G_zero_clock : FnOk P w K mg base CX0 1 Z.a_zero_clock Z.d_zero_clock ["machines"] (spQ K pf_zero_clock)) {cdv : Value} {A : Around} {outer : List PySem.Env} {s : Shared} {H : Hp} {E : XK} (hr : Room 1 (A.deeper (envOfC "new_lock" (defScope s_new_lock) s.heap.objs.size Z.a_new_lock cdv))) :
    PSs (cxOf CX0 P w K mg base N_new_lock "new_lock" (defScope s_new_lock) Z.a_new_lock cdv A outer s H E).nox (defBody s_new_lock) (tr_new_lock K) :=
  (pss_one (ps_ret (pe_disp (pps_cons pe_str pe_non (pps_cons pe_str (pe_lst pa_nil) (pps_cons pe_str (pe_call (G_zero_clock) (hr.mono (by decide)) (by rfl) Z.g_zero_clock Z.F_zero_clock.kp Z.b_zero_clock .nil pass0 (pa_cons (pv 0) pa_nil)) (pps_cons pe_str pe_int pps_nil)))) (by rfl) (by rfl) (by simp) (by decide))))
theorem ps_granted (Z : Fx K mg)   {cdv : Value} {A : Around} {outer : List PySem.Env} {s : Shared} {H : Hp} {E : XK} (hr : Room 0 (A.deeper (envOfC "granted" (defScope s_granted) s.heap.objs.size Z.a_granted cdv))) :
    PSs (cxOf CX0 P w K mg base N_granted "granted" (defScope s_granted) Z.a_granted cdv A outer s H E).nox (defBody s_granted) (tr_granted K) :=
  (pss_cons (ps_dput (hu_of hr) (pv 0) pe_str (pv 1) (by rfl))
(pss_cons (ps_dput (hu_of hr) (pv 0) pe_str (pe_op op_add (pe_dget (hu_of hr) (pv 0) pe_str (fun _ _ => rfl)) pe_int) (by rfl))
(pss_one (ps_ret (pe_tup (pa_cons (pv 1) (pa_cons (pv 2) (pa_cons (pe_dget (hu_of hr) (pv 0) pe_str (fun _ _ => rfl)) (pa_cons (pe_dget (hu_of hr) (pv 0) pe_str (fun _ _ => rfl)) pa_nil)))))))))
theorem ps_ask (Z : Fx K mg)  (G_granted : FnOk P w K mg base CX0 1 Z.a_granted Z.d_granted ["lock", "machine", "clock"] (spH K fn_granted)) {cdv : Value} {A : Around} {outer : List PySem.Env} {s : Shared} {H : Hp} {E : XK} (hr : Room 1 (A.deeper (envOfC "ask" (defScope s_ask) s.heap.objs.size Z.a_ask cdv))) :
    PSs (cxOf CX0 P w K mg base N_ask "ask" (defScope s_ask) Z.a_ask cdv A outer s H E).nox (defBody s_ask) (tr_ask K) :=
  (pss_cons (ps_if (pt_cmpR op_isN1 (pe_dget (hu_of hr) (pv 0) pe_str (fun _ _ => rfl)) pe_non (nomark _))
(pss_one (ps_ret (pe_call (G_granted) (hr.mono (by decide)) (by rfl) Z.g_granted Z.F_granted.kp Z.b_granted .nil pass0 (pa_cons (pv 0) (pa_cons (pv 1) (pa_cons (pv 2) pa_nil))))))
pss_nil)
(pss_cons (ps_dput (hu_of hr) (pv 0) pe_str (pe_op op_catS (pe_dget (hu_of hr) (pv 0) pe_str (fun _ _ => rfl)) (pe_lst (pa_cons (pe_tup (pa_cons (pv 1) (pa_cons (pv 2) pa_nil))) pa_nil))) (by rfl))
(pss_one (ps_ret pe_non))))
theorem ps_let_go (Z : Fx K mg)  (G_granted : FnOk P w K mg base CX0 1 Z.a_granted Z.d_granted ["lock", "machine", "clock"] (spH K fn_granted)) {cdv : Value} {A : Around} {outer : List PySem.Env} {s : Shared} {H : Hp} {E : XK} (hr : Room 1 (A.deeper (envOfC "let_go" (defScope s_let_go) s.heap.objs.size Z.a_let_go cdv))) :
    PSs (cxOf CX0 P w K mg base N_let_go "let_go" (defScope s_let_go) Z.a_let_go cdv A outer s H E).nox (defBody s_let_go) (tr_let_go K) :=
  (pss_cons (ps_dput (hu_of hr) (pv 0) pe_str pe_non (by rfl))
(pss_cons (ps_dput (hu_of hr) (pv 0) pe_str (pv 1) (by rfl))
(pss_cons (ps_if (pt_cmpR (op_eqD hr.units) (pe_callB cr_len (by rfl) Z.m_len (by decide +kernel) (pa_cons (pe_dget (hu_of hr) (pv 0) pe_str (fun _ _ => rfl)) pa_nil)) pe_int (nomark _))
(pss_one (ps_ret pe_non))
pss_nil)
(pss_cons (ps_asg (pe_ix ix_seq (pe_dget (hu_of hr) (pv 0) pe_str (fun _ _ => rfl)) pe_int (fun _ _ => rfl)) (pg_tup (by rfl) (pgs_cons (pg_name (i := 2) sc_let_go.nd rfl (.inl rfl)) (pgs_cons (pg_name (i := 3) sc_let_go.nd rfl (.inl rfl)) pgs_nil))))
(pss_cons (ps_dput (hu_of hr) (pv 0) pe_str (pe_slice sl_list (pe_dget (hu_of hr) (pv 0) pe_str (fun _ _ => rfl)) (po_some pe_int) po_none) (by rfl))
(pss_one (ps_ret (pe_call (G_granted) (hr.mono (by decide)) (by rfl) Z.g_granted Z.F_granted.kp Z.b_granted .nil pass0 (pa_cons (pv 0) (pa_cons (pv 2) (pa_cons (pv 3) pa_nil)))))))))))
theorem ps_new_master (Z : Fx K mg)   {cdv : Value} {A : Around} {outer : List PySem.Env} {s : Shared} {H : Hp} {E : XK} (hr : Room 0 (A.deeper (envOfC "new_master" (defScope s_new_master) s.heap.objs.size Z.a_new_master cdv))) :
    PSs (cxOf CX0 P w K mg base N_new_master "new_master" (defScope s_new_master) Z.a_new_master cdv A outer s H E).nox (defBody s_new_master) (tr_new_master K) :=
  (pss_one (ps_ret (pe_disp (pps_cons pe_str (pe_lst pa_nil) (pps_cons pe_str (pe_lst pa_nil) (pps_cons pe_str pe_int (pps_cons pe_str pe_bl pps_nil)))) (by rfl) (by rfl) (by simp) (by decide))))
theorem ps_come (Z : Fx K mg)   {cdv : Value} {A : Around} {outer : List PySem.Env} {s : Shared} {H : Hp} {E : XK} (hr : Room 0 (A.deeper (envOfC "come" (defScope s_come) s.heap.objs.size Z.a_come cdv))) :
    PSs (cxOf CX0 P w K mg base N_come "come" (defScope s_come) Z.a_come cdv A outer s H E).nox (defBody s_come) (tr_come K) :=
  (pss_cons (ps_set (i := 4) sc_come.nd rfl (.inl rfl) (pe_tup (pa_cons (pv 1) (pa_cons (pv 2) pa_nil))))
(pss_cons (ps_dput (hu_of hr) (pv 0) pe_str (pe_op op_catS (pe_dget (hu_of hr) (pv 0) pe_str (fun _ _ => rfl)) (pe_lst (pa_cons (pv 4) pa_nil))) (by rfl))
(pss_one (ps_if (pt_val (pv 3))
(pss_one (ps_dput (hu_of hr) (pv 0) pe_str (pe_op op_catS (pe_dget (hu_of hr) (pv 0) pe_str (fun _ _ => rfl)) (pe_lst (pa_cons (pv 4) pa_nil))) (by rfl)))
pss_nil))))
theorem ps_has_all (Z : Fx K mg)   {cdv : Value} {A : Around} {outer : List PySem.Env} {s : Shared} {H : Hp} {E : XK} (hr : Room 0 (A.deeper (envOfC "has_all" (defScope s_has_all) s.heap.objs.size Z.a_has_all cdv))) :
    PSs (cxOf CX0 P w K mg base N_has_all "has_all" (defScope s_has_all) Z.a_has_all cdv A outer s H E).nox (defBody s_has_all) (tr_has_all K) :=
  (pss_cons (ps_set (i := 2) sc_has_all.nd rfl (.inr rfl) (pe_lc (own := [("machine", 3), ("_", 4)]) (g := (gTup K 2 (gCons (gName 3) (gCons (gName 4) gNil)))) (tt := tYes) (te := (tVar 3)) rfl sc_has_all.nd (pi_list (pv 0)) (blkOk_by (N := N_has_all) (sc := defScope s_has_all) (by decide +kernel)) (fun _ _ _ _ _ => pg_tup (by rfl) (pgs_cons (pg_name (i := 3) sc_has_all.nd rfl (by first | exact Or.inl rfl | exact Or.inr rfl)) (pgs_cons (pg_name (i := 4) sc_has_all.nd rfl (by first | exact Or.inl rfl | exact Or.inr rfl)) pgs_nil))) (fun _ _ _ _ _ => pts_nil) (fun _ _ _ _ _ => (pv 3))))
(pss_one (ps_ret (pe_callB (cr_all rfl) (by rfl) Z.m_all (by decide +kernel) (pa_cons (pe_lc (own := [("machine", 3)]) (g := (gName 3)) (tt := tYes) (te := (tOp (rInD K) (tVar 3) (tVar 2))) rfl sc_has_all.nd (pi_range1 rfl Z.m_range (pa_cons (pv 1) pa_nil)) (blkOk_by (N := N_has_all) (sc := defScope s_has_all) (by decide +kernel)) (fun _ _ _ _ _ => pg_name (i := 3) sc_has_all.nd rfl (by first | exact Or.inl rfl | exact Or.inr rfl)) (fun _ _ _ _ _ => pts_nil) (fun _ _ _ _ _ => (pe_cmpR (op_inD (hu65 hr)) (pv 3) (pv 2) (by rfl)))) pa_nil)))))
theorem ps_is_complete (Z : Fx K mg)  (G_has_all : FnOk P w K mg base CX0 1 Z.a_has_all Z.d_has_all ["rows", "machines"] (spQ K pf_has_all)) (G_is_over : FnOk P w K mg base CX0 1 Z.a_is_over Z.d_is_over ["master"] (spH K fn_is_over)) {cdv : Value} {A : Around} {outer : List PySem.Env} {s : Shared} {H : Hp} {E : XK} (hr : Room 1 (A.deeper (envOfC "is_complete" (defScope s_is_complete) s.heap.objs.size Z.a_is_complete cdv))) :
    PSs (cxOf CX0 P w K mg base N_is_complete "is_complete" (defScope s_is_complete) Z.a_is_complete cdv A outer s H E).nox (defBody s_is_complete) (tr_is_complete K) :=
  (pss_one (ps_ret (pe_and (pe_not (pe_call (G_is_over) (hr.mono (by decide)) (by rfl) Z.g_is_over Z.F_is_over.kp Z.b_is_over .nil pass0 (pa_cons (pv 0) pa_nil))) (pe_one (pe_call (G_has_all) (hr.mono (by decide)) (by rfl) Z.g_has_all Z.F_has_all.kp Z.b_has_all .nil pass0 (pa_cons (pe_dget (hu_of hr) (pv 0) pe_str (fun _ _ => rfl)) (pa_cons (pv 1) pa_nil)))))))
theorem ps_clocks_of (Z : Fx K mg)   {cdv : Value} {A : Around} {outer : List PySem.Env} {s : Shared} {H : Hp} {E : XK} (hr : Room 0 (A.deeper (envOfC "clocks_of" (defScope s_clocks_of) s.heap.objs.size Z.a_clocks_of cdv))) :
    PSs (cxOf CX0 P w K mg base N_clocks_of "clocks_of" (defScope s_clocks_of) Z.a_clocks_of cdv A outer s H E).nox (defBody s_clocks_of) (tr_clocks_of K) :=
  (pss_one (ps_ret (pe_dc (own := [("machine", 1), ("clock", 2)]) (g := (gTup K 2 (gCons (gName 1) (gCons (gName 2) gNil)))) (tt := tYes) (tk := (tVar 1)) (tv := (tVar 2)) rfl sc_clocks_of.nd (pi_list (pe_dget (hu_of hr) (pv 0) pe_str (fun _ _ => rfl))) (blkOk_by (N := N_clocks_of) (sc := defScope s_clocks_of) (by decide +kernel)) (fun _ _ _ _ _ => pg_tup (by rfl) (pgs_cons (pg_name (i := 1) sc_clocks_of.nd rfl (by first | exact Or.inl rfl | exact Or.inr rfl)) (pgs_cons (pg_name (i := 2) sc_clocks_of.nd rfl (by first | exact Or.inl rfl | exact Or.inr rfl)) pgs_nil))) (fun _ _ _ _ _ => pts_nil) (fun _ _ _ _ _ => (pv 1)) (fun _ _ _ _ _ => (pv 2)))))
theorem ps_go_on (Z : Fx K mg)  (G_is_over : FnOk P w K mg base CX0 1 Z.a_is_over Z.d_is_over ["master"] (spH K fn_is_over)) (G_has_all : FnOk P w K mg base CX0 1 Z.a_has_all Z.d_has_all ["rows", "machines"] (spQ K pf_has_all)) {cdv : Value} {A : Around} {outer : List PySem.Env} {s : Shared} {H : Hp} {E : XK} (hr : Room 1 (A.deeper (envOfC "go_on" (defScope s_go_on) s.heap.objs.size Z.a_go_on cdv))) :
    PSs (cxOf CX0 P w K mg base N_go_on "go_on" (defScope s_go_on) Z.a_go_on cdv A outer s H E).nox (defBody s_go_on) (tr_go_on K) :=
  (pss_cons (ps_if (pt_not (pt_val (pe_call (G_is_over) (hr.mono (by decide)) (by rfl) Z.g_is_over Z.F_is_over.kp Z.b_is_over .nil pass0 (pa_cons (pv 0) pa_nil))))
(pss_cons (ps_dput (hu_of hr) (pv 0) pe_str (pe_op op_add (pe_dget (hu_of hr) (pv 0) pe_str (fun _ _ => rfl)) pe_int) (by rfl))
(pss_cons (ps_dput (hu_of hr) (pv 0) pe_str (pe_callTy cr_list (by rfl) Z.m_list (by decide +kernel) (pa_cons (pe_dget (hu_of hr) (pv 0) pe_str (fun _ _ => rfl)) pa_nil)) (by rfl))
(pss_one (ps_dput (hu_of hr) (pv 0) pe_str (pe_call (G_has_all) (hr.mono (by decide)) (by rfl) Z.g_has_all Z.F_has_all.kp Z.b_has_all .nil pass0 (pa_cons (pe_dget (hu_of hr) (pv 0) pe_str (fun _ _ => rfl)) (pa_cons (pv 1) pa_nil))) (by rfl)))))
pss_nil)
(pss_one (ps_ret (pe_dget (hu_of hr) (pv 0) pe_str (fun _ _ => rfl)))))
theorem ps_is_over (Z : Fx K mg)   {cdv : Value} {A : Around} {outer : List PySem.Env} {s : Shared} {H : Hp} {E : XK} (hr : Room 0 (A.deeper (envOfC "is_over" (defScope s_is_over) s.heap.objs.size Z.a_is_over cdv))) :
    PSs (cxOf CX0 P w K mg base N_is_over "is_over" (defScope s_is_over) Z.a_is_over cdv A outer s H E).nox (defBody s_is_over) (tr_is_over K) :=
  (pss_one (ps_ret (pe_dget (hu_of hr) (pv 0) pe_str (fun _ _ => rfl))))
theorem ps__law_next (Z : Fx K mg)   {cdv : Value} {A : Around} {outer : List PySem.Env} {s : Shared} {H : Hp} {E : XK} (hr : Room 0 (A.deeper (envOfC "_law_next" (defScope s__law_next) s.heap.objs.size Z.a__law_next cdv))) :
    PSs (cxOf CX0 P w K mg base N__law_next "_law_next" (defScope s__law_next) Z.a__law_next cdv A outer s H E).nox (defBody s__law_next) (tr__law_next K) :=
  (pss_cons (ps_set (i := 2) sc__law_next.nd rfl (.inl rfl) (pe_ix ix_seq (pv 0) pe_int (fun _ _ => rfl)))
(pss_cons (ps_if (pt_cmpR (op_eqD hr.units) (pv 2) pe_int (nomark _))
(pss_cons (ps_set (i := 3) sc__law_next.nd rfl (.inl rfl) pe_int)
(pss_cons (ps_if (pt_cmpR op_lt (pe_ix ix_seq (pv 0) pe_int (fun _ _ => rfl)) (pe_callB cr_len (by rfl) Z.m_len (by decide +kernel) (pa_cons (pe_ix ix_seq (pv 0) pe_int (fun _ _ => rfl)) pa_nil)) (nomark _))
(pss_cons (ps_set (i := 3) sc__law_next.nd rfl (.inl rfl) (pe_callB cr_abs (by rfl) Z.m_abs (by decide +kernel) (pa_cons (pe_callTy cr_int1 (by rfl) Z.m_int (by decide +kernel) (pa_cons (pe_ix ix_seq (pe_ix ix_seq (pv 0) pe_int (fun _ _ => rfl)) (pe_ix ix_seq (pv 0) pe_int (fun _ _ => rfl)) (fun _ _ => rfl)) pa_nil)) pa_nil)))
(pss_one (ps_asg (pe_op op_add (pe_ix ix_seq (pv 0) pe_int (fun _ _ => rfl)) pe_int) (pg_sub (pv 0) pe_int set_list))))
pss_nil)
(pss_cons (ps_set (i := 2) sc__law_next.nd rfl (.inl rfl) (pv 3))
(pss_one (ps_if (pt_cmpR op_lt (pv 3) (pe_op op_pow pe_int pe_int) (nomark _))
(pss_cons (ps_asg (pe_op op_mod (pe_callTy cr_int1 (by rfl) Z.m_int (by decide +kernel) (pa_cons (pe_op op_add (pe_op op_add (pe_op op_mulA (pe_ix ix_seq (pv 0) pe_int (fun _ _ => rfl)) pe_int) (pe_op op_mulA (pv 3) pe_int)) pe_int) pa_nil)) pe_int) (pg_sub (pv 0) pe_int set_list))
(pss_one (ps_ret (pe_op op_mod (pe_op op_mod (pe_callTy cr_int1 (by rfl) Z.m_int (by decide +kernel) (pa_cons (pe_op op_mulA (pe_op op_fdivW (pe_ix ix_seq (pv 0) pe_int (fun _ _ => rfl)) pe_int) pe_int) pa_nil)) pe_int) (pv 1)))))
pss_nil)))))
pss_nil)
(pss_cons (ps_asg (pe_op op_fdivW (pv 2) (pv 1)) (pg_sub (pv 0) pe_int set_list))
(pss_one (ps_ret (pe_op op_mod (pe_callTy cr_int1 (by rfl) Z.m_int (by decide +kernel) (pa_cons (pv 2) pa_nil)) (pv 1)))))))
theorem ps__law_lock (Z : Fx K mg)  (G__law_next : FnOk P w K mg base CX0 1 Z.a__law_next Z.d__law_next ["tape", "many"] (spH K fn__law_next)) (G_ask : FnOk P w K mg base CX0 2 Z.a_ask Z.d_ask ["lock", "machine", "clock"] (spH K fn_ask)) (G_let_go : FnOk P w K mg base CX0 2 Z.a_let_go Z.d_let_go ["lock", "clock"] (spH K fn_let_go)) {cdv : Value} {A : Around} {outer : List PySem.Env} {s : Shared} {H : Hp} {E : XK} (hr : Room 2 (A.deeper (envOfC "_law_lock" (defScope s__law_lock) s.heap.objs.size Z.a__law_lock cdv))) :
    PSs (cxOf CX0 P w K mg base N__law_lock "_law_lock" (defScope s__law_lock) Z.a__law_lock cdv A outer s H E).nox (defBody s__law_lock) (tr__law_lock K) :=
  (pss_cons (ps_set (i := 5) sc__law_lock.nd rfl (.inl rfl) (pe_call (G__law_next) (hr.mono (by decide)) (by rfl) Z.g__law_next Z.F__law_next.kp Z.b__law_next .nil pass0 (pa_cons (pv 0) (pa_cons (pv 4) pa_nil))))
(pss_cons (ps_setLc (i := 6) (own := [("row", 9)]) (g := (gName 9)) (tt := tYes) (te := (tOp (rIx K) (tVar 9) (tC (.int 0)))) rfl sc__law_lock.nd rfl rfl (sw_true rfl rfl rfl (by decide +kernel)) (pi_list (pe_ix ix_seq (pv 2) pe_int (fun _ _ => rfl))) (blkOk_by (N := N__law_lock) (sc := defScope s__law_lock) (by decide +kernel)) (fun _ _ _ _ _ => pg_name (i := 9) sc__law_lock.nd rfl (by first | exact Or.inl rfl | exact Or.inr rfl)) (fun _ _ _ _ _ => pts_nil) (fun _ _ _ _ _ => (pe_ix ix_seq (pv 9) pe_int (fun _ _ => rfl))))
(pss_cons (ps_if (pt_cmpR (op_eqD hr.units) (pe_ix ix_seq (pv 2) pe_int (fun _ _ => rfl)) (pv 5) (nomark _))
(pss_cons (ps_set (i := 7) sc__law_lock.nd rfl (.inl rfl) pe_non)
(pss_cons (ps_asg (pv 3) (pg_sub (pv 2) pe_int set_list))
(pss_cons (ps_asg pe_non (pg_sub (pv 2) pe_int set_list))
(pss_cons (ps_if (pt_cmpR (op_neD hr.units) (pe_ix ix_seq (pv 2) pe_int (fun _ _ => rfl)) (pe_lst pa_nil) (nomark _))
(pss_cons (ps_set (i := 8) sc__law_lock.nd rfl (.inl rfl) (pe_bm PySem.F.plainAttrs_list PySem.F.slot_list_pop PySem.F.type_list_pop mt_popAt (pe_ix ix_seq (pv 2) pe_int (fun _ _ => rfl)) (pa_cons pe_int pa_nil)))
(pss_cons (ps_asg (pe_op op_add (pe_ix ix_seq (pv 2) pe_int (fun _ _ => rfl)) pe_int) (pg_sub (pv 2) pe_int set_list))
(pss_cons (ps_asg (pe_ix ix_seq (pv 8) pe_int (fun _ _ => rfl)) (pg_sub (pv 2) pe_int set_list))
(pss_one (ps_set (i := 7) sc__law_lock.nd rfl (.inl rfl) (pe_tup (pa_cons (pe_ix ix_seq (pv 8) pe_int (fun _ _ => rfl)) (pa_cons (pe_ix ix_seq (pv 8) pe_int (fun _ _ => rfl)) (pa_cons (pe_ix ix_seq (pv 2) pe_int (fun _ _ => rfl)) (pa_cons (pv 3) pa_nil))))))))))
pss_nil)
(pss_one (ps_ret (pe_cmpR (op_eqD hr.units) (pe_call (G_let_go) (hr.mono (by decide)) (by rfl) Z.g_let_go Z.F_let_go.kp Z.b_let_go .nil pass0 (pa_cons (pv 1) (pa_cons (pv 3) pa_nil))) (pv 7) (nomark _))))))))
pss_nil)
(pss_cons (ps_if (pt_cmpR (op_inD (hu65 hr)) (pv 5) (pv 6) (by rfl))
(pss_one (ps_ret pe_bl))
pss_nil)
(pss_cons (ps_set (i := 7) sc__law_lock.nd rfl (.inl rfl) pe_non)
(pss_cons (ps_if (pt_cmpR op_isN1 (pe_ix ix_seq (pv 2) pe_int (fun _ _ => rfl)) pe_non (nomark _))
(pss_cons (ps_asg (pv 5) (pg_sub (pv 2) pe_int set_list))
(pss_cons (ps_asg (pe_op op_add (pe_ix ix_seq (pv 2) pe_int (fun _ _ => rfl)) pe_int) (pg_sub (pv 2) pe_int set_list))
(pss_one (ps_set (i := 7) sc__law_lock.nd rfl (.inl rfl) (pe_tup (pa_cons (pv 5) (pa_cons (pv 3) (pa_cons (pe_ix ix_seq (pv 2) pe_int (fun _ _ => rfl)) (pa_cons (pe_ix ix_seq (pv 2) pe_int (fun _ _ => rfl)) pa_nil)))))))))
(pss_one (ps_expr (pe_bm PySem.F.plainAttrs_list PySem.F.slot_list_append PySem.F.type_list_append mt_append (pe_ix ix_seq (pv 2) pe_int (fun _ _ => rfl)) (pa_cons (pe_tup (pa_cons (pv 5) (pa_cons (pv 3) pa_nil))) pa_nil)))))
(pss_one (ps_ret (pe_cmpR (op_eqD hr.units) (pe_call (G_ask) (hr.mono (by decide)) (by rfl) Z.g_ask Z.F_ask.kp Z.b_ask .nil pass0 (pa_cons (pv 1) (pa_cons (pv 5) (pa_cons (pv 3) pa_nil)))) (pv 7) (nomark _))))))))))
theorem ps__law_master (Z : Fx K mg)  (G__law_next : FnOk P w K mg base CX0 1 Z.a__law_next Z.d__law_next ["tape", "many"] (spH K fn__law_next)) (G_is_complete : FnOk P w K mg base CX0 2 Z.a_is_complete Z.d_is_complete ["master", "machines"] (spH K fn_is_complete)) (G_come : FnOk P w K mg base CX0 1 Z.a_come Z.d_come ["master", "machine", "clock", "ended"] (spH K fn_come)) (G_clocks_of : FnOk P w K mg base CX0 1 Z.a_clocks_of Z.d_clocks_of ["master"] (spH K fn_clocks_of)) {cdv : Value} {A : Around} {outer : List PySem.Env} {s : Shared} {H : Hp} {E : XK} (hr : Room 2 (A.deeper (envOfC "_law_master" (defScope s__law_master) s.heap.objs.size Z.a__law_master cdv))) :
    PSs (cxOf CX0 P w K mg base N__law_master "_law_master" (defScope s__law_master) Z.a__law_master cdv A outer s H E).nox (defBody s__law_master) (tr__law_master K) :=
  (pss_cons (ps_set (i := 6) sc__law_master.nd rfl (.inl rfl) (pe_call (G__law_next) (hr.mono (by decide)) (by rfl) Z.g__law_next Z.F__law_next.kp Z.b__law_next .nil pass0 (pa_cons (pv 0) (pa_cons (pv 5) pa_nil))))
(pss_cons (ps_if (pt_cmp (pc_dnotin (hu_of hr) (pv 6) (pv 2)) (by rfl))
(pss_cons (ps_set (i := 7) sc__law_master.nd rfl (.inl rfl) (pe_cmpR (op_eqD hr.units) (pe_call (G__law_next) (hr.mono (by decide)) (by rfl) Z.g__law_next Z.F__law_next.kp Z.b__law_next .nil pass0 (pa_cons (pv 0) (pa_cons pe_int pa_nil))) pe_int (nomark _)))
(pss_cons (ps_expr (pe_call (G_come) (hr.mono (by decide)) (by rfl) Z.g_come Z.F_come.kp Z.b_come .nil pass0 (pa_cons (pv 1) (pa_cons (pv 6) (pa_cons (pv 4) (pa_cons (pv 7) pa_nil))))))
(pss_cons (ps_dput (hu_of hr) (pv 2) (pv 6) (pv 4) (by rfl))
(pss_one (ps_if (pt_val (pv 7))
(pss_one (ps_dput (hu_of hr) (pv 3) (pv 6) (pv 4) (by rfl)))
pss_nil)))))
pss_nil)
(pss_cons (ps_set (i := 8) sc__law_master.nd rfl (.inl rfl) (pe_cmpR (op_eqD hr.units) (pe_callB call_lenD (by rfl) Z.m_len (by decide +kernel) (pa_cons (pv 2) pa_nil)) (pv 5) (nomark _)))
(pss_cons (ps_set (i := 9) sc__law_master.nd rfl (.inl rfl) (pe_call (G_is_complete) (hr.mono (by decide)) (by rfl) Z.g_is_complete Z.F_is_complete.kp Z.b_is_complete .nil pass0 (pa_cons (pv 1) (pa_cons (pv 5) pa_nil))))
(pss_one (ps_ret (pe_and (pe_callB call_isi (by rfl) Z.m_isinstance (by decide +kernel) (pa_cons (pv 9) (pa_cons (pe_bltn (v := .ty "bool") (by rfl) Z.m_bool (by decide +kernel) rfl) pa_nil))) (pe_and (pe_cmpR (op_eqD hr.units) (pv 9) (pv 8) (nomark _)) (pe_one (pe_cmpR (op_eqDk (hu65 hr)) (pe_call (G_clocks_of) (hr.mono (by decide)) (by rfl) Z.g_clocks_of Z.F_clocks_of.kp Z.b_clocks_of .nil pass0 (pa_cons (pv 1) pa_nil)) (pv 2) (nomark _)))))))))))
theorem ps_law (Z : Fx K mg)  (G_new_lock : FnOk P w K mg base CX0 2 Z.a_new_lock Z.d_new_lock ["machines"] (spH K fn_new_lock)) (G_new_master : FnOk P w K mg base CX0 1 Z.a_new_master Z.d_new_master [] (spH K fn_new_master)) (G__law_next : FnOk P w K mg base CX0 1 Z.a__law_next Z.d__law_next ["tape", "many"] (spH K fn__law_next)) (G_manager_of : FnOk P w K mg base CX0 1 Z.a_manager_of Z.d_manager_of ["lock", "machines"] (spQ K pf_manager_of)) (G__law_lock : FnOk P w K mg base CX0 3 Z.a__law_lock Z.d__law_lock ["tape", "lock", "world", "clock", "machines"] (spH K fn__law_lock)) (G_is_over : FnOk P w K mg base CX0 1 Z.a_is_over Z.d_is_over ["master"] (spH K fn_is_over)) (G__law_master : FnOk P w K mg base CX0 3 Z.a__law_master Z.d__law_master ["tape", "master", "came", "ended", "clock", "machines"] (spH K fn__law_master)) (G_is_complete : FnOk P w K mg base CX0 2 Z.a_is_complete Z.d_is_complete ["master", "machines"] (spH K fn_is_complete)) (G_go_on : FnOk P w K mg base CX0 2 Z.a_go_on Z.d_go_on ["master", "machines"] (spH K fn_go_on)) {cdv : Value} {A : Around} {outer : List PySem.Env} {s : Shared} {H : Hp} {E : XK} (hr : Room 3 (A.deeper (envOfC "law" (defScope s_law) s.heap.objs.size Z.a_law cdv))) :
    PSs (cxOf CX0 P w K mg base N_law "law" (defScope s_law) Z.a_law cdv A outer s H E).nox (defBody s_law) (tr_law K) :=
  (pss_cons (ps_set (i := 1) sc_law.nd rfl (.inr rfl) (pe_lst (pa_cons (pe_callTy cr_list (by rfl) Z.m_list (by decide +kernel) (pa_cons (pv 0) pa_nil)) (pa_cons pe_int (pa_cons pe_int (pa_cons pe_int pa_nil))))))
(pss_cons (ps_set (i := 2) sc_law.nd rfl (.inl rfl) (pe_op op_add pe_int (pe_call (G__law_next) (hr.mono (by decide)) (by rfl) Z.g__law_next Z.F__law_next.kp Z.b__law_next .nil pass0 (pa_cons (pv 1) (pa_cons pe_int pa_nil)))))
(pss_cons (ps_set (i := 3) sc_law.nd rfl (.inl rfl) (pe_call (G_new_lock) (hr.mono (by decide)) (by rfl) Z.g_new_lock Z.F_new_lock.kp Z.b_new_lock .nil pass0 (pa_cons (pv 2) pa_nil)))
(pss_cons (ps_set (i := 4) sc_law.nd rfl (.inl rfl) (pe_lst (pa_cons pe_non (pa_cons (pe_lst pa_nil) (pa_cons (pe_op op_repA (pe_tup (pa_cons pe_int pa_nil)) (pv 2)) (pa_cons pe_int pa_nil))))))
(pss_cons (ps_set (i := 5) sc_law.nd rfl (.inl rfl) (pe_call0 (G_new_master) (hr.mono (by decide)) (by rfl) Z.g_new_master Z.F_new_master.kp Z.b_new_master .nil pass0))
(pss_cons (ps_set (i := 6) sc_law.nd rfl (.inl rfl) pe_dnewK)
(pss_cons (ps_set (i := 7) sc_law.nd rfl (.inl rfl) pe_dnewK)
(pss_cons (ps_set (i := 8) sc_law.nd rfl (.inl rfl) pe_int)
(pss_cons (ps_for PassesOwn.never rfl (pi_range1 rfl Z.m_range (pa_cons (pe_op op_add pe_int (pe_call (G__law_next) (hr.mono (by decide)) (by rfl) Z.g__law_next Z.F__law_next.kp Z.b__law_next .nil pass0 (pa_cons (pv 1) (pa_cons pe_int pa_nil)))) pa_nil)) (pg_name (i := 9) sc_law.nd rfl (.inl rfl))
(pss_cons (ps_set (i := 10) sc_law.nd rfl (.inl rfl) (pe_callTy cr_tup (by rfl) Z.m_tuple (by decide +kernel) (pa_cons (pe_lc (own := [("k", 11)]) (g := (gName 11)) (tt := tYes) (te := (tCall (spH K fn__law_next) [] E0 (tCons (tVar 1) (tCons (tC (.int 9)) tNil)))) rfl sc_law.nd (pi_range1 rfl Z.m_range (pa_cons (pv 2) pa_nil)) (blkOk_by (N := N_law) (sc := defScope s_law) (by decide +kernel)) (fun _ _ _ _ _ => pg_name (i := 11) sc_law.nd rfl (by first | exact Or.inl rfl | exact Or.inr rfl)) (fun _ _ _ _ _ => pts_nil) (fun _ _ _ _ _ => (pe_call (G__law_next) (hr.mono (by decide)) (by rfl) Z.g__law_next Z.F__law_next.kp Z.b__law_next .nil pass0 (pa_cons (pv 1) (pa_cons pe_int pa_nil))))) pa_nil)))
(pss_cons (ps_if (pt_cmpR (op_eqD hr.units) (pe_call (G__law_next) (hr.mono (by decide)) (by rfl) Z.g__law_next Z.F__law_next.kp Z.b__law_next .nil pass0 (pa_cons (pv 1) (pa_cons pe_int pa_nil))) pe_int (nomark _))
(pss_cons (ps_if (pt_not (pt_val (pe_call (G__law_lock) (hr.mono (by decide)) (by rfl) Z.g__law_lock Z.F__law_lock.kp Z.b__law_lock .nil pass0 (pa_cons (pv 1) (pa_cons (pv 3) (pa_cons (pv 4) (pa_cons (pv 10) (pa_cons (pv 2) pa_nil))))))))
(pss_one (ps_ret pe_bl))
pss_nil)
(pss_one (ps_if (PW.pt (pw_or (pt_cmpR (op_neD hr.units) (pe_dget (hu_of hr) (pv 3) pe_str (fun _ _ => rfl)) (pe_ix ix_seq (pv 4) pe_int (fun _ _ => rfl)) (nomark _)) (pw_or (pt_cmpR (op_neD hr.units) (pe_dget (hu_of hr) (pv 3) pe_str (fun _ _ => rfl)) (pe_ix ix_seq (pv 4) pe_int (fun _ _ => rfl)) (nomark _)) (pw_or1 (pt_cmpR (op_neD hr.units) (pe_dget (hu_of hr) (pv 3) pe_str (fun _ _ => rfl)) (pe_ix ix_seq (pv 4) pe_int (fun _ _ => rfl)) (nomark _))))))
(pss_one (ps_ret pe_bl))
pss_nil)))
(pss_one (ps_if (pt_not (pt_val (pe_call (G_is_over) (hr.mono (by decide)) (by rfl) Z.g_is_over Z.F_is_over.kp Z.b_is_over .nil pass0 (pa_cons (pv 5) pa_nil))))
(pss_cons (ps_if (pt_not (pt_val (pe_call (G__law_master) (hr.mono (by decide)) (by rfl) Z.g__law_master Z.F__law_master.kp Z.b__law_master .nil pass0 (pa_cons (pv 1) (pa_cons (pv 5) (pa_cons (pv 6) (pa_cons (pv 7) (pa_cons (pv 10) (pa_cons (pv 2) pa_nil)))))))))
(pss_one (ps_ret pe_bl))
pss_nil)
(pss_one (ps_if (pt_cmpR (op_eqD hr.units) (pe_callB call_lenD (by rfl) Z.m_len (by decide +kernel) (pa_cons (pv 6) pa_nil)) (pv 2) (nomark _))
(pss_cons (ps_set (i := 8) sc_law.nd rfl (.inl rfl) (pe_op op_add (pv 8) pe_int))
(pss_cons (ps_if (PW.pt (pw_or (pt_cmpR (op_neD hr.units) (pe_call (G_go_on) (hr.mono (by decide)) (by rfl) Z.g_go_on Z.F_go_on.kp Z.b_go_on .nil pass0 (pa_cons (pv 5) (pa_cons (pv 2) pa_nil))) (pv 8) (nomark _)) (pw_or1 (pt_cmpR (op_neD hr.units) (pe_dget (hu_of hr) (pv 5) pe_str (fun _ _ => rfl)) (pv 8) (nomark _)))))
(pss_one (ps_ret pe_bl))
pss_nil)
(pss_cons (ps_set (i := 6) sc_law.nd rfl (.inl rfl) (pe_callTy cr_dictCp (by rfl) Z.m_dict (by decide +kernel) (pa_cons (pv 7) pa_nil)))
(pss_one (ps_if (PW.pt (pw_or (pt_cmpR (op_neD hr.units) (pe_call (G_is_over) (hr.mono (by decide)) (by rfl) Z.g_is_over Z.F_is_over.kp Z.b_is_over .nil pass0 (pa_cons (pv 5) pa_nil)) (pe_cmpR (op_eqD hr.units) (pe_callB call_lenD (by rfl) Z.m_len (by decide +kernel) (pa_cons (pv 7) pa_nil)) (pv 2) (nomark _)) (nomark _)) (pw_or1 (pt_val (pe_call (G_is_complete) (hr.mono (by decide)) (by rfl) Z.g_is_complete Z.F_is_complete.kp Z.b_is_complete .nil pass0 (pa_cons (pv 5) (pa_cons (pv 2) pa_nil)))))))
(pss_one (ps_ret pe_bl))
pss_nil)))))
pss_nil)))
pss_nil)))
(pss_one (ps_if (pt_cmpR (op_neD hr.units) (pe_call (G_manager_of) (hr.mono (by decide)) (by rfl) Z.g_manager_of Z.F_manager_of.kp Z.b_manager_of .nil pass0 (pa_cons (pe_op op_mod (pv 9) pe_int) (pa_cons (pv 2) pa_nil))) (pe_op op_mod (pe_op op_mod (pv 9) pe_int) (pv 2)) (nomark _))
(pss_one (ps_ret pe_bl))
pss_nil)))))
(pss_one (ps_ret pe_bl)))))))))))
theorem ok_zero_clock (Z : Fx K mg)  : FnOk P w K mg base CX0 1 Z.a_zero_clock Z.d_zero_clock ["machines"] (spQ K pf_zero_clock) :=
  fn_okQ Z.F_zero_clock sc_zero_clock rfl rfl (fun _ _ _ _ _ _ hr => ps_zero_clock Z  hr) (sim_zero_clock K)
theorem ok_manager_of (Z : Fx K mg)  : FnOk P w K mg base CX0 1 Z.a_manager_of Z.d_manager_of ["lock", "machines"] (spQ K pf_manager_of) :=
  fn_okQ Z.F_manager_of sc_manager_of rfl rfl (fun _ _ _ _ _ _ hr => ps_manager_of Z  hr) (sim_manager_of K)
theorem ok_new_lock (Z : Fx K mg)  : FnOk P w K mg base CX0 2 Z.a_new_lock Z.d_new_lock ["machines"] (spH K fn_new_lock) :=
  fn_okH Z.F_new_lock sc_new_lock rfl rfl (fun _ _ _ _ _ _ hr => ps_new_lock Z (ok_zero_clock Z) hr) (sim_new_lock K)
theorem ok_granted (Z : Fx K mg)  : FnOk P w K mg base CX0 1 Z.a_granted Z.d_granted ["lock", "machine", "clock"] (spH K fn_granted) :=
  fn_okH Z.F_granted sc_granted rfl rfl (fun _ _ _ _ _ _ hr => ps_granted Z  hr) (sim_granted K)
theorem ok_ask (Z : Fx K mg)  : FnOk P w K mg base CX0 2 Z.a_ask Z.d_ask ["lock", "machine", "clock"] (spH K fn_ask) :=
  fn_okH Z.F_ask sc_ask rfl rfl (fun _ _ _ _ _ _ hr => ps_ask Z (ok_granted Z) hr) (sim_ask K)
theorem ok_let_go (Z : Fx K mg)  : FnOk P w K mg base CX0 2 Z.a_let_go Z.d_let_go ["lock", "clock"] (spH K fn_let_go) :=
  fn_okH Z.F_let_go sc_let_go rfl rfl (fun _ _ _ _ _ _ hr => ps_let_go Z (ok_granted Z) hr) (sim_let_go K)
theorem ok_new_master (Z : Fx K mg)  : FnOk P w K mg base CX0 1 Z.a_new_master Z.d_new_master [] (spH K fn_new_master) :=
  fn_okH Z.F_new_master sc_new_master rfl rfl (fun _ _ _ _ _ _ hr => ps_new_master Z  hr) (sim_new_master K)
theorem ok_come (Z : Fx K mg)  : FnOk P w K mg base CX0 1 Z.a_come Z.d_come ["master", "machine", "clock", "ended"] (spH K fn_come) :=
  fn_okH Z.F_come sc_come rfl rfl (fun _ _ _ _ _ _ hr => ps_come Z  hr) (sim_come K)
theorem ok_has_all (Z : Fx K mg)  : FnOk P w K mg base CX0 1 Z.a_has_all Z.d_has_all ["rows", "machines"] (spQ K pf_has_all) :=
  fn_okQ Z.F_has_all sc_has_all rfl rfl (fun _ _ _ _ _ _ hr => ps_has_all Z  hr) (sim_has_all K)
theorem ok_is_over (Z : Fx K mg)  : FnOk P w K mg base CX0 1 Z.a_is_over Z.d_is_over ["master"] (spH K fn_is_over) :=
  fn_okH Z.F_is_over sc_is_over rfl rfl (fun _ _ _ _ _ _ hr => ps_is_over Z  hr) (sim_is_over K)
theorem ok_is_complete (Z : Fx K mg)  : FnOk P w K mg base CX0 2 Z.a_is_complete Z.d_is_complete ["master", "machines"] (spH K fn_is_complete) :=
  fn_okH Z.F_is_complete sc_is_complete rfl rfl (fun _ _ _ _ _ _ hr => ps_is_complete Z (ok_has_all Z) (ok_is_over Z) hr) (sim_is_complete K)
theorem ok_clocks_of (Z : Fx K mg)  : FnOk P w K mg base CX0 1 Z.a_clocks_of Z.d_clocks_of ["master"] (spH K fn_clocks_of) :=
  fn_okH Z.F_clocks_of sc_clocks_of rfl rfl (fun _ _ _ _ _ _ hr => ps_clocks_of Z  hr) (sim_clocks_of K)
theorem ok_go_on (Z : Fx K mg)  : FnOk P w K mg base CX0 2 Z.a_go_on Z.d_go_on ["master", "machines"] (spH K fn_go_on) :=
  fn_okH Z.F_go_on sc_go_on rfl rfl (fun _ _ _ _ _ _ hr => ps_go_on Z (ok_is_over Z) (ok_has_all Z) hr) (sim_go_on K)
theorem ok__law_next (Z : Fx K mg)  : FnOk P w K mg base CX0 1 Z.a__law_next Z.d__law_next ["tape", "many"] (spH K fn__law_next) :=
  fn_okH Z.F__law_next sc__law_next rfl rfl (fun _ _ _ _ _ _ hr => ps__law_next Z  hr) (sim__law_next K)
theorem ok__law_lock (Z : Fx K mg)  : FnOk P w K mg base CX0 3 Z.a__law_lock Z.d__law_lock ["tape", "lock", "world", "clock", "machines"] (spH K fn__law_lock) :=
  fn_okH Z.F__law_lock sc__law_lock rfl rfl (fun _ _ _ _ _ _ hr => ps__law_lock Z (ok__law_next Z) (ok_ask Z) (ok_let_go Z) hr) (sim__law_lock K)
theorem ok__law_master (Z : Fx K mg)  : FnOk P w K mg base CX0 3 Z.a__law_master Z.d__law_master ["tape", "master", "came", "ended", "clock", "machines"] (spH K fn__law_master) :=
  fn_okH Z.F__law_master sc__law_master rfl rfl (fun _ _ _ _ _ _ hr => ps__law_master Z (ok__law_next Z) (ok_is_complete Z) (ok_come Z) (ok_clocks_of Z) hr) (sim__law_master K)
theorem ok_law (Z : Fx K mg)  : FnOk P w K mg base CX0 4 Z.a_law Z.d_law ["script"] (spQ K pf_law) :=
  fn_okQ Z.F_law sc_law rfl rfl (fun _ _ _ _ _ _ hr => ps_law Z (ok_new_lock Z) (ok_new_master Z) (ok__law_next Z) (ok_manager_of Z) (ok__law_lock Z) (ok_is_over Z) (ok__law_master Z) (ok_is_complete Z) (ok_go_on Z) hr) (sim_law K)
end
local macro_rules | `(tactic| walk_at "ev") => `(tactic| try simp only [mRet, mRetN, mCB, mCBF, mCons, mNil, e_mVar, mK, mOp, mUn, mIf, mTest, mNot, mAnd, mOr, mYes, mOfT, mAndV, mOrV, mNotV, mChain, mSeq, mAsg, mAug, mDrop, mNext, mBreak, mCont, mIfS, mTup, mLst, mDat, mNew, mPar, mIsi, mLen, mTupOf, mListOf, mSetL, mApp, mDGet, mDPut, mDIn, mDGet2, mDNew, mLenD, mDictCp, toHeap, toPure, List.set_cons_zero, List.set_cons_succ, List.getElem?_cons_zero, List.getElem?_cons_succ, Option.bind_some, Option.map_some, List.map_cons, List.map_nil, List.length_cons, List.length_nil, wipeM, reify_d, List.cons_append, List.nil_append, List.append_nil, List.replicate_succ, List.replicate_zero, if_true, if_false, Bool.not_true, Bool.not_false, reduceIte, Nat.reduceAdd, Nat.reduceSub, Nat.reduceLeDiff, Nat.reduceLT, Int.reduceLT, Int.reduceLE, Bool.false_eq_true, Option.bind_none, Option.map_none, decide_true, decide_false, e_arg1, e_args1, e_args2, e_argsTT, e_asI, e_asB, e_itL, e_itT, e_itM, e_isTL, e_isTT, e_isTM, e_isTR, e_rowL, e_rowT, e_rowM, e_allD0, e_allD1, e_allDm, e_lift1, e_lift2, e_lift3, e_lift4, e_lift5, e_mkTup1, e_mkTup2, e_mkTup3, e_mkTup4, e_mkTup5, e_mkTupm, e_mgTupT, e_mgTupM, e_mgCons, e_mgNil, e_mgName, e_seqN, e_seqR, e_seqB, e_seqC, e_resR, e_resN, e_int1, e_int1b, e_max2, e_min2, e_abs, e_allB, e_anyB, e_eqI, e_neI, e_eqB, e_neB, e_I, e_IB, e_neg, e_mod, e_keyI, e_keyS, e_asL0, e_asL1, e_asL2, e_it0, e_it1, e_it2, e_ixL_0, e_ixL_1, e_ixL_2, e_ixL_3, e_ixL_4, e_ixL_5, e_ixL_6, e_ixL_7, e_ixL_8, e_ixT_0, e_ixT_1, e_ixT_2, e_ixT_3, e_ixT_4, e_ixT_5, e_ixT_6, e_ixT_7, e_ixT_8])
local macro_rules | `(tactic| walk_at "eh") => `(tactic| simp only [mRet, mRetN, mCB, mCBF, mCons, mNil, mVar, mK, mOp, mUn, mIf, mTest, mNot, mAnd, mOr, mYes, mOfT, mAndV, mOrV, mNotV, mChain, mSeq, mAsg, mAug, mDrop, mNext, mBreak, mCont, mIfS, mTup, mTupK, mLst, mDat, mNew, mPar, mIsi, mLen, mTupOf, mListOf, mSetL, mApp, mDGet, mDPut, mDIn, mDGet2, mDNew, mLenD, mDictCp, mCatE, mPop0E, mSlL, mPart, mNoPart, mTGet, mTGet2, mTIn, mTPut, mTNew, mLenT, mIx, at_l0, at_l1, at_l2, at_l3, at_l4, keyT_ii, asL_ref, asK_ref, asKT_ref, it_ref, List.getElem?_set_self, List.getElem?_set_ne, ne_eq, not_false_eq_true, not_true_eq_false, Nat.reduceEqDiff, Nat.succ_ne_self, List.length_set, toHeap, toPure, List.set_cons_zero, List.set_cons_succ, List.getElem?_cons_zero, List.getElem?_cons_succ, Option.bind_some, Option.map_some, List.map_cons, List.map_nil, List.length_cons, List.length_nil, wipeM, reify_d, List.cons_append, List.nil_append, List.append_nil, List.replicate_succ, List.replicate_zero, if_true, if_false, Bool.not_true, Bool.not_false, reduceIte, Nat.reduceAdd, Nat.reduceSub, Nat.reduceLeDiff, Nat.reduceLT, Int.reduceLT, Int.reduceLE, Bool.false_eq_true, Option.bind_none, Option.map_none, decide_true, decide_false, e_arg1, e_args1, e_args2, e_argsTT, e_asI, e_asB, e_itL, e_itT, e_itM, e_isTL, e_isTT, e_isTM, e_isTR, e_rowL, e_rowT, e_rowM, e_allD0, e_allD1, e_allDm, e_lift1, e_lift2, e_lift3, e_lift4, e_lift5, e_mkTup1, e_mkTup2, e_mkTup3, e_mkTup4, e_mkTup5, e_mkTupm, e_mgTupT, e_mgTupM, e_mgCons, e_mgNil, e_mgName, e_seqN, e_seqR, e_seqB, e_seqC, e_resR, e_resN, e_int1, e_int1b, e_max2, e_min2, e_abs, e_allB, e_anyB, e_eqI, e_neI, e_eqB, e_neB, e_I, e_IB, e_neg, e_keyI, e_keyS, *])
local macro_rules | `(tactic| walk_at "at") => `(tactic| first | assumption | exact at_eq (by (try simp only [List.length_set]); omega) | (refine at_ne ?_ (by decide); walk_at "at"))
theorem set_same {α : Type} {xs : List α} {n : Nat} {x : α} (h : xs[n]? = some x) : xs.set n x = xs := by
  refine List.ext_getElem? fun k => ?_
  by_cases e : n = k
  · subst e
    rw [List.getElem?_set_self (List.getElem?_eq_some_iff.mp h).1, h]
  · rw [List.getElem?_set_ne e]
theorem get_app' {α : Type} {xs ys : List α} {n : Nat} {x : α} (h : xs[n]? = some x) : (xs ++ ys)[n]? = some x := by
  rw [List.getElem?_append_left (List.getElem?_eq_some_iff.mp h).1]; exact h
theorem get_set' {α : Type} {xs : List α} {n : Nat} {x y : α} (h : xs[n]? = some x) : (xs.set n y)[n]? = some y := List.getElem?_set_self (List.getElem?_eq_some_iff.mp h).1
theorem e_ifT {mt : MT} {a b : MS} {env : Env} {h h1 : MH} {r : Option MRes} (e : mt env h = some (true, h1)) (ea : a env h1 = r) : mIfS mt a b env h = r := by
  rw [e_mIfS e]; exact ea
theorem e_ifF {mt : MT} {a b : MS} {env : Env} {h h1 : MH} {r : Option MRes} (e : mt env h = some (false, h1)) (eb : b env h1 = r) : mIfS mt a b env h = r := by
  rw [e_mIfS e]; exact eb
theorem e_mSeqR {a b : MS} {env : Env} {h h1 : MH} {v : MV} (e : a env h = some (.rt v h1)) : mSeq a b env h = some (.rt v h1) := by
  unfold mSeq
  rw [e]; rfl
/-! ### pieces of lists -/
theorem cut_from {α : Type} (xs : List α) {k : Int} (h0 : 0 ≤ k) (h1 : k ≤ xs.length) : cutM xs (some k) none = xs.drop k.toNat := by
  unfold cutM
  have e1 : HT.sIx xs.length 0 (some k) = k.toNat := by
    show (if k < 0 then (k + (xs.length : Int)).toNat else min k.toNat xs.length) = _
    rw [if_neg (by omega)]; omega
  have e2 : HT.sIx xs.length xs.length none = xs.length := rfl
  rw [e1, e2]
  exact List.take_of_length_le (by simp)
theorem cut_to {α : Type} (xs : List α) {k : Int} (h0 : 0 ≤ k) : cutM xs none (some k) = xs.take k.toNat := by
  unfold cutM
  have e1 : HT.sIx xs.length 0 none = 0 := rfl
  have e2 : HT.sIx xs.length xs.length (some k) = min k.toNat xs.length := by
    show (if k < 0 then (k + (xs.length : Int)).toNat else min k.toNat xs.length) = _
    rw [if_neg (by omega)]
  rw [e1, e2, List.drop_zero, Nat.sub_zero]
  by_cases h : k.toNat ≤ xs.length
  · rw [Nat.min_eq_left h]
  · rw [Nat.min_eq_right (by omega), List.take_of_length_le (Nat.le_refl _), List.take_of_length_le (by omega)]
theorem e_catD {xs ys : List PyData} {h : MH} (hz : xs.length + ys.length ≤ 100000) : mCatS (.d (.list xs)) (.d (.list ys)) h = some ((xs ++ ys).map .d, h) := by
  unfold mCatS
  rw [if_pos ⟨rfl, rfl⟩, e_itL, Option.bind_some, e_itL, Option.bind_some, if_pos (by simpa using hz), List.map_append]
theorem e_isiT {xs : List PyData} {h : MH} {me : ME} {env : Env} (e : me env h = some (.d (.tuple xs), h)) : mIsi "tuple" me env h = some (.d (.bool true), h) := by
  unfold mIsi
  rw [e, Option.bind_some]
  show (kitB "tuple" "tuple").map _ = _
  rw [show kitB "tuple" "tuple" = some true by decide +kernel]; rfl
theorem e_isiIB {i : Int} {h : MH} {me : ME} {env : Env} (e : me env h = some (.d (.int i), h)) : mIsi "bool" me env h = some (.d (.bool false), h) := by
  unfold mIsi
  rw [e, Option.bind_some]
  show (kitB "int" "bool").map _ = _
  rw [show kitB "int" "bool" = some false by decide +kernel]; rfl
/-! ### the tape -/
structure Tp where
  c : List Int
  p : Int
  r : Int
  s : Int
abbrev tpO (t : Tp) : Ob := .lst [.d (li t.c), dI t.p, dI t.r, dI t.s]
def Tp.ok (t : Tp) : Prop := 0 ≤ t.p ∧ 0 ≤ t.s ∧ t.s < 2147483647
section
variable {n : Nat} {t : Tp} {h : MH} {many : Int} {x2 x3 : Option MV}
theorem tp0 (hn : h[n]? = some (tpO t)) : mIx (.ref n) (.d (.int 0)) h = some (.d (li t.c), h) := e_ixR hn rfl
theorem tp1 (hn : h[n]? = some (tpO t)) : mIx (.ref n) (.d (.int 1)) h = some (dI t.p, h) := e_ixR hn rfl
theorem tp2 (hn : h[n]? = some (tpO t)) : mIx (.ref n) (.d (.int 2)) h = some (dI t.r, h) := e_ixR hn rfl
theorem tp3 (hn : h[n]? = some (tpO t)) : mIx (.ref n) (.d (.int 3)) h = some (dI t.s, h) := e_ixR hn rfl
theorem nx_last (hn : h[n]? = some (tpO t)) (r : Int) (hm : 0 < many) (hm2 : many < 2 ^ 62) : ∃ k, mSeq ml__law_next_11 ml__law_next_12 [some (.ref n), some (dI many), some (dI r), x3] h = some (.rt (dI k) (h.set n (tpO ⟨t.c, t.p, r / many, t.s⟩))) ∧ 0 ≤ k ∧ k < many := by
  refine ⟨r % many, ?_, Int.emod_nonneg _ (by omega), Int.emod_lt_of_pos _ hm⟩
  have s11 : ml__law_next_11 [some (.ref n), some (dI many), some (dI r), x3] h = some (.nx [some (.ref n), some (dI many), some (dI r), x3] (h.set n (tpO ⟨t.c, t.p, r / many, t.s⟩))) := by
    unfold ml__law_next_11
    walk_at "ev"
    rw [e_IC (cdiv_ok hm hm2)]
    walk_at "ev"
    rw [e_asL hn]
    walk_at "ev"
    rfl
  rw [e_mSeq s11]
  unfold ml__law_next_12
  walk_at "ev"
  rw [e_mod hm]
  walk_at "ev"
theorem nx_8 (hn : h[n]? = some (tpO t)) (ht : t.ok) (c : Int) (hc : 0 ≤ c) (hm : 0 < many) :
    (∃ k t', ml__law_next_8 [some (.ref n), some (dI many), some (dI c), some (dI c)] h = some (.rt (dI k) (h.set n (tpO t'))) ∧ 0 ≤ k ∧ k < many ∧ t'.ok) ∨ ml__law_next_8 [some (.ref n), some (dI many), some (dI c), some (dI c)] h = some (.nx [some (.ref n), some (dI many), some (dI c), some (dI c)] h) := by
  obtain ⟨hp, hs, hs2⟩ := ht
  have c8 : mc__law_next_8 [some (.ref n), some (dI many), some (dI c), some (dI c)] h = some (decide (c < 1000000000000000000), h) := by
    unfold mc__law_next_8
    walk_at "ev"
    rw [e_pow1018]
    walk_at "ev"
  unfold ml__law_next_8
  by_cases hlt : c < 1000000000000000000
  · left
    rw [decide_eq_true hlt] at c8
    obtain ⟨s', hs'⟩ : ∃ s', s' = (t.s * 69621 + c * 40692 + 17) % 2147483647 := ⟨_, rfl⟩
    have b0 : 0 ≤ s' := by rw [hs']; exact Int.emod_nonneg _ (by decide)
    have b1 : s' < 2147483647 := by rw [hs']; exact Int.emod_lt_of_pos _ (by decide)
    have s9 : ml__law_next_9 [some (.ref n), some (dI many), some (dI c), some (dI c)] h = some (.nx [some (.ref n), some (dI many), some (dI c), some (dI c)] (h.set n (tpO ⟨t.c, t.p, t.r, s'⟩))) := by
      unfold ml__law_next_9
      walk_at "ev"
      rw [tp3 hn]
      walk_at "ev"
      rw [e_IC (cmul_r (by decide))]
      walk_at "ev"
      rw [e_IC (cmul_r (by decide))]
      walk_at "ev"
      rw [e_asL hn]
      walk_at "ev"
      rw [hs']
      rfl
    have hn' : (h.set n (tpO ⟨t.c, t.p, t.r, s'⟩))[n]? = some (tpO ⟨t.c, t.p, t.r, s'⟩) := List.getElem?_set_self (List.getElem?_eq_some_iff.mp hn).1
    refine ⟨s' / 5 * 48271 % 2147483647 % many, ⟨t.c, t.p, t.r, s'⟩, ?_, Int.emod_nonneg _ (by omega), Int.emod_lt_of_pos _ hm, hp, b0, b1⟩
    refine e_ifT c8 ?_
    rw [e_mSeq s9]
    generalize h.set n (tpO ⟨t.c, t.p, t.r, s'⟩) = h' at hn'
    unfold ml__law_next_10
    walk_at "ev"
    rw [tp3 hn']
    walk_at "ev"
    rw [e_IC (cdiv_ok (by decide) (by decide))]
    walk_at "ev"
    rw [e_IC (cmul_r (by decide))]
    walk_at "ev"
    rw [e_mod hm]
    walk_at "ev"
  · right
    rw [decide_eq_false hlt] at c8
    exact e_ifF c8 rfl
theorem nx_4 (hn : h[n]? = some (tpO t)) (ht : t.ok) : ∃ c t', 0 ≤ c ∧ t'.ok ∧ ml__law_next_4 [some (.ref n), some (dI many), x2, some (dI 0)] h = some (.nx [some (.ref n), some (dI many), x2, some (dI c)] (h.set n (tpO t'))) := by
  obtain ⟨hp, hs, hs2⟩ := ht
  have c4 : mc__law_next_4 [some (.ref n), some (dI many), x2, some (dI 0)] h = some (decide (t.p < (t.c.length : Int)), h) := by
    unfold mc__law_next_4
    walk_at "ev"
    rw [tp1 hn]
    walk_at "ev"
    rw [tp0 hn]
    walk_at "ev"
    simp only [List.length_map]
  unfold ml__law_next_4
  by_cases hlt : t.p < (t.c.length : Int)
  · rw [decide_eq_true hlt] at c4
    refine ⟨((t.c.getD t.p.toNat 0).natAbs : Int), ⟨t.c, t.p + 1, t.r, t.s⟩, by omega, ⟨by show 0 ≤ t.p + 1; omega, hs, hs2⟩, e_ifT c4 ?_⟩
    have s5 : ml__law_next_5 [some (.ref n), some (dI many), x2, some (dI 0)] h = some (.nx [some (.ref n), some (dI many), x2, some (dI ((t.c.getD t.p.toNat 0).natAbs : Int))] h) := by
      unfold ml__law_next_5
      walk_at "ev"
      rw [tp0 hn]
      walk_at "ev"
      rw [tp1 hn]
      walk_at "ev"
      rw [e_ixLi hp hlt]
      walk_at "ev"
    rw [e_mSeq s5]
    unfold ml__law_next_6
    walk_at "ev"
    rw [tp1 hn]
    walk_at "ev"
    rw [e_asL hn]
    walk_at "ev"
    rfl
  · rw [decide_eq_false hlt] at c4
    refine ⟨0, t, by decide, ⟨hp, hs, hs2⟩, e_ifF c4 ?_⟩
    rw [set_same hn]
    rfl
theorem q_next (hn : h[n]? = some (tpO t)) (ht : t.ok) (hm : 0 < many) (hm2 : many < 2 ^ 62) : ∃ k t', fn__law_next [.ref n, .d (.int many)] h = some (.d (.int k), h.set n (tpO t')) ∧ 0 ≤ k ∧ k < many ∧ t'.ok := by
  have s1 : ml__law_next_1 [some (.ref n), some (dI many), none, none] h = some (.nx [some (.ref n), some (dI many), some (dI t.r), none] h) := by
    unfold ml__law_next_1
    walk_at "ev"
    rw [tp2 hn]
    walk_at "ev"
  have c2 : mc__law_next_2 [some (.ref n), some (dI many), some (dI t.r), none] h = some (decide (t.r = 0), h) := by
    unfold mc__law_next_2
    walk_at "ev"
  have hnl := (List.getElem?_eq_some_iff.mp hn).1
  have fin : ∀ m : MS, m = m__law_next → ∀ k h', m [some (.ref n), some (dI many), none, none] h = some (.rt (dI k) h') → fn__law_next [.ref n, .d (.int many)] h = some (.d (.int k), h') := by
    intro m em k h' e
    subst em
    unfold fn__law_next
    walk_at "ev"
    rw [e]
    rfl
  by_cases hr : t.r = 0
  · rw [decide_eq_true hr] at c2
    have s3 : ml__law_next_3 [some (.ref n), some (dI many), some (dI t.r), none] h = some (.nx [some (.ref n), some (dI many), some (dI t.r), some (dI 0)] h) := by
      unfold ml__law_next_3
      walk_at "ev"
    obtain ⟨c, t', hc, ht', s4⟩ := nx_4 (many := many) (x2 := some (dI t.r)) hn ht
    have hn' : (h.set n (tpO t'))[n]? = some (tpO t') := List.getElem?_set_self hnl
    have s7 : ml__law_next_7 [some (.ref n), some (dI many), some (dI t.r), some (dI c)] (h.set n (tpO t')) = some (.nx [some (.ref n), some (dI many), some (dI c), some (dI c)] (h.set n (tpO t'))) := by
      unfold ml__law_next_7
      walk_at "ev"
    rcases nx_8 hn' ht' c hc hm with ⟨k, t2, s8, k0, k1, ht2⟩ | s8
    · refine ⟨k, t2, fin _ rfl k _ ?_, k0, k1, ht2⟩
      have s2 : ml__law_next_2 [some (.ref n), some (dI many), some (dI t.r), none] h = some (.rt (dI k) ((h.set n (tpO t')).set n (tpO t2))) := by
        unfold ml__law_next_2
        refine e_ifT c2 ?_
        rw [e_mSeq s3, e_mSeq s4, e_mSeq s7, s8]
      unfold m__law_next
      rw [e_mSeq s1, e_mSeqR s2, List.set_set]
    · have s2 : ml__law_next_2 [some (.ref n), some (dI many), some (dI t.r), none] h = some (.nx [some (.ref n), some (dI many), some (dI c), some (dI c)] (h.set n (tpO t'))) := by
        unfold ml__law_next_2
        refine e_ifT c2 ?_
        rw [e_mSeq s3, e_mSeq s4, e_mSeq s7, s8]
      obtain ⟨k, sl, k0, k1⟩ := nx_last (x3 := some (dI c)) hn' c hm hm2
      refine ⟨k, ⟨t'.c, t'.p, c / many, t'.s⟩, fin _ rfl k _ ?_, k0, k1, ht'⟩
      unfold m__law_next
      rw [e_mSeq s1, e_mSeq s2, sl, List.set_set]
  · rw [decide_eq_false hr] at c2
    have s2 : ml__law_next_2 [some (.ref n), some (dI many), some (dI t.r), none] h = some (.nx [some (.ref n), some (dI many), some (dI t.r), none] h) := by
      unfold ml__law_next_2
      exact e_ifF c2 rfl
    obtain ⟨k, sl, k0, k1⟩ := nx_last (x3 := none) hn t.r hm hm2
    refine ⟨k, ⟨t.c, t.p, t.r / many, t.s⟩, fin _ rfl k _ ?_, k0, k1, ht⟩
    unfold m__law_next
    rw [e_mSeq s1, e_mSeq s2, sl]
end
theorem n_lk_0_1 : ((.inr "holder" : Key) = .inr "queue") = False := key_ne (by decide +kernel)
theorem n_lk_0_2 : ((.inr "holder" : Key) = .inr "clock") = False := key_ne (by decide +kernel)
theorem n_lk_0_3 : ((.inr "holder" : Key) = .inr "grants") = False := key_ne (by decide +kernel)
theorem n_lk_1_0 : ((.inr "queue" : Key) = .inr "holder") = False := key_ne (by decide +kernel)
theorem n_lk_1_2 : ((.inr "queue" : Key) = .inr "clock") = False := key_ne (by decide +kernel)
theorem n_lk_1_3 : ((.inr "queue" : Key) = .inr "grants") = False := key_ne (by decide +kernel)
theorem n_lk_2_0 : ((.inr "clock" : Key) = .inr "holder") = False := key_ne (by decide +kernel)
theorem n_lk_2_1 : ((.inr "clock" : Key) = .inr "queue") = False := key_ne (by decide +kernel)
theorem n_lk_2_3 : ((.inr "clock" : Key) = .inr "grants") = False := key_ne (by decide +kernel)
theorem n_lk_3_0 : ((.inr "grants" : Key) = .inr "holder") = False := key_ne (by decide +kernel)
theorem n_lk_3_1 : ((.inr "grants" : Key) = .inr "queue") = False := key_ne (by decide +kernel)
theorem n_lk_3_2 : ((.inr "grants" : Key) = .inr "clock") = False := key_ne (by decide +kernel)
section
variable {a0 a1 a2 a3 b : MV}
theorem g_lk_holder : valG [((.inr "holder" : Key), a0), ((.inr "queue" : Key), a1), ((.inr "clock" : Key), a2), ((.inr "grants" : Key), a3)] (.inr "holder") = some a0 := by rw [valG_cons, if_pos rfl]
theorem g_lk_queue : valG [((.inr "holder" : Key), a0), ((.inr "queue" : Key), a1), ((.inr "clock" : Key), a2), ((.inr "grants" : Key), a3)] (.inr "queue") = some a1 := by rw [valG_cons, if_neg (of_eq_false n_lk_0_1), valG_cons, if_pos rfl]
theorem g_lk_clock : valG [((.inr "holder" : Key), a0), ((.inr "queue" : Key), a1), ((.inr "clock" : Key), a2), ((.inr "grants" : Key), a3)] (.inr "clock") = some a2 := by rw [valG_cons, if_neg (of_eq_false n_lk_0_2), valG_cons, if_neg (of_eq_false n_lk_1_2), valG_cons, if_pos rfl]
theorem g_lk_grants : valG [((.inr "holder" : Key), a0), ((.inr "queue" : Key), a1), ((.inr "clock" : Key), a2), ((.inr "grants" : Key), a3)] (.inr "grants") = some a3 := by rw [valG_cons, if_neg (of_eq_false n_lk_0_3), valG_cons, if_neg (of_eq_false n_lk_1_3), valG_cons, if_neg (of_eq_false n_lk_2_3), valG_cons, if_pos rfl]
theorem p_lk_holder : putG [((.inr "holder" : Key), a0), ((.inr "queue" : Key), a1), ((.inr "clock" : Key), a2), ((.inr "grants" : Key), a3)] (.inr "holder") b = [((.inr "holder" : Key), b), ((.inr "queue" : Key), a1), ((.inr "clock" : Key), a2), ((.inr "grants" : Key), a3)] := by
  unfold putG hasG
  rw [g_lk_holder]
  simp only [Option.isSome_some, if_true, replG, List.map_cons, List.map_nil, n_lk_1_0, n_lk_2_0, n_lk_3_0, if_false]
theorem p_lk_queue : putG [((.inr "holder" : Key), a0), ((.inr "queue" : Key), a1), ((.inr "clock" : Key), a2), ((.inr "grants" : Key), a3)] (.inr "queue") b = [((.inr "holder" : Key), a0), ((.inr "queue" : Key), b), ((.inr "clock" : Key), a2), ((.inr "grants" : Key), a3)] := by
  unfold putG hasG
  rw [g_lk_queue]
  simp only [Option.isSome_some, if_true, replG, List.map_cons, List.map_nil, n_lk_0_1, n_lk_2_1, n_lk_3_1, if_false]
theorem p_lk_clock : putG [((.inr "holder" : Key), a0), ((.inr "queue" : Key), a1), ((.inr "clock" : Key), a2), ((.inr "grants" : Key), a3)] (.inr "clock") b = [((.inr "holder" : Key), a0), ((.inr "queue" : Key), a1), ((.inr "clock" : Key), b), ((.inr "grants" : Key), a3)] := by
  unfold putG hasG
  rw [g_lk_clock]
  simp only [Option.isSome_some, if_true, replG, List.map_cons, List.map_nil, n_lk_0_2, n_lk_1_2, n_lk_3_2, if_false]
theorem p_lk_grants : putG [((.inr "holder" : Key), a0), ((.inr "queue" : Key), a1), ((.inr "clock" : Key), a2), ((.inr "grants" : Key), a3)] (.inr "grants") b = [((.inr "holder" : Key), a0), ((.inr "queue" : Key), a1), ((.inr "clock" : Key), a2), ((.inr "grants" : Key), b)] := by
  unfold putG hasG
  rw [g_lk_grants]
  simp only [Option.isSome_some, if_true, replG, List.map_cons, List.map_nil, n_lk_0_3, n_lk_1_3, n_lk_2_3, if_false]
end
theorem n_ms_0_1 : ((.inr "come" : Key) = .inr "ended") = False := key_ne (by decide +kernel)
theorem n_ms_0_2 : ((.inr "come" : Key) = .inr "number") = False := key_ne (by decide +kernel)
theorem n_ms_0_3 : ((.inr "come" : Key) = .inr "over") = False := key_ne (by decide +kernel)
theorem n_ms_1_0 : ((.inr "ended" : Key) = .inr "come") = False := key_ne (by decide +kernel)
theorem n_ms_1_2 : ((.inr "ended" : Key) = .inr "number") = False := key_ne (by decide +kernel)
theorem n_ms_1_3 : ((.inr "ended" : Key) = .inr "over") = False := key_ne (by decide +kernel)
theorem n_ms_2_0 : ((.inr "number" : Key) = .inr "come") = False := key_ne (by decide +kernel)
theorem n_ms_2_1 : ((.inr "number" : Key) = .inr "ended") = False := key_ne (by decide +kernel)
theorem n_ms_2_3 : ((.inr "number" : Key) = .inr "over") = False := key_ne (by decide +kernel)
theorem n_ms_3_0 : ((.inr "over" : Key) = .inr "come") = False := key_ne (by decide +kernel)
theorem n_ms_3_1 : ((.inr "over" : Key) = .inr "ended") = False := key_ne (by decide +kernel)
theorem n_ms_3_2 : ((.inr "over" : Key) = .inr "number") = False := key_ne (by decide +kernel)
section
variable {a0 a1 a2 a3 b : MV}
theorem g_ms_come : valG [((.inr "come" : Key), a0), ((.inr "ended" : Key), a1), ((.inr "number" : Key), a2), ((.inr "over" : Key), a3)] (.inr "come") = some a0 := by rw [valG_cons, if_pos rfl]
theorem g_ms_ended : valG [((.inr "come" : Key), a0), ((.inr "ended" : Key), a1), ((.inr "number" : Key), a2), ((.inr "over" : Key), a3)] (.inr "ended") = some a1 := by rw [valG_cons, if_neg (of_eq_false n_ms_0_1), valG_cons, if_pos rfl]
theorem g_ms_number : valG [((.inr "come" : Key), a0), ((.inr "ended" : Key), a1), ((.inr "number" : Key), a2), ((.inr "over" : Key), a3)] (.inr "number") = some a2 := by rw [valG_cons, if_neg (of_eq_false n_ms_0_2), valG_cons, if_neg (of_eq_false n_ms_1_2), valG_cons, if_pos rfl]
theorem g_ms_over : valG [((.inr "come" : Key), a0), ((.inr "ended" : Key), a1), ((.inr "number" : Key), a2), ((.inr "over" : Key), a3)] (.inr "over") = some a3 := by rw [valG_cons, if_neg (of_eq_false n_ms_0_3), valG_cons, if_neg (of_eq_false n_ms_1_3), valG_cons, if_neg (of_eq_false n_ms_2_3), valG_cons, if_pos rfl]
theorem p_ms_come : putG [((.inr "come" : Key), a0), ((.inr "ended" : Key), a1), ((.inr "number" : Key), a2), ((.inr "over" : Key), a3)] (.inr "come") b = [((.inr "come" : Key), b), ((.inr "ended" : Key), a1), ((.inr "number" : Key), a2), ((.inr "over" : Key), a3)] := by
  unfold putG hasG
  rw [g_ms_come]
  simp only [Option.isSome_some, if_true, replG, List.map_cons, List.map_nil, n_ms_1_0, n_ms_2_0, n_ms_3_0, if_false]
theorem p_ms_ended : putG [((.inr "come" : Key), a0), ((.inr "ended" : Key), a1), ((.inr "number" : Key), a2), ((.inr "over" : Key), a3)] (.inr "ended") b = [((.inr "come" : Key), a0), ((.inr "ended" : Key), b), ((.inr "number" : Key), a2), ((.inr "over" : Key), a3)] := by
  unfold putG hasG
  rw [g_ms_ended]
  simp only [Option.isSome_some, if_true, replG, List.map_cons, List.map_nil, n_ms_0_1, n_ms_2_1, n_ms_3_1, if_false]
theorem p_ms_number : putG [((.inr "come" : Key), a0), ((.inr "ended" : Key), a1), ((.inr "number" : Key), a2), ((.inr "over" : Key), a3)] (.inr "number") b = [((.inr "come" : Key), a0), ((.inr "ended" : Key), a1), ((.inr "number" : Key), b), ((.inr "over" : Key), a3)] := by
  unfold putG hasG
  rw [g_ms_number]
  simp only [Option.isSome_some, if_true, replG, List.map_cons, List.map_nil, n_ms_0_2, n_ms_1_2, n_ms_3_2, if_false]
theorem p_ms_over : putG [((.inr "come" : Key), a0), ((.inr "ended" : Key), a1), ((.inr "number" : Key), a2), ((.inr "over" : Key), a3)] (.inr "over") b = [((.inr "come" : Key), a0), ((.inr "ended" : Key), a1), ((.inr "number" : Key), a2), ((.inr "over" : Key), b)] := by
  unfold putG hasG
  rw [g_ms_over]
  simp only [Option.isSome_some, if_true, replG, List.map_cons, List.map_nil, n_ms_0_3, n_ms_1_3, n_ms_2_3, if_false]
end
local macro_rules | `(tactic| walk_at "e28") => `(tactic| simp only [mRet, mRetN, mCB, mCBF, mCons, mNil, mVar, mK, mOp, mUn, mIf, mTest, mNot, mAnd, mOr, mYes, mOfT, mAndV, mOrV, mNotV, mChain, mSeq, mAsg, mAug, mDrop, mNext, mBreak, mCont, mIfS, mTup, mTupK, mLst, mDat, mNew, mPar, mIsi, mLen, mTupOf, mListOf, mSetL, mApp, mDGet, mDPut, mDIn, mDGet2, mDNew, mLenD, mDictCp, mCatE, mSlL, mPart, mNoPart, mTGet, mTGet2, mTIn, mTPut, mTNew, mLenT, mIx, at_l0, at_l1, at_l2, at_l3, at_l4, keyT_ii, asL_ref, asK_ref, asKT_ref, it_ref, List.getElem?_set_self, List.getElem?_set_ne, ne_eq, not_false_eq_true, not_true_eq_false, Nat.reduceEqDiff, Nat.succ_ne_self, List.length_set, toHeap, toPure, List.set_cons_zero, List.set_cons_succ, List.getElem?_cons_zero, List.getElem?_cons_succ, Option.bind_some, Option.map_some, List.map_cons, List.map_nil, List.length_cons, List.length_nil, wipeM, reify_d, List.cons_append, List.nil_append, List.append_nil, List.replicate_succ, List.replicate_zero, if_true, if_false, Bool.not_true, Bool.not_false, reduceIte, Nat.reduceAdd, Nat.reduceSub, Nat.reduceLeDiff, Nat.reduceLT, Int.reduceLT, Int.reduceLE, Bool.false_eq_true, Option.bind_none, Option.map_none, decide_true, decide_false, e_arg1, e_args1, e_args2, e_argsTT, e_asI, e_asB, e_itL, e_itT, e_itM, e_isTL, e_isTT, e_isTM, e_isTR, e_rowL, e_rowT, e_rowM, e_allD0, e_allD1, e_allDm, e_lift1, e_lift2, e_lift3, e_lift4, e_lift5, e_mkTup1, e_mkTup2, e_mkTup3, e_mkTup4, e_mkTup5, e_mkTupm, e_mgTupT, e_mgTupM, e_mgCons, e_mgNil, e_mgName, e_seqN, e_seqR, e_seqB, e_seqC, e_resR, e_resN, e_int1, e_int1b, e_max2, e_min2, e_abs, e_allB, e_anyB, e_eqI, e_neI, e_eqB, e_neB, e_I, e_IB, e_neg, e_keyI, e_keyS, g_lk_holder, g_lk_queue, g_lk_clock, g_lk_grants, p_lk_holder, p_lk_queue, p_lk_clock, p_lk_grants, g_ms_come, g_ms_ended, g_ms_number, g_ms_over, p_ms_come, p_ms_ended, p_ms_number, p_ms_over, *])
/-! ### lists without doubles -/
theorem nodup_sub_len {α : Type} [DecidableEq α] : ∀ {ys xs : List α}, ys.Nodup → (∀ y ∈ ys, y ∈ xs) → ys.length ≤ xs.length
  | [], _, _, _ => Nat.zero_le _
  | y :: ys, xs, hn, hs => by
    rw [List.nodup_cons] at hn
    have hy := hs y List.mem_cons_self
    have := nodup_sub_len (ys := ys) (xs := xs.erase y) hn.2 (fun z hz => (List.mem_erase_of_ne (fun e => hn.1 (by rw [← e]; exact hz))).mpr (hs z (List.mem_cons_of_mem _ hz)))
    rw [List.length_erase_of_mem hy] at this
    have := List.length_pos_of_mem hy
    rw [List.length_cons]; omega
abbrev Rw := Nat × List Int
abbrev rowD (r : Rw) : PyData := .tuple [.int (r.1 : Nat), ti r.2]
def hasAll (rs : List Rw) (m : Nat) : Bool := (List.range m).all fun k => decide (k ∈ rs.map (·.1))
theorem hasAll_len {rs : List Rw} {m : Nat} (hn : (rs.map (·.1)).Nodup) (hm : ∀ r ∈ rs, r.1 < m) : hasAll rs m = decide (rs.length = m) := by
  have h1 : rs.length ≤ m := by
    have := nodup_sub_len (ys := rs.map (·.1)) (xs := List.range m) hn (fun y hy => by
      obtain ⟨r, hr, rfl⟩ := List.mem_map.mp hy
      exact List.mem_range.mpr (hm r hr))
    simpa using this
  unfold hasAll
  by_cases e : rs.length = m
  · rw [decide_eq_true e, List.all_eq_true]
    intro k hk
    rw [decide_eq_true_iff]
    by_cases z : k ∈ rs.map (·.1)
    · exact z
    · have := nodup_sub_len (ys := k :: rs.map (·.1)) (xs := List.range m) (List.nodup_cons.mpr ⟨z, hn⟩) (fun y hy => by
        rcases List.mem_cons.mp hy with h | h
        · rw [h]; exact hk
        · obtain ⟨r, hr, rfl⟩ := List.mem_map.mp h
          exact List.mem_range.mpr (hm r hr))
      simp at this
      omega
  · rw [decide_eq_false e, ← Bool.not_eq_true, List.all_eq_true]
    intro h
    have := nodup_sub_len (ys := List.range m) (xs := rs.map (·.1)) List.nodup_range (fun k hk => by
      have := h k hk
      rwa [decide_eq_true_iff] at this)
    simp at this
    omega
theorem q_zero_clock (m : Nat) (h1 : 1 ≤ m) (h2 : m ≤ 4) : pf_zero_clock [.int (m : Nat)] = some (ti (List.replicate m 0)) := by
  have er : mRepA (.d (.tuple [.int 0])) (.d (.int (m : Nat))) [] = some (.d (.tuple (List.replicate m [PyData.int 0]).flatten), []) := by
    rw [e_repA (by simp) (by simp) (by omega) (by omega)]; simp
  unfold pf_zero_clock m_zero_clock ml_zero_clock_1
  walk_at "eh"
  rw [flat_rep]; simp
theorem q_manager_of (a m : Int) (hm : 0 < m) : pf_manager_of [.int a, .int m] = some (.int (a % m)) := by
  have e := e_mod (h := []) (i := a) hm
  unfold pf_manager_of m_manager_of ml_manager_of_1
  walk_at "eh"
theorem q_has_all (rs : List Rw) (m : Nat) (hm : m ≤ 4) (hz : rs.length ≤ 1000) : pf_has_all [.list (rs.map rowD), .int (m : Nat)] = some (.bool (hasAll rs m)) := by
  have e1 : mLc (mItL (mVar 0)) (mgTup 2 (mgCons (mgName 3) (mgCons (mgName 4) mgNil))) mYes (mVar 3) [3, 4] [some (.d (.list (rs.map rowD))), some (.d (.int (m : Nat))), none, none, none] [] = some ((rs.map fun r => PyData.int (r.1 : Nat)).map .d, []) := by
    rw [mLc_map rs (fun r => .d (rowD r)) (fun r => .d (.int (r.1 : Nat))) (h1 := [])]
    · rw [List.map_map]; rfl
    · rw [e_lst (ds := rs.map rowD) (h1 := []), List.map_map]
      · rfl
      · rfl
    · intro r hr
      walk_at "eh"
    · omega
  have e2 : mLc (mRng1 (mCons (mVar 1) mNil)) (mgName 3) mYes (mOp (mInD false) (mVar 3) (mVar 2)) [3] [some (.d (.list (rs.map rowD))), some (.d (.int (m : Nat))), some (.d (.list (rs.map fun r => PyData.int (r.1 : Nat)))), none, none] [] = some (((List.range m).map fun k => PyData.bool (decide (k ∈ rs.map (·.1)))).map .d, []) := by
    rw [mLc_map (List.range m) (fun (k : Nat) => dI (k : Int)) (fun k => .d (.bool (decide (k ∈ rs.map (·.1))))) (h1 := [])]
    · rw [List.map_map]; rfl
    · rw [e_rng1 (n := m) (h1 := []) rfl (by omega) (by omega)]; simp
    · intro k hk
      have x : mInD false (.d (.int (k : Nat))) (.d (.list (rs.map fun r => PyData.int (r.1 : Nat)))) [] = some (.d (.bool (decide (k ∈ rs.map (·.1)))), []) := by
        rw [e_inR Enc.int (a := (k : Int)) (bs := rs.map fun r => (r.1 : Int)) (reify_d _ _ _) (by rw [reify_d, List.map_map]; rfl)]
        have : ((k : Int) ∈ rs.map fun r => (r.1 : Int)) ↔ k ∈ rs.map (·.1) := by
          simp only [List.mem_map]
          exact ⟨fun ⟨r, h1, h2⟩ => ⟨r, h1, by omega⟩, fun ⟨r, h1, h2⟩ => ⟨r, h1, by omega⟩⟩
        simp only [Bool.false_eq_true, if_false, decide_eq_decide.mpr this]
      clear e1 hk
      walk_at "eh"
    · simp; omega
  unfold pf_has_all m_has_all ml_has_all_1 ml_has_all_2
  simp only [toPure, toHeap, List.map_cons, List.map_nil, List.length_cons, List.length_nil, Nat.reduceAdd, if_true, Nat.reduceSub, List.replicate_succ, List.replicate_zero, List.cons_append, List.nil_append, mSeq, mAsg, mDat, e1, Option.bind_some, e_allDm, Option.map_some, e_mgName, List.set_cons_succ, List.set_cons_zero, e_seqN, mRet, mCB, mCons, mNil, e2, e_lift1, e_allF, e_resR, reify_d]
  rfl
/-! ### the lock -/
abbrev lockO (ho : PyData) (q : List Rw) (c : List Int) (g : Nat) : Ob := .dct [(.inr "holder", .d ho), (.inr "queue", .d (.list (q.map rowD))), (.inr "clock", .d (ti c)), (.inr "grants", dI (g : Nat))]
abbrev grD (a : Nat) (cl : List Int) (g : Nat) (c : List Int) : PyData := .tuple [.int (a : Nat), ti cl, .int ((g : Nat) + 1 : Int), ti c]
section
variable {n : Nat} {h : MH} {ho : PyData} {q : List Rw} {c cl c2 : List Int} {g a b : Nat}
theorem q_granted (hn : h[n]? = some (lockO ho q c g)) : fn_granted [.ref n, .d (.int (a : Nat)), .d (ti cl)] h = some (.d (grD a cl g c), h.set n (lockO (.int (a : Nat)) q c (g + 1))) := by
  have hl := (List.getElem?_eq_some_iff.mp hn).1
  unfold fn_granted m_granted ml_granted_1 ml_granted_2 ml_granted_3
  walk_at "e28"
  simp only [List.set_set]
  rfl
theorem q_ask0 (hn : h[n]? = some (lockO .none q c g)) : fn_ask [.ref n, .d (.int (a : Nat)), .d (ti cl)] h = some (.d (grD a cl g c), h.set n (lockO (.int (a : Nat)) q c (g + 1))) := by
  have e := q_granted (a := a) (cl := cl) hn
  have ei : mIsN false (.d .none) (.d .none) h = some (.d (.bool true), h) := rfl
  unfold fn_ask m_ask ml_ask_1 mc_ask_1 ml_ask_2
  walk_at "e28"
theorem q_ask1 (hn : h[n]? = some (lockO (.int (b : Nat)) q c g)) (hz : q.length < 1000) : fn_ask [.ref n, .d (.int (a : Nat)), .d (ti cl)] h = some (.d .none, h.set n (lockO (.int (b : Nat)) (q ++ [(a, cl)]) c g)) := by
  have hl := (List.getElem?_eq_some_iff.mp hn).1
  have ei : mIsN false (.d (.int (b : Nat))) (.d .none) h = some (.d (.bool false), h) := rfl
  have ec := e_catD (xs := q.map rowD) (ys := [rowD (a, cl)]) (h := h) (by simp; omega)
  unfold fn_ask m_ask ml_ask_1 mc_ask_1 ml_ask_2 ml_ask_3 ml_ask_4
  have em : (q ++ [(a, cl)]).map rowD = q.map rowD ++ [rowD (a, cl)] := by simp
  simp only [lockO, em]
  clear em
  walk_at "e28"
theorem q_let_go0 (hn : h[n]? = some (lockO ho [] c g)) : fn_let_go [.ref n, .d (ti cl)] h = some (.d .none, h.set n (lockO .none [] cl g)) := by
  have hl := (List.getElem?_eq_some_iff.mp hn).1
  unfold fn_let_go m_let_go ml_let_go_1 ml_let_go_2 ml_let_go_3 mc_let_go_3 ml_let_go_4
  walk_at "e28"
  simp only [List.set_set]
  rfl
theorem q_let_go1 (hn : h[n]? = some (lockO ho ((a, cl) :: q) c g)) : fn_let_go [.ref n, .d (ti c2)] h = some (.d (grD a cl g c2), h.set n (lockO (.int (a : Nat)) q c2 (g + 1))) := by
  have hl := (List.getElem?_eq_some_iff.mp hn).1
  have s12 : ∀ r : MS, mSeq ml_let_go_1 (mSeq ml_let_go_2 r) [some (.ref n), some (.d (ti c2)), none, none] h = r [some (.ref n), some (.d (ti c2)), none, none] (h.set n (lockO .none ((a, cl) :: q) c2 g)) := fun r => by
    unfold ml_let_go_1 ml_let_go_2
    walk_at "e28"
    simp only [List.set_set]
    rfl
  have hn1 : (h.set n (lockO .none ((a, cl) :: q) c2 g))[n]? = some (lockO .none ((a, cl) :: q) c2 g) := List.getElem?_set_self hl
  have e4 := q_granted (a := a) (cl := cl) (h := h.set n (lockO .none q c2 g)) (List.getElem?_set_self hl)
  have e5 : (h.set n (lockO .none ((a, cl) :: q) c2 g)).set n (lockO .none q c2 g) = h.set n (lockO .none q c2 g) := List.set_set ..
  rw [List.set_set] at e4
  have hl1 : n < (h.set n (lockO .none ((a, cl) :: q) c2 g)).length := by rw [List.length_set]; exact hl
  unfold fn_let_go m_let_go toHeap
  rw [if_pos (by rfl)]
  show (mSeq ml_let_go_1 _ [some (.ref n), some (.d (ti c2)), none, none] h).bind resM = _
  rw [s12]
  clear s12 hn
  generalize h.set n (lockO .none ((a, cl) :: q) c2 g) = h1 at *
  have c3 : mc_let_go_3 [some (.ref n), some (.d (ti c2)), none, none] h1 = some (false, h1) := by
    have e0 : decide ((((((a, cl) :: q).map rowD).map MV.d).length : Int) = (0 : Int)) = false := by simp; omega
    unfold mc_let_go_3
    clear e4 e5
    walk_at "e28"
    simp only [List.length_cons, List.length_map] at e0 ⊢
    simp only [e0]
  rw [e_mSeq (show ml_let_go_3 [some (.ref n), some (.d (ti c2)), none, none] h1 = some (.nx [some (.ref n), some (.d (ti c2)), none, none] h1) from e_ifF c3 rfl)]
  have s5 : ml_let_go_5 [some (.ref n), some (.d (ti c2)), none, none] h1 = some (.nx [some (.ref n), some (.d (ti c2)), some (dI (a : Nat)), some (.d (ti cl))] h1) := by
    unfold ml_let_go_5
    clear e4 e5
    walk_at "e28"
  rw [e_mSeq s5]
  have e1 := cut_from ((((a, cl) :: q).map rowD).map MV.d) (k := 1) (by decide) (by simp; omega)
  have e2 : ((((a, cl) :: q).map rowD).map MV.d).drop (Int.toNat 1) = (q.map rowD).map MV.d := rfl
  rw [e2] at e1
  have s6 : ml_let_go_6 [some (.ref n), some (.d (ti c2)), some (dI (a : Nat)), some (.d (ti cl))] h1 = some (.nx [some (.ref n), some (.d (ti c2)), some (dI (a : Nat)), some (.d (ti cl))] (h.set n (lockO .none q c2 g))) := by
    rw [← e5]
    unfold ml_let_go_6
    clear e4 e5 e2 c3 s5
    simp only [List.map_cons] at hn1 e1
    walk_at "e28"
  rw [e_mSeq s6]
  unfold ml_let_go_7
  clear hn1 e1 e2 s5 s6 c3 e5
  walk_at "e28"
end
/-! ### the master -/
abbrev masterO (co en : List Rw) (nb : Nat) (ov : Bool) : Ob := .dct [(.inr "come", .d (.list (co.map rowD))), (.inr "ended", .d (.list (en.map rowD))), (.inr "number", dI (nb : Nat)), (.inr "over", .d (.bool ov))]
def dcR (rs : List Rw) : List (Key × MV) := rs.map fun r => (.inl (r.1 : Int), .d (ti r.2))
theorem dcR_out {rs : List Rw} {a : Nat} (h : a ∉ rs.map (·.1)) : valG (dcR rs) (.inl (a : Int)) = none := valG_out fun m => h (by
  unfold dcR at m
  rw [List.map_map] at m
  obtain ⟨r, hr, e⟩ := List.mem_map.mp m
  simp at e
  exact List.mem_map.mpr ⟨r, hr, by omega⟩)
theorem dcR_in {rs : List Rw} (hn : (rs.map (·.1)).Nodup) : ∀ {r : Rw}, r ∈ rs → valG (dcR rs) (.inl (r.1 : Int)) = some (.d (ti r.2)) := by
  induction rs with
  | nil => intro r m; cases m
  | cons p ps ih =>
    intro r m
    rw [List.map_cons, List.nodup_cons] at hn
    show valG ((.inl (p.1 : Int), .d (ti p.2)) :: dcR ps) (.inl (r.1 : Int)) = _
    rw [valG_cons]
    rcases List.mem_cons.mp m with e | m
    · rw [e, if_pos rfl]
    · rw [if_neg, ih hn.2 m]
      intro e
      simp at e
      exact hn.1 (List.mem_map.mpr ⟨r, m, by omega⟩)
theorem dcR_put {rs : List Rw} {a : Nat} {cl : List Int} (h : a ∉ rs.map (·.1)) : putG (dcR rs) (.inl (a : Int)) (.d (ti cl)) = dcR (rs ++ [(a, cl)]) := by
  unfold putG hasG
  rw [dcR_out h, if_neg (by decide)]
  unfold dcR
  rw [List.map_append]; rfl
theorem fold_dcR : ∀ (rs acc : List Rw), ((acc ++ rs).map (·.1)).Nodup → rs.foldl (fun a r => putG a (.inl (r.1 : Int)) (.d (ti r.2))) (dcR acc) = dcR (acc ++ rs)
  | [], acc, _ => by simp
  | r :: rs, acc, h => by
    rw [List.foldl_cons]
    have : r.1 ∉ acc.map (·.1) := by
      rw [List.map_append, List.nodup_append] at h
      exact fun m => h.2.2 _ m _ (by simp) rfl
    rw [dcR_put this, fold_dcR rs (acc ++ [r]) (by rw [List.append_assoc]; exact h), List.append_assoc]; rfl
section
variable {n m : Nat} {h : MH} {co en : List Rw} {nb a : Nat} {ov b : Bool} {cl : List Int}
theorem q_come (hn : h[n]? = some (masterO co en nb ov)) (h1 : co.length ≤ 1000) (h2 : en.length ≤ 1000) : fn_come [.ref n, .d (.int (a : Nat)), .d (ti cl), .d (.bool b)] h = some (.d .none, h.set n (masterO (co ++ [(a, cl)]) (if b = true then en ++ [(a, cl)] else en) nb ov)) := by
  have hl := (List.getElem?_eq_some_iff.mp hn).1
  have em : (co ++ [(a, cl)]).map rowD = co.map rowD ++ [rowD (a, cl)] := by simp
  have em2 : (en ++ [(a, cl)]).map rowD = en.map rowD ++ [rowD (a, cl)] := by simp
  have ec : ∀ h, mCatS (.d (.list (co.map rowD))) (.d (.list [rowD (a, cl)])) h = some ((co.map rowD ++ [rowD (a, cl)]).map .d, h) := fun h => e_catD (by simp; omega)
  have ec2 : ∀ h, mCatS (.d (.list (en.map rowD))) (.d (.list [rowD (a, cl)])) h = some ((en.map rowD ++ [rowD (a, cl)]).map .d, h) := fun h => e_catD (by simp; omega)
  unfold fn_come m_come ml_come_1 ml_come_2 ml_come_3 mc_come_3 ml_come_4
  cases b with
  | true =>
    simp only [masterO, em, em2, if_true]
    clear em em2 h1 h2
    walk_at "e28"
    simp only [List.set_set]
  | false =>
    simp only [masterO, em, if_false, Bool.false_eq_true]
    clear em em2 h1 h2
    walk_at "e28"
theorem q_is_over (hn : h[n]? = some (masterO co en nb ov)) : fn_is_over [.ref n] h = some (.d (.bool ov), h) := by
  unfold fn_is_over m_is_over ml_is_over_1
  walk_at "e28"
theorem q_is_complete (hn : h[n]? = some (masterO co en nb ov)) (hm : m ≤ 4) (hz : co.length ≤ 1000) : fn_is_complete [.ref n, .d (.int (m : Nat))] h = some (.d (.bool (!ov && hasAll co m)), h) := by
  have e := q_is_over hn
  have e2 := q_has_all co m hm hz
  unfold fn_is_complete m_is_complete ml_is_complete_1
  cases ov <;> walk_at "e28" <;> simp
theorem q_clocks_of (hn : h[n]? = some (masterO co en nb ov)) (hd : (co.map (·.1)).Nodup) (hz : co.length ≤ 1000) : fn_clocks_of [.ref n] h = some (.ref h.length, h ++ [.dct (dcR co)]) := by
  have e : mDc (mItL (mDGet (mVar 0) (mK (.str "come")))) (mgTup 2 (mgCons (mgName 1) (mgCons (mgName 2) mgNil))) mYes (mVar 1) (mVar 2) [1, 2] [some (.ref n), none, none] h = some (.ref h.length, h ++ [.dct (dcR co)]) := by
    rw [mDc_data co (fun r => .d (rowD r)) (fun r => .inl (r.1 : Int)) (fun r => .d (ti r.2)) (h1 := h)]
    · have := fold_dcR co [] (by simpa using hd)
      rw [show dcR [] = [] from rfl] at this
      rw [this]; rfl
    · rw [e_lst (ds := co.map rowD) (h1 := h), List.map_map]
      · rfl
      · clear hd hz
        walk_at "e28"
    · intro r hr
      refine ⟨_, rfl, .d (.int (r.1 : Nat)), rfl, rfl, rfl⟩
    · omega
  unfold fn_clocks_of m_clocks_of ml_clocks_of_1
  clear hn hd hz
  walk_at "e28"
theorem q_go_on (hn : h[n]? = some (masterO co en nb false)) (hm : m ≤ 4) (hz : en.length ≤ 1000) : fn_go_on [.ref n, .d (.int (m : Nat))] h = some (dI (nb + 1 : Nat), h.set n (masterO en en (nb + 1) (hasAll en m))) := by
  have hl := (List.getElem?_eq_some_iff.mp hn).1
  have e := q_is_over hn
  have e2 := q_has_all en m hm hz
  unfold fn_go_on m_go_on ml_go_on_1 mc_go_on_1 ml_go_on_2 ml_go_on_3 ml_go_on_4 ml_go_on_5
  clear hz hm
  walk_at "e28"
  simp only [List.set_set]
  rfl
end
theorem re_map' {α : Type} (f : α → PyData) (k : Nat) (h : MH) (xs : List α) : mapO (reify k h) (xs.map fun x => .d (f x)) = some (xs.map f) := by
  rw [show (xs.map fun x => MV.d (f x)) = (xs.map f).map MV.d by rw [List.map_map]; rfl]
  exact mapO_reify_d _ _ _
inductive Rk where
  | tape | lock | world | wq | master | came | ended
  deriving DecidableEq
structure S28 where
  t : Tp
  ho : Option Nat
  q : List Rw
  c : List Int
  g : Nat
  wh : Option Nat
  wq : List Rw
  wc : List Int
  wg : Nat
  co : List Rw
  en : List Rw
  nb : Nat
  ov : Bool
  ce : List Rw
  ee : List Rw
def hoD : Option Nat → PyData
  | none => .none
  | some a => .int (a : Nat)
def cont (loc : Rk → Nat) (s : S28) : Rk → Ob
  | .tape => tpO s.t
  | .lock => lockO (hoD s.ho) s.q s.c s.g
  | .world => .lst [.d (hoD s.wh), .ref (loc .wq), .d (ti s.wc), dI (s.wg : Nat)]
  | .wq => .lst (s.wq.map fun r => .d (rowD r))
  | .master => masterO s.co s.en s.nb s.ov
  | .came => .dct (dcR s.ce)
  | .ended => .dct (dcR s.ee)
abbrev TT : Rk → Prop := fun _ => True
abbrev LL (loc : Rk → Nat) (s : S28) (h : MH) : Prop := Lay TT loc (cont loc s) h
theorem e_noneI {i : Int} {h : MH} : mEqD false (.d .none) (.d (.int i)) h = some (.d (.bool false), h) := by
  rw [e_eqD (pl_sh (n := 0) pl_none) (pl_sh (n := 0) (pl_int i))]; rfl
theorem i40 : ixN 4 0 = some 0 := by decide
theorem i42 : ixN 4 2 = some 2 := by decide
theorem i43 : ixN 4 3 = some 3 := by decide
theorem pl_ti (xs : List Int) : pl 1 (ti xs) := pl_tup fun d m => by
  obtain ⟨i, _, rfl⟩ := List.mem_map.mp m
  exact pl_int i
theorem pl_row (r : Rw) : pl 2 (rowD r) := pl_t2 (pl_int _) (pl_ti _)
theorem pl_gr (a : Nat) (cl : List Int) (g : Nat) (c : List Int) : pl 2 (grD a cl g c) := pl_tup fun d m => by
  simp only [List.mem_cons, List.not_mem_nil, or_false] at m
  rcases m with e | e | e | e <;> rw [e]
  · exact pl_int _
  · exact pl_ti _
  · exact pl_int _
  · exact pl_ti _
section
variable {loc : Rk → Nat} {s : S28} {h : MH}
theorem nextK (L : LL loc s h) (ok : s.t.ok) {many : Int} (h0 : 0 < many) (h1 : many < 2 ^ 62) :
    ∃ (k : Nat) (t' : Tp) (h' : MH), fn__law_next [.ref (loc .tape), .d (.int many)] h = some (.d (.int (k : Nat)), h') ∧ (k : Int) < many ∧ t'.ok ∧ LL loc { s with t := t' } h' := by
  obtain ⟨k, t', e, k0, k1, ok'⟩ := q_next (L.at_ .tape trivial) ok h0 h1
  refine ⟨k.toNat, t', _, ?_, by omega, ok', L.set (r := .tape) trivial (o := tpO t') rfl (fun r _ hn => by
    cases r with
    | tape => exact absurd rfl hn
    | _ => rfl)⟩
  rw [e, Int.toNat_of_nonneg k0]
theorem LL.lock (L : LL loc s h) (ho : Option Nat) (q : List Rw) (c : List Int) (g : Nat) {d : PyData} (hd : d = hoD ho) : LL loc { s with ho := ho, q := q, c := c, g := g } (h.set (loc .lock) (lockO d q c g)) := by
  rw [hd]
  exact L.set (r := .lock) trivial rfl (fun r _ hn => by
    cases r with
    | lock => exact absurd rfl hn
    | _ => rfl)
theorem LL.world (L : LL loc s h) (ho : Option Nat) (c : List Int) (g : Nat) {d : PyData} (hd : d = hoD ho) : LL loc { s with wh := ho, wc := c, wg := g } (h.set (loc .world) (.lst [.d d, .ref (loc .wq), .d (ti c), dI (g : Nat)])) := by
  rw [hd]
  exact L.set (r := .world) trivial rfl (fun r _ hn => by
    cases r with
    | world => exact absurd rfl hn
    | _ => rfl)
theorem LL.wq (L : LL loc s h) (q : List Rw) : LL loc { s with wq := q } (h.set (loc .wq) (.lst (q.map fun r => .d (rowD r)))) :=
  L.set (r := .wq) trivial rfl (fun r _ hn => by
    cases r with
    | wq => exact absurd rfl hn
    | _ => rfl)
theorem LL.master (L : LL loc s h) (co en : List Rw) (nb : Nat) (ov : Bool) : LL loc { s with co := co, en := en, nb := nb, ov := ov } (h.set (loc .master) (masterO co en nb ov)) :=
  L.set (r := .master) trivial rfl (fun r _ hn => by
    cases r with
    | master => exact absurd rfl hn
    | _ => rfl)
theorem LL.came (L : LL loc s h) (co : List Rw) : LL loc { s with ce := co } (h.set (loc .came) (.dct (dcR co))) :=
  L.set (r := .came) trivial rfl (fun r _ hn => by
    cases r with
    | came => exact absurd rfl hn
    | _ => rfl)
theorem LL.ended (L : LL loc s h) (co : List Rw) : LL loc { s with ee := co } (h.set (loc .ended) (.dct (dcR co))) :=
  L.set (r := .ended) trivial rfl (fun r _ hn => by
    cases r with
    | ended => exact absurd rfl hn
    | _ => rfl)
structure Agr (s : S28) : Prop where
  h : s.wh = s.ho
  q : s.wq = s.q
  c : s.wc = s.c
  g : s.wg = s.g
theorem Agr.tape (a : Agr s) (t : Tp) : Agr { s with t := t } := ⟨a.h, a.q, a.c, a.g⟩
theorem q_law_lock (L : LL loc s h) (ok : s.t.ok) (A : Agr s) {m : Nat} (hm : 2 ≤ m) (hm4 : m ≤ 4) (hz : s.q.length < 900) (cl : List Int) :
    ∃ h' s', fn__law_lock [.ref (loc .tape), .ref (loc .lock), .ref (loc .world), .d (ti cl), .d (.int (m : Nat))] h = some (.d (.bool true), h') ∧ LL loc s' h' ∧ s'.t.ok ∧ Agr s' ∧ s'.q.length ≤ s.q.length + 1 ∧ s'.co = s.co ∧ s'.en = s.en ∧ s'.nb = s.nb ∧ s'.ov = s.ov ∧ s'.ce = s.ce ∧ s'.ee = s.ee := by
  obtain ⟨a, t', h1, e1, k1, ok1, L1⟩ := nextK L ok (many := (m : Int)) (by omega) (by omega)
  obtain ⟨ah, aq, ac, ag⟩ := A
  suffices hh : ∃ h' s', mSeq ml__law_lock_3 (mSeq ml__law_lock_13 (mSeq ml__law_lock_15 (mSeq ml__law_lock_16 ml__law_lock_22))) [some (.ref (loc .tape)), some (.ref (loc .lock)), some (.ref (loc .world)), some (.d (ti cl)), some (dI (m : Nat)), some (dI (a : Nat)), some (.d (.list (s.q.map fun r => PyData.int (r.1 : Nat)))), none, none, none] h1 = some (.rt (.d (.bool true)) h') ∧ LL loc s' h' ∧ s'.t.ok ∧ Agr s' ∧ s'.q.length ≤ s.q.length + 1 ∧ s'.co = s.co ∧ s'.en = s.en ∧ s'.nb = s.nb ∧ s'.ov = s.ov ∧ s'.ce = s.ce ∧ s'.ee = s.ee by
    obtain ⟨h', s', e, r⟩ := hh
    refine ⟨h', s', ?_, r⟩
    have s1 : ml__law_lock_1 [some (.ref (loc .tape)), some (.ref (loc .lock)), some (.ref (loc .world)), some (.d (ti cl)), some (dI (m : Nat)), none, none, none, none, none] h = some (.nx [some (.ref (loc .tape)), some (.ref (loc .lock)), some (.ref (loc .world)), some (.d (ti cl)), some (dI (m : Nat)), some (dI (a : Nat)), none, none, none, none] h1) := by
      unfold ml__law_lock_1
      clear e r L L1
      walk_at "eh"
    have s2 : ml__law_lock_2 [some (.ref (loc .tape)), some (.ref (loc .lock)), some (.ref (loc .world)), some (.d (ti cl)), some (dI (m : Nat)), some (dI (a : Nat)), none, none, none, none] h1 = some (.nx [some (.ref (loc .tape)), some (.ref (loc .lock)), some (.ref (loc .world)), some (.d (ti cl)), some (dI (m : Nat)), some (dI (a : Nat)), some (.d (.list (s.q.map fun r => PyData.int (r.1 : Nat)))), none, none, none] h1) := by
      have g1 := L1.at_ .world trivial
      have g2 := L1.at_ .wq trivial
      simp only [cont, aq] at g1 g2
      have ec : mLc (mItL (mOp mIx (mVar 2) (mK (.int 1)))) (mgName 9) mYes (mOp mIx (mVar 9) (mK (.int 0))) [9] [some (.ref (loc .tape)), some (.ref (loc .lock)), some (.ref (loc .world)), some (.d (ti cl)), some (dI (m : Nat)), some (dI (a : Nat)), none, none, none, none] h1 = some ((s.q.map fun r => PyData.int (r.1 : Nat)).map .d, h1) := by
        rw [mLc_mapS s.q (fun r => .d (rowD r)) (fun r => .d (.int (r.1 : Nat))) (src := [(loc .wq, s.q.map fun r => .d (rowD r))]) (h1 := h1)]
        · rw [List.map_map]; rfl
        · rw [e_ref (n := loc .wq) (xs := s.q.map fun r => .d (rowD r)) (h1 := h1)]
          · clear e r L L1
            walk_at "eh"
          · exact g2
        · intro z hz
          rw [List.mem_singleton.mp hz]; exact g2
        · intro r0 hr
          clear e r L L1 g1 g2 s1
          walk_at "eh"
        · omega
      unfold ml__law_lock_2
      simp only [mAsg, mDat, ec, Option.bind_some, e_allDm, Option.map_some, e_mgName, List.set_cons_succ, List.set_cons_zero]
    unfold fn__law_lock m__law_lock toHeap
    rw [if_pos (by rfl)]
    show (mSeq ml__law_lock_1 _ [some (.ref (loc .tape)), some (.ref (loc .lock)), some (.ref (loc .world)), some (.d (ti cl)), some (dI (m : Nat)), none, none, none, none, none] h).bind resM = _
    rw [e_mSeq s1, e_mSeq s2, e]
    rfl
  generalize hE : [some (MV.ref (loc .tape)), some (.ref (loc .lock)), some (.ref (loc .world)), some (.d (ti cl)), some (dI (m : Nat)), some (dI (a : Nat)), some (.d (.list (s.q.map fun r => PyData.int (r.1 : Nat)))), none, none, none] = env
  have hlen : env.length = 10 := by rw [← hE]; rfl
  have a1 : At env 1 (.ref (loc .lock)) := by rw [← hE]; rfl
  have a2 : At env 2 (.ref (loc .world)) := by rw [← hE]; rfl
  have a3 : At env 3 (.d (ti cl)) := by rw [← hE]; rfl
  have a5 : At env 5 (dI (a : Nat)) := by rw [← hE]; rfl
  have a6 : At env 6 (.d (.list (s.q.map fun r => PyData.int (r.1 : Nat)))) := by rw [← hE]; rfl
  clear hE e1 L
  have nw : loc .world ≠ loc .wq := L1.ne (r := .world) (s := .wq) trivial trivial (by simp)
  have nl : loc .world ≠ loc .lock := L1.ne (r := .world) (s := .lock) trivial trivial (by simp)
  have g1 := L1.at_ .world trivial
  have g2 := L1.at_ .wq trivial
  have g3 := L1.at_ .lock trivial
  simp only [cont, ah, aq, ac, ag] at g1 g2 g3
  have lw := L1.lt (r := .world) trivial
  have lq := L1.lt (r := .wq) trivial
  have i0 := i40
  have i2 := i42
  have i3 := i43
  have c3 : mc__law_lock_3 env h1 = some (decide (s.ho = some a), h1) := by
    have : mEqD false (.d (hoD s.ho)) (.d (.int (a : Nat))) h1 = some (.d (.bool (decide (s.ho = some a))), h1) := by
      cases hw : s.ho with
      | none => exact e_noneI
      | some b =>
        rw [show hoD (some b) = .int (b : Nat) from rfl, e_eqI]
        congr 4
        simp
        omega
    unfold mc__law_lock_3
    clear L1 g2 g3 ah aq ac ag
    walk_at "eh"
  by_cases hh : s.ho = some a
  · rw [decide_eq_true hh] at c3
    have L2 := L1.world none cl s.g (d := .none) rfl
    have s46 : ∀ r : MS, mSeq ml__law_lock_4 (mSeq ml__law_lock_5 (mSeq ml__law_lock_6 r)) env h1 = r (env.set 7 (some (.d .none))) (h1.set (loc .world) (.lst [.d .none, .ref (loc .wq), .d (ti cl), dI (s.g : Nat)])) := fun r => by
      unfold ml__law_lock_4 ml__law_lock_5 ml__law_lock_6
      clear L1 L2 c3 g2 g3 hh ah aq ac ag
      walk_at "eh"
      simp only [List.set_set]
    obtain ⟨env2, hE2⟩ : ∃ env2, env2 = env.set 7 (some (.d .none)) := ⟨_, rfl⟩
    obtain ⟨h2, hh2⟩ : ∃ h2, h2 = h1.set (loc .world) (.lst [.d .none, .ref (loc .wq), .d (ti cl), dI (s.g : Nat)]) := ⟨_, rfl⟩
    rw [← hE2, ← hh2] at s46
    rw [← hh2] at L2
    have b1 : At env2 1 (.ref (loc .lock)) := by rw [hE2]; walk_at "at"
    have b2 : At env2 2 (.ref (loc .world)) := by rw [hE2]; walk_at "at"
    have b3 : At env2 3 (.d (ti cl)) := by rw [hE2]; walk_at "at"
    have b7 : At env2 7 (.d .none) := by rw [hE2]; walk_at "at"
    have hlen2 : env2.length = 10 := by rw [hE2, List.length_set]; exact hlen
    clear hE2 hh2 a1 a2 a3 a5 a6 hlen g1 g2 g3 lw lq
    have g1 := L2.at_ .world trivial
    have g2 := L2.at_ .wq trivial
    have g3 := L2.at_ .lock trivial
    simp only [cont, aq, show hoD none = .none from rfl] at g1 g2 g3
    have lw := L2.lt (r := .world) trivial
    have lq := L2.lt (r := .wq) trivial
    have r7 : mOp (mEqD true) (mOp mIx (mVar 2) (mK (.int 1))) (mDat (mLst mNil)) env2 h2 = some (.d (.bool (!decide (s.q = []))), h2) := by
      have sh : SeqAt.shaped (.list (s.q.map rowD)) = true := pl_sh (pl_list (n := 2) fun d hd => by
        obtain ⟨q, _, rfl⟩ := List.mem_map.mp hd
        exact pl_row q)
      have e0 : mOp mIx (mVar 2) (mK (.int 1)) env2 h2 = some (.ref (loc .wq), h2) := by
        clear L1 L2 g2 g3 s46 ah aq ac ag hh
        walk_at "eh"
      rw [e_mOp (x := .ref (loc .wq)) (y := .d (.list [])) (h1 := h2) (h2 := h2) e0 rfl, e_nilE (re_ref g2 (re_map' rowD _ _ _)) sh]
      simp
    suffices fin : ∀ due env3 h3 s3, ml__law_lock_7 env2 h2 = some (.nx env3 h3) → LL loc s3 h3 → s3.t.ok → At env3 1 (.ref (loc .lock)) → At env3 3 (.d (ti cl)) → At env3 7 (.d due) → (∃ h4 s4, fn_let_go [.ref (loc .lock), .d (ti cl)] h3 = some (.d due, h4) ∧ SeqAt.shaped due = true ∧ LL loc s4 h4 ∧ s4.t.ok ∧ Agr s4 ∧ s4.q.length ≤ s.q.length + 1 ∧ s4.co = s.co ∧ s4.en = s.en ∧ s4.nb = s.nb ∧ s4.ov = s.ov ∧ s4.ce = s.ce ∧ s4.ee = s.ee) →
        ∃ h' s', mSeq ml__law_lock_3 (mSeq ml__law_lock_13 (mSeq ml__law_lock_15 (mSeq ml__law_lock_16 ml__law_lock_22))) env h1 = some (.rt (.d (.bool true)) h') ∧ LL loc s' h' ∧ s'.t.ok ∧ Agr s' ∧ s'.q.length ≤ s.q.length + 1 ∧ s'.co = s.co ∧ s'.en = s.en ∧ s'.nb = s.nb ∧ s'.ov = s.ov ∧ s'.ce = s.ce ∧ s'.ee = s.ee by
      obtain hq | ⟨b, cl2, q2, hq⟩ : s.q = [] ∨ ∃ b cl2 q2, s.q = (b, cl2) :: q2 := by
        rcases s.q with _ | ⟨⟨b, cl2⟩, q2⟩
        · exact .inl rfl
        · exact .inr ⟨b, cl2, q2, rfl⟩
      · rw [hq] at r7 g3 g2
        refine fin .none env2 h2 _ ?_ L2 ok1 b1 b3 b7 ⟨_, _, q_let_go0 g3, pl_sh (n := 0) pl_none, L2.lock none [] cl s.g rfl, ok1, ⟨rfl, (aq.trans hq), rfl, rfl⟩, Nat.zero_le _, rfl, rfl, rfl, rfl, rfl, rfl⟩
        unfold ml__law_lock_7
        refine e_ifF (h1 := h2) ?_ rfl
        unfold mc__law_lock_7
        rw [e_mTest r7]; simp
      · rw [hq] at r7 g3 g2
        have L3 := (L2.wq q2).world (some b) cl (s.g + 1) (d := .int (b : Nat)) rfl
        have g3' := L3.at_ .lock trivial
        simp only [cont] at g3'
        rw [hq] at g3'
        refine fin (grD b cl2 s.g cl) ((env2.set 8 (some (.d (rowD (b, cl2))))).set 7 (some (.d (grD b cl2 s.g cl)))) _ _ ?_ L3 ok1 (by walk_at "at") (by walk_at "at") (at_eq (by rw [List.length_set]; omega)) ⟨_, _, q_let_go1 g3', pl_sh (pl_gr _ _ _ _), L3.lock (some b) q2 cl (s.g + 1) rfl, ok1, ⟨rfl, rfl, rfl, rfl⟩, by dsimp only; rw [hq]; simp; omega, rfl, rfl, rfl, rfl, rfl, rfl⟩
        unfold ml__law_lock_7
        refine e_ifT (h1 := h2) ?_ ?_
        · unfold mc__law_lock_7
          rw [e_mTest r7]; simp
        · unfold ml__law_lock_8 ml__law_lock_9 ml__law_lock_10 ml__law_lock_11
          simp only [List.map_cons] at g2
          clear L1 L2 L3 g3 g3' r7 s46 fin ah aq ac ag hh hq c3
          have nw2 := nw.symm
          walk_at "eh"
          simp only [List.set_set]
          rfl
    intro due env3 h3 s3 s7 L3 ok3 k1' k3' k7 ⟨h4, s4, e4, sh, L4, r⟩
    refine ⟨h4, s4, ?_, L4, r⟩
    have es : mEqD false (.d due) (.d due) h4 = some (.d (.bool (!false)), h4) := e_same sh
    have s12 : ml__law_lock_12 env3 h3 = some (.rt (.d (.bool true)) h4) := by
      unfold ml__law_lock_12
      clear L1 L2 L3 L4 s7 s46 c3 r r7 g1 g2 g3 b1 b2 b3 b7 ah aq ac ag hh
      walk_at "eh"
    have : ml__law_lock_3 env h1 = some (.rt (.d (.bool true)) h4) := by
      unfold ml__law_lock_3
      refine e_ifT c3 ?_
      rw [s46, e_mSeq s7, s12]
    rw [e_mSeqR this]
  · rw [decide_eq_false hh] at c3
    have s3 : ml__law_lock_3 env h1 = some (.nx env h1) := e_ifF c3 rfl
    rw [e_mSeq s3]
    clear s3 c3
    have c13 : mc__law_lock_13 env h1 = some (decide (a ∈ s.q.map (·.1)), h1) := by
      have x : mInD false (.d (.int (a : Nat))) (.d (.list (s.q.map fun r => PyData.int (r.1 : Nat)))) h1 = some (.d (.bool (decide (a ∈ s.q.map (·.1)))), h1) := by
        rw [e_inR Enc.int (a := (a : Int)) (bs := s.q.map fun r => (r.1 : Int)) (reify_d _ _ _) (by rw [reify_d, List.map_map]; rfl)]
        have : ((a : Int) ∈ s.q.map fun r => (r.1 : Int)) ↔ a ∈ s.q.map (·.1) := by
          simp only [List.mem_map]
          exact ⟨fun ⟨r, h1, h2⟩ => ⟨r, h1, by omega⟩, fun ⟨r, h1, h2⟩ => ⟨r, h1, by omega⟩⟩
        simp only [Bool.false_eq_true, if_false, decide_eq_decide.mpr this]
      unfold mc__law_lock_13
      clear L1 g1 g2 g3 ah aq ac ag hh
      walk_at "eh"
    by_cases hw : a ∈ s.q.map (·.1)
    · rw [decide_eq_true hw] at c13
      have : ml__law_lock_13 env h1 = some (.rt (.d (.bool true)) h1) := e_ifT c13 rfl
      exact ⟨h1, _, e_mSeqR this, L1, ok1, ⟨ah, aq, ac, ag⟩, Nat.le_succ _, rfl, rfl, rfl, rfl, rfl, rfl⟩
    rw [decide_eq_false hw] at c13
    have s13 : ml__law_lock_13 env h1 = some (.nx env h1) := e_ifF c13 rfl
    rw [e_mSeq s13]
    clear s13 c13
    have c16 : mc__law_lock_16 (env.set 7 (some (.d .none))) h1 = some (decide (s.ho = none), h1) := by
      have x : mIsN false (.d (hoD s.ho)) (.d .none) h1 = some (.d (.bool (decide (s.ho = none))), h1) := by
        cases s.ho <;> rfl
      unfold mc__law_lock_16
      clear L1 g2 g3 ah aq ac ag hh
      walk_at "eh"
    obtain ho | ⟨b, ho⟩ : s.ho = none ∨ ∃ b, s.ho = some b := by
      cases s.ho with
      | none => exact .inl rfl
      | some b => exact .inr ⟨b, rfl⟩
    · rw [decide_eq_true ho] at c16
      have L2 := L1.world (some a) s.c (s.g + 1) (d := .int (a : Nat)) rfl
      rw [ho] at g1 g3
      have g3' := L2.at_ .lock trivial
      simp only [cont] at g3'
      rw [ho] at g3'
      have q := q_ask0 (a := a) (cl := cl) g3'
      have L3 := L2.lock (some a) s.q s.c (s.g + 1) (d := .int (a : Nat)) rfl
      refine ⟨_, _, ?_, L3, ok1, ⟨rfl, aq, rfl, rfl⟩, Nat.le_succ _, rfl, rfl, rfl, rfl, rfl, rfl⟩
      have s16 : ∀ r : MS, mSeq ml__law_lock_15 (mSeq ml__law_lock_16 r) env h1 = r ((env.set 7 (some (.d .none))).set 7 (some (.d (grD a cl s.g s.c)))) (h1.set (loc .world) (.lst [.d (.int (a : Nat)), .ref (loc .wq), .d (ti s.c), dI (s.g + 1 : Nat)])) := fun r => by
        have s15 : ml__law_lock_15 env h1 = some (.nx (env.set 7 (some (.d .none))) h1) := rfl
        rw [e_mSeq s15]
        have : ml__law_lock_16 (env.set 7 (some (.d .none))) h1 = some (.nx ((env.set 7 (some (.d .none))).set 7 (some (.d (grD a cl s.g s.c)))) (h1.set (loc .world) (.lst [.d (.int (a : Nat)), .ref (loc .wq), .d (ti s.c), dI (s.g + 1 : Nat)]))) := by
          unfold ml__law_lock_16
          refine e_ifT c16 ?_
          unfold ml__law_lock_17 ml__law_lock_18 ml__law_lock_19
          clear L1 L2 L3 g2 g3 g3' q c16 s15 ah aq ac ag hh ho hw
          walk_at "eh"
          simp only [List.set_set]
          rfl
        rw [e_mSeq this]
      rw [s16]
      have es : ∀ h4, mEqD false (.d (grD a cl s.g s.c)) (.d (grD a cl s.g s.c)) h4 = some (.d (.bool (!false)), h4) := fun h4 => e_same (pl_sh (pl_gr _ _ _ _))
      have z1 : At ((env.set 7 (some (.d .none))).set 7 (some (.d (grD a cl s.g s.c)))) 1 (.ref (loc .lock)) := by walk_at "at"
      have z3 : At ((env.set 7 (some (.d .none))).set 7 (some (.d (grD a cl s.g s.c)))) 3 (.d (ti cl)) := by walk_at "at"
      have z5 : At ((env.set 7 (some (.d .none))).set 7 (some (.d (grD a cl s.g s.c)))) 5 (dI (a : Nat)) := by walk_at "at"
      have z7 : At ((env.set 7 (some (.d .none))).set 7 (some (.d (grD a cl s.g s.c)))) 7 (.d (grD a cl s.g s.c)) := at_eq (by rw [List.length_set]; omega)
      generalize ((env.set 7 (some (.d .none))).set 7 (some (.d (grD a cl s.g s.c)))) = env4 at *
      generalize (h1.set (loc .world) (.lst [.d (.int (a : Nat)), .ref (loc .wq), .d (ti s.c), dI (s.g + 1 : Nat)])) = h2 at *
      unfold ml__law_lock_22
      clear L1 L2 L3 g1 g2 g3 g3' s16 c16 ah aq ac ag hh ho hw lw lq
      walk_at "eh"
    · rw [decide_eq_false (by rw [ho]; simp)] at c16
      rw [ho] at g1 g3
      have L2 := L1.wq (s.q ++ [(a, cl)])
      have g3' := L2.at_ .lock trivial
      simp only [cont] at g3'
      rw [ho] at g3'
      have q := q_ask1 (a := a) (cl := cl) g3' (by omega)
      have L3 := L2.lock (some b) (s.q ++ [(a, cl)]) s.c s.g (d := .int (b : Nat)) rfl
      refine ⟨_, _, ?_, L3, ok1, ⟨ah.trans ho, rfl, ac, ag⟩, by simp, rfl, rfl, rfl, rfl, rfl, rfl⟩
      have s16 : ∀ r : MS, mSeq ml__law_lock_15 (mSeq ml__law_lock_16 r) env h1 = r (env.set 7 (some (.d .none))) (h1.set (loc .wq) (.lst ((s.q ++ [(a, cl)]).map fun r => .d (rowD r)))) := fun r => by
        have s15 : ml__law_lock_15 env h1 = some (.nx (env.set 7 (some (.d .none))) h1) := rfl
        rw [e_mSeq s15]
        have : ml__law_lock_16 (env.set 7 (some (.d .none))) h1 = some (.nx (env.set 7 (some (.d .none))) (h1.set (loc .wq) (.lst ((s.q ++ [(a, cl)]).map fun r => .d (rowD r))))) := by
          unfold ml__law_lock_16
          refine e_ifF c16 ?_
          have em : (s.q ++ [(a, cl)]).map (fun r => MV.d (rowD r)) = s.q.map (fun r => MV.d (rowD r)) ++ [.d (rowD (a, cl))] := by simp
          have zl : ((s.q.map fun r => MV.d (rowD r)).length < 100000) = True := by simp; omega
          rw [em]
          unfold ml__law_lock_21
          clear L1 L2 L3 g3 g3' q c16 s15 ah aq ac ag hh ho hw em
          walk_at "eh"
        rw [e_mSeq this]
      rw [s16]
      have es : ∀ h4, mEqD false (.d .none) (.d .none) h4 = some (.d (.bool (!false)), h4) := fun h4 => e_same (pl_sh (n := 0) pl_none)
      have z1 : At (env.set 7 (some (.d .none))) 1 (.ref (loc .lock)) := by walk_at "at"
      have z3 : At (env.set 7 (some (.d .none))) 3 (.d (ti cl)) := by walk_at "at"
      have z5 : At (env.set 7 (some (.d .none))) 5 (dI (a : Nat)) := by walk_at "at"
      have z7 : At (env.set 7 (some (.d .none))) 7 (.d .none) := by walk_at "at"
      generalize env.set 7 (some (.d .none)) = env4 at *
      generalize (h1.set (loc .wq) (.lst ((s.q ++ [(a, cl)]).map fun r => .d (rowD r)))) = h2 at *
      unfold ml__law_lock_22
      clear L1 L2 L3 g1 g2 g3 g3' s16 c16 ah aq ac ag hh ho hw lw lq
      walk_at "eh"
end
structure Ms (m : Nat) (s : S28) : Prop where
  ce : s.ce = s.co
  ee : s.ee = s.en
  nd : (s.co.map (·.1)).Nodup
  lt : ∀ r ∈ s.co, r.1 < m
  ne : (s.en.map (·.1)).Nodup
  sub : ∀ r ∈ s.en, r ∈ s.co
theorem nd_len {rs : List Rw} {m : Nat} (hn : (rs.map (·.1)).Nodup) (hm : ∀ r ∈ rs, r.1 < m) : rs.length ≤ m := by
  have := nodup_sub_len (ys := rs.map (·.1)) (xs := List.range m) hn (fun y hy => by
    obtain ⟨r, hr, rfl⟩ := List.mem_map.mp hy
    exact List.mem_range.mpr (hm r hr))
  simpa using this
theorem hits_dcR (h : MH) {rs : List Rw} (hn : (rs.map (·.1)).Nodup) : ∀ qs : List Rw, (∀ q ∈ qs, q ∈ rs) → hitsM h (dcR rs) (dcR qs) = some true
  | [], _ => rfl
  | q :: qs, hq => by
    show hitsM h (dcR rs) ((.inl (q.1 : Int), .d (ti q.2)) :: dcR qs) = _
    rw [hitsM, dcR_in hn (hq q List.mem_cons_self)]
    have sh : SeqAt.shaped (ti q.2) = true := pl_sh (pl_ti _)
    have ev : PyData.eqv (ti q.2) (ti q.2) = true := SeqAt.eqv_refl _ (pl_ti q.2).1
    simp only [reify_d, Option.bind_some, sh, and_self, if_true, hits_dcR h hn qs fun z hz => hq z (List.mem_cons_of_mem _ hz), Option.map_some, ev]
    rfl
theorem Ms.add {m a : Nat} {s : S28} (M : Ms m s) (ha : a ∉ s.co.map (·.1)) (hm : a < m) (cl : List Int) (fg : Bool) (t : Tp) :
    Ms m { s with t := t, co := s.co ++ [(a, cl)], en := if fg = true then s.en ++ [(a, cl)] else s.en, ce := s.co ++ [(a, cl)], ee := if fg = true then s.en ++ [(a, cl)] else s.en } := by
  have hae : a ∉ s.en.map (·.1) := fun z => ha (by
    obtain ⟨r, hr, e⟩ := List.mem_map.mp z
    exact List.mem_map.mpr ⟨r, M.sub r hr, e⟩)
  have app : ∀ rs : List Rw, (rs.map (·.1)).Nodup → a ∉ rs.map (·.1) → ((rs ++ [(a, cl)]).map (·.1)).Nodup := fun rs h1 h2 => by
    rw [List.map_append]
    exact List.nodup_append.mpr ⟨h1, by simp, fun x hx y hy e => by
      simp at hy
      exact h2 (by rw [← hy, ← e]; exact hx)⟩
  refine ⟨rfl, rfl, app _ M.nd ha, fun r hr => ?_, ?_, fun r hr => ?_⟩
  · rcases List.mem_append.mp hr with z | z
    · exact M.lt r z
    · rw [List.mem_singleton.mp z]; exact hm
  · dsimp only
    split
    · exact app _ M.ne hae
    · exact M.ne
  · dsimp only at hr ⊢
    split at hr
    · rcases List.mem_append.mp hr with z | z
      · exact List.mem_append.mpr (.inl (M.sub r z))
      · exact List.mem_append.mpr (.inr z)
    · exact List.mem_append.mpr (.inl (M.sub r hr))
section
variable {loc : Rk → Nat} {s : S28} {h : MH}
theorem q_law_master (L : LL loc s h) (ok : s.t.ok) {m : Nat} (hm : 2 ≤ m) (hm4 : m ≤ 4) (M : Ms m s) (hov : s.ov = false) (cl : List Int) :
    ∃ h' s', fn__law_master [.ref (loc .tape), .ref (loc .master), .ref (loc .came), .ref (loc .ended), .d (ti cl), .d (.int (m : Nat))] h = some (.d (.bool true), h') ∧ LL loc s' h' ∧ s'.t.ok ∧ Ms m s' ∧ (Agr s → Agr s') ∧ s'.q = s.q ∧ s'.nb = s.nb ∧ s'.ov = false := by
  obtain ⟨a, t', h1, e1, k1, ok1, L1⟩ := nextK L ok (many := (m : Int)) (by omega) (by omega)
  have ham : a < m := by omega
  have hlen0 := nd_len M.nd M.lt
  generalize hE : [some (MV.ref (loc .tape)), some (.ref (loc .master)), some (.ref (loc .came)), some (.ref (loc .ended)), some (.d (ti cl)), some (dI (m : Nat)), some (dI (a : Nat)), none, none, none] = env
  have hlen : env.length = 10 := by rw [← hE]; rfl
  have a0 : At env 0 (.ref (loc .tape)) := by rw [← hE]; rfl
  have a1 : At env 1 (.ref (loc .master)) := by rw [← hE]; rfl
  have a2 : At env 2 (.ref (loc .came)) := by rw [← hE]; rfl
  have a3 : At env 3 (.ref (loc .ended)) := by rw [← hE]; rfl
  have a4 : At env 4 (.d (ti cl)) := by rw [← hE]; rfl
  have a5 : At env 5 (dI (m : Nat)) := by rw [← hE]; rfl
  have a6 : At env 6 (dI (a : Nat)) := by rw [← hE]; rfl
  suffices hh : ∃ env2 h2 s2, ml__law_master_2 env h1 = some (.nx env2 h2) ∧ LL loc s2 h2 ∧ s2.t.ok ∧ Ms m s2 ∧ (Agr s → Agr s2) ∧ s2.q = s.q ∧ s2.nb = s.nb ∧ s2.ov = false ∧ env2.length = 10 ∧ At env2 1 (.ref (loc .master)) ∧ At env2 2 (.ref (loc .came)) ∧ At env2 5 (dI (m : Nat)) by
    obtain ⟨env2, h2, s2, s2e, L2, ok2, M2, A2, q2, n2, o2, l2, b1, b2, b5⟩ := hh
    have hl2 := nd_len M2.nd M2.lt
    have g1 := L2.at_ .master trivial
    have g2 := L2.at_ .came trivial
    simp only [cont, M2.ce, o2] at g1 g2
    have qc := q_is_complete g1 hm4 (by omega)
    rw [hasAll_len M2.nd M2.lt] at qc
    have qk := q_clocks_of g1 M2.nd (by omega)
    refine ⟨h2 ++ [.dct (dcR s2.co)], s2, ?_, L2.app _, ok2, M2, A2, q2, n2, o2⟩
    have s1 : ml__law_master_1 [some (.ref (loc .tape)), some (.ref (loc .master)), some (.ref (loc .came)), some (.ref (loc .ended)), some (.d (ti cl)), some (dI (m : Nat)), none, none, none, none] h = some (.nx env h1) := by
      rw [← hE]
      unfold ml__law_master_1
      clear L L1 L2 s2e hE
      walk_at "eh"
    have ed : (dcR s2.co).length = s2.co.length := by simp [dcR]
    have s89 : ∀ r : MS, mSeq ml__law_master_8 (mSeq ml__law_master_9 r) env2 h2 = r ((env2.set 8 (some (.d (.bool (decide (s2.co.length = m)))))).set 9 (some (.d (.bool (decide (s2.co.length = m)))))) h2 := fun r => by
      have ei : decide ((s2.co.length : Int) = (m : Int)) = decide (s2.co.length = m) := by
        rw [decide_eq_decide]; omega
      unfold ml__law_master_8 ml__law_master_9
      clear L L1 L2 s2e hE s1 qk A2 M M2
      walk_at "eh"
      simp only [Bool.not_false, Bool.true_and]
    obtain ⟨env3, hE3⟩ : ∃ env3, env3 = (env2.set 8 (some (.d (.bool (decide (s2.co.length = m)))))).set 9 (some (.d (.bool (decide (s2.co.length = m))))) := ⟨_, rfl⟩
    rw [← hE3] at s89
    have c1 : At env3 1 (.ref (loc .master)) := by rw [hE3]; walk_at "at"
    have c2 : At env3 2 (.ref (loc .came)) := by rw [hE3]; walk_at "at"
    have c8 : At env3 8 (.d (.bool (decide (s2.co.length = m)))) := by rw [hE3]; walk_at "at"
    have c9 : At env3 9 (.d (.bool (decide (s2.co.length = m)))) := by rw [hE3]; walk_at "at"
    have s10 : ml__law_master_10 env3 h2 = some (.rt (.d (.bool true)) (h2 ++ [.dct (dcR s2.co)])) := by
      have x1 := e_isiBB (e_v (h := h2) c9)
      have x2 : mOp (mEqD false) (mVar 9) (mVar 8) env3 h2 = some (.d (.bool true), h2) := by
        rw [e_mOp (e_v c9) (e_v c8), e_eqB]; simp
      have g2' : (h2 ++ [Ob.dct (dcR s2.co)])[loc .came]? = some (.dct (dcR s2.co)) := get_app' g2
      have g3' : (h2 ++ [Ob.dct (dcR s2.co)])[h2.length]? = some (.dct (dcR s2.co)) := by rw [List.getElem?_append_right (Nat.le_refl _), Nat.sub_self]; rfl
      have x3 : mOp (mDk false) (mCB fn_clocks_of (mCons (mVar 1) mNil)) (mVar 2) env3 h2 = some (.d (.bool true), h2 ++ [.dct (dcR s2.co)]) := by
        have e0 : mCB fn_clocks_of (mCons (mVar 1) mNil) env3 h2 = some (.ref h2.length, h2 ++ [.dct (dcR s2.co)]) := by
          simp only [mCB, mCons, mNil, e_v c1, Option.bind_some]
          exact qk
        rw [e_mOp e0 (e_v c2)]
        unfold mDk
        rw [e_asK g3', Option.bind_some, e_asK g2', Option.bind_some, hits_dcR _ M2.nd _ (fun _ z => z)]
        simp
      unfold ml__law_master_10
      simp only [mRet, mAndV, mTest, x1, x2, x3, Option.bind_some, e_asB, if_true, Option.map_some]
    unfold fn__law_master m__law_master toHeap
    rw [if_pos (by rfl)]
    show (mSeq ml__law_master_1 _ [some (.ref (loc .tape)), some (.ref (loc .master)), some (.ref (loc .came)), some (.ref (loc .ended)), some (.d (ti cl)), some (dI (m : Nat)), none, none, none, none] h).bind resM = _
    rw [e_mSeq s1, e_mSeq s2e, s89, s10]
    rfl
  clear hE e1 L
  have g2 := L1.at_ .came trivial
  have g1 := L1.at_ .master trivial
  simp only [cont, M.ce] at g1 g2
  have c2 : mc__law_master_2 env h1 = some (decide (a ∉ s.co.map (·.1)), h1) := by
    have : (!(valG (dcR s.co) (.inl (a : Int))).isSome) = decide (a ∉ s.co.map (·.1)) := by
      by_cases z : a ∈ s.co.map (·.1)
      · obtain ⟨r, hr, rfl⟩ := List.mem_map.mp z
        rw [dcR_in M.nd hr, decide_eq_false (fun y => y z)]; rfl
      · rw [dcR_out z, decide_eq_true z]; rfl
    unfold mc__law_master_2
    clear L1 M g1
    walk_at "eh"
  by_cases z : a ∉ s.co.map (·.1)
  · rw [decide_eq_true z] at c2
    obtain ⟨k, t2, h2, e2, k2, ok2, L2⟩ := nextK L1 ok1 (many := 6) (by decide) (by decide)
    have g1 := L2.at_ .master trivial
    simp only [cont, M.ce] at g1
    have hle : s.en.length ≤ 1000 := by
      have := nd_len M.ne (fun r hr => M.lt r (M.sub r hr))
      omega
    have qc := q_come (a := a) (cl := cl) (b := decide ((k : Int) = 0)) g1 (by omega) hle
    have L3 := L2.master (s.co ++ [(a, cl)]) (if decide ((k : Int) = 0) = true then s.en ++ [(a, cl)] else s.en) s.nb s.ov
    have L4 := L3.came (s.co ++ [(a, cl)])
    obtain ⟨env3, hE3⟩ : ∃ env3, env3 = env.set 7 (some (.d (.bool (decide ((k : Int) = 0))))) := ⟨_, rfl⟩
    have b0 : At env3 0 (.ref (loc .tape)) := by rw [hE3]; walk_at "at"
    have b1 : At env3 1 (.ref (loc .master)) := by rw [hE3]; walk_at "at"
    have b2 : At env3 2 (.ref (loc .came)) := by rw [hE3]; walk_at "at"
    have b3 : At env3 3 (.ref (loc .ended)) := by rw [hE3]; walk_at "at"
    have b4 : At env3 4 (.d (ti cl)) := by rw [hE3]; walk_at "at"
    have b5 : At env3 5 (dI (m : Nat)) := by rw [hE3]; walk_at "at"
    have b6 : At env3 6 (dI (a : Nat)) := by rw [hE3]; walk_at "at"
    have b7 : At env3 7 (.d (.bool (decide ((k : Int) = 0)))) := by rw [hE3]; walk_at "at"
    have hl3 : env3.length = 10 := by rw [hE3, List.length_set]; exact hlen
    have s3 : ml__law_master_3 env h1 = some (.nx env3 h2) := by
      rw [hE3]
      unfold ml__law_master_3
      clear L1 L2 L3 L4 M qc c2 hE3
      walk_at "eh"
    have s4 : ml__law_master_4 env3 h2 = some (.nx env3 (h2.set (loc .master) (masterO (s.co ++ [(a, cl)]) (if decide ((k : Int) = 0) = true then s.en ++ [(a, cl)] else s.en) s.nb s.ov))) := by
      unfold ml__law_master_4
      simp only [mDrop, mCB, mCons, mNil, e_v b1, e_v b6, e_v b4, e_v b7, Option.bind_some]
      have qc' : fn_come [.ref (loc .master), dI (a : Nat), .d (ti cl), .d (.bool (decide ((k : Int) = 0)))] h2 = _ := qc
      rw [qc']; rfl
    have g2' := L3.at_ .came trivial
    simp only [cont, M.ce] at g2'
    have s5 : ml__law_master_5 env3 (h2.set (loc .master) (masterO (s.co ++ [(a, cl)]) (if decide ((k : Int) = 0) = true then s.en ++ [(a, cl)] else s.en) s.nb s.ov)) = some (.nx env3 ((h2.set (loc .master) (masterO (s.co ++ [(a, cl)]) (if decide ((k : Int) = 0) = true then s.en ++ [(a, cl)] else s.en) s.nb s.ov)).set (loc .came) (.dct (dcR (s.co ++ [(a, cl)]))))) := by
      have zl : ((dcR s.co).length < 100000) = True := by simp [dcR]; omega
      have ep := dcR_put (cl := cl) z
      generalize (h2.set (loc .master) (masterO (s.co ++ [(a, cl)]) (if decide ((k : Int) = 0) = true then s.en ++ [(a, cl)] else s.en) s.nb s.ov)) = h3 at *
      unfold ml__law_master_5
      clear L1 L2 L3 L4 M qc c2 hE3 s3 s4 g1
      walk_at "eh"
    have g3' := L4.at_ .ended trivial
    simp only [cont, M.ee] at g3'
    generalize hh4 : ((h2.set (loc .master) (masterO (s.co ++ [(a, cl)]) (if decide ((k : Int) = 0) = true then s.en ++ [(a, cl)] else s.en) s.nb s.ov)).set (loc .came) (.dct (dcR (s.co ++ [(a, cl)])))) = h4 at *
    have c6 : mc__law_master_6 env3 h4 = some (decide ((k : Int) = 0), h4) := by
      unfold mc__law_master_6
      rw [e_mTest (e_v b7)]
    unfold ml__law_master_2
    have M' := M.add z ham cl (decide ((k : Int) = 0)) t2
    have hae : a ∉ s.en.map (·.1) := fun y => z (by
      obtain ⟨r, hr, e⟩ := List.mem_map.mp y
      exact List.mem_map.mpr ⟨r, M.sub r hr, e⟩)
    by_cases k0 : (k : Int) = 0
    · rw [decide_eq_true k0] at c6 M'
      have L5 := L4.ended (s.en ++ [(a, cl)])
      have s6 : ml__law_master_6 env3 h4 = some (.nx env3 (h4.set (loc .ended) (.dct (dcR (s.en ++ [(a, cl)]))))) := by
        unfold ml__law_master_6
        refine e_ifT c6 ?_
        have zl : ((dcR s.en).length < 100000) = True := by simp [dcR]; omega
        have ep := dcR_put (cl := cl) hae
        unfold ml__law_master_7
        clear L1 L2 L3 L4 L5 M M' qc c2 hE3 s3 s4 s5 g1 g2 g2' hh4 c6 k0
        walk_at "eh"
      refine ⟨env3, _, _, e_ifT c2 (by rw [e_mSeq s3, e_mSeq s4, e_mSeq s5]; exact s6), L5, ok2, ?_, fun A => ⟨A.h, A.q, A.c, A.g⟩, rfl, rfl, hov, hl3, b1, b2, b5⟩
      simp only [k0, decide_true, if_true] at M' ⊢
      exact M'
    · rw [decide_eq_false k0] at c6 M'
      have s6 : ml__law_master_6 env3 h4 = some (.nx env3 h4) := e_ifF c6 rfl
      refine ⟨env3, _, _, e_ifT c2 (by rw [e_mSeq s3, e_mSeq s4, e_mSeq s5]; exact s6), L4, ok2, ?_, fun A => ⟨A.h, A.q, A.c, A.g⟩, rfl, rfl, hov, hl3, b1, b2, b5⟩
      simp only [k0, decide_false, Bool.false_eq_true, if_false] at M' ⊢
      exact ⟨M'.ce, M.ee, M'.nd, M'.lt, M'.ne, M'.sub⟩
  · rw [decide_eq_false z] at c2
    refine ⟨env, h1, _, e_ifF c2 rfl, L1, ok1, ⟨M.ce, M.ee, M.nd, M.lt, M.ne, M.sub⟩, fun A => A.tape t', rfl, rfl, hov, hlen, a1, a2, a5⟩
end
structure Slk (m : Nat) (loc : Rk → Nat) (nb : Nat) (env : Env) : Prop where
  len : env.length = 12
  e1 : At env 1 (.ref (loc .tape))
  e2 : At env 2 (dI (m : Nat))
  e3 : At env 3 (.ref (loc .lock))
  e4 : At env 4 (.ref (loc .world))
  e5 : At env 5 (.ref (loc .master))
  e6 : At env 6 (.ref (loc .came))
  e7 : At env 7 (.ref (loc .ended))
  e8 : At env 8 (dI (nb : Nat))
theorem Slk.put {m : Nat} {loc : Rk → Nat} {nb : Nat} {env : Env} (E : Slk m loc nb env) (j : Nat) (x : Option MV) (hj : 8 < j) : Slk m loc nb (env.set j x) :=
  ⟨by rw [List.length_set]; exact E.len, at_ne E.e1 (by omega), at_ne E.e2 (by omega), at_ne E.e3 (by omega), at_ne E.e4 (by omega), at_ne E.e5 (by omega), at_ne E.e6 (by omega), at_ne E.e7 (by omega), at_ne E.e8 (by omega)⟩
structure Ok28 (m i : Nat) (s : S28) : Prop where
  tk : s.t.ok
  ag : Agr s
  ql : s.q.length ≤ i
  ms : Ms m s
  ov : s.ov = decide (s.co.length = m)
section
variable {m i : Nat} {loc : Rk → Nat} {s : S28} {h : MH} {env : Env}
theorem u10 (L : LL loc s h) (o : Ok28 m i s) (E : Slk m loc s.nb env) (hm4 : m ≤ 4) : ∃ (cl : List Int) (t' : Tp) (h' : MH), ml_law_10 env h = some (.nx (env.set 10 (some (.d (ti cl)))) h') ∧ t'.ok ∧ LL loc { s with t := t' } h' := by
  obtain ⟨ys, h1, ec, cl, t1, rfl, ok1, L1, hl⟩ := mLc_inv (mi := mRng1 (mCons (mVar 2) mNil)) (g := mgName 11) (me := mCB fn__law_next (mCons (mVar 1) (mCons (mK (.int 9)) mNil))) (vs := [11]) (env := env) (h := h) (h1 := h) (List.range m) (fun (j : Nat) => dI (j : Int))
    (by
      rw [e_rng1 (n := m) (h1 := h) (by simp only [mCons, mNil, e_v E.e2, Option.bind_some]) (by omega) (by omega)]
      simp)
    (fun j xs h' => ∃ (cl : List Int) (t' : Tp), xs = cl.map dI ∧ t'.ok ∧ LL loc { s with t := t' } h' ∧ cl.length = j)
    ⟨[], s.t, rfl, o.tk, L, rfl⟩
    (by
      rintro j j' xs h' hj ⟨cl, t1, rfl, ok1, L1, hl⟩
      obtain ⟨k, t2, h2, e2, k2, ok2, L2⟩ := nextK L1 ok1 (many := 9) (by decide) (by decide)
      refine ⟨dI (k : Nat), h2, ?_, cl ++ [(k : Int)], t2, by simp, ok2, L2, by simp [hl]⟩
      have b1 : At ((wipeM env [11]).set 11 (some (dI (j' : Nat)))) 1 (.ref (loc .tape)) := by
        show At ((env.set 11 none).set 11 (some (dI (j' : Nat)))) 1 _
        exact at_ne (at_ne E.e1 (by decide)) (by decide)
      simp only [mgName, Option.bind_some, mCB, mCons, mNil, mK, e_v b1]
      exact e2)
    (by
      rintro xs h' ⟨cl, t1, rfl, _, _, hl⟩
      simp at hl ⊢; omega)
  refine ⟨cl, t1, h1, ?_, ok1, L1⟩
  unfold ml_law_10
  have em : mkTup ((cl.map PyData.int).map MV.d) = .d (ti cl) := by rw [e_mkTupm]
  simp only [mAsg, mCB, mCons, mNil, mDat, ec, Option.bind_some, allD_dI, Option.map_some, mTupOf, e_arg1, e_itL, e_isTL, Bool.false_eq_true, if_false, em, e_mgName]
/-- the lock's branch -/
theorem u12 (L : LL loc s h) (o : Ok28 m i s) (E : Slk m loc s.nb env) (hm : 2 ≤ m) (hm4 : m ≤ 4) (hi : i < 200) {cl : List Int} (e10 : At env 10 (.d (ti cl))) : ∃ (h' : MH) (s' : S28), mSeq ml_law_12 ml_law_14 env h = some (.nx env h') ∧ LL loc s' h' ∧ Ok28 m (i + 1) s' ∧ s'.nb = s.nb := by
  obtain ⟨h1, s1, e1, L1, ok1, A1, ql1, co1, en1, nb1, ov1, ce1, ee1⟩ := q_law_lock L o.tk o.ag hm hm4 (by have := o.ql; omega) cl
  refine ⟨h1, s1, ?_, L1, ⟨ok1, A1, by have := o.ql; omega, ?_, by rw [ov1, co1]; exact o.ov⟩, nb1⟩
  · have s12 : ml_law_12 env h = some (.nx env h1) := by
      unfold ml_law_12
      refine e_ifF (h1 := h1) ?_ rfl
      obtain ⟨_, a1, a2, a3, a4, _, _, _, _⟩ := E
      unfold mc_law_12
      clear L L1 o
      walk_at "eh"
    rw [e_mSeq s12]
    have g1 := L1.at_ .world trivial
    have g2 := L1.at_ .wq trivial
    have g3 := L1.at_ .lock trivial
    simp only [cont, A1.h, A1.q, A1.c, A1.g] at g1 g2 g3
    have sh : SeqAt.shaped (.list (s1.q.map rowD)) = true := pl_sh (pl_list (n := 2) fun d hd => by
      obtain ⟨q, _, rfl⟩ := List.mem_map.mp hd
      exact pl_row q)
    have sh2 : SeqAt.shaped (hoD s1.ho) = true := by
      cases s1.ho with
      | none => exact pl_sh (n := 0) pl_none
      | some a => exact pl_sh (n := 0) (pl_int _)
    have x1 : mEqD true (.d (hoD s1.ho)) (.d (hoD s1.ho)) h1 = some (.d (.bool (!true)), h1) := e_same sh2
    have x2 : mEqD true (.d (.int (s1.g : Nat))) (.d (.int (s1.g : Nat))) h1 = some (.d (.bool (!true)), h1) := e_same (pl_sh (n := 0) (pl_int _))
    have x3 : mEqD true (.d (.list (s1.q.map rowD))) (.ref (loc .wq)) h1 = some (.d (.bool (!true)), h1) := e_sameR (reify_d _ _ _) (re_ref g2 (re_map' rowD _ _ _)) sh
    unfold ml_law_14
    refine e_ifF (h1 := h1) ?_ rfl
    obtain ⟨_, a1, a2, a3, a4, _, _, _, _⟩ := E
    unfold mc_law_14
    have gg1 := @g_lk_holder
    have gg2 := @g_lk_grants
    have gg3 := @g_lk_queue
    clear L L1 o e1
    walk_at "e28"
  · exact ⟨by rw [ce1, co1]; exact o.ms.ce, by rw [ee1, en1]; exact o.ms.ee, by rw [co1]; exact o.ms.nd, by rw [co1]; exact o.ms.lt, by rw [en1]; exact o.ms.ne, by rw [co1, en1]; exact o.ms.sub⟩
/-- the master's branch -/
theorem u16 (L : LL loc s h) (o : Ok28 m i s) (E : Slk m loc s.nb env) (hm : 2 ≤ m) (hm4 : m ≤ 4) {cl : List Int} (e10 : At env 10 (.d (ti cl))) : ∃ (env' : Env) (h' : MH) (s' : S28) (loc' : Rk → Nat), ml_law_16 env h = some (.nx env' h') ∧ LL loc' s' h' ∧ Ok28 m (i + 1) s' ∧ Slk m loc' s'.nb env' ∧ env'[9]? = env[9]? := by
  have g0 := L.at_ .master trivial
  simp only [cont] at g0
  have qo := q_is_over g0
  have c16 : mc_law_16 env h = some (!s.ov, h) := by
    obtain ⟨_, _, _, _, _, a5, _, _, _⟩ := E
    unfold mc_law_16
    clear L o g0
    walk_at "eh"
  unfold ml_law_16
  by_cases hov : s.ov = true
  · rw [hov] at c16
    exact ⟨env, h, s, loc, e_ifF c16 rfl, L, ⟨o.tk, o.ag, Nat.le_succ_of_le o.ql, o.ms, o.ov⟩, E, rfl⟩
  rw [Bool.not_eq_true] at hov
  rw [hov] at c16
  obtain ⟨h1, s1, e1, L1, ok1, M1, A1, q1, nb1, ov1⟩ := q_law_master L o.tk hm hm4 o.ms hov cl
  have s17 : ml_law_17 env h = some (.nx env h1) := by
    unfold ml_law_17
    refine e_ifF (h1 := h1) ?_ rfl
    obtain ⟨_, a1, a2, _, _, a5, a6, a7, _⟩ := E
    unfold mc_law_17
    clear L L1 o g0 qo c16
    walk_at "eh"
  have hl1 := nd_len M1.nd M1.lt
  have g1 := L1.at_ .master trivial
  have g2 := L1.at_ .came trivial
  simp only [cont, M1.ce, ov1] at g1 g2
  have c19 : mc_law_19 env h1 = some (decide (s1.co.length = m), h1) := by
    have ei : decide (((dcR s1.co).length : Int) = (m : Int)) = decide (s1.co.length = m) := by
      rw [decide_eq_decide]; simp [dcR]; omega
    obtain ⟨_, a1, a2, _, _, _, a6, _, _⟩ := E
    unfold mc_law_19
    clear L L1 o g0 qo c16 s17 M1 A1 e1
    walk_at "eh"
  by_cases hc : s1.co.length = m
  · rw [decide_eq_true hc] at c19
    have hl2 := nd_len M1.ne (fun r hr => M1.lt r (M1.sub r hr))
    have qg := q_go_on g1 hm4 (by omega)
    rw [hasAll_len M1.ne (fun r hr => M1.lt r (M1.sub r hr))] at qg
    have L2 := L1.master s1.en s1.en (s1.nb + 1) (decide (s1.en.length = m))
    obtain ⟨h2, hh2⟩ : ∃ h2, h2 = h1.set (loc .master) (masterO s1.en s1.en (s1.nb + 1) (decide (s1.en.length = m))) := ⟨_, rfl⟩
    rw [← hh2] at L2 qg
    have g3 := L2.at_ .master trivial
    have g4 := L2.at_ .ended trivial
    simp only [cont, M1.ee] at g3 g4
    have eset : (env.set 8 (some (dI (s1.nb + 1 : Nat)))).length = 12 := by rw [List.length_set]; exact E.len
    obtain ⟨env2, hE2⟩ : ∃ env2, env2 = env.set 8 (some (dI (s1.nb + 1 : Nat))) := ⟨_, rfl⟩
    have hlen := E.len
    have b1 : At env2 1 (.ref (loc .tape)) := by rw [hE2]; have := E.e1; walk_at "at"
    have b2 : At env2 2 (dI (m : Nat)) := by rw [hE2]; have := E.e2; walk_at "at"
    have b3 : At env2 3 (.ref (loc .lock)) := by rw [hE2]; have := E.e3; walk_at "at"
    have b4 : At env2 4 (.ref (loc .world)) := by rw [hE2]; have := E.e4; walk_at "at"
    have b5 : At env2 5 (.ref (loc .master)) := by rw [hE2]; have := E.e5; walk_at "at"
    have b7 : At env2 7 (.ref (loc .ended)) := by rw [hE2]; have := E.e7; walk_at "at"
    have b8 : At env2 8 (dI (s1.nb + 1 : Nat)) := by rw [hE2]; walk_at "at"
    have hl2' : env2.length = 12 := by rw [hE2]; exact eset
    have s20 : ml_law_20 env h1 = some (.nx env2 h1) := by
      rw [hE2]
      have a8 := E.e8
      rw [← nb1] at a8
      unfold ml_law_20
      clear L L1 L2 o g0 qo c16 s17 M1 A1 e1 qg hE2 hh2
      walk_at "eh"
      rfl
    have hx9 : env2[9]? = env[9]? := by rw [hE2]; exact List.getElem?_set_ne (by decide)
    have s21 : ml_law_21 env2 h1 = some (.nx env2 h2) := by
      have x2 : ∀ h, mEqD true (dI (s1.nb + 1 : Nat)) (dI (s1.nb + 1 : Nat)) h = some (.d (.bool (!true)), h) := fun h => e_same (pl_sh (n := 0) (pl_int _))
      have y1 : mOp (mEqD true) (mCB fn_go_on (mCons (mVar 5) (mCons (mVar 2) mNil))) (mVar 8) env2 h1 = some (.d (.bool false), h2) := by
        have e0 : mCB fn_go_on (mCons (mVar 5) (mCons (mVar 2) mNil)) env2 h1 = some (dI (s1.nb + 1 : Nat), h2) := by
          simp only [mCB, mCons, mNil, e_v b5, e_v b2, Option.bind_some]; exact qg
        rw [e_mOp e0 (e_v b8), x2]; rfl
      have y2 : mOp (mEqD true) (mDGet (mVar 5) (mK (.str "number"))) (mVar 8) env2 h2 = some (.d (.bool false), h2) := by
        have e0 : mDGet (mVar 5) (mK (.str "number")) env2 h2 = some (dI (s1.nb + 1 : Nat), h2) := by
          unfold mDGet
          simp only [e_v b5, mK, Option.bind_some, e_asK g3, e_keyS, g_ms_number, Option.map_some]
        rw [e_mOp e0 (e_v b8), x2]; rfl
      unfold ml_law_21
      refine e_ifF (h1 := h2) ?_ rfl
      unfold mc_law_21
      simp only [mOr, e_mTest y1, e_mTest y2, Option.bind_some, Bool.false_eq_true, if_false]
    obtain ⟨loc', hl⟩ : ∃ loc' : Rk → Nat, loc' = fun x => if x = .came then h2.length else loc x := ⟨_, rfl⟩
    have l0 : loc' .came = h2.length := by rw [hl]; exact if_pos rfl
    have ln : ∀ x, x ≠ .came → loc' x = loc x := fun x hx => by rw [hl]; exact if_neg hx
    obtain ⟨s3, hs3⟩ : ∃ s3 : S28, s3 = { s1 with co := s1.en, en := s1.en, nb := s1.nb + 1, ov := decide (s1.en.length = m), ce := s1.en } := ⟨_, rfl⟩
    have L3 : LL loc' s3 (h2 ++ [.dct (dcR s1.en)]) := L2.grow .came l0 (by rw [hs3]; rfl) (fun x hx _ => hx) (fun x hx hn => ln x hn) (fun r hr hn => by
      rw [hs3]
      cases r with
      | came => exact absurd rfl hn
      | world => simp only [cont]; rw [ln .wq (by simp)]
      | _ => rfl)
    have s23 : ml_law_23 env2 h2 = some (.nx (env2.set 6 (some (.ref h2.length))) (h2 ++ [.dct (dcR s1.en)])) := by
      unfold ml_law_23
      simp only [mAsg, mCB, mCons, mNil, e_v b7, Option.bind_some, mDictCp, e_arg1, e_asK g4, Option.map_some, e_mgName]
    obtain ⟨env3, hE3⟩ : ∃ env3, env3 = env2.set 6 (some (.ref h2.length)) := ⟨_, rfl⟩
    rw [← hE3] at s23
    have E3 : Slk m loc' s3.nb env3 := by
      rw [hE3, show s3.nb = s1.nb + 1 by rw [hs3]]
      refine ⟨by rw [List.length_set]; exact hl2', ?_, by walk_at "at", ?_, ?_, ?_, ?_, ?_, by walk_at "at"⟩
      · rw [ln _ (by simp)]; walk_at "at"
      · rw [ln _ (by simp)]; walk_at "at"
      · rw [ln _ (by simp)]; walk_at "at"
      · rw [ln _ (by simp)]; walk_at "at"
      · rw [l0]; walk_at "at"
      · rw [ln _ (by simp)]; walk_at "at"
    have s24 : ml_law_24 env3 (h2 ++ [.dct (dcR s1.en)]) = some (.nx env3 (h2 ++ [.dct (dcR s1.en)])) := by
      have g5 := L3.at_ .master trivial
      have g6 := L3.at_ .ended trivial
      simp only [cont] at g5 g6
      rw [show s3.co = s1.en by rw [hs3], show s3.en = s1.en by rw [hs3], show s3.nb = s1.nb + 1 by rw [hs3], show s3.ov = decide (s1.en.length = m) by rw [hs3]] at g5
      rw [show s3.ee = s1.en by rw [hs3]; exact M1.ee] at g6
      generalize (h2 ++ [Ob.dct (dcR s1.en)]) = h3 at *
      have qo3 := q_is_over g5
      have qc3 := q_is_complete g5 hm4 (by omega)
      rw [hasAll_len M1.ne (fun r hr => M1.lt r (M1.sub r hr))] at qc3
      have ei : decide (((dcR s1.en).length : Int) = (m : Int)) = decide (s1.en.length = m) := by
        rw [decide_eq_decide]; simp [dcR]; omega
      have x2 : ∀ b : Bool, mEqD true (.d (.bool b)) (.d (.bool b)) h3 = some (.d (.bool (!true)), h3) := fun b => e_same (pl_sh (n := 0) (pl_bool _))
      have e0 : mCB fn_is_over (mCons (mVar 5) mNil) env3 h3 = some (.d (.bool (decide (s1.en.length = m))), h3) := by
        simp only [mCB, mCons, mNil, e_v E3.e5, Option.bind_some]; exact qo3
      have e00 : mOp (mEqD false) (mCB mLenD (mCons (mVar 7) mNil)) (mVar 2) env3 h3 = some (.d (.bool (decide (s1.en.length = m))), h3) := by
        rw [e_mOp (x := .d (.int ((dcR s1.en).length : Int))) (h1 := h3) (by simp only [mCB, mCons, mNil, e_v E3.e7, Option.bind_some, mLenD, e_arg1, e_asK g6, Option.map_some]) (e_v E3.e2), e_eqI, ei]
      have y1 : mOp (mEqD true) (mCB fn_is_over (mCons (mVar 5) mNil)) (mOp (mEqD false) (mCB mLenD (mCons (mVar 7) mNil)) (mVar 2)) env3 h3 = some (.d (.bool false), h3) := by
        rw [e_mOp e0 e00, x2]; rfl
      have y2 : mCB fn_is_complete (mCons (mVar 5) (mCons (mVar 2) mNil)) env3 h3 = some (.d (.bool false), h3) := by
        simp only [mCB, mCons, mNil, e_v E3.e5, e_v E3.e2, Option.bind_some]
        rw [show dI (m : Nat) = .d (.int (m : Nat)) from rfl, qc3]
        simp
      unfold ml_law_24
      refine e_ifF (h1 := h3) ?_ rfl
      unfold mc_law_24
      simp only [mOr, e_mTest y1, e_mTest y2, Option.bind_some, Bool.false_eq_true, if_false]
    refine ⟨env3, _, s3, loc', ?_, L3, ?_, E3, ?_⟩
    · refine e_ifT c16 ?_
      rw [e_mSeq s17]
      unfold ml_law_19
      refine e_ifT c19 ?_
      rw [e_mSeq s20, e_mSeq s21, e_mSeq s23, s24]
    · have A := A1 o.ag
      rw [hs3]
      exact ⟨ok1, ⟨A.h, A.q, A.c, A.g⟩, by dsimp only; rw [q1]; exact Nat.le_succ_of_le o.ql, ⟨rfl, M1.ee, M1.ne, fun r hr => M1.lt r (M1.sub r hr), M1.ne, fun _ z => z⟩, rfl⟩
    · rw [hE3, List.getElem?_set_ne (by decide)]; exact hx9
  · rw [decide_eq_false hc] at c19
    have A := A1 o.ag
    refine ⟨env, h1, s1, loc, e_ifT c16 ?_, L1, ⟨ok1, A, by rw [q1]; exact Nat.le_succ_of_le o.ql, M1, by rw [ov1, decide_eq_false hc]⟩, by rw [nb1]; exact E, rfl⟩
    rw [e_mSeq s17]
    unfold ml_law_19
    exact e_ifF c19 rfl
theorem body28 (L : LL loc s h) (o : Ok28 m i s) (E : Slk m loc s.nb env) (hi : i < 200) (hm : 2 ≤ m) (hm4 : m ≤ 4) {tn : Nat} (e9 : At env 9 (dI (tn : Nat))) :
    ∃ env' h' s' loc', mb_law_9 env h = some (.nx env' h') ∧ Slk m loc' s'.nb env' ∧ LL loc' s' h' ∧ Ok28 m (i + 1) s' := by
  have hlen := E.len
  obtain ⟨cl, t1, h1, s10, ok1, L1⟩ := u10 L o E hm4
  have o1 : Ok28 m i { s with t := t1 } := ⟨ok1, o.ag.tape t1, o.ql, ⟨o.ms.ce, o.ms.ee, o.ms.nd, o.ms.lt, o.ms.ne, o.ms.sub⟩, o.ov⟩
  have E1 := E.put 10 (some (.d (ti cl))) (by decide)
  obtain ⟨k, t2, h2, e2, k2, ok2, L2⟩ := nextK L1 ok1 (many := 2) (by decide) (by decide)
  have o2 : Ok28 m i { s with t := t2 } := ⟨ok2, o.ag.tape t2, o.ql, ⟨o.ms.ce, o.ms.ee, o.ms.nd, o.ms.lt, o.ms.ne, o.ms.sub⟩, o.ov⟩
  have f10 : At (env.set 10 (some (.d (ti cl)))) 10 (.d (ti cl)) := by walk_at "at"
  have f9 : At (env.set 10 (some (.d (ti cl)))) 9 (dI (tn : Nat)) := by walk_at "at"
  generalize env.set 10 (some (.d (ti cl))) = env1 at *
  have c11 : mc_law_11 env1 h1 = some (decide ((k : Int) = 0), h2) := by
    have a1 := E1.e1
    unfold mc_law_11
    clear L L1 L2 o o1 o2 s10
    walk_at "eh"
  suffices hh : ∃ env' h' s' loc', ml_law_11 env1 h1 = some (.nx env' h') ∧ Slk m loc' s'.nb env' ∧ LL loc' s' h' ∧ Ok28 m (i + 1) s' ∧ At env' 9 (dI (tn : Nat)) by
    obtain ⟨env', h', s', loc', e, E', L', o', a9⟩ := hh
    refine ⟨env', h', s', loc', ?_, E', L', o'⟩
    unfold mb_law_9
    rw [e_mSeq s10, e_mSeq e]
    have q := q_manager_of ((tn : Int) % 4) (m : Int) (by omega)
    have em := e_mod (h := h') (i := (tn : Int)) (j := 4) (by decide)
    have em2 := e_mod (h := h') (i := (tn : Int) % 4) (j := (m : Int)) (by omega)
    have x2 : mEqD true (.d (.int ((tn : Int) % 4 % (m : Int)))) (.d (.int ((tn : Int) % 4 % (m : Int)))) h' = some (.d (.bool (!true)), h') := e_same (pl_sh (n := 0) (pl_int _))
    unfold ml_law_26
    refine e_ifF (h1 := h') ?_ rfl
    have a2 := E'.e2
    unfold mc_law_26
    clear L L1 L2 L' o o1 o2 o' s10 e c11
    walk_at "eh"
  unfold ml_law_11
  by_cases k0 : (k : Int) = 0
  · rw [decide_eq_true k0] at c11
    obtain ⟨h3, s3, e3, L3, o3, nb3⟩ := u12 L2 o2 E1 hm hm4 hi f10
    exact ⟨env1, h3, s3, loc, e_ifT c11 e3, by rw [nb3]; exact E1, L3, o3, f9⟩
  · rw [decide_eq_false k0] at c11
    obtain ⟨env3, h3, s3, loc3, e3, L3, o3, E3, x9⟩ := u16 L2 o2 E1 hm hm4 f10
    exact ⟨env3, h3, s3, loc3, e_ifF c11 e3, E3, L3, o3, by
      show env3[9]? = _
      rw [x9]; exact f9⟩
end
theorem q_new_lock (m : Nat) (h1 : 1 ≤ m) (h2 : m ≤ 4) (h : MH) : fn_new_lock [.d (.int (m : Nat))] h = some (.ref h.length, h ++ [lockO .none [] (List.replicate m 0) 0]) := by
  have e := q_zero_clock m h1 h2
  have p : mPairs [(mK (.str "holder"), mK .none), (mK (.str "queue"), mDat (mLst mNil)), (mK (.str "clock"), mCB (liftD pf_zero_clock) (mCons (mVar 0) mNil)), (mK (.str "grants"), mK (.int 0))] [some (.d (.int (m : Nat)))] h = some ([(.inr "holder", .d .none), (.inr "queue", .d (.list [])), (.inr "clock", .d (ti (List.replicate m 0))), (.inr "grants", .d (.int 0))], h) := by
    have e2 : mCB (liftD pf_zero_clock) (mCons (mVar 0) mNil) [some (.d (.int (m : Nat)))] h = some (.d (ti (List.replicate m 0)), h) := by
      walk_at "eh"
    have e3 : mDat (mLst mNil) [some (.d (.int (m : Nat)))] h = some (.d (.list []), h) := rfl
    simp only [mPairs, mK, e2, e3, Option.bind_some, Option.map_some, e_keyS]
  have eg : mergeG [] [((.inr "holder" : Key), MV.d .none), (.inr "queue", .d (.list [])), (.inr "clock", .d (ti (List.replicate m 0))), (.inr "grants", .d (.int 0))] = [(.inr "holder", .d .none), (.inr "queue", .d (.list [])), (.inr "clock", .d (ti (List.replicate m 0))), (.inr "grants", .d (.int 0))] := mergeG_new (by
    show ([.inr "holder", .inr "queue", .inr "clock", .inr "grants"] : List Key).Nodup
    decide +kernel)
  unfold fn_new_lock m_new_lock ml_new_lock_1
  simp only [toHeap, mRet, mDisp, List.map_cons, List.map_nil, List.replicate_succ, List.replicate_zero, List.cons_append, List.nil_append, List.length_cons, List.length_nil, Nat.reduceAdd, if_true, Nat.reduceSub, p, Option.bind_some, Option.map_some, eg]
  rw [if_pos (by decide)]
  rfl
theorem q_new_master (h : MH) : fn_new_master [] h = some (.ref h.length, h ++ [masterO [] [] 0 false]) := by
  have p : mPairs [(mK (.str "come"), mDat (mLst mNil)), (mK (.str "ended"), mDat (mLst mNil)), (mK (.str "number"), mK (.int 0)), (mK (.str "over"), mK (.bool false))] [] h = some ([(.inr "come", .d (.list [])), (.inr "ended", .d (.list [])), (.inr "number", .d (.int 0)), (.inr "over", .d (.bool false))], h) := by
    have e3 : mDat (mLst mNil) [] h = some (.d (.list []), h) := rfl
    simp only [mPairs, mK, e3, Option.bind_some, Option.map_some, e_keyS]
  have eg : mergeG [] [((.inr "come" : Key), MV.d (.list [])), (.inr "ended", .d (.list [])), (.inr "number", .d (.int 0)), (.inr "over", .d (.bool false))] = [(.inr "come", .d (.list [])), (.inr "ended", .d (.list [])), (.inr "number", .d (.int 0)), (.inr "over", .d (.bool false))] := mergeG_new (by
    show ([.inr "come", .inr "ended", .inr "number", .inr "over"] : List Key).Nodup
    decide +kernel)
  unfold fn_new_master m_new_master ml_new_master_1
  simp only [toHeap, mRet, mDisp, List.map_cons, List.map_nil, List.replicate_succ, List.replicate_zero, List.cons_append, List.nil_append, List.length_cons, List.length_nil, Nat.reduceAdd, if_true, Nat.reduceSub, p, Option.bind_some, Option.map_some, eg]
  rw [if_pos (by decide)]
  rfl
def loc0 : Rk → Nat
  | .tape => 0
  | .lock => 1
  | .wq => 2
  | .world => 3
  | .master => 4
  | .came => 5
  | .ended => 6
theorem tell (ns : List Int) (hl : ns.length ≤ 63) : pf_law [.list (ns.map .int)] = some (.bool true) := by
  obtain ⟨t0, ht0⟩ : ∃ t0 : Tp, t0 = ⟨ns, 0, 0, 9⟩ := ⟨_, rfl⟩
  have ok00 : t0.ok := by rw [ht0]; exact ⟨(by show (0 : Int) ≤ 0; decide), (by show (0 : Int) ≤ 9; decide), (by show (9 : Int) < 2147483647; decide)⟩
  obtain ⟨e0, he0⟩ : ∃ e0 : Env, e0 = some (MV.d (li ns)) :: List.replicate 11 none := ⟨_, rfl⟩
  have l0 : e0.length = 12 := by rw [he0]; rfl
  have s1 : ml_law_1 e0 [] = some (.nx (e0.set 1 (some (.ref 0))) [tpO t0]) := by
    have a0 : At e0 0 (.d (li ns)) := by rw [he0]; rfl
    rw [ht0]
    clear he0
    unfold ml_law_1
    walk_at "eh"
  obtain ⟨k, t1, e2, k0, k1, ok1⟩ := q_next (n := 0) (h := [tpO t0]) (t := t0) (many := 3) rfl ok00 (by decide) (by decide)
  obtain ⟨m, hm⟩ : ∃ m : Nat, (m : Int) = 2 + k := ⟨(2 + k).toNat, by omega⟩
  have s2 : ml_law_2 (e0.set 1 (some (.ref 0))) [tpO t0] = some (.nx ((e0.set 1 (some (.ref 0))).set 2 (some (dI (m : Nat)))) [tpO t1]) := by
    rw [hm]
    have l1 : (e0.set 1 (some (.ref 0))).length = 12 := by rw [List.length_set]; exact l0
    have a1 : At (e0.set 1 (some (.ref 0))) 1 (.ref 0) := by walk_at "at"
    have e2' : fn__law_next [MV.ref 0, .d (.int 3)] [tpO t0] = some (.d (.int k), [tpO t1]) := e2
    generalize e0.set 1 (some (.ref 0)) = e1 at *
    clear e2 hm he0 ht0 s1 l1
    unfold ml_law_2
    walk_at "eh"
  obtain ⟨e3, he3⟩ : ∃ e3, e3 = (e0.set 1 (some (.ref 0))).set 2 (some (dI (m : Nat))) := ⟨_, rfl⟩
  have l3 : e3.length = 12 := by rw [he3]; simpa using l0
  have a1 : At e3 1 (.ref 0) := by rw [he3]; walk_at "at"
  have a2 : At e3 2 (dI (m : Nat)) := by rw [he3]; walk_at "at"
  obtain ⟨e9, he9⟩ : ∃ e9, e9 = (((((e3.set 3 (some (.ref 1))).set 4 (some (.ref 3))).set 5 (some (.ref 4))).set 6 (some (.ref 5))).set 7 (some (.ref 6))).set 8 (some (dI (0 : Nat))) := ⟨_, rfl⟩
  obtain ⟨s0, hs0⟩ : ∃ s0 : S28, s0 = ⟨t1, none, [], List.replicate m 0, 0, none, [], List.replicate m 0, 0, [], [], 0, false, [], []⟩ := ⟨_, rfl⟩
  obtain ⟨h9, hh9⟩ : ∃ h9 : MH, h9 = [tpO t1, lockO .none [] (List.replicate m 0) 0, .lst [], .lst [.d .none, .ref 2, .d (ti (List.replicate m 0)), dI (0 : Nat)], masterO [] [] 0 false, .dct [], .dct []] := ⟨_, rfl⟩
  have L : LL loc0 s0 h9 := by
    rw [hs0, hh9]
    exact ⟨fun r s _ _ e => by cases r <;> cases s <;> first | rfl | (exact absurd e (by decide)), fun r _ => by cases r <;> rfl⟩
  have er : ∀ env h, At env 2 (dI (m : Nat)) → mOp mRepA (mTup (mCons (mK (.int 0)) mNil)) (mVar 2) env h = some (.d (ti (List.replicate m 0)), h) := fun env h a => by
    have e1 : mTup (mCons (mK (.int 0)) mNil) env h = some (.d (.tuple [.int 0]), h) := rfl
    rw [e_mOp e1 (e_v a), e_repA (by simp) (by simp) (by omega) (by omega), Int.toNat_natCast, flat_rep]
    simp
  have s3 : ∀ r : MS, mSeq ml_law_3 (mSeq ml_law_4 (mSeq ml_law_5 (mSeq ml_law_6 (mSeq ml_law_7 (mSeq ml_law_8 r))))) e3 [tpO t1] = r e9 h9 := fun r => by
    rw [he9, hh9]
    have q1 := q_new_lock m (by omega) (by omega) [tpO t1]
    have x3 : ml_law_3 e3 [tpO t1] = some (.nx (e3.set 3 (some (.ref 1))) [tpO t1, lockO .none [] (List.replicate m 0) 0]) := by
      unfold ml_law_3
      simp only [mAsg, mCB, mCons, mNil, e_v a2, Option.bind_some]
      rw [show dI (m : Nat) = .d (.int (m : Nat)) from rfl, q1]
      rfl
    have b2 : At (e3.set 3 (some (.ref 1))) 2 (dI (m : Nat)) := by walk_at "at"
    have x4 : ml_law_4 (e3.set 3 (some (.ref 1))) [tpO t1, lockO .none [] (List.replicate m 0) 0] = some (.nx ((e3.set 3 (some (.ref 1))).set 4 (some (.ref 3))) [tpO t1, lockO .none [] (List.replicate m 0) 0, .lst [], .lst [.d .none, .ref 2, .d (ti (List.replicate m 0)), dI (0 : Nat)]]) := by
      have e4 := er (e3.set 3 (some (.ref 1))) [tpO t1, lockO .none [] (List.replicate m 0) 0, .lst []] b2
      unfold ml_law_4
      simp only [mAsg, mNew, mLst, mCons, mNil, mK, Option.bind_some, Option.map_some, List.length_nil, Nat.zero_le, if_true, List.length_cons, List.cons_append, List.nil_append, e4, Nat.reduceAdd, Nat.reduceLeDiff, e_mgName]
      rfl
    rw [e_mSeq x3, e_mSeq x4]
    rfl
  have E9 : Slk m loc0 s0.nb e9 := by
    rw [he9, hs0]
    exact ⟨by simp [l3], by walk_at "at", by walk_at "at", by walk_at "at", by walk_at "at", by walk_at "at", by walk_at "at", by walk_at "at", by walk_at "at"⟩
  obtain ⟨kt, t2, h10, e10, kt1, ok2, L10⟩ := nextK L (by rw [hs0]; exact ok1) (many := 60) (by decide) (by decide)
  have o10 : Ok28 m 0 { s0 with t := t2 } := by
    rw [hs0]
    exact ⟨ok2, ⟨rfl, rfl, rfl, rfl⟩, Nat.le_refl _, ⟨rfl, rfl, List.nodup_nil, (fun r hr => (nomatch hr)), List.nodup_nil, (fun r hr => (nomatch hr))⟩, (decide_eq_false (by show ¬ (0 = m); omega)).symm⟩
  obtain ⟨env', h', e, -⟩ := mFor_inv (mi := mRng1 (mCons (mOp (mI fun i j => i + j) (mK (.int 1)) (mCB fn__law_next (mCons (mVar 1) (mCons (mK (.int 60)) mNil)))) mNil)) (g := mgName 9) (mb := mb_law_9) (env := e9) (h := h9) (List.range (1 + kt)) (fun (k : Nat) => dI (k : Int)) (h1 := h10)
    (by
      rw [e_rng1 (n := 1 + (kt : Int)) (h1 := h10) (by simp only [mCons, mNil, mOp, mK, mCB, e_v E9.e1, e10, Option.bind_some, e_I]) (by omega) (by omega)]
      congr 3)
    (fun i env h => i ≤ 1 + kt ∧ ∃ s loc, Slk m loc s.nb env ∧ LL loc s h ∧ Ok28 m i s)
    ⟨Nat.zero_le _, _, _, E9, L10, o10⟩
    (by
      rintro i j env h hj ⟨hi, s, loc, E, L, o⟩
      have hi2 : i < 1 + kt := by
        have := (List.getElem?_eq_some_iff.mp hj).1
        rwa [List.length_range] at this
      obtain ⟨env', h', s', loc', e, E', L', o'⟩ := body28 L o (E.put 9 (some (dI (j : Nat))) (by decide)) (by omega) (by omega) (by omega) (tn := j) (at_eq (by rw [E.len]; decide))
      exact ⟨_, env', h', rfl, e, hi2, s', loc', E', L', o'⟩)
  have e' : ml_law_9 e9 h9 = some (.nx env' h') := e
  unfold pf_law m_law
  have st : toPure 1 12 (mSeq ml_law_1 (mSeq ml_law_2 (mSeq ml_law_3 (mSeq ml_law_4 (mSeq ml_law_5 (mSeq ml_law_6 (mSeq ml_law_7 (mSeq ml_law_8 (mSeq ml_law_9 ml_law_28))))))))) [.list (ns.map .int)] = ((mSeq ml_law_1 (mSeq ml_law_2 (mSeq ml_law_3 (mSeq ml_law_4 (mSeq ml_law_5 (mSeq ml_law_6 (mSeq ml_law_7 (mSeq ml_law_8 (mSeq ml_law_9 ml_law_28))))))))) e0 []).bind (fun r => (resM r).bind fun r => reify 6 r.2 r.1) := by
    rw [he0]
    unfold toPure toHeap
    rw [if_pos (by rfl), Option.bind_assoc]
    rfl
  rw [st, e_mSeq s1, e_mSeq s2, ← he3, s3, e_mSeq e']
  rfl
theorem all_mk {l : PySem.W.OpenLaw} {w : World} {K : PySem.W.Frag} {h : Heap} {mg : Str → Option Value} {fa f0 f1 f2 f3 f4 f5 f6 f7 f8 f9 f10 f11 f12 f13 f14 f15 f16 : Addr} (X : K.In h) (G : h.Ns mainGlobals mg) (hfa : mg "law" = some (.ref fa))
    {od0 an0 : Option Addr} {sl0 : Array (Option Value)} {oc0 kV0 dc0 pm0 cd0 ct0 : Value}
    (a0 : PySem.W.nsIn K mainGlobals "zero_clock" = some (some (.ref f0))) (l0 : K.lookup f0 = some ⟨oc0, od0, .func (PySem.W.fnOf "zero_clock" "zero_clock" (defArgs s_zero_clock) (defBody s_zero_clock) (defScope s_zero_clock) .none kV0 dc0 pm0 an0 cd0 ct0), sl0⟩) (c0 : PySem.W.codeIn K cd0 "zero_clock" = true) (k0 : PySem.W.keepIn K (.ref f0) = true)
    {od1 an1 : Option Addr} {sl1 : Array (Option Value)} {oc1 kV1 dc1 pm1 cd1 ct1 : Value}
    (a1 : PySem.W.nsIn K mainGlobals "manager_of" = some (some (.ref f1))) (l1 : K.lookup f1 = some ⟨oc1, od1, .func (PySem.W.fnOf "manager_of" "manager_of" (defArgs s_manager_of) (defBody s_manager_of) (defScope s_manager_of) .none kV1 dc1 pm1 an1 cd1 ct1), sl1⟩) (c1 : PySem.W.codeIn K cd1 "manager_of" = true) (k1 : PySem.W.keepIn K (.ref f1) = true)
    {od2 an2 : Option Addr} {sl2 : Array (Option Value)} {oc2 kV2 dc2 pm2 cd2 ct2 : Value}
    (a2 : PySem.W.nsIn K mainGlobals "new_lock" = some (some (.ref f2))) (l2 : K.lookup f2 = some ⟨oc2, od2, .func (PySem.W.fnOf "new_lock" "new_lock" (defArgs s_new_lock) (defBody s_new_lock) (defScope s_new_lock) .none kV2 dc2 pm2 an2 cd2 ct2), sl2⟩) (c2 : PySem.W.codeIn K cd2 "new_lock" = true) (k2 : PySem.W.keepIn K (.ref f2) = true)
    {od3 an3 : Option Addr} {sl3 : Array (Option Value)} {oc3 kV3 dc3 pm3 cd3 ct3 : Value}
    (a3 : PySem.W.nsIn K mainGlobals "granted" = some (some (.ref f3))) (l3 : K.lookup f3 = some ⟨oc3, od3, .func (PySem.W.fnOf "granted" "granted" (defArgs s_granted) (defBody s_granted) (defScope s_granted) .none kV3 dc3 pm3 an3 cd3 ct3), sl3⟩) (c3 : PySem.W.codeIn K cd3 "granted" = true) (k3 : PySem.W.keepIn K (.ref f3) = true)
    {od4 an4 : Option Addr} {sl4 : Array (Option Value)} {oc4 kV4 dc4 pm4 cd4 ct4 : Value}
    (a4 : PySem.W.nsIn K mainGlobals "ask" = some (some (.ref f4))) (l4 : K.lookup f4 = some ⟨oc4, od4, .func (PySem.W.fnOf "ask" "ask" (defArgs s_ask) (defBody s_ask) (defScope s_ask) .none kV4 dc4 pm4 an4 cd4 ct4), sl4⟩) (c4 : PySem.W.codeIn K cd4 "ask" = true) (k4 : PySem.W.keepIn K (.ref f4) = true)
    {od5 an5 : Option Addr} {sl5 : Array (Option Value)} {oc5 kV5 dc5 pm5 cd5 ct5 : Value}
    (a5 : PySem.W.nsIn K mainGlobals "let_go" = some (some (.ref f5))) (l5 : K.lookup f5 = some ⟨oc5, od5, .func (PySem.W.fnOf "let_go" "let_go" (defArgs s_let_go) (defBody s_let_go) (defScope s_let_go) .none kV5 dc5 pm5 an5 cd5 ct5), sl5⟩) (c5 : PySem.W.codeIn K cd5 "let_go" = true) (k5 : PySem.W.keepIn K (.ref f5) = true)
    {od6 an6 : Option Addr} {sl6 : Array (Option Value)} {oc6 kV6 dc6 pm6 cd6 ct6 : Value}
    (a6 : PySem.W.nsIn K mainGlobals "new_master" = some (some (.ref f6))) (l6 : K.lookup f6 = some ⟨oc6, od6, .func (PySem.W.fnOf "new_master" "new_master" (defArgs s_new_master) (defBody s_new_master) (defScope s_new_master) .none kV6 dc6 pm6 an6 cd6 ct6), sl6⟩) (c6 : PySem.W.codeIn K cd6 "new_master" = true) (k6 : PySem.W.keepIn K (.ref f6) = true)
    {od7 an7 : Option Addr} {sl7 : Array (Option Value)} {oc7 kV7 dc7 pm7 cd7 ct7 : Value}
    (a7 : PySem.W.nsIn K mainGlobals "come" = some (some (.ref f7))) (l7 : K.lookup f7 = some ⟨oc7, od7, .func (PySem.W.fnOf "come" "come" (defArgs s_come) (defBody s_come) (defScope s_come) .none kV7 dc7 pm7 an7 cd7 ct7), sl7⟩) (c7 : PySem.W.codeIn K cd7 "come" = true) (k7 : PySem.W.keepIn K (.ref f7) = true)
    {od8 an8 : Option Addr} {sl8 : Array (Option Value)} {oc8 kV8 dc8 pm8 cd8 ct8 : Value}
    (a8 : PySem.W.nsIn K mainGlobals "has_all" = some (some (.ref f8))) (l8 : K.lookup f8 = some ⟨oc8, od8, .func (PySem.W.fnOf "has_all" "has_all" (defArgs s_has_all) (defBody s_has_all) (defScope s_has_all) .none kV8 dc8 pm8 an8 cd8 ct8), sl8⟩) (c8 : PySem.W.codeIn K cd8 "has_all" = true) (k8 : PySem.W.keepIn K (.ref f8) = true)
    {od9 an9 : Option Addr} {sl9 : Array (Option Value)} {oc9 kV9 dc9 pm9 cd9 ct9 : Value}
    (a9 : PySem.W.nsIn K mainGlobals "is_complete" = some (some (.ref f9))) (l9 : K.lookup f9 = some ⟨oc9, od9, .func (PySem.W.fnOf "is_complete" "is_complete" (defArgs s_is_complete) (defBody s_is_complete) (defScope s_is_complete) .none kV9 dc9 pm9 an9 cd9 ct9), sl9⟩) (c9 : PySem.W.codeIn K cd9 "is_complete" = true) (k9 : PySem.W.keepIn K (.ref f9) = true)
    {od10 an10 : Option Addr} {sl10 : Array (Option Value)} {oc10 kV10 dc10 pm10 cd10 ct10 : Value}
    (a10 : PySem.W.nsIn K mainGlobals "clocks_of" = some (some (.ref f10))) (l10 : K.lookup f10 = some ⟨oc10, od10, .func (PySem.W.fnOf "clocks_of" "clocks_of" (defArgs s_clocks_of) (defBody s_clocks_of) (defScope s_clocks_of) .none kV10 dc10 pm10 an10 cd10 ct10), sl10⟩) (c10 : PySem.W.codeIn K cd10 "clocks_of" = true) (k10 : PySem.W.keepIn K (.ref f10) = true)
    {od11 an11 : Option Addr} {sl11 : Array (Option Value)} {oc11 kV11 dc11 pm11 cd11 ct11 : Value}
    (a11 : PySem.W.nsIn K mainGlobals "go_on" = some (some (.ref f11))) (l11 : K.lookup f11 = some ⟨oc11, od11, .func (PySem.W.fnOf "go_on" "go_on" (defArgs s_go_on) (defBody s_go_on) (defScope s_go_on) .none kV11 dc11 pm11 an11 cd11 ct11), sl11⟩) (c11 : PySem.W.codeIn K cd11 "go_on" = true) (k11 : PySem.W.keepIn K (.ref f11) = true)
    {od12 an12 : Option Addr} {sl12 : Array (Option Value)} {oc12 kV12 dc12 pm12 cd12 ct12 : Value}
    (a12 : PySem.W.nsIn K mainGlobals "is_over" = some (some (.ref f12))) (l12 : K.lookup f12 = some ⟨oc12, od12, .func (PySem.W.fnOf "is_over" "is_over" (defArgs s_is_over) (defBody s_is_over) (defScope s_is_over) .none kV12 dc12 pm12 an12 cd12 ct12), sl12⟩) (c12 : PySem.W.codeIn K cd12 "is_over" = true) (k12 : PySem.W.keepIn K (.ref f12) = true)
    {od13 an13 : Option Addr} {sl13 : Array (Option Value)} {oc13 kV13 dc13 pm13 cd13 ct13 : Value}
    (a13 : PySem.W.nsIn K mainGlobals "_law_next" = some (some (.ref f13))) (l13 : K.lookup f13 = some ⟨oc13, od13, .func (PySem.W.fnOf "_law_next" "_law_next" (defArgs s__law_next) (defBody s__law_next) (defScope s__law_next) .none kV13 dc13 pm13 an13 cd13 ct13), sl13⟩) (c13 : PySem.W.codeIn K cd13 "_law_next" = true) (k13 : PySem.W.keepIn K (.ref f13) = true)
    {od14 an14 : Option Addr} {sl14 : Array (Option Value)} {oc14 kV14 dc14 pm14 cd14 ct14 : Value}
    (a14 : PySem.W.nsIn K mainGlobals "_law_lock" = some (some (.ref f14))) (l14 : K.lookup f14 = some ⟨oc14, od14, .func (PySem.W.fnOf "_law_lock" "_law_lock" (defArgs s__law_lock) (defBody s__law_lock) (defScope s__law_lock) .none kV14 dc14 pm14 an14 cd14 ct14), sl14⟩) (c14 : PySem.W.codeIn K cd14 "_law_lock" = true) (k14 : PySem.W.keepIn K (.ref f14) = true)
    {od15 an15 : Option Addr} {sl15 : Array (Option Value)} {oc15 kV15 dc15 pm15 cd15 ct15 : Value}
    (a15 : PySem.W.nsIn K mainGlobals "_law_master" = some (some (.ref f15))) (l15 : K.lookup f15 = some ⟨oc15, od15, .func (PySem.W.fnOf "_law_master" "_law_master" (defArgs s__law_master) (defBody s__law_master) (defScope s__law_master) .none kV15 dc15 pm15 an15 cd15 ct15), sl15⟩) (c15 : PySem.W.codeIn K cd15 "_law_master" = true) (k15 : PySem.W.keepIn K (.ref f15) = true)
    {od16 an16 : Option Addr} {sl16 : Array (Option Value)} {oc16 kV16 dc16 pm16 cd16 ct16 : Value}
    (a16 : PySem.W.nsIn K mainGlobals "law" = some (some (.ref f16))) (l16 : K.lookup f16 = some ⟨oc16, od16, .func (PySem.W.fnOf "law" "law" (defArgs s_law) (defBody s_law) (defScope s_law) .none kV16 dc16 pm16 an16 cd16 ct16), sl16⟩) (c16 : PySem.W.codeIn K cd16 "law" = true) (k16 : PySem.W.keepIn K (.ref f16) = true)
    (z0 : PySem.W.nsIn K mainGlobals "abs" = some none)
    (z1 : PySem.W.nsIn K mainGlobals "all" = some none)
    (z2 : PySem.W.nsIn K mainGlobals "bool" = some none)
    (z3 : PySem.W.nsIn K mainGlobals "dict" = some none)
    (z4 : PySem.W.nsIn K mainGlobals "int" = some none)
    (z5 : PySem.W.nsIn K mainGlobals "isinstance" = some none)
    (z6 : PySem.W.nsIn K mainGlobals "len" = some none)
    (z7 : PySem.W.nsIn K mainGlobals "list" = some none)
    (z8 : PySem.W.nsIn K mainGlobals "range" = some none)
    (z9 : PySem.W.nsIn K mainGlobals "tuple" = some none)
    (tell : ∀ ns : List Int, ns.length ≤ 63 → pf_law [.list (ns.map .int)] = some (.bool true))
    : ∃ fd : FuncData, (∀ (s : Shared) (v : Value), BindsTo s fd ⟨[v], []⟩ [("script", v)]) ∧ ∀ base : Heap, K.In base → base.Ns mainGlobals mg → FnOk l.prog w K mg base CX0 4 fa fd ["script"] (spLaw K) := by
  have e := hfa.symm.trans (PySem.W.mg_of X G a16)
  cases e
  have F0 := fun_mk (st := s_zero_clock) l0 c0 k0
  have b0 := F0.binds (ps := ["machines"]) fun _ _ _ _ _ _ us hl => match us, hl with | [_], _ => rfl
  have F1 := fun_mk (st := s_manager_of) l1 c1 k1
  have b1 := F1.binds (ps := ["lock", "machines"]) fun _ _ _ _ _ _ us hl => match us, hl with | [_, _], _ => rfl
  have F2 := fun_mk (st := s_new_lock) l2 c2 k2
  have b2 := F2.binds (ps := ["machines"]) fun _ _ _ _ _ _ us hl => match us, hl with | [_], _ => rfl
  have F3 := fun_mk (st := s_granted) l3 c3 k3
  have b3 := F3.binds (ps := ["lock", "machine", "clock"]) fun _ _ _ _ _ _ us hl => match us, hl with | [_, _, _], _ => rfl
  have F4 := fun_mk (st := s_ask) l4 c4 k4
  have b4 := F4.binds (ps := ["lock", "machine", "clock"]) fun _ _ _ _ _ _ us hl => match us, hl with | [_, _, _], _ => rfl
  have F5 := fun_mk (st := s_let_go) l5 c5 k5
  have b5 := F5.binds (ps := ["lock", "clock"]) fun _ _ _ _ _ _ us hl => match us, hl with | [_, _], _ => rfl
  have F6 := fun_mk (st := s_new_master) l6 c6 k6
  have b6 := F6.binds (ps := []) fun _ _ _ _ _ _ us hl => match us, hl with | [], _ => rfl
  have F7 := fun_mk (st := s_come) l7 c7 k7
  have b7 := F7.binds (ps := ["master", "machine", "clock", "ended"]) fun _ _ _ _ _ _ us hl => match us, hl with | [_, _, _, _], _ => rfl
  have F8 := fun_mk (st := s_has_all) l8 c8 k8
  have b8 := F8.binds (ps := ["rows", "machines"]) fun _ _ _ _ _ _ us hl => match us, hl with | [_, _], _ => rfl
  have F9 := fun_mk (st := s_is_complete) l9 c9 k9
  have b9 := F9.binds (ps := ["master", "machines"]) fun _ _ _ _ _ _ us hl => match us, hl with | [_, _], _ => rfl
  have F10 := fun_mk (st := s_clocks_of) l10 c10 k10
  have b10 := F10.binds (ps := ["master"]) fun _ _ _ _ _ _ us hl => match us, hl with | [_], _ => rfl
  have F11 := fun_mk (st := s_go_on) l11 c11 k11
  have b11 := F11.binds (ps := ["master", "machines"]) fun _ _ _ _ _ _ us hl => match us, hl with | [_, _], _ => rfl
  have F12 := fun_mk (st := s_is_over) l12 c12 k12
  have b12 := F12.binds (ps := ["master"]) fun _ _ _ _ _ _ us hl => match us, hl with | [_], _ => rfl
  have F13 := fun_mk (st := s__law_next) l13 c13 k13
  have b13 := F13.binds (ps := ["tape", "many"]) fun _ _ _ _ _ _ us hl => match us, hl with | [_, _], _ => rfl
  have F14 := fun_mk (st := s__law_lock) l14 c14 k14
  have b14 := F14.binds (ps := ["tape", "lock", "world", "clock", "machines"]) fun _ _ _ _ _ _ us hl => match us, hl with | [_, _, _, _, _], _ => rfl
  have F15 := fun_mk (st := s__law_master) l15 c15 k15
  have b15 := F15.binds (ps := ["tape", "master", "came", "ended", "clock", "machines"]) fun _ _ _ _ _ _ us hl => match us, hl with | [_, _, _, _, _, _], _ => rfl
  have F16 := fun_mk (st := s_law) l16 c16 k16
  have b16 := F16.binds (ps := ["script"]) fun _ _ _ _ _ _ us hl => match us, hl with | [_], _ => rfl
  let Z : Fx K mg := ⟨f0, _, F0, b0, PySem.W.mg_of X G a0,
    f1, _, F1, b1, PySem.W.mg_of X G a1,
    f2, _, F2, b2, PySem.W.mg_of X G a2,
    f3, _, F3, b3, PySem.W.mg_of X G a3,
    f4, _, F4, b4, PySem.W.mg_of X G a4,
    f5, _, F5, b5, PySem.W.mg_of X G a5,
    f6, _, F6, b6, PySem.W.mg_of X G a6,
    f7, _, F7, b7, PySem.W.mg_of X G a7,
    f8, _, F8, b8, PySem.W.mg_of X G a8,
    f9, _, F9, b9, PySem.W.mg_of X G a9,
    f10, _, F10, b10, PySem.W.mg_of X G a10,
    f11, _, F11, b11, PySem.W.mg_of X G a11,
    f12, _, F12, b12, PySem.W.mg_of X G a12,
    f13, _, F13, b13, PySem.W.mg_of X G a13,
    f14, _, F14, b14, PySem.W.mg_of X G a14,
    f15, _, F15, b15, PySem.W.mg_of X G a15,
    fa, _, F16, b16, PySem.W.mg_of X G a16,
    PySem.W.mg_none_of X G z0,
    PySem.W.mg_none_of X G z1,
    PySem.W.mg_none_of X G z2,
    PySem.W.mg_none_of X G z3,
    PySem.W.mg_none_of X G z4,
    PySem.W.mg_none_of X G z5,
    PySem.W.mg_none_of X G z6,
    PySem.W.mg_none_of X G z7,
    PySem.W.mg_none_of X G z8,
    PySem.W.mg_none_of X G z9⟩
  exact ⟨PySem.W.fnOf "law" "law" (defArgs s_law) (defBody s_law) (defScope s_law) .none kV16 dc16 pm16 an16 cd16 ct16, fun s v => .of_eq rfl, fun base _ _ => (ok_law Z).imp fun _ _ _ _ h => law_imp tell h⟩
end M
open PySem PySem.W PyProof.Rows
theorem PySem.Challenge.cw_commonage_k28_locks_and_barriers_holds : PySem.Challenge.rw_commonage_k28_locks_and_barriers.Holds := by
  w_on; o_law; k_head; (case hw => w_witness2)
  k_fill
  refine L2.walk_of (l := PySem.Challenge.rw_commonage_k28_locks_and_barriers) (n := 63) (k := 4) (x := "script") (CX := fun _ => L2.CX0) (sp := fun w => M.spLaw _) rfl (by decide) rfl ⟨rfl, by decide, by decide⟩ (fun w h Y => PySem.W.kIn_of Y) ?F (fun _ _ a ns hl _ hS => ⟨a, ns, rfl, hS, hl, fun _ => rfl⟩) (fun _ _ _ _ _ h => h)
  case F =>
    intro w mg fa h KX hG0 hmg
    refine' _root_.M.all_mk KX hG0 hmg ?a0 ?l0 ?c0 ?k0 ?a1 ?l1 ?c1 ?k1 ?a2 ?l2 ?c2 ?k2 ?a3 ?l3 ?c3 ?k3 ?a4 ?l4 ?c4 ?k4 ?a5 ?l5 ?c5 ?k5 ?a6 ?l6 ?c6 ?k6 ?a7 ?l7 ?c7 ?k7 ?a8 ?l8 ?c8 ?k8 ?a9 ?l9 ?c9 ?k9 ?a10 ?l10 ?c10 ?k10 ?a11 ?l11 ?c11 ?k11 ?a12 ?l12 ?c12 ?k12 ?a13 ?l13 ?c13 ?k13 ?a14 ?l14 ?c14 ?k14 ?a15 ?l15 ?c15 ?k15 ?a16 ?l16 ?c16 ?k16 ?z0 ?z1 ?z2 ?z3 ?z4 ?z5 ?z6 ?z7 ?z8 ?z9 M.tell
    (case a0 => k_is); (case l0 => k_is); (case c0 => k_is); (case k0 => k_is); (case a1 => k_is); (case l1 => k_is); (case c1 => k_is); (case k1 => k_is); (case a2 => k_is); (case l2 => k_is); (case c2 => k_is); (case k2 => k_is); (case a3 => k_is); (case l3 => k_is); (case c3 => k_is); (case k3 => k_is); (case a4 => k_is); (case l4 => k_is); (case c4 => k_is); (case k4 => k_is); (case a5 => k_is); (case l5 => k_is); (case c5 => k_is); (case k5 => k_is); (case a6 => k_is); (case l6 => k_is); (case c6 => k_is); (case k6 => k_is); (case a7 => k_is); (case l7 => k_is); (case c7 => k_is); (case k7 => k_is); (case a8 => k_is); (case l8 => k_is); (case c8 => k_is); (case k8 => k_is); (case a9 => k_is); (case l9 => k_is); (case c9 => k_is); (case k9 => k_is); (case a10 => k_is); (case l10 => k_is); (case c10 => k_is); (case k10 => k_is); (case a11 => k_is); (case l11 => k_is); (case c11 => k_is); (case k11 => k_is); (case a12 => k_is); (case l12 => k_is); (case c12 => k_is); (case k12 => k_is); (case a13 => k_is); (case l13 => k_is); (case c13 => k_is); (case k13 => k_is); (case a14 => k_is); (case l14 => k_is); (case c14 => k_is); (case k14 => k_is); (case a15 => k_is); (case l15 => k_is); (case c15 => k_is); (case k15 => k_is); (case a16 => k_is); (case l16 => k_is); (case c16 => k_is); (case k16 => k_is); (case z0 => k_is); (case z1 => k_is); (case z2 => k_is); (case z3 => k_is); (case z4 => k_is); (case z5 => k_is); (case z6 => k_is); (case z7 => k_is); (case z8 => k_is); (case z9 => k_is)

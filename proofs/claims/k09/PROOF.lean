import PyProof.Rows.All
import Wide.All
import OpenK.AllK
import Wide.FinOn
import HandS.Evl
import HandS.ForMost
import HandS.IsInst
import HandS.Zip
import HandS.Wide
import HandS.TupMul
import HandS.EndBits
import HandS.Steps
import HandS.SetFor
import HandS.Strs
import HandS.DictComp
import HandS.SetKeys
import HandS.Deep
import KE.GoesMore
import KE.GoesEnum
import KE.DataCmp
import KE.SortData
import HandS.Lambda
import HandS.Style
import HandS.EndTab
import KE.SortKeyHeap
import HandS.SortKw
import HandS.EndOwn
import KE.KDictPairs
import KE.KDictCopyH
import KE.DatumOrd
import HandS.More
import HandS.HeadHook3
import HandS.TupLen
import HandS.RepeatKit
import PyProof.TupleOfSeq
import HandS.TupAny
import PyProof.P3In
import KE.KEqNest
import PySem.Challenge.RW_commonage_k09_whole_fresh_copies_have_wh
set_option Elab.async false
set_option linter.all false
set_option maxRecDepth 100000
set_option maxHeartbeats 4000000
namespace G
open PySem PySem.Spec PyProof.Rows L2
open Evl (Ex ex_rd ex_l ex_t rMax2)
theorem ex_none {H H' : Hp} {p : Addr} (e : Ex H H') (h : H' p = none) : H p = none := Evl.fresh_back e h
section
variable {K : PySem.W.Frag} {H H' : Hp}
mutual
theorem dpx (e : Ex H H') : ∀ {v : V} {d : PyData}, Dp K H v d → Dp K H' v d
  | _, _, .non => .non
  | _, _, .bl b => .bl b
  | _, _, .int i => .int i
  | _, _, .str x => .str x
  | _, _, .lst h a => .lst (ex_l e h) (dpax e a)
  | _, _, .tup h a => .tup (ex_t e h) (dpax e a)
theorem dpax (e : Ex H H') : ∀ {vs : List V} {ds : List PyData}, DpAll K H vs ds → DpAll K H' vs ds
  | _, _, .nil => .nil
  | _, _, .cons h t => .cons (dpx e h) (dpax e t)
end
theorem dpa_len : ∀ {vs : List V} {ds : List PyData}, DpAll K H vs ds → vs.length = ds.length
  | _, _, .nil => rfl
  | _, _, .cons _ t => congrArg (· + 1) (dpa_len t)
theorem dpa_get : ∀ {vs : List V} {ds : List PyData} {i : Nat} {d : PyData}, DpAll K H vs ds → ds[i]? = some d → ∃ v, vs[i]? = some v ∧ Dp K H v d
  | _, _, _, _, .nil, e => by simp at e
  | _, _, 0, _, .cons r _, e => by simp at e; subst e; exact ⟨_, rfl, r⟩
  | _, _, i + 1, d, .cons _ t, e => by
    obtain ⟨u, h1, h2⟩ := dpa_get (i := i) (d := d) t (by simpa using e)
    exact ⟨u, by simpa using h1, h2⟩
theorem dpa_app : ∀ {vs ws : List V} {ds es : List PyData}, DpAll K H vs ds → DpAll K H ws es → DpAll K H (vs ++ ws) (ds ++ es)
  | _, _, _, _, .nil, s => s
  | _, _, _, _, .cons r t, s => .cons r (dpa_app t s)
theorem dpa_set {v : V} {d : PyData} (r : Dp K H v d) : ∀ {vs : List V} {ds : List PyData} (i : Nat), DpAll K H vs ds → DpAll K H (vs.set i v) (ds.set i d)
  | _, _, _, .nil => .nil
  | _, _, 0, .cons _ t => .cons r t
  | _, _, i + 1, .cons q t => .cons q (dpa_set r i t)
theorem dpa_ints : ∀ {xs : List Int}, DpAll K H (xs.map V.int) (xs.map PyData.int)
  | [] => .nil
  | x :: xs => .cons (.int x) (dpa_ints)
end
/-! ### slots -/
inductive Sl where
  | no
  | dat (d : PyData)
  | ownq (z : Option Addr) (ds : List PyData)
abbrev Sl.own (ds : List PyData) : Sl := .ownq none ds
abbrev Sl.int (i : Int) : Sl := .dat (.int i)
abbrev Sl.bl (b : Bool) : Sl := .dat (.bool b)
inductive Has (K : PySem.W.Frag) (C H : Hp) : List Sl → L2.St → List Addr → Prop
  | nil : Has K C H [] [] []
  | no {Γ : List Sl} {σ : L2.St} {ps : List Addr} {x : Option V} : Has K C H Γ σ ps → Has K C H (.no :: Γ) (x :: σ) ps
  | dat {Γ : List Sl} {σ : L2.St} {ps : List Addr} {v : V} {d : PyData} : Dp K C v d → Has K C H Γ σ ps → Has K C H (.dat d :: Γ) (some v :: σ) ps
  | own {Γ : List Sl} {σ : L2.St} {ps : List Addr} {p : Addr} {vs : List V} {ds : List PyData} {z : Option Addr} : (∀ r, z = some r → r = p) → H p = some (.lst vs) → DpAll K C vs ds → Has K C H Γ σ ps → Has K C H (.ownq z ds :: Γ) (some (.ref p) :: σ) (p :: ps)
section
variable {K : PySem.W.Frag} {C C' H H' : Hp} {Γ : List Sl} {σ : L2.St} {ps : List Addr}
theorem Has.own_some (h : Has K C H Γ σ ps) : ∀ p ∈ ps, ∃ xs, H p = some (.lst xs) := by
  induction h with
  | nil => intro p hp; cases hp
  | no _ ih => exact ih
  | dat _ _ ih => exact ih
  | own _ e _ _ ih =>
    intro p hp
    rcases List.mem_cons.mp hp with rfl | hp
    · exact ⟨_, e⟩
    · exact ih p hp
theorem Has.mono (h : Has K C H Γ σ ps) (e : Ex C C') (f : ∀ p ∈ ps, ∀ o, H p = some o → H' p = some o) : Has K C' H' Γ σ ps := by
  induction h with
  | nil => exact .nil
  | no _ ih => exact .no (ih f)
  | dat d _ ih => exact .dat (dpx e d) (ih f)
  | own y q d _ ih => exact .own y (f _ List.mem_cons_self _ q) (dpax e d) (ih fun p hp => f p (List.mem_cons_of_mem _ hp))
theorem Has.len (h : Has K C H Γ σ ps) : Γ.length = σ.length := by
  induction h with
  | nil => rfl
  | no _ ih => simp [ih]
  | dat _ _ ih => simp [ih]
  | own _ _ _ _ ih => simp [ih]
theorem Has.get_dat (h : Has K C H Γ σ ps) : ∀ {i : Nat} {d : PyData}, Γ[i]? = some (.dat d) → ∃ v, σ[i]? = some (some v) ∧ Dp K C v d := by
  induction h with
  | nil => intro i d e; simp at e
  | no _ ih => intro i d e; cases i with
    | zero => simp at e
    | succ i => exact ih (by simpa using e)
  | dat q _ ih => intro i d e; cases i with
    | zero => simp at e; subst e; exact ⟨_, rfl, q⟩
    | succ i => exact ih (by simpa using e)
  | own _ _ _ _ ih => intro i d e; cases i with
    | zero => simp at e
    | succ i => exact ih (by simpa using e)
/-- a slot is given another content -/
theorem Has.set {s : Sl} {x : Option V} {rs : List Addr} (h : Has K C H Γ σ ps) (r : Has K C H [s] [x] rs) : ∀ (i : Nat), ∃ qs, Has K C H (Γ.set i s) (σ.set i x) qs ∧ (∀ p ∈ qs, p ∈ rs ∨ p ∈ ps) ∧ ((rs ++ ps).Nodup → qs.Nodup) := by
  have keep : ∀ {Γ : List Sl} {σ : L2.St} {ps : List Addr}, Has K C H Γ σ ps → ∃ qs, Has K C H (s :: Γ) (x :: σ) qs ∧ qs = rs ++ ps := by
    intro Γ σ ps q
    cases r with
    | no r => cases r; exact ⟨_, .no q, rfl⟩
    | dat d r => cases r; exact ⟨_, .dat d q, rfl⟩
    | own y e d r => cases r; exact ⟨_, .own y e d q, rfl⟩
  induction h with
  | nil => intro i; exact ⟨[], .nil, (fun p hp => by cases hp), fun _ => List.nodup_nil⟩
  | no q ih => intro i; cases i with
    | zero => obtain ⟨qs, h1, rfl⟩ := keep q; exact ⟨_, h1, fun p hp => List.mem_append.mp hp, fun n => n⟩
    | succ i => obtain ⟨qs, h1, h2, h3⟩ := ih i; exact ⟨qs, .no h1, h2, h3⟩
  | dat d q ih => intro i; cases i with
    | zero => obtain ⟨qs, h1, rfl⟩ := keep q; exact ⟨_, h1, fun p hp => List.mem_append.mp hp, fun n => n⟩
    | succ i => obtain ⟨qs, h1, h2, h3⟩ := ih i; exact ⟨qs, .dat d h1, h2, h3⟩
  | own y e d q ih => intro i; cases i with
    | zero =>
      obtain ⟨qs, h1, rfl⟩ := keep q
      refine ⟨_, h1, fun p hp => ?_, fun n => ?_⟩
      · rcases List.mem_append.mp hp with z | z
        · exact .inl z
        · exact .inr (List.mem_cons_of_mem _ z)
      · exact n.sublist (List.Sublist.append_left (List.sublist_cons_self _ _) rs)
    | succ i =>
      obtain ⟨qs, h1, h2, h3⟩ := ih i
      refine ⟨_, .own y e d h1, fun p hp => ?_, fun n => ?_⟩
      · rcases List.mem_cons.mp hp with rfl | z
        · exact .inr List.mem_cons_self
        · rcases h2 p z with z | z
          · exact .inl z
          · exact .inr (List.mem_cons_of_mem _ z)
      · have n' := (List.perm_middle.nodup_iff).mp n
        refine List.nodup_cons.mpr ⟨fun hm => ?_, h3 (List.nodup_cons.mp n').2⟩
        rcases h2 _ hm with z | z
        · exact (List.nodup_cons.mp n').1 (List.mem_append_left _ z)
        · exact (List.nodup_cons.mp n').1 (List.mem_append_right _ z)
end
/-! ### the state: what is known of slots and heap -/
structure Bs where
  K : PySem.W.Frag
  H0 : Hp
  B : Hp
structure Cfg (b : Bs) (C H : Hp) (ps : List Addr) : Prop where
  bc : Ex b.B C
  ch : Ex C H
  h0 : Ex b.H0 H
  fr : ∀ a, b.H0 a ≠ none → b.B a = none → C a = none
  ow : ∀ p ∈ ps, C p = none ∧ b.H0 p = none
  nd : ps.Nodup
def HsC (b : Bs) (C : Hp) (T : List Sl) (τ : L2.St) (Γ : List Sl) (σ : L2.St) (H : Hp) : Prop := ∃ ps qs, Cfg b C H (ps ++ qs) ∧ Has b.K C H T τ ps ∧ Has b.K C H Γ σ qs
def Hs (b : Bs) (T : List Sl) (τ : L2.St) (Γ : List Sl) (σ : L2.St) (H : Hp) : Prop := ∃ C, HsC b C T τ Γ σ H
/-- from a heap H of which C is known: the value v, told by s, in H' -/
def Ret (K : PySem.W.Frag) (H C : Hp) (s : Sl) (v : V) (H' : Hp) : Prop :=
  ∃ C' ps, Ex C C' ∧ Ex C' H' ∧ Ex H H' ∧ (∀ a, H a ≠ none → C a = none → C' a = none) ∧ Has K C' H' [s] [some v] ps ∧ ∀ p ∈ ps, C' p = none ∧ H p = none
section
variable {K : PySem.W.Frag} {C H H' : Hp} {s : Sl} {v : V} {d : PyData} {ds : List PyData} {vs : List V} {p : Addr}
theorem Ret.same (e : Ex C H) (h : Dp K C v d) : Ret K H C (.dat d) v H := ⟨C, [], Ex.refl C, e, Ex.refl H, fun _ _ z => z, .dat h .nil, fun p hp => by cases hp⟩
theorem ret_fresh (hp : H p = none) {o : HO} (e : Ex C H) : Ex (upd C p o) (upd H p o) := fun a u h => by
  by_cases z : a = p
  · subst z; rw [upd_same] at h ⊢; exact h
  · rw [upd_ne z] at h ⊢; exact e a u h
theorem Ret.tup (e : Ex C H) (h : DpAll K C vs ds) (hp : H p = none) : Ret K H C (.dat (.tuple ds)) (.ref p) (upd H p (.tup vs)) := by
  have hc : C p = none := ex_none e hp
  refine ⟨upd C p (.tup vs), [], Ex.new hc, ret_fresh hp e, Ex.new hp, fun a z c => ?_, .dat (.tup (.inl (.inl upd_same)) (dpax (Ex.new hc) h)) .nil, fun p hp => by cases hp⟩
  rw [upd_ne (fun q => z (by rw [q]; exact hp))]; exact c
theorem Ret.lst (e : Ex C H) (h : DpAll K C vs ds) (hp : H p = none) : Ret K H C (.own ds) (.ref p) (upd H p (.lst vs)) :=
  ⟨C, [p], Ex.refl C, e.trans (Ex.new hp), Ex.new hp, fun _ _ z => z, .own (fun _ q => nomatch q) upd_same h .nil, fun q hq => by
    rcases List.mem_singleton.mp hq with rfl
    exact ⟨ex_none e hp, hp⟩⟩
theorem Ret.list (e : Ex C H) (h : DpAll K C vs ds) (hp : H p = none) : Ret K H C (.dat (.list ds)) (.ref p) (upd H p (.lst vs)) := by
  have hc : C p = none := ex_none e hp
  refine ⟨upd C p (.lst vs), [], Ex.new hc, ret_fresh hp e, Ex.new hp, fun a z c => ?_, .dat (.lst (.inl (.inl upd_same)) (dpax (Ex.new hc) h)) .nil, fun p hp => by cases hp⟩
  rw [upd_ne (fun q => z (by rw [q]; exact hp))]; exact c
theorem Ret.freeze {z : Option Addr} (r : Ret K H C (.ownq z ds) v H') : Ret K H C (.dat (.list ds)) v H' := by
  obtain ⟨C', ps, e1, e2, e3, fr, h, ow⟩ := r
  cases h with
  | own y e d r =>
    cases r
    rename_i q vs
    obtain ⟨o1, o2⟩ := ow q List.mem_cons_self
    refine ⟨upd C' q (.lst vs), [], e1.trans (Ex.new o1), fun a u h => ?_, e3, fun a z c => ?_, .dat (.lst (.inl (.inl upd_same)) (dpax (Ex.new o1) d)) .nil, fun p hp => by cases hp⟩
    · by_cases z : a = q
      · subst z; rw [upd_same] at h; cases h; exact e
      · rw [upd_ne z] at h; exact e2 a u h
    · rw [upd_ne (fun y => z (by rw [y]; exact o2))]; exact fr a z c
end
section
variable {b : Bs} {C : Hp} {T Γ Γ' Γ1 Γ2 : List Sl} {τ σ : L2.St} {H H' : Hp} {s s' : Sl} {v : V} {d e : PyData} {ds es : List PyData} {vs : List V}
theorem HsC.ch (h : HsC b C T τ Γ σ H) : Ex C H := by obtain ⟨ps, qs, c, _⟩ := h; exact c.ch
/-- a computation's result is put on the pile -/
theorem HsC.step (h : HsC b C T τ Γ σ H) (r : Ret b.K H C s v H') : Hs b (s :: T) (some v :: τ) Γ σ H' := by
  obtain ⟨ps, qs, c, h1, h2⟩ := h
  obtain ⟨C', rs, e1, e2, e3, fr, h3, ow⟩ := r
  have hsome : ∀ p ∈ ps ++ qs, ∃ xs, H p = some (.lst xs) := fun p hp => by
    rcases List.mem_append.mp hp with z | z
    · exact h1.own_some p z
    · exact h2.own_some p z
  have hT : Has b.K C' H' (s :: T) (some v :: τ) (rs ++ ps) := by
    have h1' := h1.mono e1 (fun p _ o q => e3 p o q)
    cases h3 with
    | no z => cases z; exact .no h1'
    | dat q z => cases z; exact .dat q h1'
    | own y q q2 z => cases z; exact .own y q q2 h1'
  refine ⟨C', rs ++ ps, qs, ⟨c.bc.trans e1, e2, c.h0.trans e3, fun a z y => ?_, fun p hp => ?_, ?_⟩, hT, h2.mono e1 (fun p _ o q => e3 p o q)⟩
  · refine fr a (fun q => ?_) (c.fr a z y)
    cases z1 : b.H0 a with
    | none => exact z z1
    | some o => rw [c.h0 a o z1] at q; cases q
  · rw [List.append_assoc] at hp
    rcases List.mem_append.mp hp with z | z
    · exact ⟨(ow p z).1, ex_none c.h0 (ow p z).2⟩
    · obtain ⟨xs, hx⟩ := hsome p z
      exact ⟨fr p (by rw [hx]; intro q; cases q) (c.ow p z).1, (c.ow p z).2⟩
  · rw [List.append_assoc]
    refine List.nodup_append.mpr ⟨?_, c.nd, fun p hp q hq e => ?_⟩
    · cases h3 with
      | no z => cases z; exact List.nodup_nil
      | dat _ z => cases z; exact List.nodup_nil
      | own _ _ _ z => cases z; simp
    · subst e
      obtain ⟨xs, hx⟩ := hsome p hq
      rw [(ow p hp).2] at hx; cases hx
theorem HsC.sub {T' : List Sl} {τ' : L2.St} {ps' qs' : List Addr} (c : Cfg b C H ps') (h1 : Has b.K C H T' τ' qs') (h2 : ∀ p ∈ qs', p ∈ ps') (h3 : qs'.Nodup) : Cfg b C H qs' :=
  ⟨c.bc, c.ch, c.h0, c.fr, fun p hp => c.ow p (h2 p hp), h3⟩
theorem Cfg.sub {ps' qs' : List Addr} (c : Cfg b C H ps') (h2 : ∀ p ∈ qs', p ∈ ps') (h3 : qs'.Nodup) : Cfg b C H qs' :=
  ⟨c.bc, c.ch, c.h0, c.fr, fun p hp => c.ow p (h2 p hp), h3⟩
/-- the top of the pile is read, data -/
theorem HsC.pop (h : HsC b C (.dat d :: T) (some v :: τ) Γ σ H) : Dp b.K C v d ∧ HsC b C T τ Γ σ H := by
  obtain ⟨ps, qs, c, h1, h2⟩ := h
  cases h1 with
  | dat q h1 => exact ⟨q, ps, qs, c, h1, h2⟩
theorem HsC.drop {x : Option V} (h : HsC b C (s :: T) (x :: τ) Γ σ H) : HsC b C T τ Γ σ H := by
  obtain ⟨ps, qs, c, h1, h2⟩ := h
  cases h1 with
  | no h1 => exact ⟨ps, qs, c, h1, h2⟩
  | dat q h1 => exact ⟨ps, qs, c, h1, h2⟩
  | own y q q2 h1 => exact ⟨_, qs, c.sub (fun p hp => List.mem_cons_of_mem _ hp) (List.nodup_cons.mp c.nd).2, h1, h2⟩
theorem HsC.push (h : HsC b C T τ Γ σ H) (q : Dp b.K C v d) : HsC b C (.dat d :: T) (some v :: τ) Γ σ H := by
  obtain ⟨ps, qs, c, h1, h2⟩ := h
  exact ⟨ps, qs, c, .dat q h1, h2⟩
theorem HsC.pushAll (h : HsC b C T τ Γ σ H) : ∀ {vs : List V} {ds : List PyData}, DpAll b.K C vs ds → HsC b C (ds.map Sl.dat ++ T) (vs.map some ++ τ) Γ σ H
  | _, _, .nil => h
  | _, _, .cons r t => (h.pushAll t).push r
theorem HsC.popAll : ∀ {vs : List V} {ds : List PyData}, vs.length = ds.length → HsC b C (ds.map Sl.dat ++ T) (vs.map some ++ τ) Γ σ H → DpAll b.K C vs ds ∧ HsC b C T τ Γ σ H
  | [], [], _, h => ⟨.nil, h⟩
  | v :: vs, d :: ds, e, h => by
    obtain ⟨q, h⟩ := HsC.pop (T := ds.map Sl.dat ++ T) (τ := vs.map some ++ τ) h
    obtain ⟨q2, h⟩ := HsC.popAll (vs := vs) (ds := ds) (by simpa using e) h
    exact ⟨.cons q q2, h⟩
/-- the top of the pile is stored in a slot -/
theorem Hs.store {x : Option V} (h : Hs b (s :: T) (x :: τ) Γ σ H) (i : Nat) : Hs b T τ (Γ.set i s) (σ.set i x) H := by
  obtain ⟨C, ps, qs, c, h1, h2⟩ := h
  have main : ∀ {rs ps' : List Addr}, Has b.K C H [s] [x] rs → Has b.K C H T τ ps' → ps = rs ++ ps' → Hs b T τ (Γ.set i s) (σ.set i x) H := by
    clear h1
    rintro rs ps' r h1 rfl
    obtain ⟨qs', g1, g2, g3⟩ := h2.set r i
    have nd := c.nd
    refine ⟨C, ps', qs', c.sub (fun p hp => ?_) ?_, h1, g1⟩
    · rcases List.mem_append.mp hp with z | z
      · exact List.mem_append_left _ (List.mem_append_right _ z)
      · rcases g2 p z with z | z
        · exact List.mem_append_left _ (List.mem_append_left _ z)
        · exact List.mem_append_right _ z
    · rw [List.append_assoc] at nd
      have n1 := List.nodup_append.mp nd
      have n2 := List.nodup_append.mp n1.2.1
      refine List.nodup_append.mpr ⟨n2.1, g3 (List.nodup_append.mpr ⟨n1.1, n2.2.1, fun p hp q hq => n1.2.2 p hp q (List.mem_append_right _ hq)⟩), fun p hp q hq => ?_⟩
      rcases g2 q hq with z | z
      · exact fun e => n1.2.2 q z p (List.mem_append_left _ hp) e.symm
      · exact n2.2.2 p hp q z
  cases h1 with
  | no h1 => exact main (.no .nil) h1 rfl
  | dat q h1 => exact main (.dat q .nil) h1 rfl
  | own y q q2 h1 => exact main (.own y q q2 .nil) h1 rfl
theorem Hs.pop (h : Hs b (.dat d :: T) (some v :: τ) Γ σ H) : ∃ C, Dp b.K C v d ∧ HsC b C T τ Γ σ H := by
  obtain ⟨C, h⟩ := h
  exact ⟨C, h.pop⟩
theorem Hs.drop {x : Option V} (h : Hs b (s :: T) (x :: τ) Γ σ H) : Hs b T τ Γ σ H := by
  obtain ⟨C, h⟩ := h
  exact ⟨C, h.drop⟩
/-- a list of one's own becomes data -/
theorem Hs.freeze {z : Option Addr} (h : Hs b (.ownq z ds :: T) (some v :: τ) Γ σ H) : Hs b (.dat (.list ds) :: T) (some v :: τ) Γ σ H := by
  obtain ⟨C, ps, qs, c, h1, h2⟩ := h
  cases h1 with
  | own y e d h1 =>
    rename_i ps q vs
    obtain ⟨o1, o2⟩ := c.ow q (List.mem_append_left _ List.mem_cons_self)
    have hne : ∀ p ∈ ps ++ qs, p ≠ q := fun p hp z => by
      subst z
      exact (List.nodup_cons.mp c.nd).1 hp
    refine ⟨upd C q (.lst vs), ps, qs, ⟨c.bc.trans (Ex.new o1), fun a u h => ?_, c.h0, fun a z y => ?_, fun p hp => ?_, (List.nodup_cons.mp c.nd).2⟩, .dat (.lst (.inl (.inl upd_same)) (dpax (Ex.new o1) d)) (h1.mono (Ex.new o1) fun _ _ _ z => z), h2.mono (Ex.new o1) fun _ _ _ z => z⟩
    · by_cases z : a = q
      · subst z; rw [upd_same] at h; cases h; exact e
      · rw [upd_ne z] at h; exact c.ch a u h
    · rw [upd_ne (fun y => z (by rw [y]; exact o2))]; exact c.fr a z y
    · rw [upd_ne (hne p hp)]; exact c.ow p (List.mem_cons_of_mem _ hp)
/-- the end of a def: what its caller gets -/
theorem Hs.ret {τ' : L2.St} {x : V} (h : Hs b (s :: T) (some x :: τ') Γ σ H) : Ret b.K b.H0 b.B s x H := by
  obtain ⟨C, ps, qs, c, h1, h2⟩ := h
  have main : ∀ {rs ps' : List Addr}, Has b.K C H [s] [some x] rs → ps = rs ++ ps' → Ret b.K b.H0 b.B s x H := by
    rintro rs ps' r rfl
    exact ⟨C, rs, c.bc, c.ch, c.h0, c.fr, r, fun p hp => c.ow p (List.mem_append_left _ (List.mem_append_left _ hp))⟩
  cases h1 with
  | no h1 => exact main (.no .nil) rfl
  | dat q h1 => exact main (.dat q .nil) rfl
  | own y q q2 h1 => exact main (.own y q q2 .nil) rfl
/-! ### expressions -/
def EvS (b : Bs) (te : TE) (Γ Γ' : List Sl) (s : Sl) : Prop := ∀ T τ σ H, Hs b T τ Γ σ H → ∀ Q : VK, (∀ v H', Hs b (s :: T) (some v :: τ) Γ' σ H' → Q v H') → te σ H Q
def EvT (b : Bs) (tt : TT) (Γ Γ' : List Sl) (k : Bool) : Prop := ∀ T τ σ H, Hs b T τ Γ σ H → ∀ Q : Bool → Hp → Prop, (∀ H', Hs b T τ Γ' σ H' → Q k H') → tt σ H Q
def EvA (b : Bs) (ta : TA) (Γ Γ' : List Sl) (ds : List PyData) : Prop := ∀ T τ σ H, Hs b T τ Γ σ H → ∀ Q : List V → Hp → Prop, (∀ vs H' C, HsC b C T τ Γ' σ H' → DpAll b.K C vs ds → Q vs H') → ta σ H Q
def RD (K : PySem.W.Frag) (r : R2) (d e : PyData) (s : Sl) : Prop := ∀ C H x y, Ex C H → Dp K C x d → Dp K C y e → ∀ Q : VK, (∀ v H', Ret K H C s v H' → Q v H') → r x y H Q
def UD (K : PySem.W.Frag) (r : V → Hp → VK → Prop) (d : PyData) (s : Sl) : Prop := ∀ C H x, Ex C H → Dp K C x d → ∀ Q : VK, (∀ v H', Ret K H C s v H' → Q v H') → r x H Q
def CD (K : PySem.W.Frag) (r : List V → Hp → VK → Prop) (ds : List PyData) (s : Sl) : Prop := ∀ C H vs, Ex C H → DpAll K C vs ds → ∀ Q : VK, (∀ v H', Ret K H C s v H' → Q v H') → r vs H Q
theorem s_var {i : Nat} (h : Γ[i]? = some (.dat d)) : EvS b (tVar i) Γ Γ (.dat d) := fun T τ σ H hs Q q => by
  obtain ⟨C, ps, qs, c, h1, h2⟩ := hs
  obtain ⟨v, e, dv⟩ := h2.get_dat h
  exact ⟨v, e, q v H ⟨C, ps, qs, c, .dat dv h1, h2⟩⟩
theorem s_ret {v : V} {te : TE} (h : ∀ σ H Q, Q v H → te σ H Q) (hd : ∀ C, Dp b.K C v d) : EvS b te Γ Γ (.dat d) := fun T τ σ H hs Q q => by
  obtain ⟨C, hs⟩ := hs
  exact h σ H Q (q v H ⟨C, hs.push (hd C)⟩)
theorem s_int {i : Int} : EvS b (tC (.int i)) Γ Γ (.dat (.int i)) := s_ret (v := .int i) (fun _ _ _ q => q) fun _ => .int i
theorem s_bl {k : Bool} : EvS b (tC (.bl k)) Γ Γ (.dat (.bool k)) := s_ret (v := .bl k) (fun _ _ _ q => q) fun _ => .bl k
theorem s_str {x : Str} : EvS b (tC (.str x)) Γ Γ (.dat (.str x)) := s_ret (v := .str x) (fun _ _ _ q => q) fun _ => .str x
theorem s_non : EvS b (tC .non) Γ Γ (.dat .none) := s_ret (v := .non) (fun _ _ _ q => q) fun _ => .non
theorem s_op {ta tb : TE} {r : R2} (ha : EvS b ta Γ Γ1 (.dat d)) (hb : EvS b tb Γ1 Γ2 (.dat e)) (hr : RD b.K r d e s) : EvS b (tOp r ta tb) Γ Γ2 s := fun T τ σ H hs Q q =>
  ha T τ σ H hs _ fun x H1 h1 => hb _ _ σ H1 h1 _ fun y H2 h2 => by
    obtain ⟨C, dy, h3⟩ := h2.pop
    obtain ⟨dx, h4⟩ := h3.pop
    exact hr C H2 x y h4.ch dx dy Q fun v H3 rt => q v H3 (h4.step rt)
theorem s_un {ta : TE} {r : V → Hp → VK → Prop} (ha : EvS b ta Γ Γ1 (.dat d)) (hr : UD b.K r d s) : EvS b (tUn r ta) Γ Γ1 s := fun T τ σ H hs Q q =>
  ha T τ σ H hs _ fun x H1 h1 => by
    obtain ⟨C, dx, h4⟩ := h1.pop
    exact hr C H1 x h4.ch dx Q fun v H3 rt => q v H3 (h4.step rt)
theorem a_nil : EvA b tNil Γ Γ [] := fun T τ σ H hs Q q => by
  obtain ⟨C, hs⟩ := hs
  exact q [] H C hs .nil
theorem a_cons {ta : TE} {tr : TA} (ha : EvS b ta Γ Γ1 (.dat d)) (hr : EvA b tr Γ1 Γ2 ds) : EvA b (tCons ta tr) Γ Γ2 (d :: ds) := fun T τ σ H hs Q q =>
  ha T τ σ H hs _ fun x H1 h1 => hr _ _ σ H1 h1 _ fun xs H2 C h2 dxs => by
    obtain ⟨dx, h3⟩ := h2.pop
    exact q _ H2 C h3 (.cons dx dxs)
theorem s_cb {ta : TA} {r : List V → Hp → VK → Prop} (ha : EvA b ta Γ Γ1 ds) (hr : CD b.K r ds s) : EvS b (tCB r ta) Γ Γ1 s := fun T τ σ H hs Q q =>
  ha T τ σ H hs _ fun vs H1 C h1 dv => hr C H1 vs h1.ch dv Q fun v H2 rt => q v H2 (h1.step rt)
theorem s_tup {ta : TA} (ha : EvA b ta Γ Γ1 ds) (hl : ds.length ≤ 100000 := by decide) : EvS b (tTup ta) Γ Γ1 (.dat (.tuple ds)) := fun T τ σ H hs Q q =>
  ha T τ σ H hs _ fun vs H1 C h1 dv => ⟨by rw [dpa_len dv]; exact Nat.le_trans hl (by decide), fun p hp => q _ _ (h1.step (Ret.tup h1.ch dv hp))⟩
theorem s_lst {ta : TA} (ha : EvA b ta Γ Γ1 ds) (hl : ds.length ≤ 100000 := by decide) : EvS b (tLst ta) Γ Γ1 (.own ds) := fun T τ σ H hs Q q =>
  ha T τ σ H hs _ fun vs H1 C h1 dv => ⟨by rw [dpa_len dv]; exact Nat.le_trans hl (by decide), fun p hp => q _ _ (h1.step (Ret.lst h1.ch dv hp))⟩
theorem s_weak {te : TE} {z : Option Addr} (h : EvS b te Γ Γ1 (.ownq z ds)) : EvS b te Γ Γ1 (.dat (.list ds)) := fun T τ σ H hs Q q => h T τ σ H hs Q fun v H' h' => q v H' h'.freeze
theorem s_lstD {ta : TA} (ha : EvA b ta Γ Γ1 ds) (hl : ds.length ≤ 100000 := by decide) : EvS b (tLst ta) Γ Γ1 (.dat (.list ds)) := s_weak (s_lst ha hl)
theorem s_is {te : TE} (h : EvS b te Γ Γ1 s) (e : s = s') : EvS b te Γ Γ1 s' := e ▸ h
theorem s_dat {te : TE} {d d' : PyData} (h : EvS b te Γ Γ1 (.dat d)) (e : d = d') : EvS b te Γ Γ1 (.dat d') := e ▸ h
theorem t_is {tt : TT} {k k' : Bool} (h : EvT b tt Γ Γ1 k) (e : k = k') : EvT b tt Γ Γ1 k' := e ▸ h
/-! ### promises of pure defs -/
def spP (K : PySem.W.Frag) (f : List PyData → Sl → Prop) : Sp := fun vs H Q _ => ∃ C ds s, Ex C H ∧ DpAll K C vs ds ∧ f ds s ∧ ∀ v H', Ret K H C s v H' → Q v H'
theorem s_call {ta : TA} {f : List PyData → Sl → Prop} {E : XK} (ha : EvA b ta Γ Γ1 ds) (hf : f ds s) : EvS b (tCall (spP b.K f) [] E ta) Γ Γ1 s := fun T τ σ H hs Q q =>
  ha T τ σ H hs _ fun vs H1 C h1 dv => by
    rw [List.append_nil]
    exact ⟨C, ds, s, h1.ch, dv, hf, fun v H2 rt => q v H2 (h1.step rt)⟩
/-! ### tests -/
theorem t_test {te : TE} {k : Bool} (h : EvS b te Γ Γ1 (.dat (.bool k))) : EvT b (tTest te) Γ Γ1 k := fun T τ σ H hs Q q =>
  h T τ σ H hs _ fun v H' h' => by
    obtain ⟨C, dv, h2⟩ := h'.pop
    cases dv
    exact ⟨k, rfl, q H' ⟨C, h2⟩⟩
theorem t_B {te : TE} {k : Bool} (h : EvS b te Γ Γ1 (.dat (.bool k))) : EvT b (tB te) Γ Γ1 k := t_test h
theorem t_yes : EvT b tYes Γ Γ true := fun T τ σ H hs Q q => q H hs
theorem t_not {t : TT} {k : Bool} (h : EvT b t Γ Γ1 k) : EvT b (tNot t) Γ Γ1 (!k) := fun T τ σ H hs Q q => h T τ σ H hs _ fun H' h' => q H' h'
theorem t_and {t u : TT} {k l : Bool} (h : EvT b t Γ Γ k) (h2 : k = true → EvT b u Γ Γ l) : EvT b (tAnd t u) Γ Γ (k && l) := fun T τ σ H hs Q q => h T τ σ H hs _ fun H' h' => by
  cases k with
  | true => exact (iteT (h2 rfl T τ σ H' h' Q q))
  | false => exact (iteF (q H' h'))
theorem t_or {t u : TT} {k l : Bool} (h : EvT b t Γ Γ k) (h2 : k = false → EvT b u Γ Γ l) : EvT b (tOr t u) Γ Γ (k || l) := fun T τ σ H hs Q q => h T τ σ H hs _ fun H' h' => by
  cases k with
  | true => exact (iteT (q H' h'))
  | false => exact (iteF (h2 rfl T τ σ H' h' Q q))
theorem s_andV {ta tb : TE} {k l : Bool} (h : EvS b ta Γ Γ (.dat (.bool k))) (h2 : k = true → EvS b tb Γ Γ (.dat (.bool l))) : EvS b (tAndV ta tb) Γ Γ (.dat (.bool (k && l))) := fun T τ σ H hs Q q => h T τ σ H hs _ fun v H' h' => by
  obtain ⟨C, dv, h3⟩ := h'.pop
  cases dv
  refine ⟨k, rfl, ?_⟩
  cases k with
  | true => exact (iteT (h2 rfl T τ σ H' ⟨C, h3⟩ Q q))
  | false => exact (iteF (q _ H' h'))
theorem s_orV {ta tb : TE} {k l : Bool} (h : EvS b ta Γ Γ (.dat (.bool k))) (h2 : k = false → EvS b tb Γ Γ (.dat (.bool l))) : EvS b (tOrV ta tb) Γ Γ (.dat (.bool (k || l))) := fun T τ σ H hs Q q => h T τ σ H hs _ fun v H' h' => by
  obtain ⟨C, dv, h3⟩ := h'.pop
  cases dv
  refine ⟨k, rfl, ?_⟩
  cases k with
  | true => exact (iteT (q _ H' h'))
  | false => exact (iteF (h2 rfl T τ σ H' ⟨C, h3⟩ Q q))
theorem s_notV {ta : TE} {k : Bool} (h : EvS b ta Γ Γ1 (.dat (.bool k))) : EvS b (tNotV ta) Γ Γ1 (.dat (.bool (!k))) := fun T τ σ H hs Q q => h T τ σ H hs _ fun v H' h' => by
  obtain ⟨C, dv, h3⟩ := h'.pop
  cases dv
  exact ⟨k, rfl, q _ H' ⟨C, h3.push (.bl _)⟩⟩
theorem s_if {t : TT} {ta tb : TE} {k : Bool} (h : EvT b t Γ Γ1 k) (h1 : k = true → EvS b ta Γ1 Γ2 s) (h2 : k = false → EvS b tb Γ1 Γ2 s) : EvS b (tIf t ta tb) Γ Γ2 s := fun T τ σ H hs Q q => h T τ σ H hs _ fun H' h' => by
  cases k with
  | true => exact iteT (h1 rfl T τ σ H' h' Q q)
  | false => exact iteF (h2 rfl T τ σ H' h' Q q)
/-! ### statements: N is shown in every state that is so -/
def Nx (b : Bs) (N : L2.St → Hp → Prop) (T : List Sl) (τ : L2.St) (Γ : List Sl) : Prop := ∀ σ H, Hs b T τ Γ σ H → N σ H
variable {D : Ends} {t u : TS} {te : TE}
theorem n_seq (h : Nx b (t { D with nx := u D }) T τ Γ) : Nx b (tSeq t u D) T τ Γ := h
theorem n_set {i : Nat} (h : EvS b te Γ Γ1 s) (k : Nx b D.nx T τ (Γ1.set i s)) : Nx b (tAsg te (gName i) D) T τ Γ := fun σ H hs => h T τ σ H hs _ fun v H' h' => k _ _ (h'.store i)
theorem n_drop (h : EvS b te Γ Γ1 s) (k : Nx b D.nx T τ Γ1) : Nx b (tDrop te D) T τ Γ := fun σ H hs => h T τ σ H hs _ fun v H' h' => k _ _ h'.drop
theorem n_ret (h : EvS b te Γ Γ1 s) (k : ∀ v H', Ret b.K b.H0 b.B s v H' → D.rt v H') : Nx b (tRet te D) T τ Γ := fun σ H hs => h T τ σ H hs _ fun v H' h' => k v H' h'.ret
theorem n_if {tt : TT} {k : Bool} (h : EvT b tt Γ Γ1 k) (h1 : k = true → Nx b (t D) T τ Γ1) (h2 : k = false → Nx b (u D) T τ Γ1) : Nx b (tIfS tt t u D) T τ Γ := fun σ H hs => h T τ σ H hs _ fun H' h' => by
  cases k with
  | true => exact iteT (h1 rfl σ H' h')
  | false => exact iteF (h2 rfl σ H' h')
theorem n_next (k : Nx b D.nx T τ Γ) : Nx b (tNext D) T τ Γ := k
theorem n_hs : Nx b (fun σ H => Hs b T τ Γ σ H) T τ Γ := fun _ _ h => h
/-! ### what is walked -/
def ItOk (K : PySem.W.Frag) (J : It) (vs : List V) (ds its : List PyData) : Prop := ∀ C H, Ex C H → DpAll K C vs ds → J.stop its.length H ∧ ∀ i di, its[i]? = some di → J.go i H ∧ ∀ x H', J.yld i H x H' → Ret K H C (.dat di) x H'
def EvI (b : Bs) (wi : TI) (Γ Γ' : List Sl) (ds its : List PyData) : Prop := ∀ T τ σ H, Hs b T τ Γ σ H → ∀ R : It → Hp → Prop, (∀ J vs H' C, ItOk b.K J vs ds its → HsC b C T τ Γ' σ H' → DpAll b.K C vs ds → R J H') → wi σ H R
/-- what a target does -/
def EvG (b : Bs) (g : TG) (d : PyData) (Γ Γ' : List Sl) : Prop := ∀ T τ σ H x, Hs b (.dat d :: T) (some x :: τ) Γ σ H → ∀ Q : L2.St → Hp → Prop, (∀ σ', Hs b T τ Γ' σ' H → σ'.length = σ.length → Q σ' H) → g x σ H Q
theorem g_name {i : Nat} : EvG b (gName i) d Γ (Γ.set i (.dat d)) := fun T τ σ H x hs Q q => q _ (hs.store i) (by simp)
theorem g_tup2 {K : PySem.W.Frag} (hK : b.K = K) {i j : Nat} {d e : PyData} : EvG b (gTup K 2 (gCons (gName i) (gCons (gName j) gNil))) (.tuple [d, e]) Γ ((Γ.set i (.dat d)).set j (.dat e)) := fun T τ σ H x hs Q q => by
  obtain ⟨C, dx, h⟩ := hs.pop
  subst hK
  cases dx with
  | tup hq ha =>
    rename_i a xs
    cases ha with
    | cons r1 ha =>
      cases ha with
      | cons r2 ha =>
        cases ha
        rename_i v1 v2
        refine ⟨a, _, rfl, ex_t h.ch hq, rfl, v1, _, rfl, v2, _, rfl, rfl, ?_⟩
        have s1 : Hs b (.dat d :: .dat e :: T) (some v1 :: some v2 :: τ) Γ σ H := ⟨C, (h.push r2).push r1⟩
        exact q _ ((s1.store i).store j) (by simp)
theorem n_for {wi : TI} {g : TG} {tb : TS} {its : List PyData} (hI : EvI b wi Γ Γ1 ds its) (G G' : Nat → List Sl) (h0 : G 0 = Γ1)
    (hg : ∀ i di, its[i]? = some di → EvG b g di (G i) (G' i))
    (hb : ∀ i di (vs : List V), vs.length = ds.length → its[i]? = some di → Nx b (tb { D with nx := fun σ H => Hs b (ds.map Sl.dat ++ T) (vs.map some ++ τ) (G (i + 1)) σ H, ct := fun σ H => Hs b (ds.map Sl.dat ++ T) (vs.map some ++ τ) (G (i + 1)) σ H, bk := D.nx }) (ds.map Sl.dat ++ T) (vs.map some ++ τ) (G' i))
    (hd : Nx b D.nx T τ (G its.length)) : Nx b (tFor wi g tb D) T τ Γ := fun σ H hs => hI T τ σ H hs _ fun J vs H1 C ok h1 dv => by
  have hl := dpa_len dv
  refine ⟨fun i m σ' H' => i ≤ its.length ∧ m = its.length - i ∧ Hs b (ds.map Sl.dat ++ T) (vs.map some ++ τ) (G i) σ' H', ⟨_, Nat.zero_le _, rfl, h0 ▸ ⟨C, h1.pushAll dv⟩⟩, ?_⟩
  rintro i m σ' H' ⟨hi, rfl, C', h2⟩
  obtain ⟨dv', h3⟩ := HsC.popAll hl h2
  obtain ⟨st, go⟩ := ok C' H' h3.ch dv'
  by_cases hlt : i < its.length
  · obtain ⟨g1, g2⟩ := go i its[i] (by simp [hlt])
    refine .inr ⟨g1, _, fun σ2 H2 n => ⟨its.length - (i + 1), by omega, hlt, rfl, n⟩, fun x H2 y => ?_⟩
    exact hg i its[i] (by simp [hlt]) _ _ _ _ _ (h2.step (g2 x H2 y)) _ fun σ3 h5 _ => hb i its[i] vs hl (by simp [hlt]) σ3 H2 h5
  · have e : i = its.length := by omega
    subst e
    exact .inl ⟨st, hd σ' H' ⟨C', h3⟩⟩
/-- wiped slots -/
def wipeG : List Sl → List Nat → List Sl
  | Γ, [] => Γ
  | Γ, v :: vs => (wipeG Γ vs).set v .no
theorem hs_wipe (h : Hs b T τ Γ σ H) : ∀ vs : List Nat, Hs b T τ (wipeG Γ vs) (wipe σ vs) H
  | [] => h
  | v :: vs => by
    have h1 := hs_wipe h vs
    have h2 : Hs b (.no :: T) (none :: τ) (wipeG Γ vs) (wipe σ vs) H := by
      obtain ⟨C, ps, qs, c, g1, g2⟩ := h1
      exact ⟨C, ps, qs, c, .no g1, g2⟩
    exact h2.store v
end
end G
namespace G
open PySem PySem.Spec PyProof.Rows L2
open Evl (Ex ex_rd ex_l ex_t rMax2)
section
variable {K : PySem.W.Frag} {C H : Hp} {i j : Int} {d e : PyData} {ds es : List PyData} {s : Sl}
/-! ### operations on data -/
theorem rd_int {g : Int → Int → Int} : RD K (rI0 fun i j => V.int (g i j)) (.int i) (.int j) (.dat (.int (g i j))) := fun C H x y e dx dy Q q => by
  cases dx; cases dy
  exact ⟨i, j, rfl, rfl, q _ _ (.same e (.int _))⟩
theorem rd_bl {g : Int → Int → Bool} : RD K (rI0 fun i j => V.bl (g i j)) (.int i) (.int j) (.dat (.bool (g i j))) := fun C H x y e dx dy Q q => by
  cases dx; cases dy
  exact ⟨i, j, rfl, rfl, q _ _ (.same e (.bl _))⟩
theorem rd_intC {c : Int → Int → Prop} {g : Int → Int → Int} (hc : c i j) : RD K (rI c fun i j => V.int (g i j)) (.int i) (.int j) (.dat (.int (g i j))) := fun C H x y e dx dy Q q => by
  cases dx; cases dy
  exact ⟨i, j, rfl, rfl, hc, q _ _ (.same e (.int _))⟩
theorem rd_eqD (h1 : SeqAt.shaped d = true) (h2 : SeqAt.shaped e = true) : RD K (rEqD K) d e (.dat (.bool (PyData.eqv d e))) := fun C H x y ex dx dy Q q =>
  ⟨d, e, dpx ex dx, dpx ex dy, h1, h2, q _ _ (.same ex (.bl _))⟩
theorem rd_neD (h1 : SeqAt.shaped d = true) (h2 : SeqAt.shaped e = true) : RD K (rNeD K) d e (.dat (.bool (!PyData.eqv d e))) := fun C H x y ex dx dy Q q =>
  ⟨d, e, dpx ex dx, dpx ex dy, h1, h2, q _ _ (.same ex (.bl _))⟩
theorem atI_dpa {vs : List V} (h : DpAll K C vs ds) (a : atI ds i = some d) : ∃ v, atI vs i = some v ∧ Dp K C v d := by
  unfold atI at a ⊢
  rw [dpa_len h]
  cases hx : ixN ds.length i with
  | none => rw [hx] at a; cases a
  | some j =>
    rw [hx] at a
    exact dpa_get h a
theorem rd_ixL (a : atI ds i = some d) : RD K (rIx K) (.list ds) (.int i) (.dat d) := fun C H x y ex dx dy Q q => by
  cases dy
  cases dx with
  | lst hq ha =>
    obtain ⟨v, h1, h2⟩ := atI_dpa ha a
    exact .inl ⟨_, _, i, v, rfl, rfl, ex_l ex hq, h1, q _ _ (.same ex h2)⟩
theorem rd_ixT (a : atI ds i = some d) : RD K (rIx K) (.tuple ds) (.int i) (.dat d) := fun C H x y ex dx dy Q q => by
  cases dy
  cases dx with
  | tup hq ha =>
    obtain ⟨v, h1, h2⟩ := atI_dpa ha a
    exact .inr (.inl ⟨_, _, i, v, rfl, rfl, ex_t ex hq, h1, q _ _ (.same ex h2)⟩)
theorem ud_neg : UD K (rU fun i => V.int (-i)) (.int i) (.dat (.int (-i))) := fun C H x ex dx Q q => by
  cases dx
  exact ⟨i, rfl, q _ _ (.same ex (.int _))⟩
/-! ### built-in calls -/
def rLen (K : PySem.W.Frag) : List V → Hp → VK → Prop := fun xs H Q => ∃ p ys, xs = [.ref p] ∧ (SqL K H p ys ∨ SqT K H p ys) ∧ Q (.int ys.length) H
def rMin2 : List V → Hp → VK → Prop := fun xs H Q => ∃ i j, xs = [.int i, .int j] ∧ Q (.int (if j < i then j else i)) H
def rInt1 : List V → Hp → VK → Prop := fun xs H Q => (∃ i, xs = [.int i] ∧ Q (.int i) H) ∨ ∃ k, xs = [.bl k] ∧ Q (.int (if k then 1 else 0)) H
def rAbs : List V → Hp → VK → Prop := fun xs H Q => ∃ i, xs = [.int i] ∧ Q (.int (if i < 0 then -i else i)) H
def rTupOf (K : PySem.W.Frag) : List V → Hp → VK → Prop := fun xs H Q => ∃ p ys, xs = [.ref p] ∧ ((SqL K H p ys ∧ ∀ l, H l = none → Q (.ref l) (upd H l (.tup ys))) ∨ (SqT K H p ys ∧ Q (.ref p) H))
def rListOf (K : PySem.W.Frag) : List V → Hp → VK → Prop := fun xs H Q => ∃ p ys, xs = [.ref p] ∧ (SqL K H p ys ∨ SqT K H p ys) ∧ ∀ l, H l = none → Q (.ref l) (upd H l (.lst ys))
theorem cr_len {X : Cx} : CallR X (.builtin "len") (rLen X.K) := call_len_seq
theorem cr_max2 {X : Cx} (hc : X.calm = true) : CallR X (.builtin "max") rMax2 := call_max2 hc
theorem cr_min2 {X : Cx} (hc : X.calm = true) : CallR X (.builtin "min") rMin2 := call_min2 hc
theorem cr_int1 {X : Cx} : CallR X (.type "int") rInt1 := call_int1
theorem cr_abs {X : Cx} : CallR X (.builtin "abs") rAbs := call_abs
theorem cr_tup {X : Cx} : CallR X (.type "tuple") (rTupOf X.K) := call_tuple_of
theorem cr_list {X : Cx} : CallR X (.type "list") (rListOf X.K) := call_list_of
theorem cd_lenL : CD K (rLen K) [.list ds] (.dat (.int ds.length)) := fun C H vs ex dv Q q => by
  cases dv with | cons dx dv => cases dv; cases dx with
    | lst hq ha => exact ⟨_, _, rfl, .inl (ex_l ex hq), by rw [dpa_len ha]; exact q _ _ (.same ex (.int _))⟩
theorem cd_lenT : CD K (rLen K) [.tuple ds] (.dat (.int ds.length)) := fun C H vs ex dv Q q => by
  cases dv with | cons dx dv => cases dv; cases dx with
    | tup hq ha => exact ⟨_, _, rfl, .inr (ex_t ex hq), by rw [dpa_len ha]; exact q _ _ (.same ex (.int _))⟩
theorem cd_max2 : CD K rMax2 [.int i, .int j] (.dat (.int (max i j))) := fun C H vs ex dv Q q => by
  cases dv with | cons dx dv => cases dv with | cons dy dv => cases dv; cases dx; cases dy; exact ⟨i, j, rfl, by
    have e : (if j > i then j else i) = max i j := by by_cases h : j > i <;> simp [h] <;> omega
    rw [e]; exact q _ _ (.same ex (.int _))⟩
theorem cd_min2 : CD K rMin2 [.int i, .int j] (.dat (.int (min i j))) := fun C H vs ex dv Q q => by
  cases dv with | cons dx dv => cases dv with | cons dy dv => cases dv; cases dx; cases dy; exact ⟨i, j, rfl, by
    have e : (if j < i then j else i) = min i j := by by_cases h : j < i <;> simp [h] <;> omega
    rw [e]; exact q _ _ (.same ex (.int _))⟩
theorem cd_int : CD K rInt1 [.int i] (.dat (.int i)) := fun C H vs ex dv Q q => by
  cases dv with | cons dx dv => cases dv; cases dx; exact .inl ⟨i, rfl, q _ _ (.same ex (.int _))⟩
theorem cd_intB {k : Bool} : CD K rInt1 [.bool k] (.dat (.int (if k then 1 else 0))) := fun C H vs ex dv Q q => by
  cases dv with | cons dx dv => cases dv; cases dx; exact .inr ⟨k, rfl, q _ _ (.same ex (.int _))⟩
theorem cd_abs : CD K rAbs [.int i] (.dat (.int (i.natAbs : Int))) := fun C H vs ex dv Q q => by
  cases dv with | cons dx dv => cases dv; cases dx; exact ⟨i, rfl, by
    have e : (if i < 0 then -i else i) = (i.natAbs : Int) := by by_cases h : i < 0 <;> simp [h] <;> omega
    rw [e]; exact q _ _ (.same ex (.int _))⟩
theorem cd_tupL : CD K (rTupOf K) [.list ds] (.dat (.tuple ds)) := fun C H vs ex dv Q q => by
  cases dv with | cons dx dv => cases dv; cases dx with
    | lst hq ha => exact ⟨_, _, rfl, .inl ⟨ex_l ex hq, fun l hl => q _ _ (.tup ex ha hl)⟩⟩
theorem cd_tupT : CD K (rTupOf K) [.tuple ds] (.dat (.tuple ds)) := fun C H vs ex dv Q q => by
  cases dv with | cons dx dv => cases dv; cases dx with
    | tup hq ha => exact ⟨_, _, rfl, .inr ⟨ex_t ex hq, q _ _ (.same ex (.tup hq ha))⟩⟩
theorem cd_listL : CD K (rListOf K) [.list ds] (.own ds) := fun C H vs ex dv Q q => by
  cases dv with | cons dx dv => cases dv; cases dx with
    | lst hq ha => exact ⟨_, _, rfl, .inl (ex_l ex hq), fun l hl => q _ _ (.lst ex ha hl)⟩
theorem cd_listT : CD K (rListOf K) [.tuple ds] (.own ds) := fun C H vs ex dv Q q => by
  cases dv with | cons dx dv => cases dv; cases dx with
    | tup hq ha => exact ⟨_, _, rfl, .inr (ex_t ex hq), fun l hl => q _ _ (.lst ex ha hl)⟩
theorem dpa_bools : ∀ {bs : List Bool} {vs : List V}, DpAll K C vs (bs.map PyData.bool) → vs = bs.map V.bl
  | [], _, .nil => rfl
  | b :: bs, _, .cons r t => by
    cases r
    rw [dpa_bools t]; rfl
theorem cd_all {bs : List Bool} : CD K (rAll K) [.list (bs.map .bool)] (.dat (.bool (bs.all id))) := fun C H vs ex dv Q q => by
  cases dv with | cons dx dv => cases dv; cases dx with
    | lst hq ha => exact ⟨_, bs, rfl, by rw [← dpa_bools ha]; exact ex_l ex hq, q _ _ (.same ex (.bl _))⟩
theorem cd_any {bs : List Bool} : CD K (rAny K) [.list (bs.map .bool)] (.dat (.bool (bs.any id))) := fun C H vs ex dv Q q => by
  cases dv with | cons dx dv => cases dv; cases dx with
    | lst hq ha => exact ⟨_, bs, rfl, by rw [← dpa_bools ha]; exact ex_l ex hq, q _ _ (.same ex (.bl _))⟩
/-- the kind of data -/
def kindOf : PyData → String
  | .bool _ => "bool" | .int _ => "int" | .none => "NoneType"
  | .list _ => "list" | .tuple _ => "tuple"
  | .str _ => "str" | .dict _ => "dict"
theorem tyx (h : Dp K H x d) : TyX K H x (.type (kindOf d)) := by
  cases h with
  | non => exact .base .non
  | bl b => exact .base (.bl b)
  | int i => exact .base (.int i)
  | str z => exact .base (.str z)
  | lst hq ha =>
    rcases hq with (h | ⟨o, h⟩) | ⟨o, its, n, h, c, _⟩
    · exact .base (.lst h)
    · exact .base (.frz h)
    · exact .kList h c
  | tup hq ha =>
    rcases hq with (h | ⟨o, h⟩) | ⟨o, its, n, h, c, _⟩
    · exact .base (.tup h)
    · exact .fTuple h
    · exact .kTuple h c
/-- isinstance(x, T), T the name of a built-in type -/
def tIsi (K : PySem.W.Frag) (ta : TE) (T : String) : TE := tCB (rIsi K) (tCons ta (tCons (tC (.ty T)) tNil))
end
section
variable {b : Bs} {C : Hp} {T Γ Γ' Γ1 Γ2 : List Sl} {τ σ : L2.St} {H H' : Hp} {s s' : Sl} {v : V} {d e : PyData} {ds es : List PyData} {vs : List V}
theorem s_isi {ta : TE} {n : String} {k : Bool} (h : EvS b ta Γ Γ1 (.dat d)) (hk : kitB (kindOf d) n = some k) : EvS b (tIsi b.K ta n) Γ Γ1 (.dat (.bool k)) := fun T τ σ H hs Q q =>
  h T τ σ H hs _ fun v H1 h1 => by
    obtain ⟨C, dv, h2⟩ := h1.pop
    exact ⟨v, .ty n, _, .type n, k, rfl, .ty n, tyx (dpx h2.ch dv), kit_ty hk, q _ _ ⟨C, h2.push (.bl k)⟩⟩
/-! ### a list of one's own in a slot -/
theorem Has.own_at {K : PySem.W.Frag} {ps : List Addr} (h : Has K C H Γ σ ps) : ∀ {i : Nat} {z : Option Addr} {ds : List PyData}, Γ[i]? = some (.ownq z ds) → ps.Nodup →
    ∃ p vs, σ[i]? = some (some (.ref p)) ∧ p ∈ ps ∧ H p = some (.lst vs) ∧ DpAll K C vs ds ∧ ∀ vs' ds', DpAll K C vs' ds' → Has K C (upd H p (.lst vs')) (Γ.set i (.ownq z ds')) σ ps := by
  induction h with
  | nil => intro i z ds e; simp at e
  | no q ih =>
    intro i z ds e n
    cases i with
    | zero => simp at e
    | succ i =>
      obtain ⟨p, vs, h1, h2, h3, h4, h5⟩ := ih (by simpa using e) n
      exact ⟨p, vs, by simpa using h1, h2, h3, h4, fun vs' ds' q => .no (h5 vs' ds' q)⟩
  | dat dd q ih =>
    intro i z ds e n
    cases i with
    | zero => simp at e
    | succ i =>
      obtain ⟨p, vs, h1, h2, h3, h4, h5⟩ := ih (by simpa using e) n
      exact ⟨p, vs, by simpa using h1, h2, h3, h4, fun vs' ds' q => .dat dd (h5 vs' ds' q)⟩
  | own y0 e0 d0 q ih =>
    rename_i Γ σ ps p0 vs0 ds0 z0
    intro i z ds e n
    have n2 := List.nodup_cons.mp n
    cases i with
    | zero =>
      simp at e; obtain ⟨rfl, rfl⟩ := e
      refine ⟨p0, vs0, rfl, List.mem_cons_self, e0, d0, fun vs' ds' r => .own y0 upd_same r (q.mono (Ex.refl C) fun p hp o z => ?_)⟩
      rw [upd_ne (fun y => n2.1 (by rw [← y]; exact hp))]; exact z
    | succ i =>
      obtain ⟨p, vs, h1, h2, h3, h4, h5⟩ := ih (by simpa using e) n2.2
      refine ⟨p, vs, by simpa using h1, List.mem_cons_of_mem _ h2, h3, h4, fun vs' ds' r => .own y0 ?_ d0 (h5 vs' ds' r)⟩
      rw [upd_ne (fun y => n2.1 (by rw [y]; exact h2))]; exact e0
theorem Cfg.upd {ps : List Addr} {p : Addr} {o : HO} (c : Cfg b C H ps) (hp : p ∈ ps) : Cfg b C (upd H p o) ps :=
  ⟨c.bc, fun a u h => by rw [upd_ne (fun z => by rw [z, (c.ow p hp).1] at h; cases h)]; exact c.ch a u h,
   fun a u h => by rw [upd_ne (fun z => by rw [z, (c.ow p hp).2] at h; cases h)]; exact c.h0 a u h, c.fr, c.ow, c.nd⟩
theorem HsC.own_at {i : Nat} {z : Option Addr} (h : HsC b C T τ Γ σ H) (e : Γ[i]? = some (.ownq z ds)) : ∃ p vs, σ[i]? = some (some (.ref p)) ∧ H p = some (.lst vs) ∧ DpAll b.K C vs ds ∧
    ∀ vs' ds', DpAll b.K C vs' ds' → HsC b C T τ (Γ.set i (.ownq z ds')) σ (upd H p (.lst vs')) := by
  obtain ⟨ps, qs, c, h1, h2⟩ := h
  have nd := List.nodup_append.mp c.nd
  obtain ⟨p, vs, g1, g2, g3, g4, g5⟩ := h2.own_at e nd.2.1
  refine ⟨p, vs, g1, g3, g4, fun vs' ds' r => ⟨ps, qs, c.upd (List.mem_append_right _ g2), h1.mono (Ex.refl C) fun q hq o z => ?_, g5 vs' ds' r⟩⟩
  rw [upd_ne (nd.2.2 q hq p g2)]; exact z
/-- on top of the pile -/
theorem HsC.own_top {x : Option V} {z : Option Addr} (h : HsC b C (.ownq z ds :: T) (x :: τ) Γ σ H) : ∃ p vs, x = some (.ref p) ∧ H p = some (.lst vs) ∧ DpAll b.K C vs ds ∧
    ∀ vs' ds', DpAll b.K C vs' ds' → HsC b C (.ownq z ds' :: T) (x :: τ) Γ σ (upd H p (.lst vs')) := by
  obtain ⟨ps, qs, c, h1, h2⟩ := h
  cases h1 with
  | own y0 e0 d0 h1 =>
    rename_i ps p vs
    have n2 := List.nodup_cons.mp c.nd
    refine ⟨p, vs, rfl, e0, d0, fun vs' ds' r => ⟨p :: ps, qs, Cfg.upd c List.mem_cons_self, .own y0 upd_same r (h1.mono (Ex.refl C) fun q hq o z => ?_), h2.mono (Ex.refl C) fun q hq o z => ?_⟩⟩
    · rw [upd_ne (fun y => n2.1 (by rw [← y]; exact List.mem_append_left _ hq))]; exact z
    · rw [upd_ne (fun y => n2.1 (by rw [← y]; exact List.mem_append_right _ hq))]; exact z
theorem Has.take {K : PySem.W.Frag} {ps : List Addr} (h : Has K C H Γ σ ps) : ∀ {i : Nat} {z : Option Addr} {ds : List PyData}, Γ[i]? = some (.ownq z ds) →
    ∃ p qs vs, (∀ r, z = some r → r = p) ∧ σ[i]? = some (some (.ref p)) ∧ H p = some (.lst vs) ∧ DpAll K C vs ds ∧ Has K C H (Γ.set i .no) σ qs ∧ ps.Perm (p :: qs) := by
  induction h with
  | nil => intro i z ds e; simp at e
  | no q ih =>
    intro i z ds e
    cases i with
    | zero => simp at e
    | succ i =>
      obtain ⟨p, qs, vs, h0, h1, h2, h3, h4, h5⟩ := ih (by simpa using e)
      exact ⟨p, qs, vs, h0, by simpa using h1, h2, h3, .no h4, h5⟩
  | dat dd q ih =>
    intro i z ds e
    cases i with
    | zero => simp at e
    | succ i =>
      obtain ⟨p, qs, vs, h0, h1, h2, h3, h4, h5⟩ := ih (by simpa using e)
      exact ⟨p, qs, vs, h0, by simpa using h1, h2, h3, .dat dd h4, h5⟩
  | own y0 e0 d0 q ih =>
    intro i z ds e
    cases i with
    | zero => simp at e; obtain ⟨rfl, rfl⟩ := e; exact ⟨_, _, _, y0, rfl, e0, d0, .no q, List.Perm.refl _⟩
    | succ i =>
      obtain ⟨p, qs, vs, h0, h1, h2, h3, h4, h5⟩ := ih (by simpa using e)
      exact ⟨p, _, vs, h0, by simpa using h1, h2, h3, .own y0 e0 d0 h4, (h5.cons _).trans (List.Perm.swap _ _ _)⟩
/-- the slot gives its list away -/
theorem s_own {i : Nat} {z : Option Addr} (h : Γ[i]? = some (.ownq z ds)) : EvS b (tVar i) Γ (Γ.set i .no) (.ownq z ds) := fun T τ σ H hs Q q => by
  obtain ⟨C, ps, qs, c, h1, h2⟩ := hs
  obtain ⟨p, rs, vs, g0, g1, g2, g3, g4, g5⟩ := h2.take h
  refine ⟨.ref p, g1, q _ H ⟨C, p :: ps, rs, ?_, .own g0 g2 g3 h1, g4⟩⟩
  have pm : (ps ++ qs).Perm (p :: ps ++ rs) := (g5.append_left ps).trans List.perm_middle
  exact ⟨c.bc, c.ch, c.h0, c.fr, fun a ha => c.ow a (pm.mem_iff.mpr ha), (pm.nodup_iff).mp c.nd⟩
/-- the slot's list is read as data, for good -/
theorem s_frz {i : Nat} {z : Option Addr} (h : Γ[i]? = some (.ownq z ds)) : EvS b (tVar i) Γ (Γ.set i .no) (.dat (.list ds)) := s_weak (s_own h)
theorem s_ixO {i : Nat} {k : Int} {tb : TE} {z : Option Addr} (h : Γ[i]? = some (.ownq z ds)) (hb : EvS b tb Γ Γ (.dat (.int k))) (ha : atI ds k = some d) : EvS b (tOp (rIx b.K) (tVar i) tb) Γ Γ (.dat d) := fun T τ σ H hs Q q => by
  obtain ⟨C, hs⟩ := hs
  obtain ⟨p, vs, g1, g2, g3, _⟩ := hs.own_at h
  refine ⟨.ref p, g1, hb T τ σ H ⟨C, hs⟩ _ fun v H1 h1 => ?_⟩
  obtain ⟨C1, dv, h2⟩ := h1.pop
  cases dv
  obtain ⟨p', vs', f1, f2, f3, _⟩ := h2.own_at h
  rw [g1] at f1
  cases f1
  obtain ⟨y, y1, y2⟩ := atI_dpa f3 ha
  exact .inl ⟨p, vs', k, y, rfl, rfl, .inl (.inl f2), y1, q _ _ ⟨C1, h2.push y2⟩⟩
theorem s_lenO {i : Nat} {z : Option Addr} (h : Γ[i]? = some (.ownq z ds)) : EvS b (tCB (rLen b.K) (tCons (tVar i) tNil)) Γ Γ (.dat (.int ds.length)) := fun T τ σ H hs Q q => by
  obtain ⟨C, hs⟩ := hs
  obtain ⟨p, vs, g1, g2, g3, _⟩ := hs.own_at h
  exact ⟨.ref p, g1, p, vs, rfl, .inl (.inl (.inl g2)), by rw [dpa_len g3]; exact q _ _ ⟨C, hs.push (.int _)⟩⟩
variable {D : Ends} {t u : TS} {te : TE}
theorem n_append {i : Nat} {z : Option Addr} (h : Γ[i]? = some (.ownq z ds)) (he : EvS b te Γ Γ (.dat d)) (hz : ds.length < 100000) (k : Nx b D.nx T τ (Γ.set i (.ownq z (ds ++ [d])))) :
    Nx b (tDrop (tBM b.K "list" rAppend (tVar i) (tCons te tNil)) D) T τ Γ := fun σ H hs => by
  obtain ⟨C, hs⟩ := hs
  obtain ⟨p, vs, g1, g2, g3, _⟩ := hs.own_at h
  refine ⟨.ref p, g1, .inl ⟨rfl, vs, .inl (.inl g2)⟩, he T τ σ H ⟨C, hs⟩ _ fun v H1 h1 => ?_⟩
  obtain ⟨C1, dv, h2⟩ := h1.pop
  obtain ⟨p', vs', f1, f2, f3, f4⟩ := h2.own_at h
  rw [g1] at f1
  cases f1
  exact ⟨p, vs', v, rfl, rfl, f2, by rw [dpa_len f3]; exact Nat.lt_of_lt_of_le hz (by decide), k _ _ ⟨C1, f4 _ _ (dpa_app f3 (.cons dv .nil))⟩⟩
theorem ixN_ok {n : Nat} {i : Int} (h0 : 0 ≤ i) (h1 : i < n) : ixN n i = some i.toNat := by
  unfold ixN
  rw [if_pos h0, if_pos h1]
theorem atI_ok {α : Type} {xs : List α} {i : Int} {x : α} (h0 : 0 ≤ i) (h : xs[i.toNat]? = some x) : atI xs i = some x := by
  have := atI_nat (xs := xs) (j := i.toNat) h
  rwa [Int.toNat_of_nonneg h0] at this
theorem n_setL {i j : Nat} {k : Int} {tb : TE} {z : Option Addr} (h : Γ[i]? = some (.ownq z ds)) (he : EvS b te Γ Γ (.dat d)) (hb : EvS b tb Γ Γ (.dat (.int k))) (hj : ixN ds.length k = some j) (kk : Nx b D.nx T τ (Γ.set i (.ownq z (ds.set j d)))) :
    Nx b (tAsg te (gSub (tVar i) tb rSetL) D) T τ Γ := fun σ H hs => by
  refine he T τ σ H hs _ fun v H1 h1 => ?_
  have hs1 := h1
  obtain ⟨C, hs1⟩ := hs1
  obtain ⟨p, vs, g1, g2, g3, _⟩ := hs1.own_at h
  refine ⟨.ref p, g1, hb _ _ σ H1 h1 _ fun y H2 h2 => ?_⟩
  obtain ⟨C2, dy, h3⟩ := h2.pop
  cases dy
  obtain ⟨dv, h4⟩ := h3.pop
  obtain ⟨p', vs', f1, f2, f3, f4⟩ := h4.own_at h
  rw [g1] at f1
  cases f1
  exact ⟨p, vs', k, j, rfl, rfl, f2, by rw [dpa_len f3]; exact hj, kk _ _ ⟨C2, f4 _ _ (dpa_set dv j f3)⟩⟩
/-! ### iterators -/
theorem dpa1 {K : PySem.W.Frag} {d : PyData} (h : DpAll K C vs [d]) : ∃ v, vs = [v] ∧ Dp K C v d := by
  cases h with | cons r t => cases t; exact ⟨_, rfl, r⟩
theorem dpa2 {K : PySem.W.Frag} {d e : PyData} (h : DpAll K C vs [d, e]) : ∃ v v', vs = [v, v'] ∧ Dp K C v d ∧ Dp K C v' e := by
  cases h with | cons r t => cases t with | cons r2 t => cases t; exact ⟨_, _, rfl, r, r2⟩
theorem i_range1 {ta : TA} {n : Int} (h : EvA b ta Γ Γ1 [.int n]) (hn : n ≤ 100000000) (h0 : -100000000 ≤ n) : EvI b (iRng1 ta) Γ Γ1 [] ((List.range n.toNat).map fun (k : Nat) => .int (k : Int)) := fun T τ σ H hs R r =>
  h T τ σ H hs _ fun vs H1 C h1 dv => by
    obtain ⟨v, rfl, dx⟩ := dpa1 dv
    cases dx
    refine ⟨n, rfl, by omega, by omega, r _ [] H1 C (fun C' H' ex _ => ?_) h1 .nil⟩
    refine ⟨(by show _ ≤ _; simp only [List.length_map, List.length_range]; exact Nat.le_refl _), fun i di e => ?_⟩
    rw [List.getElem?_map] at e
    obtain ⟨k, hk, rfl⟩ := Option.map_eq_some_iff.mp e
    obtain ⟨hlt, rfl⟩ := List.getElem?_eq_some_iff.mp hk
    refine ⟨(by show i < _; simpa only [List.length_range] using hlt), fun x H' y => ?_⟩
    obtain ⟨rfl, rfl⟩ := y
    have : (0 : Int) + (i : Int) = (i : Int) := Int.zero_add _
    rw [this, List.getElem_range]
    exact .same ex (.int _)
theorem i_range2 {ta : TA} {m n : Int} (h : EvA b ta Γ Γ1 [.int m, .int n]) (hn : -100000000 ≤ m ∧ m ≤ 100000000 ∧ -100000000 ≤ n ∧ n ≤ 100000000) : EvI b (iRng2 ta) Γ Γ1 [] ((List.range (n - m).toNat).map fun (k : Nat) => .int (m + (k : Int))) := fun T τ σ H hs R r =>
  h T τ σ H hs _ fun vs H1 C h1 dv => by
    obtain ⟨v, v', rfl, dx, dy⟩ := dpa2 dv
    cases dx
    cases dy
    refine ⟨m, n, rfl, by omega, r _ [] H1 C (fun C' H' ex _ => ?_) h1 .nil⟩
    refine ⟨(by show _ ≤ _; simp only [List.length_map, List.length_range]; exact Nat.le_refl _), fun i di e => ?_⟩
    rw [List.getElem?_map] at e
    obtain ⟨k, hk, rfl⟩ := Option.map_eq_some_iff.mp e
    obtain ⟨hlt, rfl⟩ := List.getElem?_eq_some_iff.mp hk
    refine ⟨(by show i < _; simpa only [List.length_range] using hlt), fun x H' y => ?_⟩
    obtain ⟨rfl, rfl⟩ := y
    rw [List.getElem_range]
    exact .same ex (.int _)
theorem i_list {tl : TE} (h : EvS b tl Γ Γ1 (.dat (.list ds))) : EvI b (iList b.K tl) Γ Γ1 [.list ds] ds := fun T τ σ H hs R r =>
  h T τ σ H hs _ fun v H1 h1 => by
    obtain ⟨C, dv, h2⟩ := h1.pop
    have dv2 := dv
    cases dv with
    | lst hq ha =>
      rename_i a xs
      refine ⟨a, rfl, ⟨xs, ex_l h2.ch hq⟩, r _ [.ref a] H1 C (fun C' H' ex dw => ?_) h2 (.cons dv2 .nil)⟩
      cases dw with | cons dz _ => cases dz with
        | lst hq' ha' =>
          have hl := dpa_len ha'
          refine ⟨⟨_, ex_l ex hq', by rw [hl]; exact Nat.le_refl _⟩, fun i di e => ?_⟩
          obtain ⟨y, y1, y2⟩ := dpa_get ha' e
          refine ⟨⟨_, y, ex_l ex hq', y1⟩, fun x H2 z => ?_⟩
          obtain ⟨rfl, z⟩ := z
          have := (z _ (ex_l ex hq')).symm.trans y1
          cases this
          exact .same ex y2
theorem i_tup {tl : TE} (h : EvS b tl Γ Γ1 (.dat (.tuple ds))) : EvI b (iTup b.K tl) Γ Γ1 [.tuple ds] ds := fun T τ σ H hs R r =>
  h T τ σ H hs _ fun v H1 h1 => by
    obtain ⟨C, dv, h2⟩ := h1.pop
    have dv2 := dv
    cases dv with
    | tup hq ha =>
      rename_i a xs
      refine ⟨a, rfl, ⟨xs, ex_t h2.ch hq⟩, r _ [.ref a] H1 C (fun C' H' ex dw => ?_) h2 (.cons dv2 .nil)⟩
      cases dw with | cons dz _ => cases dz with
        | tup hq' ha' =>
          have hl := dpa_len ha'
          refine ⟨⟨_, ex_t ex hq', by rw [hl]; exact Nat.le_refl _⟩, fun i di e => ?_⟩
          obtain ⟨y, y1, y2⟩ := dpa_get ha' e
          refine ⟨⟨_, y, ex_t ex hq', y1⟩, fun x H2 z => ?_⟩
          obtain ⟨rfl, z⟩ := z
          have := (z _ (ex_t ex hq')).symm.trans y1
          cases this
          exact .same ex y2
def pairT (p : PyData × PyData) : PyData := .tuple [p.1, p.2]
theorem i_zipT {ta : TA} (h : EvA b ta Γ Γ1 [.tuple ds, .tuple es]) : EvI b (RZ.iZipA b.K ta) Γ Γ1 [.tuple ds, .tuple es] ((ds.zip es).map pairT) := fun T τ σ H hs R r =>
  h T τ σ H hs _ fun vs H1 C h1 dv => by
    have dv2 := dv
    cases dv with | cons dx dv => cases dv with | cons dy dv => cases dv; cases dx with
      | tup hq ha => cases dy with
        | tup hq2 ha2 =>
          rename_i a xs a2 xs2
          refine ⟨a, a2, xs, xs2, rfl, .inr ⟨ex_t h1.ch hq, ex_t h1.ch hq2, r _ [.ref a, .ref a2] H1 C (fun C' H' ex dw => ?_) h1 dv2⟩⟩
          cases dw with | cons dz dw => cases dw with | cons dz2 _ => cases dz with
            | tup hq' ha' => cases dz2 with
              | tup hq2' ha2' =>
                have hl := dpa_len ha'
                have hl2 := dpa_len ha2'
                refine ⟨⟨_, _, ex_t ex hq', ex_t ex hq2', by simp; omega⟩, fun i di e => ?_⟩
                rw [List.getElem?_map] at e
                obtain ⟨⟨u1, u2⟩, e1, rfl⟩ := Option.map_eq_some_iff.mp e
                obtain ⟨e2, e3⟩ := List.getElem?_zip_eq_some.mp e1
                obtain ⟨y, y1, y2⟩ := dpa_get ha' e2
                obtain ⟨y', y1', y2'⟩ := dpa_get ha2' e3
                refine ⟨⟨_, _, y, y', ex_t ex hq', ex_t ex hq2', y1, y1'⟩, fun x H2 z => ?_⟩
                obtain ⟨P, z1, z2, rfl, nP, rfl, f1, f2⟩ := z
                have w1 := (f1 _ (ex_t ex hq')).symm.trans y1
                have w2 := (f2 _ (ex_t ex hq2')).symm.trans y1'
                cases w1; cases w2
                exact .tup ex (.cons y2 (.cons y2' .nil)) nP
end
end G
namespace G
open PySem PySem.Spec PyProof.Rows L2
open Evl (Ex ex_rd ex_l ex_t rMax2)
section
variable {b : Bs} {C : Hp} {T Γ Γ' Γ1 Γ2 : List Sl} {τ σ : L2.St} {H H' : Hp} {s s' : Sl} {v : V} {d e : PyData} {ds es : List PyData} {vs : List V}
/-! ### comprehensions -/
theorem wipe_get (σ : L2.St) : ∀ (vs : List Nat) (k : Nat), (wipe σ vs)[k]? = if k ∈ vs then (if k < σ.length then some none else none) else σ[k]?
  | [], k => by simp [wipe]
  | v :: vs, k => by
    unfold wipe
    rw [List.getElem?_set, wipe_get σ vs k, wipe_length]
    by_cases h : v = k
    · subst h; simp
    · rw [if_neg h]
      have : (k ∈ v :: vs) ↔ k ∈ vs := by simp [Ne.symm h]
      simp only [this]
theorem wipe_eq {σ σ' : L2.St} {vs : List Nat} (hl : σ'.length = σ.length) (h : ∀ k, k ∉ vs → σ'[k]? = σ[k]?) : wipe σ' vs = wipe σ vs := by
  refine List.ext_getElem? fun k => ?_
  rw [wipe_get, wipe_get, hl]
  by_cases hk : k ∈ vs
  · rw [if_pos hk, if_pos hk]
  · rw [if_neg hk, if_neg hk, h k hk]
theorem wipe_wipe (σ : L2.St) (vs : List Nat) : wipe (wipe σ vs) vs = wipe σ vs := wipe_eq (wipe_length _ _) fun k hk => by rw [wipe_get, if_neg hk]
/-- a target with the slots that it stores -/
def EvGv (b : Bs) (g : TG) (d : PyData) (js : List Nat) (Γ Γ' : List Sl) : Prop := ∀ T τ σ H x, Hs b (.dat d :: T) (some x :: τ) Γ σ H → ∀ Q : L2.St → Hp → Prop, (∀ σ', Hs b T τ Γ' σ' H → wipe σ' js = wipe σ js → Q σ' H) → g x σ H Q
theorem gv_name {i : Nat} : EvGv b (gName i) d [i] Γ (Γ.set i (.dat d)) := fun T τ σ H x hs Q q => q _ (hs.store i) (wipe_eq (by simp) fun k hk => by
  rw [List.getElem?_set_ne]
  simpa [eq_comm] using hk)
theorem gv_tup2 {K : PySem.W.Frag} (hK : b.K = K) {i j : Nat} {d e : PyData} : EvGv b (gTup K 2 (gCons (gName i) (gCons (gName j) gNil))) (.tuple [d, e]) [i, j] Γ ((Γ.set i (.dat d)).set j (.dat e)) := fun T τ σ H x hs Q q => by
  obtain ⟨C, dx, h⟩ := hs.pop
  subst hK
  cases dx with
  | tup hq ha =>
    rename_i a xs
    cases ha with
    | cons r1 ha =>
      cases ha with
      | cons r2 ha =>
        cases ha
        rename_i v1 v2
        refine ⟨a, _, rfl, ex_t h.ch hq, rfl, v1, _, rfl, v2, _, rfl, rfl, ?_⟩
        have s1 : Hs b (.dat d :: .dat e :: T) (some v1 :: some v2 :: τ) Γ σ H := ⟨C, (h.push r2).push r1⟩
        refine q _ ((s1.store i).store j) (wipe_eq (by simp) fun k hk => ?_)
        simp at hk
        rw [List.getElem?_set_ne (by omega), List.getElem?_set_ne (by omega)]
/-- slots of which nothing is said may hold anything -/
theorem has_unwipe {K : PySem.W.Frag} : ∀ {Γ : List Sl} {σ : L2.St} {ps : List Addr} {σ' : L2.St}, Has K C H Γ σ ps → σ'.length = σ.length → (∀ k : Nat, Γ[k]? ≠ some Sl.no → σ'[k]? = σ[k]?) → Has K C H Γ σ' ps
  | _, _, _, [], .nil, _, _ => .nil
  | _, _, _, y :: σ', .no h, l, f => .no (has_unwipe h (by simpa using l) fun k z => by simpa using f (k + 1) (by simpa using z))
  | _, _, _, y :: σ', .dat d h, l, f => by
    have e := f 0 (by simp)
    simp at e
    subst e
    exact .dat d (has_unwipe h (by simpa using l) fun k z => by simpa using f (k + 1) (by simpa using z))
  | _, _, _, y :: σ', .own y0 q d h, l, f => by
    have e := f 0 (by simp)
    simp at e
    subst e
    exact .own y0 q d (has_unwipe h (by simpa using l) fun k z => by simpa using f (k + 1) (by simpa using z))
theorem wipeG_get (Γ : List Sl) : ∀ (vs : List Nat) (k : Nat), k ∈ vs → (wipeG Γ vs)[k]? = some .no ∨ (wipeG Γ vs)[k]? = none
  | [], k, h => by cases h
  | v :: vs, k, h => by
    unfold wipeG
    rw [List.getElem?_set]
    by_cases e : v = k
    · subst e
      simp only [if_true]
      by_cases hl : v < (wipeG Γ vs).length
      · rw [if_pos hl]; exact .inl rfl
      · rw [if_neg hl]; exact .inr rfl
    · rw [if_neg e]
      rcases List.mem_cons.mp h with z | z
      · exact absurd z.symm e
      · exact wipeG_get Γ vs k z
theorem hs_unwipe {vs : List Nat} (h : Hs b T τ (wipeG Γ vs) (wipe σ vs) H) : Hs b T τ (wipeG Γ vs) σ H := by
  obtain ⟨C, ps, qs, c, h1, h2⟩ := h
  have hl := h2.len
  refine ⟨C, ps, qs, c, h1, has_unwipe h2 (wipe_length σ vs).symm fun k z => ?_⟩
  rw [wipe_get]
  by_cases hk : k ∈ vs
  · rcases wipeG_get Γ vs k hk with q | q
    · exact absurd q z
    · rw [List.getElem?_eq_none_iff, hl, wipe_length] at q
      rw [if_pos hk, if_neg (by omega), List.getElem?_eq_none_iff]; exact q
  · rw [if_neg hk]
theorem s_lc {wi : TI} {g : TG} {tt : TT} {te : TE} {vs : List Nat} {its : List PyData} (hI : EvI b wi Γ Γ1 ds its) (G G' G'' : Nat → List Sl) (c : Nat → Bool) (e : Nat → PyData) (h0 : G 0 = wipeG Γ1 vs)
    (hg : ∀ i di, its[i]? = some di → EvGv b g di vs (G i) (G' i)) (ht : ∀ i di, its[i]? = some di → EvT b tt (G' i) (G' i) (c i)) (he : ∀ i di, its[i]? = some di → c i = true → EvS b te (G' i) (G'' i) (.dat (e i)))
    (hs : ∀ i, i < its.length → wipeG (if c i then G'' i else G' i) vs = wipeG (G (i + 1)) vs ∧ wipeG (G (i + 1)) vs = G (i + 1)) (hz : its.length ≤ 100000) :
    EvS b (tLc wi g tt te vs) Γ (G its.length) (.own (((List.range its.length).filter c).map e)) := fun T τ σ H hs0 Q q => hI T τ σ H hs0 _ fun J ws H1 C ok h1 dv D hD => by
  have hl := dpa_len dv
  let acc : Nat → List PyData := fun i => ((List.range i).filter c).map e
  have hw : wipeG (G 0) vs = G 0 := by
    rw [h0]
    have aux : ∀ (Γ : List Sl) (us : List Nat) (k : Nat), k ∈ us → (wipeG Γ us).set k .no = wipeG Γ us := fun Γ us k hk => by
      refine List.ext_getElem? fun j => ?_
      rw [List.getElem?_set]
      by_cases ej : k = j
      · subst ej
        rw [if_pos rfl]
        rcases wipeG_get Γ us k hk with z | z
        · have := (List.getElem?_eq_some_iff.mp z).1
          rw [if_pos this, z]
        · have := List.getElem?_eq_none_iff.mp z
          rw [if_neg (by omega), z]
      · rw [if_neg ej]
    have aux2 : ∀ (ws us : List Nat) (Γ : List Sl), (∀ k ∈ ws, k ∈ us) → wipeG (wipeG Γ us) ws = wipeG Γ us := by
      intro ws
      induction ws with
      | nil => intro us Γ _; rfl
      | cons w ws ih =>
        intro us Γ hk
        show (wipeG (wipeG Γ us) ws).set w .no = _
        rw [ih us Γ fun k z => hk k (List.mem_cons_of_mem _ z)]
        exact aux Γ us w (hk w List.mem_cons_self)
    exact aux2 vs vs Γ1 fun _ z => z
  have hwi : ∀ i, i ≤ its.length → wipeG (G i) vs = G i := fun i hi => by
    cases i with
    | zero => exact hw
    | succ i => exact (hs i (by omega)).2
  have start : Hs b (ds.map Sl.dat ++ (.own [] :: T)) (ws.map some ++ (some (.ref D) :: τ)) (G 0) (wipe σ vs) (upd H1 D (.lst [])) := by
    rw [h0]
    have a1 : Hs b (.own [] :: T) (some (.ref D) :: τ) Γ1 σ (upd H1 D (.lst [])) := h1.step (Ret.lst h1.ch .nil hD)
    obtain ⟨C1, ps, qs, c1, g1, g2⟩ := hs_wipe a1 vs
    -- the walked data, still known
    have : ∃ C2, HsC b C2 (.own [] :: T) (some (.ref D) :: τ) (wipeG Γ1 vs) (wipe σ vs) (upd H1 D (.lst [])) ∧ DpAll b.K C2 ws ds := by
      have a2 : Hs b (.own [] :: (ds.map Sl.dat ++ T)) (some (.ref D) :: (ws.map some ++ τ)) Γ1 σ (upd H1 D (.lst [])) := (h1.pushAll dv).step (Ret.lst h1.ch .nil hD)
      obtain ⟨C2, ps2, qs2, c2, k1, k2⟩ := hs_wipe a2 vs
      cases k1 with
      | own y0 e0 d0 k1 =>
        have hh : HsC b C2 (ds.map Sl.dat ++ T) (ws.map some ++ τ) (wipeG Γ1 vs) (wipe σ vs) (upd H1 D (.lst [])) := ⟨_, qs2, c2.sub (fun p hp => List.mem_cons_of_mem _ hp) (List.nodup_cons.mp c2.nd).2, k1, k2⟩
        obtain ⟨dw, ps3, qs3, c3, m1, m2⟩ := HsC.popAll hl hh
        have popHas : ∀ {ws : List V} {ds : List PyData} {ps : List Addr}, ws.length = ds.length → Has b.K C2 (upd H1 D (.lst [])) (ds.map Sl.dat ++ T) (ws.map some ++ τ) ps → Has b.K C2 (upd H1 D (.lst [])) T τ ps := by
          intro ws
          induction ws with
          | nil => intro ds ps l h; cases ds with
            | nil => exact h
            | cons _ _ => cases l
          | cons w ws ih => intro ds ps l h; cases ds with
            | nil => cases l
            | cons d ds => cases h with
              | dat _ h => exact ih (by simpa using l) h
        exact ⟨C2, ⟨_, qs2, c2, .own y0 e0 d0 (popHas hl k1), k2⟩, dw⟩
    obtain ⟨C2, a3, dw⟩ := this
    exact ⟨C2, a3.pushAll dw⟩
  refine ⟨fun i m H' => i ≤ its.length ∧ m = its.length - i ∧ Hs b (ds.map Sl.dat ++ (.own (acc i) :: T)) (ws.map some ++ (some (.ref D) :: τ)) (G i) (wipe σ vs) H', ⟨_, Nat.zero_le _, rfl, start⟩, ?_⟩
  rintro i m H' ⟨hi, rfl, C', h2⟩
  obtain ⟨dv', h3⟩ := HsC.popAll hl h2
  obtain ⟨st, go⟩ := ok C' H' h3.ch dv'
  by_cases hlt : i < its.length
  · have hdi : its[i]? = some its[i] := by simp [hlt]
    obtain ⟨g1, g2⟩ := go i its[i] hdi
    refine .inr ⟨g1, fun H2 => Hs b (ds.map Sl.dat ++ (.own (acc (i + 1)) :: T)) (ws.map some ++ (some (.ref D) :: τ)) (G (i + 1)) (wipe σ vs) H2, fun H2 n => ⟨its.length - (i + 1), by omega, hlt, rfl, n⟩, fun x H2 y => ?_⟩
    refine hg i its[i] hdi _ _ _ _ _ (h2.step (g2 x H2 y)) _ fun σ2 h5 hw2 => ⟨by rw [hw2, wipe_wipe], ?_⟩
    refine ht i its[i] hdi _ _ σ2 H2 h5 _ fun H3 h6 => ?_
    have hsi := hs i hlt
    cases hc : c i with
    | true =>
      rw [hc] at hsi
      refine iteT (he i its[i] hdi hc _ _ σ2 H3 h6 _ fun y H4 h7 => ?_)
      obtain ⟨C4, dy, h8⟩ := h7.pop
      obtain ⟨dv4, h9⟩ := HsC.popAll hl h8
      obtain ⟨p, us, f1, f2, f3, f4⟩ := h9.own_top
      cases f1
      refine ⟨us, f2, ?_, ?_⟩
      · rw [dpa_len f3]
        refine Nat.lt_of_le_of_lt (?_ : _ ≤ 100000) (by decide)
        show (((List.range i).filter c).map e).length ≤ 100000
        rw [List.length_map]
        have := List.length_filter_le c (List.range i)
        rw [List.length_range] at this
        omega
      · have ea : acc (i + 1) = acc i ++ [e i] := by
          show ((List.range (i + 1)).filter c).map e = ((List.range i).filter c).map e ++ [e i]
          rw [List.range_succ, List.filter_append, List.map_append, List.filter_cons, if_pos hc]; rfl
        rw [ea]
        have h10 := hs_wipe ⟨C4, (f4 _ _ (dpa_app f3 (.cons dy .nil))).pushAll dv4⟩ vs
        rw [hw2, wipe_wipe] at h10
        have e2 : wipeG (G'' i) vs = G (i + 1) := by simpa using hsi.1.trans hsi.2
        rw [e2] at h10
        exact h10
    | false =>
      rw [hc] at hsi
      refine iteF ?_
      have ea : acc (i + 1) = acc i := by
        show ((List.range (i + 1)).filter c).map e = ((List.range i).filter c).map e
        rw [List.range_succ, List.filter_append, List.map_append, List.filter_cons, if_neg (by rw [hc]; decide)]; simp
      have h10 := hs_wipe h6 vs
      rw [hw2, wipe_wipe] at h10
      have e2 : wipeG (G' i) vs = G (i + 1) := by simpa using hsi.1.trans hsi.2
      rw [e2] at h10
      show Hs b (ds.map Sl.dat ++ (.own (acc (i + 1)) :: T)) _ (G (i + 1)) (wipe σ vs) H3
      rw [ea]
      exact h10
  · have e1 : i = its.length := by omega
    subst e1
    refine .inl ⟨st, q _ _ ?_⟩
    have := hs_unwipe (Γ := G its.length) (σ := σ) (vs := vs) (T := .own (acc its.length) :: T) (τ := some (.ref D) :: τ) (b := b) (H := H') ⟨C', by rw [hwi _ (Nat.le_refl _)]; exact h3⟩
    rw [hwi _ (Nat.le_refl _)] at this
    exact this
/-- no test, nothing changes: one item a turn -/
theorem s_map {α : Type} {wi : TI} {g : TG} {te : TE} {vs : List Nat} {ks : List α} {φ : α → PyData} (hI : EvI b wi Γ Γ1 ds (ks.map φ)) (G' : α → List Sl) (f : α → PyData)
    (hg : ∀ k ∈ ks, EvGv b g (φ k) vs (wipeG Γ1 vs) (G' k)) (he : ∀ k ∈ ks, EvS b te (G' k) (G' k) (.dat (f k))) (hs : ∀ k ∈ ks, wipeG (G' k) vs = wipeG (wipeG Γ1 vs) vs) (hw : wipeG (wipeG Γ1 vs) vs = wipeG Γ1 vs) (hz : ks.length ≤ 100000) :
    EvS b (tLc wi g tYes te vs) Γ (wipeG Γ1 vs) (.own (ks.map f)) := by
  cases ks with
  | nil =>
    have := s_lc (b := b) (tt := tYes) (te := te) (g := g) (vs := vs) hI (fun _ => wipeG Γ1 vs) (fun _ => []) (fun _ => []) (fun _ => true) (fun _ => .none) rfl (fun i di e => by simp at e) (fun i di e => by simp at e) (fun i di e => by simp at e) (fun i hi => by simp at hi) (by simp)
    simpa using this
  | cons k0 kr =>
    have hget : ∀ i di, ((k0 :: kr).map φ)[i]? = some di → ∃ k, (k0 :: kr)[i]? = some k ∧ φ k = di := fun i di e => by
      rw [List.getElem?_map] at e
      obtain ⟨k, hk, r⟩ := Option.map_eq_some_iff.mp e
      exact ⟨k, hk, r⟩
    have hD : ∀ i k, (k0 :: kr)[i]? = some k → (k0 :: kr).getD i k0 = k := fun i k e => by rw [List.getD_eq_getElem?_getD, e]; rfl
    have := s_lc (b := b) (tt := tYes) (te := te) (g := g) (vs := vs) hI (fun _ => wipeG Γ1 vs) (fun i => G' ((k0 :: kr).getD i k0)) (fun i => G' ((k0 :: kr).getD i k0)) (fun _ => true) (fun i => f ((k0 :: kr).getD i k0)) rfl
      (fun i di e => by obtain ⟨k, hk, rfl⟩ := hget i di e; rw [hD i k hk]; exact hg k (List.mem_of_getElem? hk)) (fun i di e => t_yes)
      (fun i di e _ => by obtain ⟨k, hk, rfl⟩ := hget i di e; rw [hD i k hk]; exact he k (List.mem_of_getElem? hk))
      (fun i hi => by
        have hi' : i < (k0 :: kr).length := by simpa using hi
        have hk : (k0 :: kr)[i]? = some (k0 :: kr)[i] := by simp [hi']
        refine ⟨?_, hw⟩
        simp only [if_true]
        rw [hD i _ hk]
        exact hs _ (List.getElem_mem hi')) (by simpa using hz)
    refine s_is this ?_
    congr 1
    refine List.ext_getElem? fun i => ?_
    rw [List.filter_eq_self.mpr (fun _ _ => rfl)]
    simp only [List.getElem?_map]
    by_cases hi : i < (k0 :: kr).length
    · have hk : (k0 :: kr)[i]? = some (k0 :: kr)[i] := by simp [hi]
      rw [hk, List.getElem?_range (by simpa using hi)]
      simp only [Option.map_some]
      rw [hD i _ hk]
    · rw [List.getElem?_eq_none_iff.mpr (by simpa using hi), List.getElem?_eq_none_iff.mpr (by simpa using hi)]; rfl
theorem range_getD {α : Type} (ks : List α) (k0 : α) : (List.range ks.length).map (fun i => ks.getD i k0) = ks := by
  refine List.ext_getElem? fun i => ?_
  rw [List.getElem?_map]
  by_cases hi : i < ks.length
  · rw [List.getElem?_range hi]
    simp [List.getD_eq_getElem?_getD, hi]
  · rw [List.getElem?_eq_none_iff.mpr (by simpa using hi), List.getElem?_eq_none_iff.mpr (by simpa using hi)]; rfl
theorem filt_getD {α β : Type} (ks : List α) (k0 : α) (c : α → Bool) (f : α → β) : ((List.range ks.length).filter (fun i => c (ks.getD i k0))).map (fun i => f (ks.getD i k0)) = (ks.filter c).map f := by
  have h := range_getD ks k0
  have e : (ks.filter c).map f = (((List.range ks.length).map (fun i => ks.getD i k0)).filter c).map f := by rw [h]
  rw [e, List.filter_map, List.map_map]
  rfl
/-- with a test -/
theorem s_filt {α : Type} {wi : TI} {g : TG} {tt : TT} {te : TE} {vs : List Nat} {ks : List α} {φ : α → PyData} (hI : EvI b wi Γ Γ1 ds (ks.map φ)) (G' : α → List Sl) (c : α → Bool) (f : α → PyData)
    (hg : ∀ k ∈ ks, EvGv b g (φ k) vs (wipeG Γ1 vs) (G' k)) (ht : ∀ k ∈ ks, EvT b tt (G' k) (G' k) (c k)) (he : ∀ k ∈ ks, c k = true → EvS b te (G' k) (G' k) (.dat (f k))) (hs : ∀ k ∈ ks, wipeG (G' k) vs = wipeG (wipeG Γ1 vs) vs) (hw : wipeG (wipeG Γ1 vs) vs = wipeG Γ1 vs) (hz : ks.length ≤ 100000) :
    EvS b (tLc wi g tt te vs) Γ (wipeG Γ1 vs) (.own ((ks.filter c).map f)) := by
  cases ks with
  | nil =>
    have := s_lc (b := b) (tt := tt) (te := te) (g := g) (vs := vs) hI (fun _ => wipeG Γ1 vs) (fun _ => []) (fun _ => []) (fun _ => true) (fun _ => .none) rfl (fun i di e => by simp at e) (fun i di e => by simp at e) (fun i di e => by simp at e) (fun i hi => by simp at hi) (by simp)
    simpa using this
  | cons k0 kr =>
    have hget : ∀ i di, ((k0 :: kr).map φ)[i]? = some di → ∃ k, (k0 :: kr)[i]? = some k ∧ φ k = di := fun i di e => by
      rw [List.getElem?_map] at e
      obtain ⟨k, hk, r⟩ := Option.map_eq_some_iff.mp e
      exact ⟨k, hk, r⟩
    have hD : ∀ i k, (k0 :: kr)[i]? = some k → (k0 :: kr).getD i k0 = k := fun i k e => by rw [List.getD_eq_getElem?_getD, e]; rfl
    have := s_lc (b := b) (tt := tt) (te := te) (g := g) (vs := vs) hI (fun _ => wipeG Γ1 vs) (fun i => G' ((k0 :: kr).getD i k0)) (fun i => G' ((k0 :: kr).getD i k0)) (fun i => c ((k0 :: kr).getD i k0)) (fun i => f ((k0 :: kr).getD i k0)) rfl
      (fun i di e => by obtain ⟨k, hk, rfl⟩ := hget i di e; rw [hD i k hk]; exact hg k (List.mem_of_getElem? hk)) (fun i di e => by obtain ⟨k, hk, rfl⟩ := hget i di e; rw [hD i k hk]; exact ht k (List.mem_of_getElem? hk))
      (fun i di e hc => by obtain ⟨k, hk, rfl⟩ := hget i di e; rw [hD i k hk] at hc ⊢; exact he k (List.mem_of_getElem? hk) hc)
      (fun i hi => by
        have hi' : i < (k0 :: kr).length := by simpa using hi
        have hk : (k0 :: kr)[i]? = some (k0 :: kr)[i] := by simp [hi']
        refine ⟨?_, hw⟩
        rw [ite_self, hD i _ hk]
        exact hs _ (List.getElem_mem hi')) (by simpa using hz)
    refine s_is this ?_
    rw [List.length_map]
    exact congrArg Sl.own (filt_getD (k0 :: kr) k0 c f)
end
end G
namespace PySem
open Sem (wp)
open AutoSeq1 (wpAny_loadPart')
theorem g_enumerate_newT (l : Addr) (items : Array Value) (n : Nat) (dct : Option Addr) (sl : Array (Option Value)) :
    Meets (Builtin.«enumerate.__new__» ⟨[.type "enumerate", .ref l], []⟩) (fun _ R s => s.heap.get? l = some { cls := .type "tuple", dict := dct, data := .seq items n, slots := sl } ∧
      R (.ok (.ret (.ref (s.heap.push { cls := .type "tuple_iterator", data := .fields #[.ref l, .int 0 0] }).objs.size)))
        { s with heap := (s.heap.push { cls := .type "tuple_iterator", data := .fields #[.ref l, .int 0 0] }).push { cls := .type "enumerate", data := .fields #[.none, .bool false, .ref s.heap.objs.size, rawInt 0, .none, .none] } }) :=
  .of_wp fun prog w A R s h => by
    obtain ⟨hp0, g, d, tkq, os⟩ := s; obtain ⟨ll, h⟩ := h
    have hsub := sub_enumerate
    have hLt : Heap.IsTuple (Shared.heap ⟨hp0, g, d, tkq, os⟩) l items := ⟨_, ll, rfl, n, rfl⟩
    wp_walk using wpAny_loadPart' ll
    refine wpAny_stack_any fun st => wpAny_pure ?_
    split
    · rename_i c _ _ _ _ _
      cases (c == Value.type "enumerate")
      · wp_walk using wpAny_loadPart' ll, wpAny_pyIter_tuple hLt
        exact ⟨_, rfl, h⟩
      · wp_walk using wpAny_loadPart' ll, wpAny_pyIter_tuple hLt
        exact ⟨_, rfl, h⟩
    · wp_walk using wpAny_loadPart' ll, wpAny_pyIter_tuple hLt
      exact ⟨_, rfl, h⟩
theorem g_call_enumerate_tuple {prog : Program} {w : World} {A : Around} {E : Value → Shared → Prop} {s : Shared} {l : Addr} {items : Array Value} {Q : Value → Shared → Prop} (hLt : s.heap.IsTuple l items)
    (h : ∀ hh, IsEnum hh (s.heap.objs.size + 1) s.heap.objs.size 0 .none → hh.IsTupleIter s.heap.objs.size l 0 → hh.objs.size = s.heap.objs.size + 2 →
      (∀ b o, s.heap.get? b = some o → hh.get? b = some o) → Q (.ref (s.heap.objs.size + 1)) { s with heap := hh }) :
    wpAny (model prog w) A (call (.type "enumerate") [.ref l]) Q E s := by
  obtain ⟨⟨c, dct, dt, sl⟩, ll, hcq, n, hdq⟩ := hLt
  replace hcq : c = .type "tuple" := hcq
  replace hdq : dt = .seq items n := hdq
  subst hcq hdq
  refine callType_new F.called_enumerate (by decide) (F.typeCall_enumerate_1 _) (F.newCall_enumerate_1 _) (fun obj => F.args_object_init_2 obj _) F.entry_enumerate_new
    (g_enumerate_newT l items n dct sl) ⟨ll, ?_⟩
  have zz : (s.heap.push { cls := .type "tuple_iterator", data := .fields #[.ref l, .int 0 0] }).objs.size = s.heap.objs.size + 1 := Heap.size_push ..
  show _ ∧ _
  rw [zz]
  have eE : IsEnum ((s.heap.push { cls := .type "tuple_iterator", data := .fields #[.ref l, .int 0 0] }).push
      { cls := .type "enumerate", data := .fields #[.none, .bool false, .ref s.heap.objs.size, rawInt 0, .none, .none] }) (s.heap.objs.size + 1) s.heap.objs.size 0 .none := by
    have := Heap.get?_push_size (s.heap.push { cls := .type "tuple_iterator", data := .fields #[.ref l, .int 0 0] })
      (o := { cls := .type "enumerate", data := .fields #[.none, .bool false, .ref s.heap.objs.size, rawInt 0, .none, .none] }) rfl
    rw [zz] at this; exact this
  refine ⟨⟨_, eE, rfl⟩, h _ eE ⟨_, Heap.get?_push_of_some _ (Heap.get?_push_size _ rfl), rfl, rfl⟩ (by rw [Heap.size_push, zz]) fun b o x => Heap.get?_push_of_some _ (Heap.get?_push_of_some _ x)⟩
end PySem
namespace G
open PySem PySem.Spec PyProof.Rows L2
open Evl (Ex ex_rd ex_l ex_t rMax2)
section
variable {X : Cx}
/-! ### a tuple times k, k from 1 on -/
theorem tuple_mul1 (l : Addr) (items : Array Value) (n : Nat) (dd : Option Addr) (sl : Array (Option Value)) (u : Tok) :
    Meets (Builtin.«tuple.__mul__» ⟨[.ref l, .int 1 u], []⟩) (fun _ R s => s.heap.get? l = some { cls := .type "tuple", dict := dd, data := .seq items n, slots := sl } ∧ R (.ok (.ret (Value.ref l))) s) :=
  .of_wp fun prog w A R s h => by
    obtain ⟨hp0, g, d, tkq, os⟩ := s
    obtain ⟨ll, h⟩ := h
    have w1 := AutoSeq1.idx_int
    have c1x : (items.isEmpty || (1 : Int) == 1) = true := by simp
    wp_walk using PySem.AutoSeq1.wpAny_loadPart' ll
    exact ⟨_, rfl, h⟩
def rRepA (K : PySem.W.Frag) : R2 := fun x y H Q => ∃ l k xs, x = .ref l ∧ y = .int k ∧ SqT K H l xs ∧ xs ≠ [] ∧ 1 ≤ k ∧ k ≤ 1000 ∧ xs.length ≤ 1000 ∧ (k = 1 → Q (.ref l) H) ∧ (k ≠ 1 → ∀ p, H p = none → Q (.ref p) (upd H p (.tup (List.replicate k.toNat xs).flatten)))
theorem op_repA : OpR X (binaryOp .Mult) (rRepA X.K) := by
  intro pins s σ H x y v u Q I rx ry h
  obtain ⟨l, k, xs, rfl, rfl, tyE, neE, h1, h2, zz, q1x, q2⟩ := h
  by_cases kk : k = 1
  · subst kk
    have q := q1x rfl
    cases rx
    obtain ⟨t, rfl⟩ := ry
    obtain ⟨uu, r, ⟨⟨cls, dd, data, sl⟩, oq, hcq, n, hdq⟩, hs⟩ := I.tuple tyE
    simp only at hcq hdq
    subst hcq hdq
    exact wpAny_binaryOp_repeat_ref (T := "tuple") (U := "int") (by decide) ⟨_, oq, rfl⟩ (fun s' => typeIs_int s' 1 t) noFill_tuple_mul F.fills_int_mul F.slot_int_rmul repeat_tuple F.slot_int_index.lookup
      (call_meets F.slot_int_rmul (typeIs_int s 1 t) F.entry_int_rmul (F.args_int_rmul_2 _ _) (int_rmul_tuple 1 t l uu.toArray n dd sl)
        ⟨oq, rfl, ⟨_, oq, rfl⟩, call_meets F.slot_tuple_mul ⟨_, oq, rfl⟩ F.entry_tuple_mul (F.args_tuple_mul_2 _ _) (tuple_mul1 l uu.toArray n dd sl t) ⟨oq, ⟨.ref l, H, I, rfl, q⟩⟩⟩)
  · exact op_repT pins s σ H _ _ v u Q I rx ry ⟨l, k, xs, rfl, rfl, tyE, neE, by omega, h2, zz, q2 kk⟩
/-! ### enumerate of a list or a tuple -/
def IteT (K : PySem.W.Frag) (a : Addr) : It :=
  ⟨fun i H => ∃ (xs : List V) (x : V), SqT K H a xs ∧ xs[i]? = some x, fun i H v H' => ∃ T x, v = .ref T ∧ H T = none ∧ H' = upd H T (.tup [.int (i : Nat), x]) ∧ ∀ xs, SqT K H a xs → xs[i]? = some x, fun i H => ∃ xs : List V, SqT K H a xs ∧ xs.length ≤ i⟩
theorem turn_enumT {P : Program} {w : World} {K : PySem.W.Frag} {elts : List Expr} {kk : Nat} {tpos : Pos} (a e it : Addr) :
    Turn P w K (.Tuple elts kk tpos) (IteT K a) [e, it] e (fun i h => (∃ prev, IsEnum h e it ((i : Nat) : Int) prev) ∧ h.IsTupleIter it a i ∧ e ≠ it) where
  mem := by simp
  obj := fun i h st b hbm => by
    obtain ⟨⟨prev, eE⟩, ⟨o, oq, hcq, hdq⟩, _⟩ := st
    have eq1 : b = e ∨ b = it := by simpa using hbm
    rcases eq1 with z | z
    · rw [z]; exact ⟨_, eE, fun v q => nomatch q⟩
    · rw [z]; exact ⟨o, oq, fun v q => by rw [hdq] at q; cases q⟩
  keep := fun i h hh st k => let ⟨⟨prev, eE⟩, hi, neE⟩ := st; ⟨⟨prev, k e (by simp) _ eE⟩, hi.at fun o q => k it (by simp) o q, neE⟩
  item := by
    intro X eP eW eK hcq i pins s σ H E I hfp st hgo
    subst eP eW eK
    obtain ⟨⟨prev, eE⟩, itE, neE⟩ := st
    obtain ⟨xs, x, rdq, atx⟩ := hgo
    obtain ⟨uu, pr, p, zz⟩ := I.tuple rdq
    obtain ⟨u, atu, rlu⟩ := pr.get atx
    have ltE : e < s.heap.objs.size := Heap.lt_size eE
    have ltI : it < s.heap.objs.size := by obtain ⟨_, q, _⟩ := itE; exact Heap.lt_size q
    have nai : a ≠ it := fun z => by
      subst z
      obtain ⟨o1, e1x, c1x, _⟩ := p
      obtain ⟨o2, e2, c2, _⟩ := itE
      rw [e1x] at e2; cases e2; rw [c1x] at c2; exact absurd c2 (by decide)
    have nae : a ≠ e := fun z => by
      subst z
      obtain ⟨o1, e1x, c1x, _⟩ := p
      have h2 : s.heap.get? a = some _ := eE
      rw [e1x] at h2; cases h2
      have c2 : Value.type "enumerate" = Value.type "tuple" := c1x
      exact absurd c2 (by decide)
    have tupA : s.heap.IsTuple a uu.toArray := p
    refine wpAny_pyNext_enum_itemD (Draws.tuple (A := X.A.in1) (I.ok.hd hcq) it a nai uu.toArray) eE ⟨itE, tupA⟩ (n := uu.toArray.size) (i := i) ?_ neE (by simp [neE, Ne.symm nae]) fun x' hh tkq pxq oq stq tyE szq kk => ?_
    · have := (List.getElem?_eq_some_iff.mp atu).1
      simpa using this
    · have exx : x' = u := by
        have q : uu.toArray[i]? = some x' := pxq
        have q2 : uu.toArray[i]? = some u := by simpa using atu
        rw [q] at q2; exact Option.some.inj q2
      subst exx
      refine ⟨_, rfl, wpAny_letOwnedTupleGo_enum (s := { s with heap := hh, toks := tkq + 1 }) oq fun hhh he' sbq => ?_⟩
      have tyE2 : hhh.get? s.heap.objs.size = some { cls := .type "tuple", data := .seq #[.int i tkq, x'] } := (sbq.2 _ (Nat.ne_of_gt ltE)).trans tyE
      have newq : ObjOk X.prog X.w (upd H s.heap.objs.size (.tup [.int (i : Nat), x])) hhh s.heap.objs.size (.tup [.int (i : Nat), x]) :=
        ⟨by show 2 ≤ sizeLine; decide, [.int i tkq, x'], .cons ⟨_, rfl⟩ (.cons rlu .nil), ⟨_, tyE2, rfl, _, rfl⟩⟩
      have J1 : Inv X pins σ (upd H s.heap.objs.size (.tup [.int (i : Nat), x])) { s with heap := hhh, toks := tkq + 1 } :=
        I.turnedNew (ch := [e, it]) (fun b ob hbm q => (sbq.2 b (fun z => hbm (by simp [z]))).trans (kk b ob (fun z => hbm (by simp [z])) (fun z => hbm (by simp [z])) q)) hfp (Nat.le_refl _) newq
      refine ⟨.ref s.heap.objs.size, _, J1, rfl, ⟨_, x, rfl, I.hok.fresh (Nat.le_refl _), rfl, fun ys hy => by rw [I.tuple_inj hy rdq]; exact atx⟩, ⟨⟨x', ?_⟩, stq.1.at fun o q => (sbq.2 it (Ne.symm neE)).trans q, neE⟩, fun b hbm => ?_⟩
      · have e1x : ((i + 1 : Nat) : Int) = (i : Int) + 1 := by omega
        rw [e1x]; exact he'
      · have hbq : b < s.heap.objs.size := by
          have eq1 : b = e ∨ b = it := by simpa using hbm
          rcases eq1 with z | z
          · rw [z]; exact ltE
          · rw [z]; exact ltI
        rw [upd_ne (Nat.ne_of_lt hbq)]
        exact (hfp b hbm).1
  done := by
    intro X eP eW eK hcq i pins s σ H E I hfp st hgo
    subst eP eW eK
    obtain ⟨⟨prev, eE⟩, itE, neE⟩ := st
    obtain ⟨xs, rdq, atx⟩ := hgo
    obtain ⟨uu, pr, p, zz⟩ := I.tuple rdq
    obtain ⟨w0, w1, w2, w3, w4, w5⟩ := hfp it (by simp)
    have ll := pr.length
    have tyE : s.TypeIs (.ref e) "enumerate" := ⟨_, eE, rfl⟩
    have tupA : s.heap.IsTuple a uu.toArray := p
    unfold pyNext
    refine wpAny_bind (wpAny_attempt (wpAny_callSpecial?_slot (name := Str.ofString "__next__") tyE F.slot_enumerate_next
      (wpAny_call_entry F.slot_enumerate_next tyE F.entry_enumerate_next ?_ (F.args_enumerate_next_1 _))))
    show wpAny _ _ (field (.ref e) 2 >>= _) _ _ _
    refine wpAny_bind (wpAny_field eE rfl (x := .ref it) rfl ?_)
    refine wpAny_bind (wpAny_nextOf_tuple_end (by exact I.ok.hd hcq) itE tupA (by simp; omega) fun hh x he' hx' => ?_)
    obtain ⟨o, oq, hc'⟩ := hx'
    refine wpAny_bind (wpAny_isInstance (T := "StopIteration") (b := true) ⟨o, oq, hc'⟩ isSubtype_stop ?_)
    exact wpAny_pure ⟨rfl, I.turned (t' := s.toks) (fun b o hbm q => he' b o hbm q) w0 w1 w3 w4 w5⟩
  self := fun A i s Q E st h => let ⟨⟨_, eE⟩, _⟩ := st; wpAny_pyIter_enum eE h
def iEnumA (K : PySem.W.Frag) (ta : TA) : TI := fun σ H R => ta σ H fun vs H1 => ∃ a xs, vs = [.ref a] ∧ ((SqL K H1 a xs ∧ R (Ite K a) H1) ∨ (SqT K H1 a xs ∧ R (IteT K a) H1))
theorem pi_enumA {e : Expr} {ta : TA} {p pos tpos : Pos} {elts : List Expr} {kk : Nat} (hgo : Gl X "enumerate") (mgx : X.mg "enumerate" = none) (hargs : PA X [e] ta) (hs : starEach [e] X.env = [(false, eval e X.env)] := by rfl) :
    PI X (.Tuple elts kk tpos) (.Call (.Name "enumerate" p) [e] [] pos) (iEnumA X.K ta) := by
  refine ⟨fun pins s σ H R I h => ?_⟩
  refine Call_ (ld_blt I hgo mgx boot_enumerate (PyProof.Rows.callWith_type1 (thn (hargs.run pos pins s σ H _ I h) fun us s1 ⟨vs, H1, J1, r1q, q1x⟩ => ?_) hs rfl))
  obtain ⟨a, xs, exx, q1x⟩ := q1x
  subst exx
  cases r1q with
  | cons r rrq =>
    cases rrq
    cases r
    have fin : ∀ b, b ∈ [s1.heap.objs.size + 1, s1.heap.objs.size] → FpOk X pins H1 b := fun b hbm => by
      have eq1 : b = s1.heap.objs.size + 1 ∨ b = s1.heap.objs.size := by simpa using hbm
      have leq1 : s1.heap.objs.size ≤ b := by
        rcases eq1 with z | z
        · rw [z]; exact Nat.le_add_right _ _
        · rw [z]; exact Nat.le_refl _
      exact J1.fpOk leq1 (J1.hok.fresh leq1)
    rcases q1x with ⟨rdq, q⟩ | ⟨rdq, q⟩
    · obtain ⟨uu, pr, p', zz⟩ := J1.list rdq
      refine call_enumerate_list p'.isList fun hh eE itE szq kk => wpAny_pyIter_enum eE ?_
      have J2 : Inv X pins σ H1 { s1 with heap := hh } := J1.kept (t' := s1.toks) kk
      exact ⟨s1.heap.objs.size + 1, [s1.heap.objs.size + 1, s1.heap.objs.size], _, _, H1, rfl, J2, turn_enum a (s1.heap.objs.size + 1) s1.heap.objs.size, ⟨⟨.none, eE⟩, itE, Nat.succ_ne_self _⟩, fin, q⟩
    · obtain ⟨uu, pr, p', zz⟩ := J1.tuple rdq
      refine g_call_enumerate_tuple (show s1.heap.IsTuple a uu.toArray from p') fun hh eE itE szq kk => wpAny_pyIter_enum eE ?_
      have J2 : Inv X pins σ H1 { s1 with heap := hh } := J1.kept (t' := s1.toks) kk
      exact ⟨s1.heap.objs.size + 1, [s1.heap.objs.size + 1, s1.heap.objs.size], _, _, H1, rfl, J2, turn_enumT a (s1.heap.objs.size + 1) s1.heap.objs.size, ⟨⟨.none, eE⟩, itE, Nat.succ_ne_self _⟩, fin, q⟩
/-! ### a product, one factor below 2 ^ 64 or both below a million bits together -/
theorem op_mulA : OpR X (binaryOp .Mult) (rI (fun i j => CMul i j ∨ CMulW i j) fun i j => .int (i * j)) := opI fun _ _ _ _ _ _ _ hc q => hc.elim (fun h => mul_int q h.ok) (fun h => mul_int q h.ok)
end
section
variable {b : Bs} {C : Hp} {T Γ Γ' Γ1 Γ2 : List Sl} {τ σ : L2.St} {H H' : Hp} {s s' : Sl} {v : V} {d e : PyData} {ds es : List PyData} {vs : List V}
theorem rd_repA {K : PySem.W.Frag} {k : Int} (h : ds ≠ []) (hz : ds.length ≤ 1000) (h1 : 1 ≤ k) (h2 : k ≤ 1000) : RD K (rRepA K) (.tuple ds) (.int k) (.dat (.tuple (List.replicate k.toNat ds).flatten)) := fun C H x y ex dx dy Q q => by
  cases dy
  have dx2 := dx
  cases dx with
  | tup hq ha =>
    rename_i a xs
    have hl := dpa_len ha
    refine ⟨a, k, xs, rfl, rfl, ex_t ex hq, fun z => h (by subst z; simpa using hl.symm), h1, h2, by omega, fun z => ?_, fun _ p hp => ?_⟩
    · subst z
      have : (List.replicate (1 : Int).toNat ds).flatten = ds := by simp
      rw [this] at q
      exact q _ _ (.same ex dx2)
    · refine q _ _ (.tup ex ?_ hp)
      generalize k.toNat = n
      induction n with
      | zero => exact .nil
      | succ n ih =>
        rw [List.replicate_succ, List.replicate_succ, List.flatten_cons, List.flatten_cons]
        exact dpa_app ha ih
def enumT (p : PyData × Nat) : PyData := .tuple [.int (p.2 : Int), p.1]
theorem i_enumT {ta : TA} (h : EvA b ta Γ Γ1 [.tuple ds]) : EvI b (iEnumA b.K ta) Γ Γ1 [.tuple ds] (ds.zipIdx.map enumT) := fun T τ σ H hs R r =>
  h T τ σ H hs _ fun vs H1 C h1 dv => by
    have dv2 := dv
    obtain ⟨v, rfl, dx⟩ := dpa1 dv
    cases dx with
    | tup hq ha =>
      rename_i a xs
      refine ⟨a, xs, rfl, .inr ⟨ex_t h1.ch hq, r _ [.ref a] H1 C (fun C' H' ex dw => ?_) h1 dv2⟩⟩
      obtain ⟨v', e1, dz⟩ := dpa1 dw
      cases e1
      cases dz with
      | tup hq' ha' =>
        have hl := dpa_len ha'
        refine ⟨⟨_, ex_t ex hq', by simp; omega⟩, fun i di e => ?_⟩
        rw [List.getElem?_map] at e
        obtain ⟨⟨u1, u2⟩, e1, rfl⟩ := Option.map_eq_some_iff.mp e
        rw [List.getElem?_zipIdx] at e1
        obtain ⟨z, e2, e3⟩ := Option.map_eq_some_iff.mp e1
        cases e3
        obtain ⟨y, y1, y2⟩ := dpa_get ha' e2
        refine ⟨⟨_, y, ex_t ex hq', y1⟩, fun x H2 z2 => ?_⟩
        obtain ⟨P, z1, rfl, nP, rfl, f1⟩ := z2
        have w1 := (f1 _ (ex_t ex hq')).symm.trans y1
        cases w1
        have : ((0 + i : Nat) : Int) = (i : Int) := by omega
        exact .tup ex (.cons (this ▸ .int _) (.cons y2 .nil)) nP
end
end G
namespace G
open PySem PySem.Spec PyProof.Rows L2
open Evl (Ex ex_rd ex_l ex_t rMax2)
abbrev ti (xs : List Int) : PyData := .tuple (xs.map .int)
abbrev li (xs : List Int) : PyData := .list (xs.map .int)
theorem eqv_int (i j : Int) : PyData.eqv (.int i) (.int j) = decide (i = j) := by
  rw [PyData.eqv]
  by_cases h : i = j <;> simp [h]
theorem eqv_bool (i j : Bool) : PyData.eqv (.bool i) (.bool j) = decide (i = j) := by
  rw [PyData.eqv]
  cases i <;> cases j <;> rfl
theorem eqv_str (i j : Str) : PyData.eqv (.str i) (.str j) = decide (i = j) := by
  rw [PyData.eqv]
  by_cases h : i = j <;> simp [h]
theorem eqvAll_ints : ∀ xs ys : List Int, PyData.eqvAll (xs.map .int) (ys.map .int) = decide (xs = ys)
  | [], [] => by simp [PyData.eqvAll]
  | [], _ :: _ => by simp [PyData.eqvAll]
  | _ :: _, [] => by simp [PyData.eqvAll]
  | x :: xs, y :: ys => by
    rw [List.map_cons, List.map_cons, PyData.eqvAll, eqv_int, eqvAll_ints xs ys]
    by_cases h : x = y <;> by_cases h2 : xs = ys <;> simp [h, h2]
theorem eqv_ti (xs ys : List Int) : PyData.eqv (ti xs) (ti ys) = decide (xs = ys) := by rw [PyData.eqv]; exact eqvAll_ints xs ys
theorem eqv_li (xs ys : List Int) : PyData.eqv (li xs) (li ys) = decide (xs = ys) := by rw [PyData.eqv]; exact eqvAll_ints xs ys
theorem lay_ints : ∀ xs : List Int, PyData.canLayAll0 (xs.map .int) = true
  | [] => by simp [PyData.canLayAll0]
  | x :: xs => by rw [List.map_cons, PyData.canLayAll0, lay_ints xs]; simp [PyData.canLay0]
theorem dep_ints : ∀ xs : List Int, PyData.depthAll (xs.map .int) ≤ 1
  | [] => by simp [PyData.depthAll]
  | x :: xs => by
    rw [List.map_cons, PyData.depthAll]
    have := dep_ints xs
    simp only [PyData.depth]
    omega
theorem sh_int (i : Int) : SeqAt.shaped (.int i) = true := by simp [SeqAt.shaped, PyData.canLay0, PyData.depth]
theorem sh_bool (i : Bool) : SeqAt.shaped (.bool i) = true := by simp [SeqAt.shaped, PyData.canLay0, PyData.depth]
theorem sh_none : SeqAt.shaped .none = true := by simp [SeqAt.shaped, PyData.canLay0, PyData.depth]
theorem sh_ti (xs : List Int) : SeqAt.shaped (ti xs) = true := by
  have := dep_ints xs
  unfold SeqAt.shaped
  rw [PyData.canLay0, lay_ints, PyData.depth]
  simp; omega
theorem sh_li (xs : List Int) : SeqAt.shaped (li xs) = true := by
  have := dep_ints xs
  unfold SeqAt.shaped
  rw [PyData.canLay0, lay_ints, PyData.depth]
  simp; omega
section
variable {K : PySem.W.Frag} {i j : Int} {xs ys : List Int}
theorem rd_eqI : RD K (rEqD K) (.int i) (.int j) (.dat (.bool (decide (i = j)))) := by
  have := rd_eqD (K := K) (sh_int i) (sh_int j)
  rwa [eqv_int] at this
theorem rd_neI : RD K (rNeD K) (.int i) (.int j) (.dat (.bool (!decide (i = j)))) := by
  have := rd_neD (K := K) (sh_int i) (sh_int j)
  rwa [eqv_int] at this
theorem rd_eqB {i j : Bool} : RD K (rEqD K) (.bool i) (.bool j) (.dat (.bool (decide (i = j)))) := by
  have := rd_eqD (K := K) (sh_bool i) (sh_bool j)
  rwa [eqv_bool] at this
theorem rd_neB {i j : Bool} : RD K (rNeD K) (.bool i) (.bool j) (.dat (.bool (!decide (i = j)))) := by
  have := rd_neD (K := K) (sh_bool i) (sh_bool j)
  rwa [eqv_bool] at this
theorem rd_eqT : RD K (rEqD K) (ti xs) (ti ys) (.dat (.bool (decide (xs = ys)))) := by
  have := rd_eqD (K := K) (sh_ti xs) (sh_ti ys)
  rwa [eqv_ti] at this
theorem rd_neT : RD K (rNeD K) (ti xs) (ti ys) (.dat (.bool (!decide (xs = ys)))) := by
  have := rd_neD (K := K) (sh_ti xs) (sh_ti ys)
  rwa [eqv_ti] at this
theorem rd_eqL : RD K (rEqD K) (li xs) (li ys) (.dat (.bool (decide (xs = ys)))) := by
  have := rd_eqD (K := K) (sh_li xs) (sh_li ys)
  rwa [eqv_li] at this
theorem rd_neL : RD K (rNeD K) (li xs) (li ys) (.dat (.bool (!decide (xs = ys)))) := by
  have := rd_neD (K := K) (sh_li xs) (sh_li ys)
  rwa [eqv_li] at this
theorem atI_ints (h0 : 0 ≤ i) (h1 : i < xs.length) : atI (xs.map PyData.int) i = some (.int (xs.getD i.toNat 0)) := by
  refine atI_ok h0 ?_
  rw [List.getElem?_map, List.getElem?_eq_getElem (by omega), Option.map_some, List.getD_eq_getElem?_getD, List.getElem?_eq_getElem (by omega)]
  rfl
theorem rd_ixTi (h0 : 0 ≤ i) (h1 : i < xs.length) : RD K (rIx K) (ti xs) (.int i) (.dat (.int (xs.getD i.toNat 0))) := rd_ixT (atI_ints h0 h1)
theorem rd_ixLi (h0 : 0 ≤ i) (h1 : i < xs.length) : RD K (rIx K) (li xs) (.int i) (.dat (.int (xs.getD i.toNat 0))) := rd_ixL (atI_ints h0 h1)
theorem cd_lenTi : CD K (rLen K) [ti xs] (.dat (.int xs.length)) := by
  have := cd_lenT (K := K) (ds := xs.map .int)
  rwa [List.length_map] at this
theorem cd_lenLi : CD K (rLen K) [li xs] (.dat (.int xs.length)) := by
  have := cd_lenL (K := K) (ds := xs.map .int)
  rwa [List.length_map] at this
end
/-! ### less is known -/
def wk : List Sl → List Sl → Prop
  | [], [] => True
  | s :: Γ, s' :: Γ' => (s' = s ∨ s' = .no) ∧ wk Γ Γ'
  | _, _ => False
theorem has_wk {K : PySem.W.Frag} {C H : Hp} : ∀ {Γ Γ' : List Sl} {σ : L2.St} {ps : List Addr}, wk Γ Γ' → Has K C H Γ σ ps → ∃ qs, Has K C H Γ' σ qs ∧ qs.Sublist ps
  | [], [], _, _, _, h => ⟨_, h, List.Sublist.refl _⟩
  | s :: Γ, s' :: Γ', _, _, ⟨e, w⟩, h => by
    have go : ∀ {x : Option V} {σ : L2.St} {ps : List Addr}, Has K C H Γ σ ps → ∃ qs, Has K C H (.no :: Γ') (x :: σ) qs ∧ qs.Sublist ps := fun h => by
      obtain ⟨qs, h1, h2⟩ := has_wk w h
      exact ⟨qs, .no h1, h2⟩
    rcases e with rfl | rfl
    · cases h with
      | no h => exact go h
      | dat d h => obtain ⟨qs, h1, h2⟩ := has_wk w h; exact ⟨qs, .dat d h1, h2⟩
      | own y e d h => obtain ⟨qs, h1, h2⟩ := has_wk w h; exact ⟨_, .own y e d h1, h2.cons_cons _⟩
    · cases h with
      | no h => exact go h
      | dat d h => exact go h
      | own y e d h => obtain ⟨qs, h1, h2⟩ := go h; exact ⟨qs, h1, h2.cons _⟩
theorem hs_wk {b : Bs} {T Γ Γ' : List Sl} {τ σ : L2.St} {H : Hp} (w : wk Γ Γ') (h : Hs b T τ Γ σ H) : Hs b T τ Γ' σ H := by
  obtain ⟨C, ps, qs, c, h1, h2⟩ := h
  obtain ⟨rs, h3, h4⟩ := has_wk w h2
  exact ⟨C, ps, rs, c.sub (fun p hp => (List.Sublist.append_left h4 ps).subset hp) (c.nd.sublist (List.Sublist.append_left h4 ps)), h1, h3⟩
theorem n_end {b : Bs} {T Γ Γ' : List Sl} {τ : L2.St} (w : wk Γ Γ') : Nx b (fun σ H => Hs b T τ Γ' σ H) T τ Γ := fun _ _ h => hs_wk w h
theorem n_wk {b : Bs} {T Γ Γ' : List Sl} {τ : L2.St} {N : L2.St → Hp → Prop} (w : wk Γ Γ') (k : Nx b N T τ Γ') : Nx b N T τ Γ := fun _ _ h => k _ _ (hs_wk w h)
/-! ### statements that go on -/
def StS (b : Bs) (t : TS) (Γ Γ' : List Sl) : Prop := ∀ (D : Ends) (T : List Sl) (τ : L2.St), Nx b D.nx T τ Γ' → Nx b (t D) T τ Γ
section
variable {b : Bs} {T Γ Γ' Γ1 Γ2 : List Sl} {τ : L2.St} {D : Ends} {t u : TS} {te : TE} {s : Sl} {d : PyData} {ds : List PyData}
theorem n_go (h : StS b t Γ Γ1) (k : Nx b (u D) T τ Γ1) : Nx b (tSeq t u D) T τ Γ := h { D with nx := u D } T τ k
theorem n_stop {c : TT} (h : EvT b c Γ Γ1 false) (k : Nx b (u D) T τ Γ1) : Nx b (tSeq (tIfS c t tNext) u D) T τ Γ := n_if (D := { D with nx := u D }) h (fun z => by cases z) fun _ => k
theorem n_leave {c : TT} (h : EvT b c Γ Γ1 true) (k : Nx b (tRet te D) T τ Γ1) : Nx b (tSeq (tIfS c (tRet te) t) u D) T τ Γ := n_if (t := tRet te) (D := { D with nx := u D }) h (fun _ => k) fun z => by cases z
theorem n_fork {c : TT} {k : Bool} (h : EvT b c Γ Γ1 k) (h1 : k = true → Nx b (tRet te D) T τ Γ1) (h2 : k = false → Nx b (u D) T τ Γ1) : Nx b (tSeq (tIfS c (tRet te) tNext) u D) T τ Γ :=
  n_if (t := tRet te) (u := tNext) (D := { D with nx := u D }) h (fun z => h1 z) fun z => h2 z
theorem st_set {i : Nat} (h : EvS b te Γ Γ1 s) : StS b (tAsg te (gName i)) Γ (Γ1.set i s) := fun D T τ k => n_set h k
theorem st_drop (h : EvS b te Γ Γ1 s) : StS b (tDrop te) Γ Γ1 := fun D T τ k => n_drop h k
theorem st_append {i : Nat} {z : Option Addr} (h : Γ[i]? = some (.ownq z ds)) (he : EvS b te Γ Γ (.dat d)) (hz : ds.length < 100000) : StS b (tDrop (tBM b.K "list" rAppend (tVar i) (tCons te tNil))) Γ (Γ.set i (.ownq z (ds ++ [d]))) := fun D T τ k => n_append h he hz k
theorem st_setL {i j : Nat} {k : Int} {tb : TE} {z : Option Addr} (h : Γ[i]? = some (.ownq z ds)) (he : EvS b te Γ Γ (.dat d)) (hb : EvS b tb Γ Γ (.dat (.int k))) (hj : ixN ds.length k = some j) :
    StS b (tAsg te (gSub (tVar i) tb rSetL)) Γ (Γ.set i (.ownq z (ds.set j d))) := fun D T τ k => n_setL h he hb hj k
theorem st_seq (h : StS b t Γ Γ1) (h2 : StS b u Γ1 Γ2) : StS b (tSeq t u) Γ Γ2 := fun D T τ k => h { D with nx := u D } T τ (h2 D T τ k)
theorem st_next : StS b tNext Γ Γ := fun D T τ k => k
theorem st_if {c : TT} {k : Bool} (h : EvT b c Γ Γ1 k) (h1 : k = true → StS b t Γ1 Γ2) (h2 : k = false → StS b u Γ1 Γ2) : StS b (tIfS c t u) Γ Γ2 := fun D T τ q => n_if h (fun z => h1 z D T τ q) fun z => h2 z D T τ q
theorem st_wk (w : wk Γ1 Γ2) (h : StS b t Γ Γ1) : StS b t Γ Γ2 := fun D T τ k => h D T τ (n_wk w k)
theorem st_is (h : StS b t Γ Γ1) (e : Γ1 = Γ2) : StS b t Γ Γ2 := e ▸ h
theorem st_for {wi : TI} {g : TG} {tb : TS} {ds its : List PyData} (hI : EvI b wi Γ Γ1 ds its) (G G' : Nat → List Sl) (h0 : wk Γ1 (G 0)) (hg : ∀ i di, its[i]? = some di → EvG b g di (G i) (G' i))
    (hb : ∀ i di, its[i]? = some di → StS b tb (G' i) (G (i + 1))) : StS b (tFor wi g tb) Γ (G its.length) := fun D T τ k => by
  have hI' : EvI b wi Γ (G 0) ds its := fun T τ σ H hs R r => hI T τ σ H hs R fun J vs H' C ok h dv => by
    obtain ⟨ps, qs, c, h1, h2⟩ := h
    obtain ⟨rs, h3, h4⟩ := has_wk h0 h2
    exact r J vs H' C ok ⟨ps, rs, c.sub (fun p hp => (List.Sublist.append_left h4 ps).subset hp) (c.nd.sublist (List.Sublist.append_left h4 ps)), h1, h3⟩ dv
  exact n_for hI' G G' rfl hg (fun i di vs hv e => hb i di e _ _ _ n_hs) k
end
/-! ### a def -/
def Γ0 (n : Nat) (ds : List PyData) : List Sl := ds.map Sl.dat ++ List.replicate (n - ds.length) Sl.no
theorem has_dats {K : PySem.W.Frag} {C H : Hp} {Γ : List Sl} {σ : L2.St} {ps : List Addr} (h : Has K C H Γ σ ps) : ∀ {vs : List V} {ds : List PyData}, DpAll K C vs ds → Has K C H (ds.map Sl.dat ++ Γ) (vs.map some ++ σ) ps
  | _, _, .nil => h
  | _, _, .cons r t => .dat r (has_dats h t)
theorem has_no {K : PySem.W.Frag} {C H : Hp} : ∀ n : Nat, Has K C H (List.replicate n Sl.no) (List.replicate n none) []
  | 0 => .nil
  | n + 1 => .no (has_no n)
theorem fn_ok {P : Program} {w : World} {K : PySem.W.Frag} {mg : Str → Option Value} {base : Heap} {x qual : Str} {st : Stmt} {f : Addr} {fd : FuncData} {N ps : List Str} {k : Nat} {gr : List PyData → Sl → Prop} {tr : PySem.W.Frag → TS}
    (F : Fun K x qual st f fd) (S : FnScope N ps (defScope st)) (len : ∀ ds s, gr ds s → ds.length = ps.length)
    (pst : ∀ (cdv : Value) (A : Around) (outer : List Env) (s : Shared) (H : Hp) (E : XK), Room k (A.deeper (envOfC qual (defScope st) s.heap.objs.size f cdv)) → PSs (cxOf CX0 P w K mg base N qual (defScope st) f cdv A outer s H E).nox (defBody st) (tr K))
    (rd : ∀ (b : Bs) (D : Ends) ds s, gr ds s → (∀ v H', Ret b.K b.H0 b.B s v H' → D.rt v H') → (∀ σ H, D.rt .non H → D.nx σ H) → Nx b (tr b.K D) [] [] (Γ0 N.length ds)) :
    FnOk P w K mg base CX0 (k + 1) f fd ps (spP K gr) := by
  refine F.ok S (fun vs H Q E h => ?_) (fun cdv A outer s H vs Q E hr h => ?_)
  · obtain ⟨C, ds, s, e, dv, g, q⟩ := h
    rw [dpa_len dv]; exact len ds s g
  · obtain ⟨C, ds, sl, e, dv, g, q⟩ := h
    refine ⟨_, pst cdv A outer s H E hr, ?_⟩
    refine rd ⟨K, H, C⟩ _ ds sl g q (fun _ _ h => h) _ _ ⟨C, [], [], ⟨Ex.refl C, e, Ex.refl H, fun _ _ z => z, (fun p hp => by cases hp), List.nodup_nil⟩, .nil, ?_⟩
    unfold L2.start Γ0
    rw [dpa_len dv]
    exact has_dats (has_no _) dv
end G
namespace G
open PySem PySem.Spec PyProof.Rows L2
open Evl (Ex ex_rd ex_l ex_t rMax2)
/-! ### a def that is lent a list (its first argument) and changes it -/
def RetM (K : PySem.W.Frag) (H C : Hp) (p : Addr) (ds' : List PyData) (s : Sl) (v : V) (H' : Hp) : Prop :=
  ∃ C' rs vs', Ex C C' ∧ Ex C' H' ∧ (∀ a o, a ≠ p → H a = some o → H' a = some o) ∧ (∀ a, H a ≠ none → C a = none → C' a = none) ∧ Has K C' H' [s] [some v] rs ∧ (∀ q ∈ rs, C' q = none ∧ H q = none) ∧ H' p = some (.lst vs') ∧ DpAll K C' vs' ds'
def RetB (b : Bs) (p : Addr) (ds' : List PyData) (s : Sl) (v : V) (H' : Hp) : Prop :=
  ∃ C' rs vs', Ex b.B C' ∧ Ex C' H' ∧ Ex b.H0 H' ∧ (∀ a, b.H0 a ≠ none → b.B a = none → C' a = none) ∧ C' p = none ∧ Has b.K C' H' [s] [some v] rs ∧ (∀ q ∈ rs, C' q = none ∧ b.H0 q = none ∧ q ≠ p) ∧ H' p = some (.lst vs') ∧ DpAll b.K C' vs' ds'
def spM (K : PySem.W.Frag) (f : List PyData → List PyData → List PyData → Sl → Prop) : Sp := fun vs H Q _ => ∃ C p vs0 rest ds args ds' s, vs = .ref p :: rest ∧ H p = some (.lst vs0) ∧ C p = none ∧ Ex C H ∧ DpAll K C vs0 ds ∧ DpAll K C rest args ∧
  f ds args ds' s ∧ ∀ v H', RetM K H C p ds' s v H' → Q v H'
theorem Has.own_z {K : PySem.W.Frag} {C H : Hp} {Γ : List Sl} {σ : L2.St} {ps : List Addr} (h : Has K C H Γ σ ps) : ∀ {i : Nat} {z : Option Addr} {ds : List PyData}, Γ[i]? = some (.ownq z ds) → ∃ p, σ[i]? = some (some (.ref p)) ∧ p ∈ ps ∧ ∀ r, z = some r → r = p := by
  induction h with
  | nil => intro i z ds e; simp at e
  | no q ih =>
    intro i z ds e
    cases i with
    | zero => simp at e
    | succ i => obtain ⟨p, h1, h2, h3⟩ := ih (by simpa using e); exact ⟨p, by simpa using h1, h2, h3⟩
  | dat dd q ih =>
    intro i z ds e
    cases i with
    | zero => simp at e
    | succ i => obtain ⟨p, h1, h2, h3⟩ := ih (by simpa using e); exact ⟨p, by simpa using h1, h2, h3⟩
  | own y0 e0 d0 q ih =>
    intro i z ds e
    cases i with
    | zero => simp at e; obtain ⟨rfl, rfl⟩ := e; exact ⟨_, rfl, List.mem_cons_self, y0⟩
    | succ i => obtain ⟨p, h1, h2, h3⟩ := ih (by simpa using e); exact ⟨p, by simpa using h1, List.mem_cons_of_mem _ h2, h3⟩
section
variable {b : Bs} {C : Hp} {T Γ Γ' Γ1 Γ2 : List Sl} {τ σ : L2.St} {H H' : Hp} {s s' : Sl} {v : V} {d e : PyData} {ds ds' es args : List PyData} {vs : List V}
theorem HsC.stepM {i : Nat} {z : Option Addr} {p : Addr} (h : HsC b C T τ Γ σ H) (e : Γ[i]? = some (.ownq z ds)) (ep : σ[i]? = some (some (.ref p))) (r : RetM b.K H C p ds' s v H') : Hs b (s :: T) (some v :: τ) (Γ.set i (.ownq z ds')) σ H' := by
  obtain ⟨ps, qs, c, h1, h2⟩ := h
  obtain ⟨C', rs, vs', e1, e2, e3, fr, h3, ow, hp', dv'⟩ := r
  have nd := List.nodup_append.mp c.nd
  obtain ⟨p1, g1, g2, g3⟩ := h2.own_z e
  have ep1 : p1 = p := by
    rw [ep] at g1
    injection g1 with g1; injection g1 with g1; injection g1 with g1; exact g1.symm
  subst ep1
  have hsome : ∀ q ∈ ps ++ qs, ∃ xs, H q = some (.lst xs) := fun q hq => by
    rcases List.mem_append.mp hq with y | y
    · exact h1.own_some q y
    · exact h2.own_some q y
  have hCn : ∀ q ∈ ps ++ qs, C' q = none := fun q hq => by
    obtain ⟨xs, hx⟩ := hsome q hq
    exact fr q (by rw [hx]; intro y; cases y) (c.ow q hq).1
  have hpT : ∀ q ∈ ps, q ≠ p1 := fun q hq => nd.2.2 q hq p1 g2
  have hT : Has b.K C' H' (s :: T) (some v :: τ) (rs ++ ps) := by
    have h1' := h1.mono e1 (fun q hq o y => e3 q o (hpT q hq) y)
    cases h3 with
    | no y => cases y; exact .no h1'
    | dat q y => cases y; exact .dat q h1'
    | own y0 q q2 y => cases y; exact .own y0 q q2 h1'
  have h2' := h2.mono (C' := C') (H' := H) e1 (fun _ _ _ y => y)
  obtain ⟨p2, vs2, k1, k2, k3, k4, k5⟩ := h2'.own_at e nd.2.1
  have ep2 : p2 = p1 := by
    rw [ep] at k1
    injection k1 with k1; injection k1 with k1; injection k1 with k1; exact k1.symm
  subst ep2
  have h5 := (k5 vs' ds' dv').mono (C' := C') (H' := H') (Ex.refl C') (fun q hq o y => by
    by_cases hqp : q = p2
    · subst hqp; rw [upd_same] at y; cases y; exact hp'
    · rw [upd_ne hqp] at y; exact e3 q o hqp y)
  refine ⟨C', rs ++ ps, qs, ⟨c.bc.trans e1, e2, fun a o y => e3 a o (fun y2 => ?_) (c.h0 a o y), fun a y1 y2 => ?_, fun q hq => ?_, ?_⟩, hT, h5⟩
  · rw [y2, (c.ow p2 (List.mem_append_right _ g2)).2] at y; cases y
  · refine fr a (fun q => ?_) (c.fr a y1 y2)
    cases z1 : b.H0 a with
    | none => exact y1 z1
    | some o => rw [c.h0 a o z1] at q; cases q
  · rw [List.append_assoc] at hq
    rcases List.mem_append.mp hq with y | y
    · exact ⟨(ow q y).1, ex_none c.h0 (ow q y).2⟩
    · exact ⟨hCn q y, (c.ow q y).2⟩
  · rw [List.append_assoc]
    refine List.nodup_append.mpr ⟨?_, c.nd, fun q hq q' hq' eq => ?_⟩
    · cases h3 with
      | no y => cases y; exact List.nodup_nil
      | dat _ y => cases y; exact List.nodup_nil
      | own _ _ _ y => cases y; simp
    · subst eq
      obtain ⟨xs, hx⟩ := hsome q hq'
      rw [(ow q hq).2] at hx; cases hx
theorem s_callM {i : Nat} {z : Option Addr} {ta : TA} {f : List PyData → List PyData → List PyData → Sl → Prop} {E : XK} (h : Γ[i]? = some (.ownq z ds)) (ha : EvA b ta Γ Γ args) (hf : f ds args ds' s) :
    EvS b (tCall (spM b.K f) [] E (tCons (tVar i) ta)) Γ (Γ.set i (.ownq z ds')) s := fun T τ σ H hs Q q => by
  obtain ⟨C0, hs0⟩ := hs
  obtain ⟨p, vs0, g1, g2, g3, _⟩ := hs0.own_at h
  refine ⟨.ref p, g1, ha T τ σ H ⟨C0, hs0⟩ _ fun rest H1 C h1 dv => ?_⟩
  obtain ⟨p', vs1, f1, f2, f3, _⟩ := h1.own_at h
  rw [g1] at f1
  cases f1
  have hC : C p = none := by
    obtain ⟨ps, qs, c, k1, k2⟩ := h1
    obtain ⟨p1, m1, m2, _⟩ := k2.own_z h
    rw [g1] at m1
    cases m1
    exact (c.ow p (List.mem_append_right _ m2)).1
  rw [List.append_nil]
  exact ⟨C, p, vs1, rest, ds, args, ds', s, rfl, f2, hC, h1.ch, f3, dv, hf, fun v H' r => q v H' (h1.stepM h g1 r)⟩
theorem n_retM {te : TE} {D : Ends} {p : Addr} {i : Nat} (h : EvS b te Γ Γ1 s) (e : Γ1[i]? = some (.ownq (some p) ds')) (k : ∀ v H', RetB b p ds' s v H' → D.rt v H') : Nx b (tRet te D) T τ Γ := fun σ H hs => h T τ σ H hs _ fun v H' h' => by
  refine k v H' ?_
  obtain ⟨C, ps, qs, c, h1, h2⟩ := h'
  have nd := List.nodup_append.mp c.nd
  obtain ⟨p1, vs1, g1, g2, g3, g4, _⟩ := h2.own_at e nd.2.1
  obtain ⟨p2, k1, k2, k3⟩ := h2.own_z e
  have e2 := k3 p rfl
  subst e2
  rw [k1] at g1
  cases g1
  have main : ∀ {rs ps' : List Addr}, Has b.K C H' [s] [some v] rs → ps = rs ++ ps' → RetB b p ds' s v H' := by
    rintro rs ps' r rfl
    refine ⟨C, rs, vs1, c.bc, c.ch, c.h0, c.fr, (c.ow p (List.mem_append_right _ k2)).1, r, fun q hq => ⟨(c.ow q (List.mem_append_left _ (List.mem_append_left _ hq))).1, (c.ow q (List.mem_append_left _ (List.mem_append_left _ hq))).2, nd.2.2 q (List.mem_append_left _ hq) p k2⟩, g3, g4⟩
  cases h1 with
  | no h1 => exact main (.no .nil) rfl
  | dat q h1 => exact main (.dat q .nil) rfl
  | own y q q2 h1 => exact main (.own y q q2 .nil) rfl
end
def Γ0M (n : Nat) (p : Addr) (ds args : List PyData) : List Sl := .ownq (some p) ds :: (args.map Sl.dat ++ List.replicate (n - (args.length + 1)) Sl.no)
theorem fn_okM {P : Program} {w : World} {K : PySem.W.Frag} {mg : Str → Option Value} {base : Heap} {x qual : Str} {st : Stmt} {f : Addr} {fd : FuncData} {N ps : List Str} {k : Nat} {gr : List PyData → List PyData → List PyData → Sl → Prop} {tr : PySem.W.Frag → TS}
    (F : Fun K x qual st f fd) (S : FnScope N ps (defScope st)) (len : ∀ ds args ds' s, gr ds args ds' s → args.length + 1 = ps.length)
    (pst : ∀ (cdv : Value) (A : Around) (outer : List Env) (s : Shared) (H : Hp) (E : XK), Room k (A.deeper (envOfC qual (defScope st) s.heap.objs.size f cdv)) → PSs (cxOf CX0 P w K mg base N qual (defScope st) f cdv A outer s H E).nox (defBody st) (tr K))
    (rd : ∀ (b : Bs) (D : Ends) (p : Addr) ds args ds' s, gr ds args ds' s → (∀ v H', RetB b p ds' s v H' → D.rt v H') → Nx b (tr b.K D) [] [] (Γ0M N.length p ds args)) :
    FnOk P w K mg base CX0 (k + 1) f fd ps (spM K gr) := by
  refine F.ok S (fun vs H Q E h => ?_) (fun cdv A outer s H vs Q E hr h => ?_)
  · obtain ⟨C, p, vs0, rest, ds, args, ds', s, rfl, _, _, _, _, da, g, _⟩ := h
    rw [List.length_cons, dpa_len da]; exact len ds args ds' s g
  · obtain ⟨C, p, vs0, rest, ds, args, ds', sl, rfl, hp, hC, ex, dv, da, g, q⟩ := h
    refine ⟨_, pst cdv A outer s H E hr, ?_⟩
    let Hd : Hp := fun a => if a = p then none else H a
    have hd : Ex Hd H := fun a o y => by
      show H a = some o
      have y2 : (if a = p then none else H a) = some o := y
      by_cases hap : a = p
      · rw [if_pos hap] at y2; cases y2
      · rw [if_neg hap] at y2; exact y2
    have hdp : Hd p = none := if_pos rfl
    refine rd ⟨K, Hd, C⟩ _ p ds args ds' sl g (fun v H' r => q v H' ?_) _ _ ⟨C, [], [p], ⟨Ex.refl C, ex, hd, fun _ _ y => y, fun a ha => ?_, by simp⟩, .nil, ?_⟩
    · obtain ⟨C', rs, vs', a1, a2, a3, a4, a5, a6, a7, a8, a9⟩ := r
      refine ⟨C', rs, vs', a1, a2, fun a o hap y => a3 a o ?_, fun a y1 y2 => ?_, a6, fun c hc => ⟨(a7 c hc).1, ?_⟩, a8, a9⟩
      · show (if a = p then none else H a) = some o
        rw [if_neg hap]; exact y
      · by_cases hap : a = p
        · rw [hap]; exact a5
        · exact a4 a (by show (if a = p then none else H a) ≠ none; rw [if_neg hap]; exact y1) y2
      · have h0 : (if c = p then none else H c) = none := (a7 c hc).2.1
        rw [if_neg (a7 c hc).2.2] at h0; exact h0
    · rcases List.mem_singleton.mp ha with rfl
      exact ⟨hC, hdp⟩
    · have := has_dats (K := K) (C := C) (H := H) (has_no (N.length - (args.length + 1))) da
      unfold L2.start Γ0M
      rw [List.length_cons, dpa_len da]
      exact .own (fun r y => (Option.some.inj y).symm ▸ rfl) hp dv this
end G
namespace G
open PySem PySem.Spec PyProof.Rows L2
open Evl (Ex ex_rd ex_l ex_t rMax2)
/-! ### a set made of a list of ints -/
section
variable {P : Program} {w : World} {A : Around} {E : Value → Shared → Prop} {s : Shared}
abbrev nakedSet (w : World) : Obj := { cls := .type "set", dict := none, data := .set #[] 0 (.fresh 0 0 (!w.params.followText "set-order")) }
theorem g_set_list {l : Addr} {items : Array Value} (ns : List Int) {Q : Value → Shared → Prop} (calm : A.handled = none) (isl : s.heap.IsList l items) (allI : IntsAre items.toList ns) (room : ns.length + 1 < scanBound)
    (go : ∀ (g : Heap) (k c : Nat), SetR w g s.heap.objs.size (fun j => decide (j ∈ ns)) c → c ≤ ns.length → (∀ b o, s.heap.get? b = some o → g.get? b = some o) → Q (.ref s.heap.objs.size) { s with heap := g, toks := k }) :
    wpAny (model P w) A (call (.type "set") [.ref l]) Q E s := by
  have size : items.size = ns.length := by
    have z := IntsAre.length allI
    rwa [Array.length_toList] at z
  obtain ⟨c, tl, mro⟩ := F.called_set.mro
  have made := F.called_set.made
  have sub := F.called_set.sub
  refine wpAny_call (codeAny_of_tree ?_)
  show wpAny _ _ (callAny (.type "set") _) _ _ _
  refine wpAny_pure ⟨Code.quiet_builtin _ (by decide +kernel), codeAny_builtin F.entry_type_call ?_⟩
  rw [Around.under_plain (weight_type_call_type "set" [.ref l] []) rfl]
  have n1 := F.called_set.notType
  have n2 := F.called_set.canCreate
  have n3 := F.typeCall_set_1 (.ref l)
  repeat (any_goals (first | assumption | wp_step))
  refine codeAny_mono (code_set_led1 (.ref l) (E := E) (Q₁ := fun obj s₁ => obj = .ref s.heap.objs.size ∧ s₁ = { s with heap := s.heap.push (nakedSet w) }) ⟨rfl, rfl⟩) fun r s₁ hr => ?_
  cases r with
  | error e => exact hr
  | ok fl =>
    cases fl with
    | ret obj =>
      obtain ⟨rfl, rfl⟩ := hr
      have at0 : (s.heap.push (nakedSet w)).get? s.heap.objs.size = some (nakedSet w) := Heap.get?_push_size _ rfl
      have ty0 : Shared.TypeIs { s with heap := s.heap.push (nakedSet w) } (.ref s.heap.objs.size) "set" := ⟨_, at0, rfl⟩
      have i1 := F.called_set.init.lookup
      have i2 := F.called_set.init.bind (.ref s.heap.objs.size)
      repeat (any_goals (first | assumption | wp_step))
      refine codeAny_mono (codeAny_call_builtin (R := wants (fun r s₂ => r = .none ∧ ∃ g k c, s₂ = { s with heap := g, toks := k } ∧ SetR w g s.heap.objs.size (fun j => decide (j ∈ ns)) c ∧ c ≤ ns.length ∧
          (∀ b o, s.heap.get? b = some o → g.get? b = some o)) E) F.called_set.init.plain F.entry_set_init (check_set_init_1 ty0 ?_)) fun r₂ s₂ hr₂ => ?_
      · obtain ⟨ol, gl, cl, nl, dl⟩ := isl
        obtain ⟨ocls, odict, odata, oslots⟩ := ol
        simp only at cl dl
        subst cl; subst dl
        have gl1 : (s.heap.push (nakedSet w)).get? l = some { cls := .type "list", dict := odict, data := .seq items nl, slots := oslots } := Heap.get?_push_of_some _ gl
        have u1 := F.sub_list_set
        have u2 := F.sub_list_frozenset
        have u3 : (Value.type "list" == Value.type "dict") = false := by decide
        have list1 : (s.heap.push (nakedSet w)).IsList l items := ⟨_, gl1, rfl, nl, rfl⟩
        unfold Builtin.«set.__init__» noKeywords Builtin.Frozenset.updateFrom
        generalize hPI : pyIter = PI
        wp_walk
        subst hPI
        refine wpAny_pyIter_list list1 ?_
        refine wpAny_bind (wpAny_runValue ?_)
        have ltl : l < s.heap.objs.size := Heap.lt_size gl
        have calm3 : A.in1.in1.in1.handled = none := by simp [calm]
        have apart : l ≠ (s.heap.push (nakedSet w)).objs.size := by
          rw [Heap.size_push]; exact Nat.ne_of_lt (Nat.lt_succ_of_lt ltl)
        have outside : s.heap.objs.size ∉ [(s.heap.push (nakedSet w)).objs.size, l] := by
          rw [Heap.size_push]; simp only [List.mem_cons, List.mem_singleton, List.not_mem_nil, or_false, not_or]
          exact ⟨Nat.ne_of_lt (Nat.lt_succ_self _), Nat.ne_of_gt ltl⟩
        have each : ∀ (i : Nat) (v : Value), items[i]? = some v → ∃ k t, ns[i]? = some k ∧ v = .int k t := fun i v hv => by
          have lt : i < ns.length := by rw [← size]; exact (Array.getElem?_eq_some_iff.mp hv).1
          obtain ⟨t, e⟩ := PyProof.Rows.IntsAre.int_at allI i v (by rw [Array.getElem?_toList]; exact hv)
          refine ⟨ns[i], t, List.getElem?_eq_getElem lt, ?_⟩
          rw [e, List.getD_eq_getElem?_getD, List.getElem?_eq_getElem lt] <;> rfl
        refine set_update_ints ((Walks.list calm3 _ l apart items).toS) s.heap.objs.size
          outside ns size room each (items.size - 0) 0 _ (by omega) (Nat.zero_le _)
          ⟨⟨_, Heap.get?_push_size _ rfl, rfl, rfl⟩, (list1.push _)⟩ ?first ?fin
        case first =>
          have g1 : ((s.heap.push (nakedSet w)).push { cls := .type "list_iterator", data := .fields #[.ref l, .int 0 0] }).get? s.heap.objs.size = some (nakedSet w) := Heap.get?_push_of_some _ at0
          exact ⟨0, Nat.le_refl 0, setR_new_at g1⟩
        case fin =>
          intro s' c' moved le' set'
          obtain ⟨g, g2, d2, k2, o2⟩ := s'
          obtain rfl : g2 = s.gens := moved.gens
          obtain rfl : d2 = s.drawn := moved.drawn
          obtain rfl : o2 = s.os := moved.os
          show wpAny _ _ _ _ _ _
          refine wpAny_pure ?_
          show wpAny _ _ (ret Value.none) _ _ _
          rw [size] at le'
          refine wpAny_pure ⟨rfl, g, k2, c', rfl, set', le', fun b o e => ?_⟩
          have b0 : b < s.heap.objs.size := Heap.lt_size e
          have b2 : b ≠ (s.heap.push (nakedSet w)).objs.size := by
            rw [Heap.size_push]; exact Nat.ne_of_lt (Nat.lt_succ_of_lt b0)
          exact moved.heap b o (by simp only [List.mem_cons, List.mem_singleton, List.not_mem_nil, or_false, not_or]; exact ⟨Nat.ne_of_lt b0, b2⟩) (Heap.get?_push_of_some _ (Heap.get?_push_of_some _ e))
      · cases r₂ with
        | error e => exact hr₂
        | ok fl₂ =>
          cases fl₂ with
          | ret r =>
            obtain ⟨rfl, g, k, c', rfl, set', le', old'⟩ := hr₂
            repeat (any_goals (first | assumption | wp_step))
            exact go _ _ _ set' le' old'
          | _ => exact hr₂.elim
    | _ => exact hr.elim
end
end G
namespace G
open PySem PySem.Spec PyProof.Rows L2
open Evl (Ex ex_rd ex_l ex_t rMax2)
/-! ### sorted(set(xs)) -/
def rSetLi (w : World) (K : PySem.W.Frag) : List V → Hp → VK → Prop := fun vs H Q => ∃ (a : Addr) (ns : List Int), vs = [V.ref a] ∧ SqL K H a (ns.map V.int) ∧ ns.length + 1 < scanBound ∧ ∀ (p : Addr) (n : Nat), n ≤ ns.length → H p = none → Q (.ref p) (upd H p (SetO w p (fun j => decide (j ∈ ns)) n))
def tSoSet (K : PySem.W.Frag) (t : TA) : TE := fun σ H Q => ∀ w : World, tCB (rSortedSet w) (tCons (tCB (rSetLi w K) t) tNil) σ H Q
section
variable {X : Cx}
theorem cr_setLi (hc : X.calm = true) : CallR X (.type "set") (rSetLi X.w X.K) := by
  intro pins s σ H vs us Q I r h
  obtain ⟨a, ns, rfl, hs, room, q⟩ := h
  obtain ⟨its, rv, hl, _⟩ := I.list hs
  rw [Vals.ref1 r]
  refine g_set_list ns (I.ok.hd hc) hl.isList rv.ints room fun g k c st le old => ?_
  have hp := I.hok.fresh (Nat.le_refl _)
  exact ⟨.ref _, upd H s.heap.objs.size (SetO X.w s.heap.objs.size (fun j => decide (j ∈ ns)) c), I.laid (t' := k) old (Nat.le_refl _) (setO_new st), rfl, q _ c le hp⟩
theorem pe_soSet {p p2 pos pos2 : Pos} {e : Expr} {t : TA} (hc : X.calm = true) (g1 : Gl X "sorted") (m1 : X.mg "sorted" = none) (g2 : Gl X "set") (m2 : X.mg "set" = none) (ha : PA X [e] t)
    (h1 : starEach [e] X.env = (false, eval e X.env) :: starEach [] X.env := by rfl) (h2 : starEach [Expr.Call (.Name "set" p2) [e] [] pos2] X.env = (false, eval (Expr.Call (.Name "set" p2) [e] [] pos2) X.env) :: starEach [] X.env := by rfl)
    (h3 : (backTo pos2 (starEach [] X.env)).any (·.1) = false := by rfl) (h4 : (backTo pos (starEach [] X.env)).any (·.1) = false := by rfl) :
    PE X (.Call (.Name "sorted" p) [.Call (.Name "set" p2) [e] [] pos2] [] pos) (tSoSet X.K t) := by
  have A := pe_callTy (p := p2) (cr_setLi hc) g2 m2 (by decide +kernel) ha (he := h1) (hpl := h3)
  have B := pe_callB (p := p) (cr_sortedSet hc) g1 m1 (by decide +kernel) (pa_cons A pa_nil h2) (he := h2) (hpl := h4)
  exact ⟨fun pins s σ H Q I h => B.run pins s σ H Q I (h X.w)⟩
end
theorem Dp.ints_back {K : PySem.W.Frag} {C : Hp} : ∀ {vs : List V} {ns : List Int}, DpAll K C vs (ns.map .int) → vs = ns.map V.int
  | [], [], .nil => rfl
  | v :: vs, n :: ns, .cons r t => by
    cases r
    rw [Dp.ints_back t]; rfl
/-- the ascending list of different numbers is one -/
theorem asc_uniq : ∀ {xs ys : List Int}, xs.Pairwise (· < ·) → ys.Pairwise (· < ·) → (∀ k, k ∈ xs ↔ k ∈ ys) → xs = ys
  | [], [], _, _, _ => rfl
  | [], y :: ys, _, _, h => absurd ((h y).mpr List.mem_cons_self) (by simp)
  | x :: xs, [], _, _, h => absurd ((h x).mp List.mem_cons_self) (by simp)
  | x :: xs, y :: ys, hx, hy, h => by
    have ax := List.pairwise_cons.mp hx
    have ay := List.pairwise_cons.mp hy
    have e : x = y := by
      rcases List.mem_cons.mp ((h x).mp List.mem_cons_self) with e | m
      · exact e
      · rcases List.mem_cons.mp ((h y).mpr List.mem_cons_self) with e | m'
        · exact e.symm
        · have p1 := ay.1 x m
          have p2 := ax.1 y m'
          omega
    subst e
    rw [asc_uniq ax.2 ay.2 fun k => ?_]
    constructor
    · intro m
      rcases List.mem_cons.mp ((h k).mp (List.mem_cons_of_mem _ m)) with e | m'
      · subst e; exact absurd (ax.1 k m) (by omega)
      · exact m'
    · intro m
      rcases List.mem_cons.mp ((h k).mpr (List.mem_cons_of_mem _ m)) with e | m'
      · subst e; exact absurd (ay.1 k m) (by omega)
      · exact m'
theorem s_soSet {b : Bs} {Γ Γ1 : List Sl} {t : TA} {ns ms : List Int} (h : EvA b t Γ Γ1 [li ns]) (hz : ns.length < 64) (hm : ms.Pairwise (· < ·)) (he : ∀ k, k ∈ ms ↔ k ∈ ns) : EvS b (tSoSet b.K t) Γ Γ1 (.own (ms.map .int)) := fun T τ σ H hs Q q w =>
  h T τ σ H hs _ fun vs H1 C hc dv => by
    obtain ⟨v, rfl, dx⟩ := dpa1 dv
    cases dx with
    | lst hq ha =>
      have e := Dp.ints_back ha
      subst e
      refine ⟨_, ns, rfl, ex_l hc.ch hq, by simp only [scanBound]; omega, fun p n le hp => ?_⟩
      show rSortedSet w [V.ref p] _ Q
      refine ⟨p, _, n, rfl, upd_same, by omega, fun ks q2 h1 h2 _ h3 => ?_⟩
      have e2 : ks = ms := asc_uniq h1 hm fun k => by rw [h2 k, he k]; simp
      subst e2
      have hq1 : H1 q2 = none := by
        by_cases z : q2 = p
        · rw [z]; exact hp
        · rwa [upd_ne z] at h3
      have dpa : ∀ C', DpAll b.K C' (ks.map V.int) (ks.map PyData.int) := fun C' => dpa_ints
      have x12 := (Ex.new (o := SetO w p (fun j => decide (j ∈ ns)) n) hp).trans (Ex.new (o := .lst (ks.map V.int)) h3)
      have r : Ret b.K H1 C (.own (ks.map .int)) (.ref q2) _ := ⟨C, [q2], Ex.refl C, hc.ch.trans x12, x12, fun _ _ z => z, .own (fun _ q => nomatch q) upd_same (dpa C) .nil, fun q' hq' => by
        rcases List.mem_singleton.mp hq' with rfl
        exact ⟨ex_none hc.ch hq1, hq1⟩⟩
      exact q _ _ (hc.step r)
/-! ### list + list -/
def rCatS (K : PySem.W.Frag) : R2 := fun x y H Q => ∃ l b xs zs, x = .ref l ∧ y = .ref b ∧ SqL K H l xs ∧ SqL K H b zs ∧ xs.length + zs.length ≤ 100000 ∧ ∀ p, H p = none → Q (.ref p) (upd H p (.lst (xs ++ zs)))
theorem op_catS {X : Cx} : OpR X (binaryOp .Add) (rCatS X.K) := by
  intro pins s σ H x y v u Q I rx ry h
  obtain ⟨l, b, xs, zs, rfl, rfl, h1, h2, hz, q⟩ := h
  obtain ⟨its, r1, p1, _⟩ := I.list h1
  obtain ⟨its2, r2, p2, _⟩ := I.list h2
  have l1 := r1.length
  have l2 := r2.length
  have z0 : (100000 : Nat) ≤ sizeLine := by rw [sizeLine_eq]; decide
  cases rx
  cases ry
  obtain ⟨⟨cls, dd, data, sl⟩, ho, hc, n, hd⟩ := p1.isList
  obtain ⟨⟨cls2, dd2, data2, sl2⟩, ho2, hc2, n2, hd2⟩ := p2.isList
  simp only at hc hd hc2 hd2
  subst hc hd hc2 hd2
  have e : its.toArray ++ its2.toArray = (its ++ its2).toArray := by simp
  refine concat_meets ⟨_, ho, rfl⟩ ⟨_, ho2, rfl⟩ noFill_list_add seq_list_add PySem.F.slot_list_add PySem.F.entry_list_add (PySem.F.args_list_add_2 _ _) (list_addW l b its.toArray its2.toArray n n2 dd dd2 sl sl2 (by rw [List.size_toArray, List.size_toArray]; omega)) ⟨ho, ho2, ?_⟩
  rw [e]
  exact ⟨.ref _, _, I.lnew (t' := s.toks) (r1.append r2) (by rw [List.length_append]; omega), rfl, q _ I.fresh⟩
theorem rd_catS {K : PySem.W.Frag} {ds es : List PyData} (hz : ds.length + es.length ≤ 100000) : RD K (rCatS K) (.list ds) (.list es) (.own (ds ++ es)) := fun C H x y ex dx dy Q q => by
  cases dx with
  | lst hq ha =>
    cases dy with
    | lst hq2 ha2 =>
      have l1 := dpa_len ha
      have l2 := dpa_len ha2
      exact ⟨_, _, _, _, rfl, rfl, ex_l ex hq, ex_l ex hq2, by omega, fun p hp => q _ _ (.lst ex (dpa_app ha ha2) hp)⟩
theorem s_repO {b : Bs} {Γ Γ1 Γ2 : List Sl} {ta tb : TE} {z : Option Addr} {ds : List PyData} {k : Int} (ha : EvS b ta Γ Γ1 (.ownq z ds)) (hb : EvS b tb Γ1 Γ2 (.dat (.int k))) (h0 : 0 ≤ k) (h1 : k ≤ 1000) (hl : ds.length ≤ 10) : EvS b (tOp rRep ta tb) Γ Γ2 (.own (List.replicate k.toNat ds).flatten) := fun T τ σ H hs Q q =>
  ha T τ σ H hs _ fun x H1 h1' => hb _ _ σ H1 h1' _ fun y H2 h2' => by
    obtain ⟨C, dy, h3⟩ := h2'.pop
    cases dy
    obtain ⟨p, us, f1, f2, f3, f4⟩ := h3.own_top
    cases f1
    have l1 := dpa_len f3
    have z0 : (100000 : Nat) ≤ sizeLine := by rw [sizeLine_eq]; decide
    have hk : k.toNat ≤ 1000 := by omega
    have hm : us.length * k.toNat ≤ 10 * 1000 := Nat.mul_le_mul (by omega) hk
    refine ⟨_, _, _, rfl, rfl, f2, by omega, by omega, by omega, fun p' hp => ?_⟩
    refine q _ _ ((HsC.drop h3).step (.lst h3.ch ?_ hp))
    generalize k.toNat = n
    induction n with
    | zero => exact .nil
    | succ n ih =>
      rw [List.replicate_succ, List.replicate_succ, List.flatten_cons, List.flatten_cons]
      exact dpa_app f3 ih
end G
namespace G
open PySem PySem.Spec PyProof.Rows L2
open Evl (Ex ex_rd ex_l ex_t rMax2)
/-! ### a comprehension over an own list -/
theorem s_lcO {b : Bs} {Γ : List Sl} {kk : Nat} {z0 : Option Addr} {g : TG} {tt : TT} {te : TE} {vs : List Nat} {its : List PyData} (hk0 : Γ[kk]? = some (.ownq z0 its)) (hkv : kk ∉ vs) (G G' G'' : Nat → List Sl) (c : Nat → Bool) (e : Nat → PyData) (h0 : G 0 = wipeG Γ vs) (hG : ∀ i, i ≤ its.length → (G i)[kk]? = some (.ownq z0 its))
    (hg : ∀ i di, its[i]? = some di → EvGv b g di vs (G i) (G' i)) (ht : ∀ i di, its[i]? = some di → EvT b tt (G' i) (G' i) (c i)) (he : ∀ i di, its[i]? = some di → c i = true → EvS b te (G' i) (G'' i) (.dat (e i)))
    (hs : ∀ i, i < its.length → wipeG (if c i then G'' i else G' i) vs = wipeG (G (i + 1)) vs ∧ wipeG (G (i + 1)) vs = G (i + 1)) (hz : its.length ≤ 100000) :
    EvS b (tLc (iList b.K (tVar kk)) g tt te vs) Γ (G its.length) (.own (((List.range its.length).filter c).map e)) := fun T τ σ H hs0 Q q => by
  obtain ⟨C, h1⟩ := hs0
  obtain ⟨p, xs0, ep, hp0, hl0, _⟩ := h1.own_at hk0
  refine ⟨.ref p, ep, p, rfl, ⟨xs0, .inl (.inl hp0)⟩, ?_⟩
  intro D hD
  let acc : Nat → List PyData := fun i => ((List.range i).filter c).map e
  have hw : wipeG (G 0) vs = G 0 := by
    rw [h0]
    have aux : ∀ (Γ : List Sl) (us : List Nat) (k : Nat), k ∈ us → (wipeG Γ us).set k .no = wipeG Γ us := fun Γ us k hk => by
      refine List.ext_getElem? fun j => ?_
      rw [List.getElem?_set]
      by_cases ej : k = j
      · subst ej
        rw [if_pos rfl]
        rcases wipeG_get Γ us k hk with z | z
        · have := (List.getElem?_eq_some_iff.mp z).1
          rw [if_pos this, z]
        · have := List.getElem?_eq_none_iff.mp z
          rw [if_neg (by omega), z]
      · rw [if_neg ej]
    have aux2 : ∀ (ws us : List Nat) (Γ : List Sl), (∀ k ∈ ws, k ∈ us) → wipeG (wipeG Γ us) ws = wipeG Γ us := by
      intro ws
      induction ws with
      | nil => intro us Γ _; rfl
      | cons w ws ih =>
        intro us Γ hk
        show (wipeG (wipeG Γ us) ws).set w .no = _
        rw [ih us Γ fun k z => hk k (List.mem_cons_of_mem _ z)]
        exact aux Γ us w (hk w List.mem_cons_self)
    exact aux2 vs vs Γ fun _ z => z
  have hwi : ∀ i, i ≤ its.length → wipeG (G i) vs = G i := fun i hi => by
    cases i with
    | zero => exact hw
    | succ i => exact (hs i (by omega)).2
  have start : Hs b (.own [] :: T) (some (.ref D) :: τ) (G 0) (wipe σ vs) (upd H D (.lst [])) := by
    rw [h0]
    exact hs_wipe (h1.step (Ret.lst h1.ch .nil hD)) vs
  have hwk : (wipe σ vs)[kk]? = some (some (.ref p)) := by rw [wipe_get, if_neg hkv]; exact ep
  refine ⟨fun i m H' => i ≤ its.length ∧ m = its.length - i ∧ Hs b (.own (acc i) :: T) (some (.ref D) :: τ) (G i) (wipe σ vs) H', ⟨_, Nat.zero_le _, rfl, start⟩, ?_⟩
  rintro i m H' ⟨hi, rfl, C', h3⟩
  obtain ⟨p', xs, e', hp', ha', _⟩ := h3.own_at (hG i hi)
  rw [hwk] at e'
  cases e'
  have hlx := dpa_len ha'
  by_cases hlt : i < its.length
  · have hdi : its[i]? = some its[i] := by simp [hlt]
    obtain ⟨yy, y1, y2⟩ := dpa_get ha' hdi
    have g2 : ∀ x H2, (Itl b.K p).yld i H' x H2 → Ret b.K H' C' (.dat its[i]) x H2 := fun x H2 z => by
      obtain ⟨rfl, z⟩ := z
      have := (z _ (.inl (.inl hp'))).symm.trans y1
      cases this
      exact .same h3.ch y2
    refine .inr ⟨⟨_, yy, .inl (.inl hp'), y1⟩, fun H2 => Hs b (.own (acc (i + 1)) :: T) (some (.ref D) :: τ) (G (i + 1)) (wipe σ vs) H2, fun H2 n => ⟨its.length - (i + 1), by omega, hlt, rfl, n⟩, fun x H2 y => ?_⟩
    refine hg i its[i] hdi _ _ _ _ _ (h3.step (g2 x H2 y)) _ fun σ2 h5 hw2 => ⟨by rw [hw2, wipe_wipe], ?_⟩
    refine ht i its[i] hdi _ _ σ2 H2 h5 _ fun H3 h6 => ?_
    have hsi := hs i hlt
    cases hc : c i with
    | true =>
      rw [hc] at hsi
      refine iteT (he i its[i] hdi hc _ _ σ2 H3 h6 _ fun y H4 h7 => ?_)
      obtain ⟨C4, dy, h8⟩ := h7.pop
      obtain ⟨p, us, f1, f2, f3, f4⟩ := h8.own_top
      cases f1
      refine ⟨us, f2, ?_, ?_⟩
      · rw [dpa_len f3]
        refine Nat.lt_of_le_of_lt (?_ : _ ≤ 100000) (by decide)
        show (((List.range i).filter c).map e).length ≤ 100000
        rw [List.length_map]
        have := List.length_filter_le c (List.range i)
        rw [List.length_range] at this
        omega
      · have ea : acc (i + 1) = acc i ++ [e i] := by
          show ((List.range (i + 1)).filter c).map e = ((List.range i).filter c).map e ++ [e i]
          rw [List.range_succ, List.filter_append, List.map_append, List.filter_cons, if_pos hc]; rfl
        rw [ea]
        have h10 := hs_wipe ⟨C4, f4 _ _ (dpa_app f3 (.cons dy .nil))⟩ vs
        rw [hw2, wipe_wipe] at h10
        have e2 : wipeG (G'' i) vs = G (i + 1) := by simpa using hsi.1.trans hsi.2
        rw [e2] at h10
        exact h10
    | false =>
      rw [hc] at hsi
      refine iteF ?_
      have ea : acc (i + 1) = acc i := by
        show ((List.range (i + 1)).filter c).map e = ((List.range i).filter c).map e
        rw [List.range_succ, List.filter_append, List.map_append, List.filter_cons, if_neg (by rw [hc]; decide)]; simp
      have h10 := hs_wipe h6 vs
      rw [hw2, wipe_wipe] at h10
      have e2 : wipeG (G' i) vs = G (i + 1) := by simpa using hsi.1.trans hsi.2
      rw [e2] at h10
      show Hs b (.own (acc (i + 1)) :: T) _ (G (i + 1)) (wipe σ vs) H3
      rw [ea]
      exact h10
  · have e1 : i = its.length := by omega
    subst e1
    refine .inl ⟨⟨_, .inl (.inl hp'), by omega⟩, q _ _ ?_⟩
    have := hs_unwipe (Γ := G its.length) (σ := σ) (vs := vs) (T := .own (acc its.length) :: T) (τ := some (.ref D) :: τ) (b := b) (H := H') ⟨C', by rw [hwi _ (Nat.le_refl _)]; exact h3⟩
    rw [hwi _ (Nat.le_refl _)] at this
    exact this
theorem s_filtO {b : Bs} {Γ : List Sl} {α : Type} {kk : Nat} {z0 : Option Addr} {g : TG} {tt : TT} {te : TE} {vs : List Nat} {ks : List α} {φ : α → PyData} (hk0 : Γ[kk]? = some (.ownq z0 (ks.map φ))) (hkv : kk ∉ vs) (hkw : (wipeG Γ vs)[kk]? = some (.ownq z0 (ks.map φ))) (G' : α → List Sl) (c : α → Bool) (f : α → PyData)
    (hg : ∀ k ∈ ks, EvGv b g (φ k) vs (wipeG Γ vs) (G' k)) (ht : ∀ k ∈ ks, EvT b tt (G' k) (G' k) (c k)) (he : ∀ k ∈ ks, c k = true → EvS b te (G' k) (G' k) (.dat (f k))) (hs : ∀ k ∈ ks, wipeG (G' k) vs = wipeG (wipeG Γ vs) vs) (hw : wipeG (wipeG Γ vs) vs = wipeG Γ vs) (hz : ks.length ≤ 100000) :
    EvS b (tLc (iList b.K (tVar kk)) g tt te vs) Γ (wipeG Γ vs) (.own ((ks.filter c).map f)) := by
  cases ks with
  | nil =>
    have := s_lcO (b := b) (tt := tt) (te := te) (g := g) (vs := vs) hk0 hkv (fun _ => wipeG Γ vs) (fun _ => []) (fun _ => []) (fun _ => true) (fun _ => .none) rfl (fun _ _ => hkw) (fun i di e => by simp at e) (fun i di e => by simp at e) (fun i di e => by simp at e) (fun i hi => by simp at hi) (by simp)
    simpa using this
  | cons k0 kr =>
    have hget : ∀ i di, ((k0 :: kr).map φ)[i]? = some di → ∃ k, (k0 :: kr)[i]? = some k ∧ φ k = di := fun i di e => by
      rw [List.getElem?_map] at e
      obtain ⟨k, hk, r⟩ := Option.map_eq_some_iff.mp e
      exact ⟨k, hk, r⟩
    have hD : ∀ i k, (k0 :: kr)[i]? = some k → (k0 :: kr).getD i k0 = k := fun i k e => by rw [List.getD_eq_getElem?_getD, e]; rfl
    have := s_lcO (b := b) (tt := tt) (te := te) (g := g) (vs := vs) hk0 hkv (fun _ => wipeG Γ vs) (fun i => G' ((k0 :: kr).getD i k0)) (fun i => G' ((k0 :: kr).getD i k0)) (fun i => c ((k0 :: kr).getD i k0)) (fun i => f ((k0 :: kr).getD i k0)) rfl (fun _ _ => hkw)
      (fun i di e => by obtain ⟨k, hk, rfl⟩ := hget i di e; rw [hD i k hk]; exact hg k (List.mem_of_getElem? hk))
      (fun i di e => by obtain ⟨k, hk, rfl⟩ := hget i di e; rw [hD i k hk]; exact ht k (List.mem_of_getElem? hk))
      (fun i di e hc => by obtain ⟨k, hk, rfl⟩ := hget i di e; rw [hD i k hk] at hc ⊢; exact he k (List.mem_of_getElem? hk) hc)
      (fun i hi => by
        have hi' : i < (k0 :: kr).length := by simpa using hi
        have hk : (k0 :: kr)[i]? = some (k0 :: kr)[i] := by simp [hi']
        refine ⟨?_, hw⟩
        rw [hD i _ hk]
        simp only [ite_self]
        exact hs _ (List.getElem_mem hi')) (by simpa using hz)
    refine s_is this ?_
    congr 1
    rw [List.length_map]
    exact filt_getD (k0 :: kr) k0 c f
end G
namespace M
open PySem PySem.Spec PyProof.Rows L2
open Evl (Ex ex_rd ex_l ex_t rMax2)
open G (dpx dpax dpa_len dpa_get dpa_app dpa_set ex_none wipe_get wipe_eq wipe_wipe)
/-! ### values of the model -/
inductive MV where
  | d (p : PyData)
  | ref (n : Nat)
  | tup (xs : List MV)
inductive Ob where
  | lst (xs : List MV)
  | dct (kvs : List (Key × MV))
  | dctT (kvs : List (List Key × MV))
  /-- the table of the code objects of a def's lambdas, all of the name q -/
  | tab (a : Addr) (q : Str)
  /-- a dict of which only the values are told, in their order -/
  | dv (xs : List MV)
  /-- a dict while a loop walks it -/
  | dctF (kvs : List (Key × MV))
  /-- an instance of the class at C, its attributes -/
  | ins (C : Addr) (fs : List (Str × MV))
def dvP (a : Addr) (vs : List V) : Heap → Prop := fun h => (a == sysModules) = false ∧ vs.length ≤ sizeLine ∧ ∃ o es ep, h.get? a = some o ∧ o.ExactDict ∧ o.data = .dict es ep ∧ Vals vs (es.toList.map (·.val))
abbrev MH := List Ob
abbrev Env := List (Option MV)
structure Wd where
  ι : List Addr
  C : Hp
  H : Hp
mutual
inductive Rep (K : PySem.W.Frag) (ι : List Addr) (C : Hp) : V → MV → Prop
  | d {v : V} {p : PyData} : Dp K C v p → Rep K ι C v (.d p)
  | ref {n : Nat} {a : Addr} : ι[n]? = some a → Rep K ι C (.ref a) (.ref n)
  | tup {a : Addr} {vs : List V} {xs : List MV} : C a = some (.tup vs) → RepA K ι C vs xs → Rep K ι C (.ref a) (.tup xs)
inductive RepA (K : PySem.W.Frag) (ι : List Addr) (C : Hp) : List V → List MV → Prop
  | nil : RepA K ι C [] []
  | cons {v : V} {x : MV} {vs : List V} {xs : List MV} : Rep K ι C v x → RepA K ι C vs xs → RepA K ι C (v :: vs) (x :: xs)
end
inductive ObRep (K : PySem.W.Frag) (ι : List Addr) (C : Hp) : Addr → HO → Ob → Prop
  | lst {a : Addr} {vs : List V} {xs : List MV} : RepA K ι C vs xs → ObRep K ι C a (.lst vs) (.lst xs)
  | dct {a : Addr} {kvs : List (Key × V)} {kws : List (Key × MV)} : kvs.map (·.1) = kws.map (·.1) → RepA K ι C (kvs.map (·.2)) (kws.map (·.2)) → ObRep K ι C a (.dK kvs) (.dct kws)
  | dctT {a : Addr} {kvs : List (List Key × V)} {kws : List (List Key × MV)} : kvs.map (·.1) = kws.map (·.1) → RepA K ι C (kvs.map (·.2)) (kws.map (·.2)) → ObRep K ι C a (.dT kvs) (.dctT kws)
  | tab {a : Addr} {ps : Array Value} {q : Str} : TriplesOk ps.toList → (∀ (pos : Pos) (cv : Value), codeAmong pos ps.toList = some cv → ∃ c, cv = .ref c ∧ C c = some (LamX.CodeO c q)) → ObRep K ι C a (.tbl ps) (.tab a q)
  | dv {a : Addr} {vs : List V} {xs : List MV} : RepA K ι C vs xs → ObRep K ι C a (.ext (dvP a vs)) (.dv xs)
  | dctF {a : Addr} {o : Obj} {kvs : List (Key × V)} {kws : List (Key × MV)} : kvs.map (·.1) = kws.map (·.1) → RepA K ι C (kvs.map (·.2)) (kws.map (·.2)) → ObRep K ι C a (.frz o (.dK kvs)) (.dctF kws)
  | ins {a D dx : Addr} {fs : List (Str × V)} {gs : List (Str × MV)} : fs.map (·.1) = gs.map (·.1) → RepA K ι C (fs.map (·.2)) (gs.map (·.2)) → ObRep K ι C a (.ins D dx fs) (.ins D gs)
section
variable {K : PySem.W.Frag} {ι ι' : List Addr} {C C' : Hp}
theorem pre_get {n : Nat} {a : Addr} (p : ι <+: ι') (h : ι[n]? = some a) : ι'[n]? = some a := by
  obtain ⟨t, rfl⟩ := p
  rw [List.getElem?_append_left]
  · exact h
  · exact (List.getElem?_eq_some_iff.mp h).1
mutual
theorem Rep.mono (p : ι <+: ι') (e : Ex C C') : ∀ {v : V} {x : MV}, Rep K ι C v x → Rep K ι' C' v x
  | _, _, .d h => .d (dpx e h)
  | _, _, .ref h => .ref (pre_get p h)
  | _, _, .tup h a => .tup (e _ _ h) (RepA.mono p e a)
theorem RepA.mono (p : ι <+: ι') (e : Ex C C') : ∀ {vs : List V} {xs : List MV}, RepA K ι C vs xs → RepA K ι' C' vs xs
  | _, _, .nil => .nil
  | _, _, .cons h t => .cons (Rep.mono p e h) (RepA.mono p e t)
end
theorem ObRep.mono (p : ι <+: ι') (e : Ex C C') {a : Addr} {o : HO} {b : Ob} (h : ObRep K ι C a o b) : ObRep K ι' C' a o b := by
  cases h with
  | lst h => exact .lst (h.mono p e)
  | dct h1 h => exact .dct h1 (h.mono p e)
  | dctT h1 h => exact .dctT h1 (h.mono p e)
  | dv h => exact .dv (h.mono p e)
  | dctF h1 h => exact .dctF h1 (h.mono p e)
  | ins h1 h => exact .ins h1 (h.mono p e)
  | tab h1 h =>
    refine .tab h1 fun pos cv z => ?_
    obtain ⟨c, e1, e2⟩ := h pos cv z
    exact ⟨c, e1, e _ _ e2⟩
theorem RepA.len : ∀ {vs : List V} {xs : List MV}, RepA K ι C vs xs → vs.length = xs.length
  | _, _, .nil => rfl
  | _, _, .cons _ t => congrArg (· + 1) (RepA.len t)
theorem RepA.get : ∀ {vs : List V} {xs : List MV} {i : Nat} {x : MV}, RepA K ι C vs xs → xs[i]? = some x → ∃ v, vs[i]? = some v ∧ Rep K ι C v x
  | _, _, _, _, .nil, e => by simp at e
  | _, _, 0, _, .cons r _, e => by simp at e; subst e; exact ⟨_, rfl, r⟩
  | _, _, i + 1, x, .cons _ t, e => by
    obtain ⟨u, h1, h2⟩ := RepA.get (i := i) (x := x) t (by simpa using e)
    exact ⟨u, by simpa using h1, h2⟩
theorem RepA.app : ∀ {vs ws : List V} {xs ys : List MV}, RepA K ι C vs xs → RepA K ι C ws ys → RepA K ι C (vs ++ ws) (xs ++ ys)
  | _, _, _, _, .nil, s => s
  | _, _, _, _, .cons r t, s => .cons r (RepA.app t s)
theorem RepA.setv {v : V} {x : MV} (r : Rep K ι C v x) : ∀ {vs : List V} {xs : List MV} (i : Nat), RepA K ι C vs xs → RepA K ι C (vs.set i v) (xs.set i x)
  | _, _, _, .nil => .nil
  | _, _, 0, .cons _ t => .cons r t
  | _, _, i + 1, .cons q t => .cons q (RepA.setv r i t)
theorem RepA.ofD : ∀ {vs : List V} {ds : List PyData}, DpAll K C vs ds → RepA K ι C vs (ds.map .d)
  | _, _, .nil => .nil
  | _, _, .cons r t => .cons (.d r) (RepA.ofD t)
/-- all data -/
def allD : List MV → Option (List PyData)
  | [] => some []
  | .d p :: xs => (allD xs).map (p :: ·)
  | _ :: _ => none
theorem allD_map : ∀ ds : List PyData, allD (ds.map .d) = some ds
  | [] => rfl
  | d :: ds => by show (allD (ds.map .d)).map (d :: ·) = _; rw [allD_map ds]; rfl
theorem allD_eq : ∀ {xs : List MV} {ds : List PyData}, allD xs = some ds → xs = ds.map .d
  | [], ds, h => by cases h; rfl
  | .d p :: xs, ds, h => by
    unfold allD at h
    cases e : allD xs with
    | none => rw [e] at h; cases h
    | some es => rw [e] at h; cases h; rw [allD_eq e]; rfl
  | .ref _ :: _, _, h => by cases h
  | .tup _ :: _, _, h => by cases h
theorem Rep.dat {v : V} {p : PyData} (h : Rep K ι C v (.d p)) : Dp K C v p := by cases h; assumption
theorem RepA.toD : ∀ {vs : List V} {ds : List PyData}, RepA K ι C vs (ds.map .d) → DpAll K C vs ds
  | _, [], .nil => .nil
  | _, d :: ds, .cons r t => .cons r.dat (RepA.toD t)
def mkTup (xs : List MV) : MV := match allD xs with
  | some ds => .d (.tuple ds)
  | none => .tup xs
theorem mkTup_d (ds : List PyData) : mkTup (ds.map .d) = .d (.tuple ds) := by unfold mkTup; rw [allD_map]
theorem sqt {a : Addr} {vs : List V} (h : C a = some (.tup vs)) : SqT K C a vs := .inl (.inl h)
theorem mkTup_rep {a : Addr} {vs : List V} {xs : List MV} (h : C a = some (.tup vs)) (r : RepA K ι C vs xs) : Rep K ι C (.ref a) (mkTup xs) := by
  unfold mkTup
  cases e : allD xs with
  | none => exact .tup h r
  | some ds =>
    rw [allD_eq e] at r
    exact .d (.tup (sqt h) r.toD)
end
/-! ### worlds -/
structure Rel (K : PySem.W.Frag) (w : Wd) (h : MH) : Prop where
  ch : Ex w.C w.H
  len : w.ι.length = h.length
  nd : w.ι.Nodup
  ow : ∀ a ∈ w.ι, w.C a = none
  ob : ∀ (n : Nat) (a : Addr) (b : Ob), w.ι[n]? = some a → h[n]? = some b → ∃ o, w.H a = some o ∧ ObRep K w.ι w.C a o b
structure Step (w w' : Wd) : Prop where
  pre : w.ι <+: w'.ι
  ex : Ex w.C w'.C
  fr : ∀ a o, w.H a = some o → a ∉ w.ι → w'.H a = some o
  nw : ∀ a ∈ w'.ι, a ∈ w.ι ∨ w.H a = none
  nc : ∀ a, w.H a ≠ none → w.C a = none → w'.C a = none
  kp : ∀ a, w.H a ≠ none → w'.H a ≠ none
  fz : ∀ a o u, w.H a = some (.frz o u) → w'.H a = some (.frz o u)
theorem Step.refl (w : Wd) : Step w w := ⟨List.prefix_refl _, fun _ _ h => h, fun _ _ h _ => h, fun _ h => .inl h, fun _ _ h => h, fun _ h => h, fun _ _ _ h => h⟩
theorem Step.trans {w1 w2 w3 : Wd} (s : Step w1 w2) (t : Step w2 w3) : Step w1 w3 where
  pre := s.pre.trans t.pre
  ex := s.ex.trans t.ex
  fr := fun a o h n => t.fr a o (s.fr a o h n) fun m => by
    rcases s.nw a m with z | z
    · exact n z
    · rw [h] at z; cases z
  nw := fun a m => by
    rcases t.nw a m with z | z
    · exact s.nw a z
    · right
      cases e : w1.H a with
      | none => rfl
      | some o => exact absurd z (s.kp a (by rw [e]; exact fun q => nomatch q))
  nc := fun a h n => t.nc a (s.kp a h) (s.nc a h n)
  kp := fun a h => t.kp a (s.kp a h)
  fz := fun a o u h => t.fz a o u (s.fz a o u h)
section
variable {K : PySem.W.Frag} {w w' w1 w2 : Wd} {h h1 h2 h' : MH} {v : V} {x : MV}
theorem Rep.up (s : Step w w') (r : Rep K w.ι w.C v x) : Rep K w'.ι w'.C v x := r.mono s.pre s.ex
theorem RepA.up {vs : List V} {xs : List MV} (s : Step w w') (r : RepA K w.ι w.C vs xs) : RepA K w'.ι w'.C vs xs := r.mono s.pre s.ex
/-- a new thing that is known -/
def Wd.know (w : Wd) (p : Addr) (o : HO) : Wd := ⟨w.ι, upd w.C p o, upd w.H p o⟩
theorem Rel.notin (r : Rel K w h) {p : Addr} (hp : w.H p = none) : p ∉ w.ι := fun m => by
  obtain ⟨n, hn, e⟩ := List.getElem_of_mem m
  obtain ⟨o, q, _⟩ := r.ob n p (h[n]'(by rw [← r.len]; exact hn)) (by rw [← e]; simp) (by simp)
  rw [hp] at q; cases q
theorem Rel.cnone (r : Rel K w h) {p : Addr} (hp : w.H p = none) : w.C p = none := ex_none r.ch hp
theorem know_ok (r : Rel K w h) {p : Addr} {o : HO} (hp : w.H p = none) : Step w (w.know p o) ∧ Rel K (w.know p o) h := by
  have hc := r.cnone hp
  have hn := r.notin hp
  have e1 : Ex w.C (upd w.C p o) := Ex.new hc
  refine ⟨⟨List.prefix_refl _, e1, fun a u q _ => ?_, fun a m => .inl m, fun a q c => ?_, fun a q => ?_, fun a o' u q => by
    show upd w.H p o a = _
    rw [upd_ne (fun z => by rw [z, hp] at q; cases q)]; exact q⟩, ⟨fun a u q => ?_, r.len, r.nd, fun a m => ?_, fun n a b e q => ?_⟩⟩
  · show upd w.H p o a = _
    rw [upd_ne (fun z => by rw [z, hp] at q; cases q)]; exact q
  · show upd w.C p o a = _
    rw [upd_ne (fun z => q (by rw [z]; exact hp))]; exact c
  · show upd w.H p o a ≠ none
    rw [upd_ne (fun z => q (by rw [z]; exact hp))]; exact q
  · show upd w.H p o a = _
    replace q : upd w.C p o a = some u := q
    by_cases z : a = p
    · subst z; rw [upd_same] at q ⊢; exact q
    · rw [upd_ne z] at q ⊢; exact r.ch a u q
  · show upd w.C p o a = none
    rw [upd_ne (fun z => hn (by rw [← z]; exact m))]; exact r.ow a m
  · obtain ⟨u, q1, q2⟩ := r.ob n a b e q
    refine ⟨u, ?_, q2.mono (List.prefix_refl _) e1⟩
    show upd w.H p o a = _
    rw [upd_ne (fun z => by rw [z, hp] at q1; cases q1)]; exact q1
/-- a new thing of one's own -/
def Wd.alloc (w : Wd) (p : Addr) (o : HO) : Wd := ⟨w.ι ++ [p], w.C, upd w.H p o⟩
theorem alloc_ok (r : Rel K w h) {p : Addr} {o : HO} {b : Ob} (hp : w.H p = none) (hb : ObRep K (w.ι ++ [p]) w.C p o b) : Step w (w.alloc p o) ∧ Rel K (w.alloc p o) (h ++ [b]) ∧ (w.alloc p o).ι[h.length]? = some p := by
  have hc := r.cnone hp
  have hn := r.notin hp
  have pf : w.ι <+: w.ι ++ [p] := List.prefix_append _ _
  refine ⟨⟨pf, fun _ _ q => q, fun a u q _ => ?_, fun a m => ?_, fun a _ c => c, fun a q => ?_, fun a o' u q => by
    show upd w.H p o a = _
    rw [upd_ne (fun z => by rw [z, hp] at q; cases q)]; exact q⟩, ⟨fun a u q => ?_, ?_, ?_, fun a m => ?_, fun n a b' e q => ?_⟩, ?_⟩
  · show upd w.H p o a = _
    rw [upd_ne (fun z => by rw [z, hp] at q; cases q)]; exact q
  · rcases List.mem_append.mp m with z | z
    · exact .inl z
    · rw [List.mem_singleton.mp z]; exact .inr hp
  · show upd w.H p o a ≠ none
    rw [upd_ne (fun z => q (by rw [z]; exact hp))]; exact q
  · show upd w.H p o a = _
    replace q : w.C a = some u := q
    rw [upd_ne (fun z => by rw [z, hc] at q; cases q)]; exact r.ch a u q
  · show (w.ι ++ [p]).length = _
    rw [List.length_append, List.length_append, r.len]; rfl
  · show (w.ι ++ [p]).Nodup
    refine List.nodup_append.mpr ⟨r.nd, by simp, fun a m b m' => ?_⟩
    rw [List.mem_singleton.mp m']
    exact fun z => hn (by rw [← z]; exact m)
  · rcases List.mem_append.mp m with z | z
    · exact r.ow a z
    · rw [List.mem_singleton.mp z]; exact hc
  · replace e : (w.ι ++ [p])[n]? = some a := e
    show ∃ u, upd w.H p o a = some u ∧ _
    by_cases z : n < h.length
    · rw [List.getElem?_append_left z] at q
      rw [List.getElem?_append_left (by rw [r.len]; exact z)] at e
      obtain ⟨u, q1, q2⟩ := r.ob n a b' e q
      refine ⟨u, ?_, q2.mono pf fun _ _ q => q⟩
      rw [upd_ne (fun z => by rw [z, hp] at q1; cases q1)]; exact q1
    · rw [List.getElem?_append_right (by omega)] at q
      rw [List.getElem?_append_right (by rw [r.len]; omega), r.len] at e
      have hz : n - h.length = 0 := by
        cases hn : n - h.length with
        | zero => rfl
        | succ k => rw [hn] at q; simp at q
      rw [hz] at q e
      simp at q e
      subst q e
      exact ⟨o, upd_same, hb⟩
  · show (w.ι ++ [p])[h.length]? = some p
    rw [← r.len, List.getElem?_append_right (Nat.le_refl _), Nat.sub_self]; rfl
/-- a thing of one's own is changed -/
def Wd.write (w : Wd) (a : Addr) (o : HO) : Wd := ⟨w.ι, w.C, upd w.H a o⟩
theorem write_rel (r : Rel K w h) {n : Nat} {a : Addr} {o : HO} {b : Ob} (hn : w.ι[n]? = some a) (hb : ObRep K w.ι w.C a o b) : Rel K (w.write a o) (h.set n b) := by
  have hm : a ∈ w.ι := List.mem_of_getElem? hn
  refine ⟨fun a' u q => ?_, ?_, r.nd, r.ow, fun n' a' b' e q => ?_⟩
  · show upd w.H a o a' = _
    replace q : w.C a' = some u := q
    rw [upd_ne (fun z => by rw [z, r.ow a hm] at q; cases q)]; exact r.ch a' u q
  · show w.ι.length = _
    rw [List.length_set, r.len]
  · show ∃ u, upd w.H a o a' = some u ∧ _
    by_cases z : n = n'
    · subst z
      replace e : w.ι[n]? = some a' := e
      rw [hn] at e
      cases e
      have hl := (List.getElem?_eq_some_iff.mp hn).1
      rw [List.getElem?_set_self (by rw [← r.len]; exact hl)] at q
      cases q
      exact ⟨o, upd_same, hb⟩
    · rw [List.getElem?_set_ne z] at q
      obtain ⟨u, q1, q2⟩ := r.ob n' a' b' e q
      refine ⟨u, ?_, q2⟩
      have ne : a' ≠ a := fun y => by
        subst y
        exact z ((List.getElem?_inj (List.getElem?_eq_some_iff.mp hn).1 r.nd).mp (hn.trans e.symm))
      rw [upd_ne ne]; exact q1
theorem write_ok (r : Rel K w h) {n : Nat} {a : Addr} {o : HO} {b : Ob} (hn : w.ι[n]? = some a) (hb : ObRep K w.ι w.C a o b) (nf : ∀ o' u, w.H a ≠ some (.frz o' u)) : Step w (w.write a o) ∧ Rel K (w.write a o) (h.set n b) := by
  have hm : a ∈ w.ι := List.mem_of_getElem? hn
  refine ⟨⟨List.prefix_refl _, fun _ _ q => q, fun a' u q nm => ?_, fun a m => .inl m, fun a _ c => c, fun a' q => ?_, fun a' o' u q => by
    show upd w.H a o a' = _
    rw [upd_ne (fun z => nf o' u (by rw [← z]; exact q))]; exact q⟩, write_rel r hn hb⟩
  · show upd w.H a o a' = _
    rw [upd_ne (fun z => nm (by rw [z]; exact hm))]; exact q
  · show upd w.H a o a' ≠ none
    by_cases z : a' = a
    · rw [z, upd_same]; exact fun q => nomatch q
    · rw [upd_ne z]; exact q
/-- what is seen -/
def vis (w : Wd) : Hp := fun a => if w.C a ≠ none ∨ a ∈ w.ι then w.H a else none
theorem vis_ex : Ex (vis w) w.H := fun a o q => by
  unfold vis at q
  split at q
  · exact q
  · cases q
theorem vis_C (r : Rel K w h) : Ex w.C (vis w) := fun a o q => by
  unfold vis
  rw [if_pos (.inl (by rw [q]; exact fun z => nomatch z))]
  exact r.ch a o q
theorem vis_own (r : Rel K w h) {a : Addr} (m : a ∈ w.ι) : vis w a = w.H a := by unfold vis; rw [if_pos (.inr m)]
end
/-! ### a value with its lists told -/
def mapO {α β : Type} (f : α → Option β) : List α → Option (List β)
  | [] => some []
  | x :: xs => match f x with
    | some y => (mapO f xs).map (y :: ·)
    | none => none
theorem mapO_some {α β : Type} {f : α → Option β} {g : α → β} : ∀ {xs : List α}, (∀ x ∈ xs, f x = some (g x)) → mapO f xs = some (xs.map g)
  | [], _ => rfl
  | x :: xs, h => by
    unfold mapO
    rw [h x List.mem_cons_self, mapO_some fun y m => h y (List.mem_cons_of_mem _ m)]
    rfl
def reify : Nat → MH → MV → Option PyData
  | 0, _, .d p => some p
  | 0, _, _ => none
  | _ + 1, _, .d p => some p
  | k + 1, h, .ref n => match h[n]? with
    | some (.lst xs) => (mapO (reify k h) xs).map .list
    | _ => none
  | k + 1, h, .tup xs => (mapO (reify k h) xs).map .tuple
theorem reify_d (k : Nat) (h : MH) (p : PyData) : reify k h (.d p) = some p := by cases k <;> rfl
theorem mapO_reify_d (k : Nat) (h : MH) (ds : List PyData) : mapO (reify k h) (ds.map .d) = some ds := by
  induction ds with
  | nil => rfl
  | cons d ds ih => rw [List.map_cons, mapO, reify_d, ih]; rfl
section
variable {K : PySem.W.Frag} {w : Wd} {h : MH}
theorem reify_ok (r : Rel K w h) : ∀ (k : Nat) {v : V} {x : MV} {p : PyData}, Rep K w.ι w.C v x → reify k h x = some p → Dp K (vis w) v p := by
  intro k
  induction k with
  | zero =>
    intro v x p q e
    cases q with
    | d q => cases e; exact dpx (vis_C r) q
    | ref q => cases e
    | tup q a => cases e
  | succ k ih =>
    have all : ∀ {vs : List V} {xs : List MV} {ps : List PyData}, RepA K w.ι w.C vs xs → mapO (reify k h) xs = some ps → DpAll K (vis w) vs ps := by
      intro vs xs
      induction xs generalizing vs with
      | nil => intro ps a e; cases a; cases e; exact .nil
      | cons x xs ihx =>
        intro ps a e
        cases a with
        | cons a1 a2 =>
          rw [mapO] at e
          cases e1 : reify k h x with
          | none => rw [e1] at e; cases e
          | some p =>
            rw [e1] at e
            cases e2 : mapO (reify k h) xs with
            | none => rw [e2] at e; cases e
            | some qs => rw [e2] at e; cases e; exact .cons (ih a1 e1) (ihx a2 e2)
    intro v x p q e
    cases q with
    | d q => cases e; exact dpx (vis_C r) q
    | ref q =>
      rename_i n a
      rw [reify] at e
      cases e1 : h[n]? with
      | none => rw [e1] at e; cases e
      | some b =>
        rw [e1] at e
        obtain ⟨o, h1, h2⟩ := r.ob n a b q e1
        cases h2 with
        | lst h2 =>
          rename_i vs xs
          cases e2 : mapO (reify k h) xs with
          | none => simp only [e2] at e; cases e
          | some ps =>
            simp only [e2] at e
            cases e
            exact .lst (.inl (.inl (by rw [vis_own r (List.mem_of_getElem? q)]; exact h1))) (all h2 e2)
        | _ => cases e
    | tup q a =>
      rename_i ad vs xs
      rw [reify] at e
      cases e2 : mapO (reify k h) xs with
      | none => rw [e2] at e; cases e
      | some ps => rw [e2] at e; cases e; exact .tup (ex_t (vis_C r) (sqt q)) (all a e2)
theorem reifyA_ok (r : Rel K w h) (k : Nat) : ∀ {vs : List V} {xs : List MV} {ps : List PyData}, RepA K w.ι w.C vs xs → mapO (reify k h) xs = some ps → DpAll K (vis w) vs ps := by
  intro vs xs
  induction xs generalizing vs with
  | nil => intro ps a e; cases a; cases e; exact .nil
  | cons x xs ihx =>
    intro ps a e
    cases a with
    | cons a1 a2 =>
      rw [mapO] at e
      cases e1 : reify k h x with
      | none => rw [e1] at e; cases e
      | some p =>
        rw [e1] at e
        cases e2 : mapO (reify k h) xs with
        | none => rw [e2] at e; cases e
        | some qs => rw [e2] at e; cases e; exact .cons (reify_ok r k a1 e1) (ihx a2 e2)
end
/-! ### slots -/
structure RepE (K : PySem.W.Frag) (w : Wd) (σ : L2.St) (env : Env) : Prop where
  len : σ.length = env.length
  at_ : ∀ (i : Nat) (x : MV), env[i]? = some (some x) → ∃ v : V, σ[i]? = some (some v) ∧ Rep K w.ι w.C v x
section
variable {K : PySem.W.Frag} {w w' : Wd} {σ : L2.St} {env : Env}
theorem RepE.up (s : Step w w') (e : RepE K w σ env) : RepE K w' σ env := ⟨e.len, fun i x q => by
  obtain ⟨v, h1, h2⟩ := e.at_ i x q
  exact ⟨v, h1, h2.up s⟩⟩
theorem RepE.put {v : V} {x : MV} (e : RepE K w σ env) (r : Rep K w.ι w.C v x) (i : Nat) : RepE K w (σ.set i (some v)) (env.set i (some x)) := by
  refine ⟨by rw [List.length_set, List.length_set, e.len], fun j y q => ?_⟩
  by_cases z : i = j
  · subst z
    have hl : i < env.length := by
      have := (List.getElem?_eq_some_iff.mp q).1
      rwa [List.length_set] at this
    rw [List.getElem?_set_self hl] at q
    cases q
    exact ⟨v, List.getElem?_set_self (by rw [e.len]; exact hl), r⟩
  · rw [List.getElem?_set_ne z] at q ⊢
    exact e.at_ j y q
def wipeM (env : Env) : List Nat → Env
  | [] => env
  | v :: vs => (wipeM env vs).set v none
theorem RepE.wipe (e : RepE K w σ env) : ∀ vs : List Nat, RepE K w (wipe σ vs) (wipeM env vs)
  | [] => e
  | v :: vs => by
    have ih := e.wipe vs
    refine ⟨by show (List.set _ _ _).length = (List.set _ _ _).length; rw [List.length_set, List.length_set, ih.len], fun j y q => ?_⟩
    replace q : ((wipeM env vs).set v none)[j]? = some (some y) := q
    show ∃ u, ((L2.wipe σ vs).set v none)[j]? = some (some u) ∧ _
    by_cases z : v = j
    · subst z
      rw [List.getElem?_set] at q
      simp only [if_true] at q
      split at q <;> simp at q
    · rw [List.getElem?_set_ne z] at q ⊢
      exact ih.at_ j y q
end
end M
namespace M
open PySem PySem.Spec PyProof.Rows L2
open Evl (Ex ex_rd ex_l ex_t rMax2)
open G (dpx dpax dpa_len dpa_get dpa_app dpa_set ex_none wipe_get wipe_eq wipe_wipe RD UD CD Ret)
abbrev ME := Env → MH → Option (MV × MH)
abbrev MA := Env → MH → Option (List MV × MH)
abbrev MT := Env → MH → Option (Bool × MH)
abbrev MO2 := MV → MV → MH → Option (MV × MH)
abbrev MO1 := MV → MH → Option (MV × MH)
abbrev MCa := List MV → MH → Option (MV × MH)
def SimE (K : PySem.W.Frag) (te : TE) (me : ME) : Prop := ∀ w h σ env v h', Rel K w h → RepE K w σ env → me env h = some (v, h') → ∀ Q : VK, (∀ w' u, Step w w' → Rel K w' h' → Rep K w'.ι w'.C u v → Q u w'.H) → te σ w.H Q
def SimT (K : PySem.W.Frag) (tt : TT) (mt : MT) : Prop := ∀ w h σ env b h', Rel K w h → RepE K w σ env → mt env h = some (b, h') → ∀ Q : Bool → Hp → Prop, (∀ w', Step w w' → Rel K w' h' → Q b w'.H) → tt σ w.H Q
def SimA (K : PySem.W.Frag) (ta : TA) (ma : MA) : Prop := ∀ w h σ env xs h', Rel K w h → RepE K w σ env → ma env h = some (xs, h') → ∀ Q : List V → Hp → Prop, (∀ w' us, Step w w' → Rel K w' h' → RepA K w'.ι w'.C us xs → Q us w'.H) → ta σ w.H Q
/-- a new list -/
def SimF (K : PySem.W.Frag) (te : TE) (mf : MA) : Prop := ∀ w h σ env xs h', Rel K w h → RepE K w σ env → mf env h = some (xs, h') → ∀ Q : VK,
  (∀ w' p vs, Step w w' → Rel K w' h' → w.H p = none → w'.H p = some (.lst vs) → p ∉ w'.ι → w'.C p = none → RepA K w'.ι w'.C vs xs → Q (.ref p) w'.H) → te σ w.H Q
def SimR (K : PySem.W.Frag) (r : R2) (mr : MO2) : Prop := ∀ w h x y a b v h', Rel K w h → Rep K w.ι w.C x a → Rep K w.ι w.C y b → mr a b h = some (v, h') → ∀ Q : VK, (∀ w' u, Step w w' → Rel K w' h' → Rep K w'.ι w'.C u v → Q u w'.H) → r x y w.H Q
def SimU (K : PySem.W.Frag) (r : V → Hp → VK → Prop) (mr : MO1) : Prop := ∀ w h x a v h', Rel K w h → Rep K w.ι w.C x a → mr a h = some (v, h') → ∀ Q : VK, (∀ w' u, Step w w' → Rel K w' h' → Rep K w'.ι w'.C u v → Q u w'.H) → r x w.H Q
def SimC (K : PySem.W.Frag) (r : List V → Hp → VK → Prop) (mr : MCa) : Prop := ∀ w h us xs v h', Rel K w h → RepA K w.ι w.C us xs → mr xs h = some (v, h') → ∀ Q : VK, (∀ w' u, Step w w' → Rel K w' h' → Rep K w'.ι w'.C u v → Q u w'.H) → r us w.H Q
def SimCF (K : PySem.W.Frag) (r : List V → Hp → VK → Prop) (mr : List MV → MH → Option (List MV × MH)) : Prop := ∀ w h us xs ys h', Rel K w h → RepA K w.ι w.C us xs → mr xs h = some (ys, h') → ∀ Q : VK,
  (∀ w' p vs, Step w w' → Rel K w' h' → w.H p = none → w'.H p = some (.lst vs) → p ∉ w'.ι → w'.C p = none → RepA K w'.ι w'.C vs ys → Q (.ref p) w'.H) → r us w.H Q
/-! ### expressions -/
def mVar (i : Nat) : ME := fun env h => match env[i]? with
  | some (some v) => some (v, h)
  | _ => none
def mK (p : PyData) : ME := fun _ h => some (.d p, h)
def mOp (mr : MO2) (ma mb : ME) : ME := fun env h => (ma env h).bind fun r => (mb env r.2).bind fun q => mr r.1 q.1 q.2
def mUn (mr : MO1) (ma : ME) : ME := fun env h => (ma env h).bind fun r => mr r.1 r.2
def mNil : MA := fun _ h => some ([], h)
def mCons (ma : ME) (mr : MA) : MA := fun env h => (ma env h).bind fun r => (mr env r.2).bind fun q => some (r.1 :: q.1, q.2)
def mCB (mr : MCa) (ma : MA) : ME := fun env h => (ma env h).bind fun r => mr r.1 r.2
def mTup (ma : MA) : ME := fun env h => (ma env h).bind fun r => if r.1.length ≤ 100000 then some (mkTup r.1, r.2) else none
def mLst (ma : MA) : MA := fun env h => (ma env h).bind fun r => if r.1.length ≤ 100000 then some (r.1, r.2) else none
/-- a new list: only read from now on; of one's own -/
def mDat (mf : MA) : ME := fun env h => (mf env h).bind fun r => (allD r.1).map fun ds => (.d (.list ds), r.2)
def mNew (mf : MA) : ME := fun env h => (mf env h).map fun r => (.ref r.2.length, r.2 ++ [.lst r.1])
def mIf (mt : MT) (ma mb : ME) : ME := fun env h => (mt env h).bind fun r => if r.1 = true then ma env r.2 else mb env r.2
def asB : MV × MH → Option (Bool × MH)
  | (.d (.bool b), h) => some (b, h)
  | _ => none
def mTest (me : ME) : MT := fun env h => (me env h).bind asB
def mNot (mt : MT) : MT := fun env h => (mt env h).map fun r => (!r.1, r.2)
def mAnd (mt mu : MT) : MT := fun env h => (mt env h).bind fun r => if r.1 = true then mu env r.2 else some (false, r.2)
def mOr (mt mu : MT) : MT := fun env h => (mt env h).bind fun r => if r.1 = true then some (true, r.2) else mu env r.2
def mYes : MT := fun _ h => some (true, h)
def mOfT (mt : MT) : ME := fun env h => (mt env h).map fun r => (.d (.bool r.1), r.2)
def mAndV (ma mb : ME) : ME := fun env h => (mTest ma env h).bind fun r => if r.1 = true then mb env r.2 else some (.d (.bool false), r.2)
def mOrV (ma mb : ME) : ME := fun env h => (mTest ma env h).bind fun r => if r.1 = true then some (.d (.bool true), r.2) else mb env r.2
def mNotV (ma : ME) : ME := fun env h => (mTest ma env h).map fun r => (.d (.bool (!r.1)), r.2)
def mChain (mr mr' : MO2) (ma mb mc : ME) : ME := fun env h => (ma env h).bind fun r => (mb env r.2).bind fun q => (mr r.1 q.1 q.2).bind fun z => (asB z).bind fun c =>
  if c.1 = true then (mc env c.2).bind fun t => mr' q.1 t.1 t.2 else some (.d (.bool false), c.2)
section
variable {K : PySem.W.Frag} {te ta tb tc : TE} {me ma mb mc : ME} {tt tu : TT} {mt mu : MT} {tl : TA} {ml : MA}
theorem bind_of {α β : Type} {o : Option α} {f : α → Option β} {b : β} (h : o.bind f = some b) : ∃ a, o = some a ∧ f a = some b := by
  cases o with
  | none => cases h
  | some a => exact ⟨a, rfl, h⟩
theorem map_of {α β : Type} {o : Option α} {f : α → β} {b : β} (h : o.map f = some b) : ∃ a, o = some a ∧ f a = b := by
  cases o with
  | none => cases h
  | some a => exact ⟨a, rfl, Option.some.inj h⟩
theorem asB_of {r : MV × MH} {q : Bool × MH} (h : asB r = some q) : r = (.d (.bool q.1), q.2) := by
  unfold asB at h
  split at h
  · cases h; rfl
  · cases h
theorem sm_var {i : Nat} : SimE K (tVar i) (mVar i) := fun w h σ env v h' rl re e Q q => by
  unfold mVar at e
  split at e
  · rename_i x ex
    cases e
    obtain ⟨u, h1, h2⟩ := re.at_ i v ex
    exact ⟨u, h1, q w u (.refl _) rl h2⟩
  · cases e
theorem sm_K {v : V} {p : PyData} (hd : ∀ C, Dp K C v p) : SimE K (tC v) (mK p) := fun w h σ env x h' rl re e Q q => by
  cases e
  exact q w v (.refl _) rl (.d (hd _))
theorem sm_int {i : Int} : SimE K (tC (.int i)) (mK (.int i)) := sm_K fun _ => .int i
theorem sm_bl {b : Bool} : SimE K (tC (.bl b)) (mK (.bool b)) := sm_K fun _ => .bl b
theorem sm_str {x : Str} : SimE K (tC (.str x)) (mK (.str x)) := sm_K fun _ => .str x
theorem sm_non : SimE K (tC .non) (mK .none) := sm_K fun _ => .non
theorem sm_op {r : R2} {mr : MO2} (ha : SimE K ta ma) (hb : SimE K tb mb) (hr : SimR K r mr) : SimE K (tOp r ta tb) (mOp mr ma mb) := fun w h σ env v h' rl re e Q q => by
  obtain ⟨⟨a, h1⟩, e1, e⟩ := bind_of e
  obtain ⟨⟨b, h2⟩, e2, e⟩ := bind_of e
  exact ha w h σ env a h1 rl re e1 _ fun w1 x s1 r1 x1 => hb w1 h1 σ env b h2 r1 (re.up s1) e2 _ fun w2 y s2 r2 y2 => hr w2 h2 x y a b v h' r2 (x1.up s2) y2 e _ fun w3 u s3 r3 u3 => q w3 u ((s1.trans s2).trans s3) r3 u3
theorem sm_un {r : V → Hp → VK → Prop} {mr : MO1} (ha : SimE K ta ma) (hr : SimU K r mr) : SimE K (tUn r ta) (mUn mr ma) := fun w h σ env v h' rl re e Q q => by
  obtain ⟨⟨a, h1⟩, e1, e⟩ := bind_of e
  exact ha w h σ env a h1 rl re e1 _ fun w1 x s1 r1 x1 => hr w1 h1 x a v h' r1 x1 e _ fun w3 u s3 r3 u3 => q w3 u (s1.trans s3) r3 u3
theorem sm_nil : SimA K tNil mNil := fun w h σ env xs h' rl re e Q q => by
  cases e
  exact q w [] (.refl _) rl .nil
theorem sm_cons (ha : SimE K ta ma) (hl : SimA K tl ml) : SimA K (tCons ta tl) (mCons ma ml) := fun w h σ env xs h' rl re e Q q => by
  obtain ⟨⟨a, h1⟩, e1, e⟩ := bind_of e
  obtain ⟨⟨b, h2⟩, e2, e⟩ := bind_of e
  cases e
  exact ha w h σ env a h1 rl re e1 _ fun w1 x s1 r1 x1 => hl w1 h1 σ env b h2 r1 (re.up s1) e2 _ fun w2 ys s2 r2 y2 => q w2 (x :: ys) (s1.trans s2) r2 (.cons (x1.up s2) y2)
theorem sm_cb {r : List V → Hp → VK → Prop} {mr : MCa} (ha : SimA K tl ml) (hr : SimC K r mr) : SimE K (tCB r tl) (mCB mr ml) := fun w h σ env v h' rl re e Q q => by
  obtain ⟨⟨a, h1⟩, e1, e⟩ := bind_of e
  exact ha w h σ env a h1 rl re e1 _ fun w1 x s1 r1 x1 => hr w1 h1 x a v h' r1 x1 e _ fun w3 u s3 r3 u3 => q w3 u (s1.trans s3) r3 u3
def mCBF (mr : List MV → MH → Option (List MV × MH)) (ml : MA) : MA := fun env h => (ml env h).bind fun r => mr r.1 r.2
theorem sm_cbF {r : List V → Hp → VK → Prop} {mr : List MV → MH → Option (List MV × MH)} (ha : SimA K tl ml) (hr : SimCF K r mr) : SimF K (tCB r tl) (mCBF mr ml) := fun w h σ env v h' rl re e Q q => by
  obtain ⟨⟨a, h1⟩, e1, e⟩ := bind_of e
  exact ha w h σ env a h1 rl re e1 _ fun w1 x s1 r1 x1 => hr w1 h1 x a v h' r1 x1 e _ fun w3 p vs s3 r3 f1 f2 f3 f4 f5 => q w3 p vs (s1.trans s3) r3 (by
    cases z : w.H p with
    | none => rfl
    | some o => exact absurd f1 (s1.kp p (by rw [z]; exact fun q => nomatch q))) f2 f3 f4 f5
theorem sl_100000 : (100000 : Nat) ≤ sizeLine := by rw [sizeLine_eq]; decide
theorem sm_tup (ha : SimA K tl ml) : SimE K (tTup tl) (mTup ml) := fun w h σ env v h' rl re e Q q => by
  obtain ⟨⟨a, h1⟩, e1, e⟩ := bind_of e
  simp only at e
  split at e
  · rename_i hz
    cases e
    refine ha w h σ env _ _ rl re e1 _ fun w1 xs s1 r1 x1 => ⟨by rw [x1.len]; exact Nat.le_trans hz sl_100000, fun p hp => ?_⟩
    obtain ⟨s2, r2⟩ := know_ok (o := .tup xs) r1 hp
    exact q (w1.know p (.tup xs)) _ (s1.trans s2) r2 (mkTup_rep upd_same (x1.up s2))
  · cases e
theorem sm_lst (ha : SimA K tl ml) : SimF K (tLst tl) (mLst ml) := fun w h σ env v h' rl re e Q q => by
  obtain ⟨⟨a, h1⟩, e1, e⟩ := bind_of e
  simp only at e
  split at e
  · rename_i hz
    cases e
    refine ha w h σ env _ _ rl re e1 _ fun w1 xs s1 r1 x1 => ⟨by rw [x1.len]; exact Nat.le_trans hz sl_100000, fun p hp => ?_⟩
    exact q ⟨w1.ι, w1.C, upd w1.H p (.lst xs)⟩ p xs ⟨s1.pre, s1.ex, fun a o e n => by
        show upd w1.H p _ a = _
        have := s1.fr a o e n
        rw [upd_ne (fun z => by rw [z, hp] at this; cases this)]; exact this, s1.nw, s1.nc, fun a e => by
        show upd w1.H p _ a ≠ none
        have := s1.kp a e
        rw [upd_ne (fun z => this (by rw [z, hp]))]; exact this, fun a o u e => by
        show upd w1.H p _ a = _
        have := s1.fz a o u e
        rw [upd_ne (fun z => by rw [z, hp] at this; cases this)]; exact this⟩
      ⟨fun a o e => by
        show upd w1.H p _ a = _
        have := r1.ch a o e
        rw [upd_ne (fun z => by rw [z, hp] at this; cases this)]; exact this, r1.len, r1.nd, r1.ow, fun n a b e1 e2 => by
        obtain ⟨o, h1, h2⟩ := r1.ob n a b e1 e2
        refine ⟨o, ?_, h2⟩
        show upd w1.H p _ a = _
        rw [upd_ne (fun z => by rw [z, hp] at h1; cases h1)]; exact h1⟩
      (by
        cases z : w.H p with
        | none => rfl
        | some o => exact absurd hp (s1.kp p (by rw [z]; exact fun q => nomatch q))) upd_same (r1.notin hp) (r1.cnone hp) x1
  · cases e
theorem sm_dat (h : SimF K te ml) : SimE K te (mDat ml) := fun w h0 σ env v h' rl re e Q q => by
  obtain ⟨⟨xs, h1⟩, e1, e⟩ := bind_of e
  obtain ⟨ds, e2, e⟩ := map_of e
  cases e
  refine h w h0 σ env xs h1 rl re e1 Q fun w1 p vs s r f1 f2 f3 f4 f5 => ?_
  replace e2 : allD xs = some ds := e2
  rw [allD_eq e2] at f5
  have ex : Ex w1.C (upd w1.C p (.lst vs)) := Ex.new f4
  refine q ⟨w1.ι, upd w1.C p (.lst vs), w1.H⟩ (.ref p) ⟨s.pre, s.ex.trans ex, s.fr, s.nw, fun a n c => ?_, s.kp, s.fz⟩ ⟨fun a o e => ?_, r.len, r.nd, fun a m => ?_, fun n a b e1 e2 => ?_⟩ (.d (.lst (.inl (.inl upd_same)) (dpax ex f5.toD)))
  · show upd w1.C p _ a = _
    rw [upd_ne (fun z => n (by rw [z]; exact f1))]; exact s.nc a n c
  · replace e : upd w1.C p _ a = _ := e
    by_cases z : a = p
    · subst z; rw [upd_same] at e; cases e; exact f2
    · rw [upd_ne z] at e; exact r.ch a o e
  · show upd w1.C p _ a = _
    rw [upd_ne (fun z => f3 (by rw [← z]; exact m))]; exact r.ow a m
  · obtain ⟨o, g1, g2⟩ := r.ob n a b e1 e2
    exact ⟨o, g1, g2.mono (List.prefix_refl _) ex⟩
theorem sm_new (h : SimF K te ml) : SimE K te (mNew ml) := fun w h0 σ env v h' rl re e Q q => by
  obtain ⟨⟨xs, h1⟩, e1, e⟩ := map_of e
  cases e
  refine h w h0 σ env xs h1 rl re e1 Q fun w1 p vs s r f1 f2 f3 f4 f5 => ?_
  replace r : Rel K w1 h1 := r
  have pf : w1.ι <+: w1.ι ++ [p] := List.prefix_append _ _
  refine q ⟨w1.ι ++ [p], w1.C, w1.H⟩ (.ref p) ⟨s.pre.trans pf, s.ex, s.fr, fun a m => ?_, s.nc, s.kp, s.fz⟩ ⟨r.ch, ?_, ?_, fun a m => ?_, fun n a b e1 e2 => ?_⟩ (.ref ?_)
  · rcases List.mem_append.mp m with z | z
    · exact s.nw a z
    · rw [List.mem_singleton.mp z]; exact .inr f1
  · show (w1.ι ++ [p]).length = _
    rw [List.length_append, List.length_append, r.len]; rfl
  · refine List.nodup_append.mpr ⟨r.nd, by simp, fun a m b m' => ?_⟩
    rw [List.mem_singleton.mp m']
    exact fun z => f3 (by rw [← z]; exact m)
  · rcases List.mem_append.mp m with z | z
    · exact r.ow a z
    · rw [List.mem_singleton.mp z]; exact f4
  · replace e1 : (w1.ι ++ [p])[n]? = some a := e1
    replace e2 : (h1 ++ [Ob.lst xs])[n]? = some b := e2
    by_cases z : n < h1.length
    · rw [List.getElem?_append_left z] at e2
      rw [List.getElem?_append_left (by rw [r.len]; exact z)] at e1
      obtain ⟨o, q1, q2⟩ := r.ob n a b e1 e2
      exact ⟨o, q1, q2.mono pf fun _ _ q => q⟩
    · rw [List.getElem?_append_right (by omega)] at e2
      rw [List.getElem?_append_right (by rw [r.len]; omega), r.len] at e1
      have hz : n - h1.length = 0 := by
        cases hn : n - h1.length with
        | zero => rfl
        | succ k => rw [hn] at e2; simp at e2
      rw [hz] at e2 e1
      simp at e2 e1
      subst e2 e1
      exact ⟨_, f2, .lst (f5.mono pf fun _ _ q => q)⟩
  · show (w1.ι ++ [p])[h1.length]? = some p
    rw [← r.len, List.getElem?_append_right (Nat.le_refl _), Nat.sub_self]; rfl
theorem sm_if (ht : SimT K tt mt) (ha : SimE K ta ma) (hb : SimE K tb mb) : SimE K (tIf tt ta tb) (mIf mt ma mb) := fun w h σ env v h' rl re e Q q => by
  obtain ⟨⟨b, h1⟩, e1, e⟩ := bind_of e
  refine ht w h σ env b h1 rl re e1 _ fun w1 s1 r1 => ?_
  cases b with
  | true => exact iteT (ha w1 h1 σ env v h' r1 (re.up s1) e Q fun w2 u s2 => q w2 u (s1.trans s2))
  | false => exact iteF (hb w1 h1 σ env v h' r1 (re.up s1) e Q fun w2 u s2 => q w2 u (s1.trans s2))
theorem Rep.bool {w : Wd} {u : V} {b : Bool} (h : Rep K w.ι w.C u (.d (.bool b))) : u = .bl b := by cases h with | d h => cases h; rfl
theorem sm_test (h : SimE K te me) : SimT K (tTest te) (mTest me) := fun w h0 σ env b h' rl re e Q q => by
  obtain ⟨r, e1, e⟩ := bind_of e
  have := asB_of e
  subst this
  exact h w h0 σ env _ _ rl re e1 _ fun w1 u s r x => ⟨b, x.bool, q w1 s r⟩
theorem sm_B (h : SimE K te me) : SimT K (tB te) (mTest me) := sm_test h
theorem sm_not (h : SimT K tt mt) : SimT K (tNot tt) (mNot mt) := fun w h0 σ env b h' rl re e Q q => by
  obtain ⟨⟨c, h1⟩, e1, e⟩ := map_of e
  cases e
  exact h w h0 σ env c h1 rl re e1 _ fun w1 s r => q w1 s r
theorem sm_and (h : SimT K tt mt) (hu : SimT K tu mu) : SimT K (tAnd tt tu) (mAnd mt mu) := fun w h0 σ env b h' rl re e Q q => by
  obtain ⟨⟨c, h1⟩, e1, e⟩ := bind_of e
  refine h w h0 σ env c h1 rl re e1 _ fun w1 s1 r1 => ?_
  cases c with
  | true => exact iteT (hu w1 h1 σ env b h' r1 (re.up s1) e Q fun w2 s2 => q w2 (s1.trans s2))
  | false => cases e; exact iteF (q w1 s1 r1)
theorem sm_or (h : SimT K tt mt) (hu : SimT K tu mu) : SimT K (tOr tt tu) (mOr mt mu) := fun w h0 σ env b h' rl re e Q q => by
  obtain ⟨⟨c, h1⟩, e1, e⟩ := bind_of e
  refine h w h0 σ env c h1 rl re e1 _ fun w1 s1 r1 => ?_
  cases c with
  | false => exact iteF (hu w1 h1 σ env b h' r1 (re.up s1) e Q fun w2 s2 => q w2 (s1.trans s2))
  | true => cases e; exact iteT (q w1 s1 r1)
theorem sm_yes : SimT K tYes mYes := fun w h0 σ env b h' rl re e Q q => by
  cases e
  exact q w (.refl _) rl
theorem sm_andV (ha : SimE K ta ma) (hb : SimE K tb mb) : SimE K (tAndV ta tb) (mAndV ma mb) := fun w h σ env v h' rl re e Q q => by
  obtain ⟨⟨c, h1⟩, e1, e⟩ := bind_of e
  obtain ⟨r, e2, e1⟩ := bind_of e1
  have := asB_of e1
  subst this
  refine ha w h σ env _ _ rl re e2 _ fun w1 u s1 r1 x => ⟨c, x.bool, ?_⟩
  cases c with
  | true => exact iteT (hb w1 h1 σ env v h' r1 (re.up s1) e Q fun w2 u s2 => q w2 u (s1.trans s2))
  | false => cases e; exact iteF (q w1 _ s1 r1 (.d (.bl _)))
theorem sm_orV (ha : SimE K ta ma) (hb : SimE K tb mb) : SimE K (tOrV ta tb) (mOrV ma mb) := fun w h σ env v h' rl re e Q q => by
  obtain ⟨⟨c, h1⟩, e1, e⟩ := bind_of e
  obtain ⟨r, e2, e1⟩ := bind_of e1
  have := asB_of e1
  subst this
  refine ha w h σ env _ _ rl re e2 _ fun w1 u s1 r1 x => ⟨c, x.bool, ?_⟩
  cases c with
  | false => exact iteF (hb w1 h1 σ env v h' r1 (re.up s1) e Q fun w2 u s2 => q w2 u (s1.trans s2))
  | true => cases e; exact iteT (q w1 _ s1 r1 (.d (.bl _)))
theorem sm_notV (ha : SimE K ta ma) : SimE K (tNotV ta) (mNotV ma) := fun w h σ env v h' rl re e Q q => by
  obtain ⟨⟨c, h1⟩, e1, e⟩ := map_of e
  cases e
  obtain ⟨r, e2, e1⟩ := bind_of e1
  have := asB_of e1
  subst this
  exact ha w h σ env _ _ rl re e2 _ fun w1 u s1 r1 x => ⟨c, x.bool, q w1 _ s1 r1 (.d (.bl _))⟩
theorem sm_chain {r r' : R2} {mr mr' : MO2} (ha : SimE K ta ma) (hb : SimE K tb mb) (hc : SimE K tc mc) (hr : SimR K r mr) (hr' : SimR K r' mr') : SimE K (tChain r r' ta tb tc) (mChain mr mr' ma mb mc) := fun w h σ env v h' rl re e Q q => by
  obtain ⟨⟨a, h1⟩, e1, e⟩ := bind_of e
  obtain ⟨⟨b, h2⟩, e2, e⟩ := bind_of e
  obtain ⟨z, e3, e⟩ := bind_of e
  obtain ⟨⟨c, h3⟩, e4, e⟩ := bind_of e
  have := asB_of e4
  subst this
  refine ha w h σ env a h1 rl re e1 _ fun w1 x s1 r1 x1 => hb w1 h1 σ env b h2 r1 (re.up s1) e2 _ fun w2 y s2 r2 y2 => hr w2 h2 x y a b _ h3 r2 (x1.up s2) y2 e3 _ fun w3 u s3 r3 u3 => ⟨c, u3.bool, ?_⟩
  have s13 := (s1.trans s2).trans s3
  cases c with
  | true =>
    replace e : (mc env h3).bind (fun t => mr' b t.1 t.2) = some (v, h') := e
    obtain ⟨⟨t, h4⟩, e5, e⟩ := bind_of e
    exact iteT (hc w3 h3 σ env t h4 r3 (re.up s13) e5 _ fun w4 u4 s4 r4 x4 => hr' w4 h4 y u4 b t v h' r4 ((y2.up s3).up s4) x4 e _ fun w5 u5 s5 => q w5 u5 ((s13.trans s4).trans s5))
  | false => cases e; exact iteF (q w3 _ s13 r3 (.d (.bl _)))
end
end M
namespace M
open PySem PySem.Spec PyProof.Rows L2
open Evl (Ex ex_rd ex_l ex_t rMax2)
open G (dpx dpax dpa_len dpa_get dpa_app dpa_set ex_none wipe_get wipe_eq wipe_wipe RD UD CD Ret)
/-! ### targets -/
abbrev MG := MV → Env → Option Env
abbrev MGs := List MV → Env → Option Env
def SimG (K : PySem.W.Frag) (g : TG) (mg : MG) (js : List Nat) : Prop := ∀ w h σ env x v env', Rel K w h → RepE K w σ env → Rep K w.ι w.C x v → mg v env = some env' → ∀ Q : L2.St → Hp → Prop,
  (∀ σ', RepE K w σ' env' → σ'.length = σ.length → (∀ k, k ∉ js → σ'[k]? = σ[k]?) → Q σ' w.H) → g x σ w.H Q
def SimGs (K : PySem.W.Frag) (g : TGs) (mg : MGs) (js : List Nat) : Prop := ∀ w h σ env xs vs env', Rel K w h → RepE K w σ env → RepA K w.ι w.C xs vs → mg vs env = some env' → ∀ Q : L2.St → Hp → Prop,
  (∀ σ', RepE K w σ' env' → σ'.length = σ.length → (∀ k, k ∉ js → σ'[k]? = σ[k]?) → Q σ' w.H) → g xs σ w.H Q
def mgName (i : Nat) : MG := fun v env => some (env.set i (some v))
def mgNil : MGs := fun vs env => match vs with
  | [] => some env
  | _ => none
def mgCons (g : MG) (gs : MGs) : MGs := fun vs env => match vs with
  | v :: r => (g v env).bind (gs r)
  | _ => none
def mgTup (n : Nat) (gs : MGs) : MG := fun v env => match v with
  | .d (.tuple ds) => if ds.length = n then gs (ds.map .d) env else none
  | .tup xs => if xs.length = n then gs xs env else none
  | _ => none
section
variable {K : PySem.W.Frag} {js : List Nat}
theorem sg_name {i : Nat} (hi : i ∈ js) : SimG K (gName i) (mgName i) js := fun w h σ env x v env' rl re rx e Q q => by
  cases e
  refine q _ (re.put rx i) (List.length_set) fun k hk => ?_
  rw [List.getElem?_set_ne]
  exact fun z => hk (z ▸ hi)
theorem sg_nil : SimGs K gNil mgNil js := fun w h σ env xs vs env' rl re rx e Q q => by
  cases rx with
  | nil => cases e; exact ⟨rfl, q _ re rfl fun _ _ => rfl⟩
  | cons _ _ => cases e
theorem sg_cons {g : TG} {mg : MG} {gs : TGs} {mgs : MGs} (h1 : SimG K g mg js) (h2 : SimGs K gs mgs js) : SimGs K (gCons g gs) (mgCons mg mgs) js := fun w h σ env xs vs env' rl re rx e Q q => by
  cases rx with
  | nil => cases e
  | cons r1 r2 =>
    obtain ⟨env1, e1, e⟩ := bind_of e
    exact ⟨_, _, rfl, h1 w h σ env _ _ env1 rl re r1 e1 _ fun σ1 re1 l1 k1 => h2 w h σ1 env1 _ _ env' rl re1 r2 e _ fun σ2 re2 l2 k2 => q σ2 re2 (l2.trans l1) fun k hk => (k2 k hk).trans (k1 k hk)⟩
theorem sg_tup {n : Nat} {gs : TGs} {mgs : MGs} (h1 : SimGs K gs mgs js) : SimG K (gTup K n gs) (mgTup n mgs) js := fun w h σ env x v env' rl re rx e Q q => by
  unfold mgTup at e
  split at e
  · rename_i ds
    split at e
    · rename_i hl
      cases rx with
      | d rx =>
        cases rx with
        | tup hq ha => exact ⟨_, _, rfl, ex_t rl.ch hq, by rw [dpa_len ha]; exact hl, h1 w h σ env _ _ env' rl re (RepA.ofD ha) e Q q⟩
    · cases e
  · rename_i xs
    split at e
    · rename_i hl
      cases rx with
      | tup hq ha => exact ⟨_, _, rfl, ex_t rl.ch (sqt hq), by rw [ha.len]; exact hl, h1 w h σ env _ _ env' rl re ha e Q q⟩
    · cases e
  · cases e
end
/-! ### statements -/
inductive MRes where
  | nx (env : Env) (h : MH)
  | rt (v : MV) (h : MH)
  | bk (env : Env) (h : MH)
  | ct (env : Env) (h : MH)
abbrev MS := Env → MH → Option MRes
def Post (K : PySem.W.Frag) (D : Ends) (w : Wd) : MRes → Prop
  | .nx env' h' => ∀ w' σ', Step w w' → Rel K w' h' → RepE K w' σ' env' → D.nx σ' w'.H
  | .rt v h' => ∀ w' u, Step w w' → Rel K w' h' → Rep K w'.ι w'.C u v → D.rt u w'.H
  | .bk env' h' => ∀ w' σ', Step w w' → Rel K w' h' → RepE K w' σ' env' → D.bk σ' w'.H
  | .ct env' h' => ∀ w' σ', Step w w' → Rel K w' h' → RepE K w' σ' env' → D.ct σ' w'.H
theorem Post.mono {K : PySem.W.Frag} {D : Ends} {w w' : Wd} {r : MRes} (p : Post K D w r) (s : Step w w') : Post K D w' r := by
  cases r with
  | nx e h => exact fun w2 σ s2 => p w2 σ (s.trans s2)
  | rt e h => exact fun w2 σ s2 => p w2 σ (s.trans s2)
  | bk e h => exact fun w2 σ s2 => p w2 σ (s.trans s2)
  | ct e h => exact fun w2 σ s2 => p w2 σ (s.trans s2)
def SimS (K : PySem.W.Frag) (t : TS) (ms : MS) : Prop := ∀ D w h σ env r, Rel K w h → RepE K w σ env → ms env h = some r → Post K D w r → t D σ w.H
def mSeqK (mb : MS) : MRes → Option MRes
  | .nx e h => mb e h
  | r => some r
def mSeq (ma mb : MS) : MS := fun env h => (ma env h).bind (mSeqK mb)
def mNext : MS := fun env h => some (.nx env h)
def mBreak : MS := fun env h => some (.bk env h)
def mCont : MS := fun env h => some (.ct env h)
def mAsg (me : ME) (g : MG) : MS := fun env h => (me env h).bind fun r => (g r.1 env).map fun e => .nx e r.2
def mDrop (me : ME) : MS := fun env h => (me env h).map fun r => .nx env r.2
def mRet (me : ME) : MS := fun env h => (me env h).map fun r => .rt r.1 r.2
def mRetN : MS := fun _ h => some (.rt (.d .none) h)
def mIfS (mt : MT) (ma mb : MS) : MS := fun env h => (mt env h).bind fun r => if r.1 = true then ma env r.2 else mb env r.2
def asI : MV → Option Int
  | .d (.int i) => some i
  | _ => none
theorem asI_of {v : MV} {i : Int} (h : asI v = some i) : v = .d (.int i) := by
  unfold asI at h
  split at h
  · cases h; rfl
  · cases h
def asL (h : MH) : MV → Option (Nat × List MV)
  | .ref n => match h[n]? with
    | some (.lst xs) => some (n, xs)
    | _ => none
  | _ => none
theorem asL_of {h : MH} {v : MV} {n : Nat} {xs : List MV} (e : asL h v = some (n, xs)) : v = .ref n ∧ h[n]? = some (.lst xs) := by
  cases v with
  | ref m =>
    unfold asL at e
    cases e1 : h[m]? with
    | none => simp only [e1] at e; cases e
    | some b =>
      cases b with
      | lst ys => simp only [e1] at e; cases e; exact ⟨rfl, e1⟩
      | _ => simp only [e1] at e; cases e
  | d _ => cases e
  | tup _ => cases e
def mAug (i : Nat) (me : ME) (f : Int → Int → Int) : MS := fun env h => (mVar i env h).bind fun a => (me env h).bind fun r => (asI a.1).bind fun x => (asI r.1).map fun y => .nx (env.set i (some (.d (.int (f x y))))) r.2
def mSetL (me mo mi : ME) : MS := fun env h => (me env h).bind fun r => (mo env r.2).bind fun o => (mi env o.2).bind fun i => (asL i.2 o.1).bind fun l => (asI i.1).bind fun k => (ixN l.2.length k).map fun j => .nx env (i.2.set l.1 (.lst (l.2.set j r.1)))
def mApp (mo me : ME) : MS := fun env h => (mo env h).bind fun o => (asL o.2 o.1).bind fun _ => (me env o.2).bind fun r => (asL r.2 o.1).bind fun l => if l.2.length < 100000 then some (.nx env (r.2.set l.1 (.lst (l.2 ++ [r.1])))) else none
section
variable {K : PySem.W.Frag} {t u : TS} {ms mu : MS} {te to_ ti : TE} {me mo mi : ME} {tt : TT} {mt : MT}
theorem ss_seq (h1 : SimS K t ms) (h2 : SimS K u mu) : SimS K (tSeq t u) (mSeq ms mu) := fun D w h σ env r rl re e p => by
  obtain ⟨a, e1, e⟩ := bind_of e
  refine h1 { D with nx := u D } w h σ env a rl re e1 ?_
  cases a with
  | nx env1 hh1 => exact fun w' σ' s1 r1 re1 => h2 D w' hh1 σ' env1 r r1 re1 e (p.mono s1)
  | rt v hh => cases e; exact p
  | bk v hh => cases e; exact p
  | ct v hh => cases e; exact p
theorem ss_next : SimS K tNext mNext := fun D w h σ env r rl re e p => by cases e; exact p w σ (.refl _) rl re
theorem ss_break : SimS K tBreak mBreak := fun D w h σ env r rl re e p => by cases e; exact p w σ (.refl _) rl re
theorem ss_cont : SimS K tCont mCont := fun D w h σ env r rl re e p => by cases e; exact p w σ (.refl _) rl re
theorem ss_asg {g : TG} {mg : MG} {js : List Nat} (h1 : SimE K te me) (h2 : SimG K g mg js) : SimS K (tAsg te g) (mAsg me mg) := fun D w h σ env r rl re e p => by
  obtain ⟨⟨a, hh⟩, e1, e⟩ := bind_of e
  obtain ⟨env1, e2, e⟩ := map_of e
  cases e
  exact h1 w h σ env a hh rl re e1 _ fun w1 u s1 r1 x1 => h2 w1 hh σ env u a env1 r1 (re.up s1) x1 e2 _ fun σ' re' _ _ => p w1 σ' s1 r1 re'
theorem ss_drop (h1 : SimE K te me) : SimS K (tDrop te) (mDrop me) := fun D w h σ env r rl re e p => by
  obtain ⟨⟨a, hh⟩, e1, e⟩ := map_of e
  cases e
  exact h1 w h σ env a hh rl re e1 _ fun w1 u s1 r1 x1 => p w1 σ s1 r1 (re.up s1)
theorem ss_ret (h1 : SimE K te me) : SimS K (tRet te) (mRet me) := fun D w h σ env r rl re e p => by
  obtain ⟨⟨a, hh⟩, e1, e⟩ := map_of e
  cases e
  exact h1 w h σ env a hh rl re e1 _ fun w1 u s1 r1 x1 => p w1 u s1 r1 x1
theorem ss_retN : SimS K tRetN mRetN := fun D w h σ env r rl re e p => by
  cases e
  exact p w .non (.refl _) rl (.d .non)
theorem ss_if (ht : SimT K tt mt) (h1 : SimS K t ms) (h2 : SimS K u mu) : SimS K (tIfS tt t u) (mIfS mt ms mu) := fun D w h σ env r rl re e p => by
  obtain ⟨⟨b, hh⟩, e1, e⟩ := bind_of e
  refine ht w h σ env b hh rl re e1 _ fun w1 s1 r1 => ?_
  cases b with
  | true => exact iteT (h1 D w1 hh σ env r r1 (re.up s1) e (p.mono s1))
  | false => exact iteF (h2 D w1 hh σ env r r1 (re.up s1) e (p.mono s1))
theorem Rep.int {w : Wd} {u : V} {i : Int} (h : Rep K w.ι w.C u (.d (.int i))) : u = .int i := by cases h with | d h => cases h; rfl
theorem ss_aug {i : Nat} {f : Int → Int → Int} (h1 : SimE K te me) : SimS K (tAug i te (ipI f)) (mAug i me f) := fun D w h σ env r rl re e p => by
  obtain ⟨⟨a, h0⟩, e0, e⟩ := bind_of e
  obtain ⟨⟨b, hh⟩, e1, e⟩ := bind_of e
  obtain ⟨x, e2, e⟩ := bind_of e
  obtain ⟨y, e3, e⟩ := map_of e
  cases e
  have ea := asI_of e2
  have eb := asI_of e3
  simp only at ea eb
  subst ea eb
  unfold mVar at e0
  split at e0
  · rename_i v ev
    cases e0
    obtain ⟨u, g1, g2⟩ := re.at_ i _ ev
    have := g2.int
    subst this
    exact ⟨_, g1, h1 w h σ env _ _ rl re e1 _ fun w1 y' s1 r1 x1 => ⟨x, y, rfl, x1.int, p w1 _ s1 r1 ((re.up s1).put (.d (.int _)) i)⟩⟩
  · cases e0
theorem Rel.look {w : Wd} {h : MH} (r : Rel K w h) {n : Nat} {v : V} {b : Ob} (x : Rep K w.ι w.C v (.ref n)) (e : h[n]? = some b) : ∃ a o, v = .ref a ∧ w.ι[n]? = some a ∧ w.H a = some o ∧ ObRep K w.ι w.C a o b := by
  cases x with
  | ref x => obtain ⟨o, h1, h2⟩ := r.ob n _ b x e; exact ⟨_, o, rfl, x, h1, h2⟩
theorem Rel.lst {w : Wd} {h : MH} (r : Rel K w h) {n : Nat} {v : V} {xs : List MV} (x : Rep K w.ι w.C v (.ref n)) (e : h[n]? = some (.lst xs)) : ∃ a vs, v = .ref a ∧ w.ι[n]? = some a ∧ w.H a = some (.lst vs) ∧ RepA K w.ι w.C vs xs := by
  obtain ⟨a, o, h1, h2, h3, h4⟩ := r.look x e
  cases h4 with
  | lst h4 => exact ⟨a, _, h1, h2, h3, h4⟩
theorem ss_setL (h1 : SimE K te me) (h2 : SimE K to_ mo) (h3 : SimE K ti mi) : SimS K (tAsg te (gSub to_ ti rSetL)) (mSetL me mo mi) := fun D w h σ env r rl re e p => by
  obtain ⟨⟨v, hh1⟩, e1, e⟩ := bind_of e
  obtain ⟨⟨o, hh2⟩, e2, e⟩ := bind_of e
  obtain ⟨⟨i, hh3⟩, e3, e⟩ := bind_of e
  obtain ⟨⟨n, xs⟩, e4, e⟩ := bind_of e
  obtain ⟨k, e5, e⟩ := bind_of e
  obtain ⟨j, e6, e⟩ := map_of e
  cases e
  obtain ⟨eo, ex⟩ := asL_of e4
  have ei := asI_of e5
  simp only at eo ei ex
  subst eo ei
  refine h1 w h σ env v hh1 rl re e1 _ fun w1 u1 s1 r1 x1 => h2 w1 hh1 σ env _ hh2 r1 (re.up s1) e2 _ fun w2 u2 s2 r2 x2 => h3 w2 hh2 σ env _ hh3 r2 ((re.up s1).up s2) e3 _ fun w3 u3 s3 r3 x3 => ?_
  obtain ⟨a, vs, rfl, g1, g2, g3⟩ := r3.lst (x2.up s3) ex
  have := x3.int
  subst this
  have x1' := (x1.up s2).up s3
  obtain ⟨s4, r4⟩ := write_ok (o := .lst (vs.set j u1)) r3 g1 (.lst (g3.setv x1' j)) (by rw [g2]; exact fun _ _ z => nomatch z)
  have ss := ((s1.trans s2).trans s3).trans s4
  exact ⟨a, vs, k, j, rfl, rfl, g2, by rw [g3.len]; exact e6, p (w3.write a _) σ ss r4 (re.up ss)⟩
theorem ss_app (h1 : SimE K to_ mo) (h2 : SimE K te me) : SimS K (tDrop (tBM K "list" rAppend to_ (tCons te tNil))) (mApp mo me) := fun D w h σ env r rl re e p => by
  obtain ⟨⟨o, hh1⟩, e1, e⟩ := bind_of e
  obtain ⟨⟨n0, xs0⟩, e0, e⟩ := bind_of e
  obtain ⟨⟨v, hh2⟩, e2, e⟩ := bind_of e
  obtain ⟨⟨n, xs⟩, e4, e⟩ := bind_of e
  simp only at e
  split at e
  · rename_i hz
    cases e
    obtain ⟨eo, ex⟩ := asL_of e4
    obtain ⟨eo0, ex0⟩ := asL_of e0
    simp only at eo ex eo0 ex0
    subst eo
    cases eo0
    refine h1 w h σ env _ hh1 rl re e1 _ fun w1 u1 s1 r1 x1 => ?_
    obtain ⟨a, vs0, rfl, g01, g02, g03⟩ := r1.lst x1 ex0
    refine ⟨.inl ⟨rfl, _, .inl (.inl g02)⟩, h2 w1 hh1 σ env v hh2 r1 (re.up s1) e2 _ fun w2 u2 s2 r2 x2 => ?_⟩
    obtain ⟨a', vs, ea, g1, g2, g3⟩ := r2.lst (x1.up s2) ex
    cases ea
    obtain ⟨s4, r4⟩ := write_ok (o := .lst (vs ++ [u2])) r2 g1 (.lst (g3.app (.cons x2 .nil))) (by rw [g2]; exact fun _ _ z => nomatch z)
    have ss := (s1.trans s2).trans s4
    exact ⟨a, vs, u2, rfl, rfl, g2, by rw [g3.len]; exact Nat.lt_of_lt_of_le hz sl_100000, p (w2.write a _) σ ss r4 (re.up ss)⟩
  · cases e
end
/-! ### loops -/
open Classical in
noncomputable def srcIf {α : Type} (src : List (Nat × List MV)) (h : MH) (o : Option α) : Option α := if (∀ s ∈ src, h[s.1]? = some (.lst s.2)) then o else none
theorem srcIf_nil {α : Type} (h : MH) (o : Option α) : srcIf [] h o = o := by
  unfold srcIf
  rw [if_pos]
  intro s m; cases m
theorem srcIf_of {α : Type} {src : List (Nat × List MV)} {h : MH} {o : Option α} {a : α} (e : srcIf src h o = some a) : (∀ s ∈ src, h[s.1]? = some (.lst s.2)) ∧ o = some a := by
  unfold srcIf at e
  split at e
  · rename_i hs; exact ⟨hs, e⟩
  · cases e
abbrev MI := Env → MH → Option ((List (Nat × List MV) × List MV) × MH)
def ItS (K : PySem.W.Frag) (w : Wd) (src : List (Nat × List MV)) (items : List MV) (J : It) : Prop := ∀ w2 h2, Step w w2 → Rel K w2 h2 → (∀ s ∈ src, h2[s.1]? = some (.lst s.2)) →
  J.stop items.length w2.H ∧ ∀ (i : Nat) x, items[i]? = some x → J.go i w2.H ∧ ∀ u H', J.yld i w2.H u H' → ∃ w3, w3.H = H' ∧ Step w2 w3 ∧ Rel K w3 h2 ∧ Rep K w3.ι w3.C u x
def SimI (K : PySem.W.Frag) (wi : TI) (mi : MI) : Prop := ∀ w h σ env si h', Rel K w h → RepE K w σ env → mi env h = some (si, h') → ∀ R : It → Hp → Prop, (∀ w' J, Step w w' → Rel K w' h' → ItS K w' si.1 si.2 J → R J w'.H) → wi σ w.H R
noncomputable def mLoop (g : MG) (mb : MS) (src : List (Nat × List MV)) : List MV → Env → MH → Option MRes
  | [], env, h => srcIf src h (some (.nx env h))
  | x :: xs, env, h => srcIf src h ((g x env).bind fun env' => (mb env' h).bind fun r => match r with
    | .nx e h' => mLoop g mb src xs e h'
    | .ct e h' => mLoop g mb src xs e h'
    | .bk e h' => some (.nx e h')
    | .rt v h' => some (.rt v h'))
noncomputable def mFor (mi : MI) (g : MG) (mb : MS) : MS := fun env h => (mi env h).bind fun s => mLoop g mb s.1.1 s.1.2 env s.2
def mWLoop (mt : MT) (mb : MS) : Nat → Env → MH → Option MRes
  | 0, _, _ => none
  | n + 1, env, h => (mt env h).bind fun c => if c.1 = true then (mb env c.2).bind fun r => match r with
    | .nx e h' => mWLoop mt mb n e h'
    | .ct e h' => mWLoop mt mb n e h'
    | .bk e h' => some (.nx e h')
    | .rt v h' => some (.rt v h') else some (.nx env c.2)
def mWhile (n : Nat) (mt : MT) (mb : MS) : MS := mWLoop mt mb n
noncomputable def lcLoop (g : MG) (mt : MT) (me : ME) (src : List (Nat × List MV)) (env : Env) : List MV → MH → Option (List MV × MH)
  | [], h => srcIf src h (some ([], h))
  | x :: xs, h => srcIf src h ((g x env).bind fun env' => (mt env' h).bind fun b => if b.1 = true then (me env' b.2).bind fun r => (lcLoop g mt me src env xs r.2).map fun q => (r.1 :: q.1, q.2) else lcLoop g mt me src env xs b.2)
noncomputable def mLc (mi : MI) (g : MG) (mt : MT) (me : ME) (vs : List Nat) : MA := fun env h => (mi env h).bind fun s => (lcLoop g mt me s.1.1 (wipeM env vs) s.1.2 s.2).bind fun r => if r.1.length ≤ 100000 then some r else none
section
variable {K : PySem.W.Frag} {wi : TI} {mi : MI} {g : TG} {mg : MG} {tb : TS} {mb : MS} {te : TE} {me : ME} {tt : TT} {mt : MT} {js : List Nat}
theorem ss_for (hI : SimI K wi mi) (hg : SimG K g mg js) (hb : SimS K tb mb) : SimS K (tFor wi g tb) (mFor mi mg mb) := fun D w h σ env r rl re e p => by
  obtain ⟨⟨⟨src, items⟩, h1⟩, e1, e⟩ := bind_of e
  refine hI w h σ env _ h1 rl re e1 _ fun w1 J s1 r1 ok => ?_
  refine ⟨fun i m σ' H' => ∃ w' h' env', w'.H = H' ∧ Step w1 w' ∧ Rel K w' h' ∧ RepE K w' σ' env' ∧ i ≤ items.length ∧ m = items.length - i ∧ mLoop mg mb src (items.drop i) env' h' = some r,
    ⟨_, w1, h1, env, rfl, .refl _, r1, re.up s1, Nat.zero_le _, rfl, e⟩, ?_⟩
  rintro i m σ' H' ⟨w', h', env', rfl, s2, r2, re2, hi, rfl, el⟩
  by_cases hlt : i < items.length
  · rw [List.drop_eq_getElem_cons hlt, mLoop] at el
    obtain ⟨hs, el⟩ := srcIf_of el
    obtain ⟨env2, g1, el⟩ := bind_of el
    obtain ⟨q, g2, el⟩ := bind_of el
    obtain ⟨_, go⟩ := ok w' h' s2 r2 hs
    obtain ⟨go1, go2⟩ := go i items[i] (by simp [hlt])
    refine .inr ⟨go1, fun σ2 H2 => ∃ w' h' env', w'.H = H2 ∧ Step w1 w' ∧ Rel K w' h' ∧ RepE K w' σ2 env' ∧ mLoop mg mb src (items.drop (i + 1)) env' h' = some r, fun σ2 H2 n => ?_, fun u H2 y => ?_⟩
    · obtain ⟨w', h', env', a1, a2, a3, a4, a5⟩ := n
      exact ⟨_, by omega, w', h', env', a1, a2, a3, a4, hlt, rfl, a5⟩
    · obtain ⟨w3, rfl, s3, r3, x3⟩ := go2 u H2 y
      refine hg w3 h' σ' env' u items[i] env2 r3 (re2.up s3) x3 g1 _ fun σ3 re3 _ _ => ?_
      refine hb _ w3 h' σ3 env2 q r3 re3 g2 ?_
      cases q with
      | nx e2 hh => exact fun w4 σ4 s4 r4 re4 => ⟨w4, hh, e2, rfl, (s2.trans s3).trans s4, r4, re4, el⟩
      | ct e2 hh => exact fun w4 σ4 s4 r4 re4 => ⟨w4, hh, e2, rfl, (s2.trans s3).trans s4, r4, re4, el⟩
      | bk e2 hh => cases el; exact fun w4 σ4 s4 r4 re4 => p w4 σ4 (((s1.trans s2).trans s3).trans s4) r4 re4
      | rt e2 hh => cases el; exact fun w4 σ4 s4 r4 re4 => p w4 σ4 (((s1.trans s2).trans s3).trans s4) r4 re4
  · have ei : i = items.length := by omega
    subst ei
    rw [List.drop_length, mLoop] at el
    obtain ⟨hs, el⟩ := srcIf_of el
    cases el
    exact .inl ⟨(ok w' h' s2 r2 hs).1, p w' σ' (s1.trans s2) r2 re2⟩
theorem ss_while {n : Nat} (ht : SimT K tt mt) (hb : SimS K tb mb) : SimS K (tWhile tt tb) (mWhile n mt mb) := fun D w h σ env r rl re e p => by
  refine ⟨fun m σ' H' => ∃ w' h' env', w'.H = H' ∧ Step w w' ∧ Rel K w' h' ∧ RepE K w' σ' env' ∧ mWLoop mt mb m env' h' = some r, ⟨n, w, h, env, rfl, .refl _, rl, re, e⟩, ?_⟩
  rintro m σ' H' ⟨w', h', env', rfl, s2, r2, re2, el⟩
  cases m with
  | zero => cases el
  | succ m =>
    rw [mWLoop] at el
    obtain ⟨⟨c, h2⟩, e1, el⟩ := bind_of el
    refine ht w' h' σ' env' c h2 r2 re2 e1 _ fun w3 s3 r3 => ?_
    cases c with
    | false => cases el; exact iteF (p w3 σ' (s2.trans s3) r3 (re2.up s3))
    | true =>
      refine iteT ⟨fun σ2 H2 => ∃ w' h' env', w'.H = H2 ∧ Step w w' ∧ Rel K w' h' ∧ RepE K w' σ2 env' ∧ mWLoop mt mb m env' h' = some r, fun σ2 H2 nn => ⟨m, by omega, nn⟩, ?_⟩
      replace el : (mb env' h2).bind _ = some r := el
      obtain ⟨q, g2, el⟩ := bind_of el
      refine hb _ w3 h2 σ' env' q r3 (re2.up s3) g2 ?_
      cases q with
      | nx e2 hh => exact fun w4 σ4 s4 r4 re4 => ⟨w4, hh, e2, rfl, (s2.trans s3).trans s4, r4, re4, el⟩
      | ct e2 hh => exact fun w4 σ4 s4 r4 re4 => ⟨w4, hh, e2, rfl, (s2.trans s3).trans s4, r4, re4, el⟩
      | bk e2 hh => cases el; exact fun w4 σ4 s4 r4 re4 => p w4 σ4 ((s2.trans s3).trans s4) r4 re4
      | rt e2 hh => cases el; exact fun w4 σ4 s4 r4 re4 => p w4 σ4 ((s2.trans s3).trans s4) r4 re4
/-- a thing that nobody knows of is changed -/
theorem garb {s w : Wd} {h : MH} {p : Addr} {o : HO} (st : Step s w) (r : Rel K w h) (hs : s.H p = none) (hi : p ∉ w.ι) (hc : w.C p = none) : Step s ⟨w.ι, w.C, upd w.H p o⟩ ∧ Rel K ⟨w.ι, w.C, upd w.H p o⟩ h := by
  refine ⟨⟨st.pre, st.ex, fun a u e n => ?_, st.nw, st.nc, fun a e => ?_, fun a o' u e => by
    show upd w.H p o a = _
    rw [upd_ne (fun z => by rw [z, hs] at e; cases e)]; exact st.fz a o' u e⟩, ⟨fun a u e => ?_, r.len, r.nd, r.ow, fun n a b e1 e2 => ?_⟩⟩
  · show upd w.H p o a = _
    rw [upd_ne (fun z => by rw [z, hs] at e; cases e)]; exact st.fr a u e n
  · show upd w.H p o a ≠ none
    rw [upd_ne (fun z => e (by rw [z]; exact hs))]; exact st.kp a e
  · replace e : w.C a = some u := e
    show upd w.H p o a = _
    rw [upd_ne (fun z => by rw [z, hc] at e; cases e)]; exact r.ch a u e
  · obtain ⟨u, g1, g2⟩ := r.ob n a b e1 e2
    refine ⟨u, ?_, g2⟩
    show upd w.H p o a = _
    rw [upd_ne (fun z => hi (by rw [← z]; exact List.mem_of_getElem? e1))]; exact g1
theorem sm_lc {vs : List Nat} (hI : SimI K wi mi) (hg : SimG K g mg vs) (ht : SimT K tt mt) (he : SimE K te me) : SimF K (tLc wi g tt te vs) (mLc mi mg mt me vs) := fun w h σ env xs hE rl re e Q q => by
  obtain ⟨⟨⟨src, items⟩, h1⟩, e1, e⟩ := bind_of e
  obtain ⟨⟨ys, hE'⟩, e2, e⟩ := bind_of e
  simp only at e
  split at e
  · rename_i hz
    cases e
    refine hI w h σ env _ h1 rl re e1 _ fun w1 J s1 r1 ok D hD => ?_
    have hD0 : w.H D = none := by
      cases z : w.H D with
      | none => rfl
      | some o => exact absurd hD (s1.kp D (by rw [z]; exact fun q => nomatch q))
    refine ⟨fun i m H' => ∃ w' h' acc accM rest, w'.H = H' ∧ H' D = some (.lst acc) ∧ D ∉ w'.ι ∧ w'.C D = none ∧ Step w1 w' ∧ Rel K w' h' ∧ RepA K w'.ι w'.C acc accM ∧ accM ++ rest = xs ∧ i ≤ items.length ∧ m = items.length - i ∧
      lcLoop mg mt me src (wipeM env vs) (items.drop i) h' = some (rest, hE), ?_, ?_⟩
    · obtain ⟨s2, r2⟩ := garb (o := .lst []) (Step.refl w1) r1 hD (r1.notin hD) (r1.cnone hD)
      exact ⟨_, ⟨w1.ι, w1.C, upd w1.H D (.lst [])⟩, h1, [], [], _, rfl, upd_same, r1.notin hD, r1.cnone hD, s2, r2, .nil, rfl, Nat.zero_le _, rfl, e2⟩
    · rintro i m H' ⟨w', h', acc, accM, rest, rfl, hA, hi, hc, s2, r2, ra, er, hl, rfl, el⟩
      by_cases hlt : i < items.length
      · rw [List.drop_eq_getElem_cons hlt, lcLoop] at el
        obtain ⟨hs, el⟩ := srcIf_of el
        obtain ⟨env2, g1, el⟩ := bind_of el
        obtain ⟨⟨b, h2⟩, g2, el⟩ := bind_of el
        obtain ⟨_, go⟩ := ok w' h' s2 r2 hs
        obtain ⟨go1, go2⟩ := go i items[i] (by simp [hlt])
        refine .inr ⟨go1, fun H2 => ∃ w' h' acc accM rest, w'.H = H2 ∧ H2 D = some (.lst acc) ∧ D ∉ w'.ι ∧ w'.C D = none ∧ Step w1 w' ∧ Rel K w' h' ∧ RepA K w'.ι w'.C acc accM ∧ accM ++ rest = xs ∧ lcLoop mg mt me src (wipeM env vs) (items.drop (i + 1)) h' = some (rest, hE), fun H2 n => ?_, fun u H2 y => ?_⟩
        · obtain ⟨w', h', acc, accM, rest, a1, a2, a3, a4, a5, a6, a7, a8, a9⟩ := n
          exact ⟨_, by omega, w', h', acc, accM, rest, a1, a2, a3, a4, a5, a6, a7, a8, hlt, rfl, a9⟩
        · obtain ⟨w3, rfl, s3, r3, x3⟩ := go2 u H2 y
          have stay : ∀ {wa wb : Wd}, Step wa wb → wa.H D = some (.lst acc) → D ∉ wa.ι → wa.C D = none → wb.H D = some (.lst acc) ∧ D ∉ wb.ι ∧ wb.C D = none := fun {wa wb} s a b c => by
            refine ⟨s.fr D _ a b, fun m => ?_, s.nc D (by rw [a]; exact fun q => nomatch q) c⟩
            rcases s.nw D m with z | z
            · exact b z
            · rw [a] at z; cases z
          obtain ⟨d1, d2, d3⟩ := stay s3 hA hi hc
          have rw0 : RepE K w3 (wipe σ vs) (wipeM env vs) := (((re.up s1).up s2).up s3).wipe vs
          refine hg w3 h' _ _ u items[i] env2 r3 rw0 x3 g1 _ fun σ3 re3 l3 k3 => ⟨?_, ?_⟩
          · rw [show wipe σ3 vs = wipe (wipe σ vs) vs from wipe_eq l3 k3, wipe_wipe]
          · refine ht w3 h' σ3 env2 b h2 r3 re3 g2 _ fun w4 s4 r4 => ?_
            obtain ⟨d4, d5, d6⟩ := stay s4 d1 d2 d3
            cases b with
            | true =>
              replace el : (me env2 h2).bind (fun r => (lcLoop mg mt me src (wipeM env vs) (items.drop (i + 1)) r.2).map fun q => (r.1 :: q.1, q.2)) = some (rest, hE) := el
              obtain ⟨⟨v, h3⟩, g3, el⟩ := bind_of el
              obtain ⟨⟨rest', hx⟩, g4, el⟩ := map_of el
              cases el
              refine iteT (he w4 h2 σ3 env2 v h3 r4 (re3.up s4) g3 _ fun w5 uu s5 r5 x5 => ?_)
              obtain ⟨d7, d8, d9⟩ := stay s5 d4 d5 d6
              have ss := ((s2.trans s3).trans s4).trans s5
              have ra5 := ((ra.up s3).up s4).up s5
              obtain ⟨s6, r6⟩ := garb (o := .lst (acc ++ [uu])) ss r5 hD d8 d9
              refine ⟨acc, d7, ?_, ⟨w5.ι, w5.C, upd w5.H D (.lst (acc ++ [uu]))⟩, h3, acc ++ [uu], accM ++ [v], rest', rfl, upd_same, d8, d9, s6, r6, ra5.app (.cons x5 .nil), ?_, g4⟩
              · rw [ra.len]
                refine Nat.lt_of_lt_of_le (?_ : accM.length < 100000) sl_100000
                have hz' : xs.length ≤ 100000 := hz
                rw [← er] at hz'
                simp at hz'
                omega
              · rw [← er]; simp
            | false =>
              exact iteF ⟨w4, h2, acc, accM, rest, rfl, d4, d5, d6, (s2.trans s3).trans s4, r4, (ra.up s3).up s4, er, el⟩
      · have ei : i = items.length := by omega
        subst ei
        rw [List.drop_length, lcLoop] at el
        obtain ⟨hs, el⟩ := srcIf_of el
        cases el
        rw [List.append_nil] at er
        subst er
        exact .inl ⟨(ok w' _ s2 r2 hs).1, q w' D acc (s1.trans s2) r2 hD0 hA hi hc ra⟩
  · cases e
end
end M
namespace M
open PySem PySem.Spec PyProof.Rows L2
open Evl (Ex ex_rd ex_l ex_t rMax2)
open G (dpx dpax dpa_len dpa_get dpa_app dpa_set ex_none wipe_get wipe_eq wipe_wipe RD UD CD Ret)
/-! ### from data to data -/
mutual
def noL : PyData → Bool
  | .list _ => false
  | .dict _ => false
  | .tuple xs => noLA xs
  | _ => true
def noLA : List PyData → Bool
  | [] => true
  | x :: xs => noL x && noLA xs
end
section
variable {K : PySem.W.Frag} {w : Wd} {h : MH}
mutual
theorem dp_sub {C C' : Hp} (e : ∀ a xs, Rd C a (.tup xs) → Rd C' a (.tup xs)) : ∀ {v : V} {p : PyData}, noL p = true → Dp K C v p → Dp K C' v p
  | _, _, _, .non => .non
  | _, _, _, .bl b => .bl b
  | _, _, _, .int i => .int i
  | _, _, _, .str x => .str x
  | _, _, n, .lst h a => by rw [noL] at n; cases n
  | _, _, n, .tup h a => .tup (h.elim (fun q => .inl (e _ _ q)) .inr) (dpa_sub e (by rw [noL] at n; exact n) a)
theorem dpa_sub {C C' : Hp} (e : ∀ a xs, Rd C a (.tup xs) → Rd C' a (.tup xs)) : ∀ {vs : List V} {ps : List PyData}, noLA ps = true → DpAll K C vs ps → DpAll K C' vs ps
  | _, _, _, .nil => .nil
  | _, _, n, .cons h t => by
    rw [noLA, Bool.and_eq_true] at n
    exact .cons (dp_sub e n.1 h) (dpa_sub e n.2 t)
end
/-- behind a computation that saw only data -/
theorem step_C {C' H' : Hp} (r : Rel K w h) (e1 : Ex w.C C') (e2 : Ex C' H') (e3 : Ex w.H H') (fr : ∀ a, w.H a ≠ none → w.C a = none → C' a = none) : Step w ⟨w.ι, C', H'⟩ ∧ Rel K ⟨w.ι, C', H'⟩ h := by
  have hown : ∀ a ∈ w.ι, w.H a ≠ none := fun a m => by
    obtain ⟨n, hn, e⟩ := List.getElem_of_mem m
    obtain ⟨o, q, _⟩ := r.ob n a (h[n]'(by rw [← r.len]; exact hn)) (by rw [← e]; simp) (by simp)
    rw [q]; exact fun z => nomatch z
  refine ⟨⟨List.prefix_refl _, e1, fun a o q _ => e3 a o q, fun a m => .inl m, fr, fun a q => ?_, fun a o u q => e3 a _ q⟩, ⟨e2, r.len, r.nd, fun a m => fr a (hown a m) (r.ow a m), fun n a b q1 q2 => ?_⟩⟩
  · cases z : w.H a with
    | none => exact absurd z q
    | some o =>
      show H' a ≠ none
      rw [e3 a o z]; exact fun q => nomatch q
  · obtain ⟨o, g1, g2⟩ := r.ob n a b q1 q2
    exact ⟨o, e3 a o g1, g2.mono (List.prefix_refl _) e1⟩
/-- behind a computation that saw all that is to be seen -/
theorem step_vis {C' H' : Hp} (r : Rel K w h) (e1 : Ex (vis w) C') (e2 : Ex C' H') (e3 : Ex w.H H') (fr : ∀ a, w.H a ≠ none → vis w a = none → C' a = none) :
    ∃ Cn : Hp, Step w ⟨w.ι, Cn, H'⟩ ∧ Rel K ⟨w.ι, Cn, H'⟩ h ∧ Ex Cn C' ∧ ∀ a xs, Rd C' a (.tup xs) → Rd Cn a (.tup xs) := by
  have f1 : ∀ a, w.H a ≠ none → w.C a = none → (fun a => if a ∈ w.ι then none else C' a) a = none := fun a q c => by
    show (if a ∈ w.ι then none else C' a) = none
    by_cases z : a ∈ w.ι
    · rw [if_pos z]
    · rw [if_neg z]
      refine fr a q ?_
      unfold vis
      rw [if_neg]
      exact fun y => y.elim (fun y => y c) z
  have f2 : Ex w.C (fun a => if a ∈ w.ι then none else C' a) := fun a o q => by
    show (if a ∈ w.ι then none else C' a) = some o
    rw [if_neg (fun z => by rw [r.ow a z] at q; cases q)]
    exact e1 a o (vis_C r a o q)
  have f3 : Ex (fun a => if a ∈ w.ι then none else C' a) C' := fun a o q => by
    replace q : (if a ∈ w.ι then none else C' a) = some o := q
    by_cases z : a ∈ w.ι
    · rw [if_pos z] at q; cases q
    · rw [if_neg z] at q; exact q
  obtain ⟨s, r'⟩ := step_C r f2 (f3.trans e2) e3 f1
  refine ⟨_, s, r', f3, fun a xs q => ?_⟩
  have ne : a ∉ w.ι := fun m => by
    obtain ⟨n, hn, e⟩ := List.getElem_of_mem m
    obtain ⟨o, q1, q2⟩ := r.ob n a (h[n]'(by rw [← r.len]; exact hn)) (by rw [← e]; simp) (by simp)
    have := e1 a o (by rw [vis_own r m]; exact q1)
    rcases q with q | ⟨o', q⟩
    · rw [this] at q; cases q; cases q2
    · rw [this] at q; cases q; cases q2
  have e : (fun a => if a ∈ w.ι then none else C' a) a = C' a := if_neg ne
  rcases q with q | ⟨o', q⟩
  · exact .inl (e.trans q)
  · exact .inr ⟨o', e.trans q⟩
theorem ret_dat {H C H' : Hp} {u : V} {r : PyData} (t : Ret K H C (.dat r) u H') : ∃ C', Ex C C' ∧ Ex C' H' ∧ Ex H H' ∧ (∀ a, H a ≠ none → C a = none → C' a = none) ∧ Dp K C' u r := by
  obtain ⟨C', ps, a1, a2, a3, a4, a5, _⟩ := t
  cases a5 with
  | dat d _ => exact ⟨C', a1, a2, a3, a4, d⟩
theorem ret_own {H C H' : Hp} {u : V} {ds : List PyData} {z : Option Addr} (t : Ret K H C (.ownq z ds) u H') : ∃ C' p vs, u = .ref p ∧ H' p = some (.lst vs) ∧ DpAll K C' vs ds ∧ C' p = none ∧ H p = none ∧ Ex C C' ∧ Ex C' H' ∧ Ex H H' ∧ (∀ a, H a ≠ none → C a = none → C' a = none) := by
  obtain ⟨C', ps, a1, a2, a3, a4, a5, a6⟩ := t
  cases a5 with
  | own y q d t =>
    cases t
    obtain ⟨b1, b2⟩ := a6 _ List.mem_cons_self
    exact ⟨C', _, _, rfl, q, d, b1, b2, a1, a2, a3, a4⟩
def liftD (f : List PyData → Option PyData) : MCa := fun xs h => match allD xs with
  | some ds => (f ds).map fun r => (.d r, h)
  | none => (mapO (reify 6 h) xs).bind fun ds => (f ds).bind fun r => if noL r = true then some (.d r, h) else none
theorem liftD_d (f : List PyData → Option PyData) (ds : List PyData) (h : MH) : liftD f (ds.map .d) h = (f ds).map fun r => (.d r, h) := by unfold liftD; rw [allD_map]
theorem lift_ok {op : List V → Hp → VK → Prop} {f : List PyData → Option PyData} (hf : ∀ C H vs ds r, Ex C H → DpAll K C vs ds → f ds = some r → ∀ Q : VK, (∀ v H', Ret K H C (.dat r) v H' → Q v H') → op vs H Q) : SimC K op (liftD f) := fun w h us xs v h' rl ra e Q q => by
  unfold liftD at e
  split at e
  · rename_i ds ed
    obtain ⟨r, e1, e⟩ := map_of e
    cases e
    rw [allD_eq ed] at ra
    refine hf w.C w.H us ds r rl.ch ra.toD e1 Q fun u H' t => ?_
    obtain ⟨C', a1, a2, a3, a4, a5⟩ := ret_dat t
    obtain ⟨s, r'⟩ := step_C rl a1 a2 a3 a4
    exact q ⟨w.ι, C', H'⟩ u s r' (.d a5)
  · obtain ⟨ds, e1, e⟩ := bind_of e
    obtain ⟨r, e2, e⟩ := bind_of e
    split at e
    · rename_i hn
      cases e
      refine hf (vis w) w.H us ds r vis_ex (reifyA_ok rl 6 ra e1) e2 Q fun u H' t => ?_
      obtain ⟨C', a1, a2, a3, a4, a5⟩ := ret_dat t
      obtain ⟨Cn, s, r', _, k⟩ := step_vis rl a1 a2 a3 a4
      exact q ⟨w.ι, Cn, H'⟩ u s r' (.d (dp_sub k hn a5))
    · cases e
def liftF (f : List PyData → Option (List PyData)) : List MV → MH → Option (List MV × MH) := fun xs h => match allD xs with
  | some ds => (f ds).map fun r => (r.map .d, h)
  | none => (mapO (reify 6 h) xs).bind fun ds => (f ds).bind fun r => if noLA r = true then some (r.map .d, h) else none
theorem liftF_d (f : List PyData → Option (List PyData)) (ds : List PyData) (h : MH) : liftF f (ds.map .d) h = (f ds).map fun r => (r.map .d, h) := by unfold liftF; rw [allD_map]
theorem liftF_ok {op : List V → Hp → VK → Prop} {f : List PyData → Option (List PyData)} (hf : ∀ C H vs ds r, Ex C H → DpAll K C vs ds → f ds = some r → ∀ Q : VK, (∀ v H', Ret K H C (.own r) v H' → Q v H') → op vs H Q) : SimCF K op (liftF f) := fun w h us xs v h' rl ra e Q q => by
  unfold liftF at e
  split at e
  · rename_i ds ed
    obtain ⟨r, e1, e⟩ := map_of e
    cases e
    rw [allD_eq ed] at ra
    refine hf w.C w.H us ds r rl.ch ra.toD e1 Q fun u H' t => ?_
    obtain ⟨C', p, vs, rfl, b1, b2, b3, b4, a1, a2, a3, a4⟩ := ret_own t
    obtain ⟨s, r'⟩ := step_C rl a1 a2 a3 a4
    exact q ⟨w.ι, C', H'⟩ p vs s r' b4 b1 (rl.notin b4) b3 (RepA.ofD b2)
  · obtain ⟨ds, e1, e⟩ := bind_of e
    obtain ⟨r, e2, e⟩ := bind_of e
    split at e
    · rename_i hn
      cases e
      refine hf (vis w) w.H us ds r vis_ex (reifyA_ok rl 6 ra e1) e2 Q fun u H' t => ?_
      obtain ⟨C', p, vs, rfl, b1, b2, b3, b4, a1, a2, a3, a4⟩ := ret_own t
      obtain ⟨Cn, s, r', k0, k⟩ := step_vis rl a1 a2 a3 a4
      exact q ⟨w.ι, Cn, H'⟩ p vs s r' b4 b1 (rl.notin b4) (ex_none k0 b3) (RepA.ofD (dpa_sub k hn b2))
    · cases e
end
/-! ### defs -/
def spQ (K : PySem.W.Frag) (f : List PyData → Option PyData) : Sp := fun vs H Q _ => ∃ C ds r, Ex C H ∧ DpAll K C vs ds ∧ f ds = some r ∧ ∀ v H', Ret K H C (.dat r) v H' → Q v H'
def spH (K : PySem.W.Frag) (f : MCa) : Sp := fun vs H Q _ => ∃ w h xs v h', w.H = H ∧ Rel K w h ∧ RepA K w.ι w.C vs xs ∧ f xs h = some (v, h') ∧ ∀ w' u, Step w w' → Rel K w' h' → Rep K w'.ι w'.C u v → Q u w'.H
theorem sm_callQ {K : PySem.W.Frag} {f : List PyData → Option PyData} {E : XK} {ta : TA} {ma : MA} (ha : SimA K ta ma) : SimE K (tCall (spQ K f) [] E ta) (mCB (liftD f) ma) := by
  have : SimC K (fun vs H Q => spQ K f (vs ++ []) H Q E) (liftD f) := lift_ok fun C H vs ds r e d hf Q q => by
    show spQ K f (vs ++ []) H Q E
    rw [List.append_nil]
    exact ⟨C, ds, r, e, d, hf, q⟩
  exact sm_cb ha this
theorem sm_callH {K : PySem.W.Frag} {f : MCa} {E : XK} {ta : TA} {ma : MA} (ha : SimA K ta ma) : SimE K (tCall (spH K f) [] E ta) (mCB f ma) := by
  have : SimC K (fun vs H Q => spH K f (vs ++ []) H Q E) f := fun w h us xs v h' rl ra e Q q => by
    show spH K f (us ++ []) w.H Q E
    rw [List.append_nil]
    exact ⟨w, h, xs, v, h', rfl, rl, ra, e, q⟩
  exact sm_cb ha this
def resM : MRes → Option (MV × MH)
  | .rt v h => some (v, h)
  | .nx _ h => some (.d .none, h)
  | _ => none
def toHeap (np N : Nat) (ms : MS) : MCa := fun xs h => if xs.length = np then (ms (xs.map some ++ List.replicate (N - np) none) h).bind resM else none
def toPure (np N : Nat) (ms : MS) : List PyData → Option PyData := fun ds => (toHeap np N ms (ds.map .d) []).bind fun r => reify 6 r.2 r.1
section
variable {P : Program} {w : World} {K : PySem.W.Frag} {mg : Str → Option Value} {base : Heap} {x qual : Str} {st : Stmt} {f : Addr} {fd : FuncData} {N ps : List Str} {k : Nat} {tr : TS} {ms : MS} {np nN : Nat}
theorem repE_start {wd : Wd} : ∀ {vs : List V} {xs : List MV} (n : Nat), RepA K wd.ι wd.C vs xs → RepE K wd (vs.map some ++ List.replicate n none) (xs.map some ++ List.replicate n none) := by
  intro vs xs n ra
  have hl := ra.len
  refine ⟨by simp [hl], fun i y e => ?_⟩
  by_cases hi : i < xs.length
  · rw [List.getElem?_append_left (by simpa using hi), List.getElem?_map] at e
    obtain ⟨z, e1, e2⟩ := Option.map_eq_some_iff.mp e
    cases e2
    obtain ⟨v, g1, g2⟩ := ra.get e1
    refine ⟨v, ?_, g2⟩
    rw [List.getElem?_append_left (by simpa [hl] using hi), List.getElem?_map, g1]; rfl
  · rw [List.getElem?_append_right (by simpa using hi)] at e
    rw [List.getElem?_replicate] at e
    split at e <;> cases e
theorem run_ok (hs : SimS K tr ms) {wd : Wd} {h h' : MH} {vs : List V} {xs : List MV} {v : MV} {Q : VK} (rl : Rel K wd h) (ra : RepA K wd.ι wd.C vs xs) (e : toHeap np nN ms xs h = some (v, h')) (hN : N.length = nN)
    (q : ∀ w' u, Step wd w' → Rel K w' h' → Rep K w'.ι w'.C u v → Q u w'.H) : tr { nx := fun _ H' => Q .non H', rt := Q } (L2.start N vs) wd.H := by
  unfold toHeap at e
  split at e
  · rename_i hl
    obtain ⟨r, e1, e⟩ := bind_of e
    have re := repE_start (nN - np) ra
    have es : L2.start N vs = vs.map some ++ List.replicate (nN - np) none := by
      unfold L2.start
      rw [hN, ra.len, hl]
    rw [es]
    refine hs _ wd h _ _ r rl re e1 ?_
    cases r with
    | rt v' h2 => cases e; exact fun w' u s r x => q w' u s r x
    | nx v' h2 => cases e; exact fun w' σ' s r x => q w' .non s r (.d .non)
    | bk v' h2 => cases e
    | ct v' h2 => cases e
  · cases e
theorem toHeap_len {xs : List MV} {h : MH} {r : MV × MH} (e : toHeap np nN ms xs h = some r) : xs.length = np := by
  unfold toHeap at e
  split at e
  · assumption
  · cases e
theorem fn_okH (F : Fun K x qual st f fd) (S : FnScope N ps (defScope st)) (hnp : ps.length = np) (hN : N.length = nN)
    (pst : ∀ (cdv : Value) (A : Around) (outer : List PySem.Env) (s : Shared) (H : Hp) (E : XK), Room k (A.deeper (envOfC qual (defScope st) s.heap.objs.size f cdv)) → PSs (cxOf CX0 P w K mg base N qual (defScope st) f cdv A outer s H E).nox (defBody st) tr)
    (hs : SimS K tr ms) : FnOk P w K mg base CX0 (k + 1) f fd ps (spH K (toHeap np nN ms)) := by
  refine F.ok S (fun vs H Q E h => ?_) (fun cdv A outer s H vs Q E hr h => ⟨_, pst cdv A outer s H E hr, ?_⟩)
  · obtain ⟨wd, h, xs, v, h', _, _, ra, e, _⟩ := h
    rw [ra.len, toHeap_len e, hnp]
  · obtain ⟨wd, h, xs, v, h', rfl, rl, ra, e, q⟩ := h
    exact run_ok hs rl ra e hN q
theorem rel_nil {C H : Hp} (e : Ex C H) : Rel K ⟨[], C, H⟩ [] := ⟨e, rfl, List.nodup_nil, (fun a m => by cases m), (fun n a b q => by simp at q)⟩
theorem fn_okQ (F : Fun K x qual st f fd) (S : FnScope N ps (defScope st)) (hnp : ps.length = np) (hN : N.length = nN)
    (pst : ∀ (cdv : Value) (A : Around) (outer : List PySem.Env) (s : Shared) (H : Hp) (E : XK), Room k (A.deeper (envOfC qual (defScope st) s.heap.objs.size f cdv)) → PSs (cxOf CX0 P w K mg base N qual (defScope st) f cdv A outer s H E).nox (defBody st) tr)
    (hs : SimS K tr ms) : FnOk P w K mg base CX0 (k + 1) f fd ps (spQ K (toPure np nN ms)) := by
  refine F.ok S (fun vs H Q E h => ?_) (fun cdv A outer s H vs Q E hr h => ⟨_, pst cdv A outer s H E hr, ?_⟩)
  · obtain ⟨C, ds, r, _, dv, e, _⟩ := h
    obtain ⟨q, e1, e2⟩ := bind_of e
    have := toHeap_len e1
    rw [List.length_map] at this
    rw [dpa_len dv, this, hnp]
  · obtain ⟨C, ds, r, ex, dv, e, q⟩ := h
    obtain ⟨⟨v, h'⟩, e1, e2⟩ := bind_of e
    refine run_ok (wd := ⟨[], C, H⟩) hs (rel_nil ex) (RepA.ofD dv) e1 hN fun w' u s rl x => ?_
    have hd := reify_ok rl 6 x e2
    have frv : ∀ a, H a ≠ none → C a = none → vis w' a = none := fun a n c => by
      unfold vis
      rw [if_neg]
      rintro (z | z)
      · exact z (s.nc a n c)
      · rcases s.nw a z with m | m
        · cases m
        · exact n m
    exact q u w'.H ⟨vis w', [], s.ex.trans (vis_C rl), vis_ex, fun a o e => s.fr a o e (fun m => by cases m), frv, .dat hd .nil, fun p m => by cases m⟩
end
end M
namespace L2
open PySem PySem.Spec PyProof.Rows
section
variable {X : Cx}
/-! ### the order of data -/
def rCmpD (K : PySem.W.Frag) (f : PyData → PyData → Bool) : R2 := fun x y H Q => ∃ d e, Dp K H x d ∧ Dp K H y e ∧ PySem.W.alike d e = true ∧ d ≠ .none ∧ min d.depth e.depth ≤ 60 ∧ Q (.bl (f d e)) H
def fLt (d e : PyData) : Bool := PySem.W.dataLt d e
def fGt (d e : PyData) : Bool := PySem.W.dataLt e d
def fLe (d e : PyData) : Bool := !PySem.W.dataLt e d
def fGe (d e : PyData) : Bool := !PySem.W.dataLt d e
theorem op_ltDa (hu : X.A.units + 64 < cLine) : OpR X (compareOp .Lt) (rCmpD X.K fLt) := fun pins s σ H x y v u Q I rx ry ⟨d, e, hd, he, ha, hn, hz, q⟩ => by
  obtain ⟨as, r1⟩ := Dp.reads I d x v hd rx
  obtain ⟨bs, r2⟩ := Dp.reads I e y u he ry
  exact PySem.W.lt_data r1 r2 ha hn (by omega) ⟨.bl _, H, I, rfl, q⟩
theorem op_gtDa (hu : X.A.units + 64 < cLine) : OpR X (compareOp .Gt) (rCmpD X.K fGt) := fun pins s σ H x y v u Q I rx ry ⟨d, e, hd, he, ha, hn, hz, q⟩ => by
  obtain ⟨as, r1⟩ := Dp.reads I d x v hd rx
  obtain ⟨bs, r2⟩ := Dp.reads I e y u he ry
  exact PySem.W.gt_data r1 r2 ha hn (by omega) ⟨.bl _, H, I, rfl, q⟩
theorem op_leDa (hu : X.A.units + 64 < cLine) : OpR X (compareOp .LtE) (rCmpD X.K fLe) := fun pins s σ H x y v u Q I rx ry ⟨d, e, hd, he, ha, hn, hz, q⟩ => by
  obtain ⟨as, r1⟩ := Dp.reads I d x v hd rx
  obtain ⟨bs, r2⟩ := Dp.reads I e y u he ry
  exact PySem.W.le_data r1 r2 ha hn (by omega) ⟨.bl _, H, I, rfl, q⟩
theorem op_geDa (hu : X.A.units + 64 < cLine) : OpR X (compareOp .GtE) (rCmpD X.K fGe) := fun pins s σ H x y v u Q I rx ry ⟨d, e, hd, he, ha, hn, hz, q⟩ => by
  obtain ⟨as, r1⟩ := Dp.reads I d x v hd rx
  obtain ⟨bs, r2⟩ := Dp.reads I e y u he ry
  exact PySem.W.ge_data r1 r2 ha hn (by omega) ⟨.bl _, H, I, rfl, q⟩
theorem hu65 {A : Around} {k : Nat} (hr : Room k A) : A.units + 65 < cLine := by have := hr.un; omega
/-- dict(d), a copy -/
def rDictCp : List V → Hp → VK → Prop := fun xs H Q => ∃ (a : Addr) (kvs : List (Key × V)), xs = [.ref a] ∧ Rd H a (.dK kvs) ∧ ∀ p, H p = none → Q (.ref p) (upd H p (.dK kvs))
theorem cr_dictCp : CallR X (.type "dict") rDictCp := by
  intro pins s σ H xs us Q I r q
  obtain ⟨a, kvs, ex, hd, q⟩ := q
  subst ex
  obtain ⟨u, eu, rx⟩ := vals1 r
  subst eu
  cases rx
  exact d_copyOf I hd fun p s' hp I' => ⟨.ref p, _, I', rfl, q p hp⟩
end
end L2
namespace M
open PySem PySem.Spec PyProof.Rows L2
open Evl (Ex ex_rd ex_l ex_t rMax2)
open G (dpx dpax dpa_len dpa_get dpa_app dpa_set ex_none wipe_get wipe_eq wipe_wipe RD UD CD Ret rMin2 rInt1 rAbs rTupOf rListOf)
section
variable {K : PySem.W.Frag} {w : Wd} {h : MH}
/-! ### numbers -/
def mI (g : Int → Int → Int) : MO2 := fun a b h => (asI a).bind fun i => (asI b).map fun j => (.d (.int (g i j)), h)
def mIB (g : Int → Int → Bool) : MO2 := fun a b h => (asI a).bind fun i => (asI b).map fun j => (.d (.bool (g i j)), h)
open Classical in
noncomputable def mIC (c : Int → Int → Prop) (g : Int → Int → Int) : MO2 := fun a b h => (asI a).bind fun i => (asI b).bind fun j => if c i j then some (.d (.int (g i j)), h) else none
theorem asI_rep {v : V} {x : MV} {i : Int} (r : Rep K w.ι w.C v x) (e : asI x = some i) : v = .int i := by
  rw [asI_of e] at r
  exact r.int
theorem sr_int {g : Int → Int → Int} : SimR K (rI0 fun i j => .int (g i j)) (mI g) := fun w h x y a b v h' rl rx ry e Q q => by
  obtain ⟨i, e1, e⟩ := bind_of e
  obtain ⟨j, e2, e⟩ := map_of e
  cases e
  exact ⟨i, j, asI_rep rx e1, asI_rep ry e2, q w _ (.refl _) rl (.d (.int _))⟩
theorem sr_bl {g : Int → Int → Bool} : SimR K (rI0 fun i j => .bl (g i j)) (mIB g) := fun w h x y a b v h' rl rx ry e Q q => by
  obtain ⟨i, e1, e⟩ := bind_of e
  obtain ⟨j, e2, e⟩ := map_of e
  cases e
  exact ⟨i, j, asI_rep rx e1, asI_rep ry e2, q w _ (.refl _) rl (.d (.bl _))⟩
theorem sr_intC {c : Int → Int → Prop} {g : Int → Int → Int} : SimR K (rI c fun i j => .int (g i j)) (mIC c g) := fun w h x y a b v h' rl rx ry e Q q => by
  obtain ⟨i, e1, e⟩ := bind_of e
  obtain ⟨j, e2, e⟩ := bind_of e
  split at e
  · rename_i hc
    cases e
    exact ⟨i, j, asI_rep rx e1, asI_rep ry e2, hc, q w _ (.refl _) rl (.d (.int _))⟩
  · cases e
def mNeg : MO1 := fun a h => (asI a).map fun i => (.d (.int (-i)), h)
theorem su_neg : SimU K (rU fun i => .int (-i)) mNeg := fun w h x a v h' rl rx e Q q => by
  obtain ⟨i, e1, e⟩ := map_of e
  cases e
  exact ⟨i, asI_rep rx e1, q w _ (.refl _) rl (.d (.int _))⟩
/-! ### what lies in a row -/
def itemsOf (h : MH) : MV → Option (List MV)
  | .d (.list ds) => some (ds.map .d)
  | .d (.tuple ds) => some (ds.map .d)
  | .tup xs => some xs
  | .ref n => (asL h (.ref n)).map (·.2)
  | _ => none
theorem items_ok (r : Rel K w h) {v : V} {x : MV} {xs : List MV} (rx : Rep K w.ι w.C v x) (e : itemsOf h x = some xs) : ∃ p vs, v = .ref p ∧ (SqL K w.H p vs ∨ SqT K w.H p vs) ∧ RepA K w.ι w.C vs xs := by
  cases x with
  | d p =>
    cases p with
    | list ds =>
      cases e
      cases rx with
      | d rx => cases rx with
        | lst hq ha => exact ⟨_, _, rfl, .inl (ex_l r.ch hq), RepA.ofD ha⟩
    | tuple ds =>
      cases e
      cases rx with
      | d rx => cases rx with
        | tup hq ha => exact ⟨_, _, rfl, .inr (ex_t r.ch hq), RepA.ofD ha⟩
    | none => cases e
    | bool _ => cases e
    | int _ => cases e
    | str _ => cases e
    | dict _ => cases e
  | tup ys =>
    cases e
    cases rx with
    | tup hq ha => exact ⟨_, _, rfl, .inr (ex_t r.ch (sqt hq)), ha⟩
  | ref n =>
    obtain ⟨⟨m, ys⟩, e1, e2⟩ := map_of e
    cases e2
    obtain ⟨eo, ex⟩ := asL_of e1
    cases eo
    obtain ⟨a, vs, h1, h2, h3, h4⟩ := r.lst rx ex
    exact ⟨a, vs, h1, .inl (.inl (.inl h3)), h4⟩
def isT : MV → Bool
  | .d (.tuple _) => true
  | .tup _ => true
  | _ => false
theorem items_T (r : Rel K w h) {v : V} {x : MV} {xs : List MV} (rx : Rep K w.ι w.C v x) (e : itemsOf h x = some xs) (t : isT x = true) : ∃ p vs, v = .ref p ∧ SqT K w.C p vs ∧ RepA K w.ι w.C vs xs := by
  cases x with
  | d p =>
    cases p with
    | tuple ds =>
      cases e
      cases rx with
      | d rx => cases rx with
        | tup hq ha => exact ⟨_, _, rfl, hq, RepA.ofD ha⟩
    | _ => cases t
  | tup ys =>
    cases e
    cases rx with
    | tup hq ha => exact ⟨_, _, rfl, sqt hq, ha⟩
  | ref n => cases t
theorem items_L (r : Rel K w h) {v : V} {x : MV} {xs : List MV} (rx : Rep K w.ι w.C v x) (e : itemsOf h x = some xs) (t : isT x = false) : ∃ p vs, v = .ref p ∧ SqL K w.H p vs ∧ RepA K w.ι w.C vs xs := by
  cases x with
  | d p =>
    cases p with
    | list ds =>
      cases e
      cases rx with
      | d rx => cases rx with
        | lst hq ha => exact ⟨_, _, rfl, ex_l r.ch hq, RepA.ofD ha⟩
    | tuple ds => cases t
    | none => cases e
    | bool _ => cases e
    | int _ => cases e
    | str _ => cases e
    | dict _ => cases e
  | tup ys => cases t
  | ref n =>
    obtain ⟨⟨m, ys⟩, e1, e2⟩ := map_of e
    cases e2
    obtain ⟨eo, ex⟩ := asL_of e1
    cases eo
    obtain ⟨a, vs, h1, h2, h3, h4⟩ := r.lst rx ex
    exact ⟨a, vs, h1, .inl (.inl h3), h4⟩
theorem atI_rep {ι : List Addr} {C : Hp} {vs : List V} {xs : List MV} {i : Int} {x : MV} (r : RepA K ι C vs xs) (a : atI xs i = some x) : ∃ v, atI vs i = some v ∧ Rep K ι C v x := by
  unfold atI at a ⊢
  rw [r.len]
  cases hx : ixN xs.length i with
  | none => rw [hx] at a; cases a
  | some j =>
    rw [hx] at a
    exact r.get a
def mIx : MO2 := fun a b h => (itemsOf h a).bind fun xs => (asI b).bind fun i => (atI xs i).map fun v => (v, h)
theorem sr_ix : SimR K (rIx K) mIx := fun w h x y a b v h' rl rx ry e Q q => by
  obtain ⟨xs, e1, e⟩ := bind_of e
  obtain ⟨i, e2, e⟩ := bind_of e
  obtain ⟨z, e3, e⟩ := map_of e
  cases e
  have hi := asI_rep ry e2
  subst hi
  obtain ⟨p, vs, rfl, hs, ra⟩ := items_ok rl rx e1
  obtain ⟨u, g1, g2⟩ := atI_rep ra e3
  rcases hs with hs | hs
  · exact .inl ⟨p, vs, i, u, rfl, rfl, hs, g1, q w u (.refl _) rl g2⟩
  · exact .inr (.inl ⟨p, vs, i, u, rfl, rfl, hs, g1, q w u (.refl _) rl g2⟩)
def arg1 : List MV → Option MV
  | [x] => some x
  | _ => none
theorem arg1_of {xs : List MV} {x : MV} (e : arg1 xs = some x) : xs = [x] := by
  unfold arg1 at e
  split at e
  · cases e; rfl
  · cases e
theorem RepA.one {ι : List Addr} {C : Hp} {us : List V} {x : MV} (r : RepA K ι C us [x]) : ∃ u, us = [u] ∧ Rep K ι C u x := by
  cases r with
  | cons r1 r2 => cases r2; exact ⟨_, rfl, r1⟩
def mLen : MCa := fun xs h => (arg1 xs).bind fun x => (itemsOf h x).map fun ys => (.d (.int ys.length), h)
theorem sc_len : SimC K (G.rLen K) mLen := fun w h us xs v h' rl ra e Q q => by
  obtain ⟨x, e1, e⟩ := bind_of e
  obtain ⟨ys, e2, e⟩ := map_of e
  cases e
  rw [arg1_of e1] at ra
  obtain ⟨u, rfl, rx⟩ := ra.one
  obtain ⟨p, vs, rfl, hs, rv⟩ := items_ok rl rx e2
  exact ⟨p, vs, rfl, hs, by rw [rv.len]; exact q w _ (.refl _) rl (.d (.int _))⟩
def mTupOf : MCa := fun xs h => (arg1 xs).bind fun x => (itemsOf h x).map fun ys => (if isT x = true then x else mkTup ys, h)
theorem sc_tup : SimC K (rTupOf K) mTupOf := fun w h us xs v h' rl ra e Q q => by
  obtain ⟨x, e1, e⟩ := bind_of e
  obtain ⟨ys, e2, e⟩ := map_of e
  cases e
  rw [arg1_of e1] at ra
  obtain ⟨u, rfl, rx⟩ := ra.one
  cases ht : isT x with
  | true =>
    obtain ⟨p, vs, rfl, hs, rv⟩ := items_T rl rx e2 ht
    exact ⟨p, vs, rfl, .inr ⟨ex_t rl.ch hs, q w _ (.refl _) rl (by rw [ht]; exact rx)⟩⟩
  | false =>
    obtain ⟨p, vs, rfl, hs, rv⟩ := items_L rl rx e2 ht
    refine ⟨p, vs, rfl, .inl ⟨hs, fun l hl => ?_⟩⟩
    obtain ⟨s2, r2⟩ := know_ok (o := .tup vs) rl hl
    exact q (w.know l (.tup vs)) _ s2 r2 (by rw [ht]; exact mkTup_rep upd_same (rv.up s2))
/-- what is made new -/
theorem fresh_ok (r : Rel K w h) {p : Addr} (hp : w.H p = none) {o : HO} : Step w ⟨w.ι, w.C, upd w.H p o⟩ ∧ Rel K ⟨w.ι, w.C, upd w.H p o⟩ h := garb (.refl w) r hp (r.notin hp) (r.cnone hp)
def mListOf : List MV → MH → Option (List MV × MH) := fun xs h => (arg1 xs).bind fun x => (itemsOf h x).map fun ys => (ys, h)
theorem sf_list : SimCF K (rListOf K) mListOf := fun w h us xs v h' rl ra e Q q => by
  obtain ⟨x, e1, e⟩ := bind_of e
  obtain ⟨ys, e2, e⟩ := map_of e
  cases e
  rw [arg1_of e1] at ra
  obtain ⟨u, rfl, rx⟩ := ra.one
  obtain ⟨p, vs, rfl, hs, rv⟩ := items_ok rl rx e2
  refine ⟨p, vs, rfl, hs, fun l hl => ?_⟩
  obtain ⟨s2, r2⟩ := fresh_ok (o := .lst vs) rl hl
  exact q _ l vs s2 r2 hl upd_same (rl.notin hl) (rl.cnone hl) rv
def mCatS (a b : MV) (h : MH) : Option (List MV × MH) := if isT a = false ∧ isT b = false then (itemsOf h a).bind fun xs => (itemsOf h b).bind fun ys => if xs.length + ys.length ≤ 100000 then some (xs ++ ys, h) else none else none
def mCatE (ma mb : ME) : MA := fun env h => (ma env h).bind fun r => (mb env r.2).bind fun s => mCatS r.1 s.1 s.2
theorem sm_catS {ta tb : TE} {ma mb : ME} (ha : SimE K ta ma) (hb : SimE K tb mb) : SimF K (tOp (G.rCatS K) ta tb) (mCatE ma mb) := fun w h σ env v h' rl re e Q q => by
  obtain ⟨⟨a, h1⟩, e1, e⟩ := bind_of e
  obtain ⟨⟨b, h2⟩, e2, e⟩ := bind_of e
  simp only [mCatS] at e
  split at e
  · rename_i hT
    obtain ⟨xs, e3, e⟩ := bind_of e
    obtain ⟨ys, e4, e⟩ := bind_of e
    split at e
    · rename_i hz
      cases e
      refine ha w h σ env a h1 rl re e1 _ fun w1 x s1 r1 x1 => hb w1 h1 σ env b _ r1 (re.up s1) e2 _ fun w2 y s2 r2 y2 => ?_
      obtain ⟨p, vs, rfl, hs, rv⟩ := items_L r2 (x1.up s2) e3 hT.1
      obtain ⟨p', vs', rfl, hs', rv'⟩ := items_L r2 y2 e4 hT.2
      refine ⟨p, p', vs, vs', rfl, rfl, hs, hs', by rw [rv.len, rv'.len]; exact hz, fun l hl => ?_⟩
      obtain ⟨s3, r3⟩ := fresh_ok (o := .lst (vs ++ vs')) r2 hl
      have ss := s1.trans s2
      exact q _ l _ (ss.trans s3) r3 (by
        cases z : w.H l with
        | none => rfl
        | some o => exact absurd hl (ss.kp l (by rw [z]; exact fun q => nomatch q))) upd_same (r2.notin hl) (r2.cnone hl) (rv.app rv')
    · cases e
  · cases e
def mRepF (mf : MA) (mb : ME) : MA := fun env h => (mf env h).bind fun r => (mb env r.2).bind fun s => (asI s.1).bind fun k => if -1000 ≤ k ∧ k ≤ 1000 ∧ r.1.length ≤ 100 then some ((List.replicate k.toNat r.1).flatten, s.2) else none
theorem RepA.flat {ι : List Addr} {C : Hp} {vs : List V} {xs : List MV} (r : RepA K ι C vs xs) : ∀ n : Nat, RepA K ι C (List.replicate n vs).flatten (List.replicate n xs).flatten
  | 0 => .nil
  | n + 1 => by
    rw [List.replicate_succ, List.replicate_succ, List.flatten_cons, List.flatten_cons]
    exact r.app (r.flat n)
theorem sm_rep {ta tb : TE} {mf : MA} {mb : ME} (ha : SimF K ta mf) (hb : SimE K tb mb) : SimF K (tOp rRep ta tb) (mRepF mf mb) := fun w h σ env v h' rl re e Q q => by
  obtain ⟨⟨xs, h1⟩, e1, e⟩ := bind_of e
  obtain ⟨⟨b, h2⟩, e2, e⟩ := bind_of e
  obtain ⟨k, e3, e⟩ := bind_of e
  simp only at e
  split at e
  · rename_i hk
    cases e
    refine ha w h σ env xs h1 rl re e1 _ fun w1 p vs s1 r1 f1 f2 f3 f4 f5 => hb w1 h1 σ env b _ r1 (re.up s1) e2 _ fun w2 y s2 r2 y2 => ?_
    have hy := asI_rep y2 e3
    subst hy
    have hp : w2.H p = some (.lst vs) := s2.fr p _ f2 f3
    refine ⟨p, k, vs, rfl, rfl, hp, by omega, by omega, ?_, fun l hl => ?_⟩
    · rw [f5.len]
      exact Nat.le_trans (Nat.mul_le_mul hk.2.2 (show k.toNat ≤ 1000 by omega)) sl_100000
    · obtain ⟨s3, r3⟩ := fresh_ok (o := .lst (List.replicate k.toNat vs).flatten) r2 hl
      have ss := s1.trans s2
      exact q _ l _ (ss.trans s3) r3 (by
        cases z : w.H l with
        | none => rfl
        | some o => exact absurd hl (ss.kp l (by rw [z]; exact fun q => nomatch q))) upd_same (r2.notin hl) (r2.cnone hl) ((f5.up s2).flat _)
  · cases e
/-! ### equal, less -/
def mEqD (neg : Bool) : MO2 := fun a b h => (reify 6 h a).bind fun d => (reify 6 h b).bind fun e => if SeqAt.shaped d = true ∧ SeqAt.shaped e = true then some (.d (.bool (if neg = true then !PyData.eqv d e else PyData.eqv d e)), h) else none
theorem sr_eq : SimR K (rEqD K) (mEqD false) := fun w h x y a b v h' rl rx ry e Q q => by
  obtain ⟨d, e1, e⟩ := bind_of e
  obtain ⟨d', e2, e⟩ := bind_of e
  split at e
  · rename_i hs
    cases e
    exact ⟨d, d', dpx vis_ex (reify_ok rl 6 rx e1), dpx vis_ex (reify_ok rl 6 ry e2), hs.1, hs.2, q w _ (.refl _) rl (.d (.bl _))⟩
  · cases e
theorem sr_ne : SimR K (rNeD K) (mEqD true) := fun w h x y a b v h' rl rx ry e Q q => by
  obtain ⟨d, e1, e⟩ := bind_of e
  obtain ⟨d', e2, e⟩ := bind_of e
  split at e
  · rename_i hs
    cases e
    exact ⟨d, d', dpx vis_ex (reify_ok rl 6 rx e1), dpx vis_ex (reify_ok rl 6 ry e2), hs.1, hs.2, q w _ (.refl _) rl (.d (.bl _))⟩
  · cases e
open Classical in
noncomputable def mCmp (f : PyData → PyData → Bool) : MO2 := fun a b h => (reify 6 h a).bind fun d => (reify 6 h b).bind fun e => if PySem.W.alike d e = true ∧ d ≠ .none ∧ min d.depth e.depth ≤ 60 then some (.d (.bool (f d e)), h) else none
theorem sr_cmp {f : PyData → PyData → Bool} : SimR K (rCmpD K f) (mCmp f) := fun w h x y a b v h' rl rx ry e Q q => by
  obtain ⟨d, e1, e⟩ := bind_of e
  obtain ⟨d', e2, e⟩ := bind_of e
  split at e
  · rename_i hs
    cases e
    exact ⟨d, d', dpx vis_ex (reify_ok rl 6 rx e1), dpx vis_ex (reify_ok rl 6 ry e2), hs.1, hs.2.1, hs.2.2, q w _ (.refl _) rl (.d (.bl _))⟩
  · cases e
def asDL (d : PyData) : Option (List PyData) := match d with
  | .list ds => some ds
  | _ => none
def mInD (neg : Bool) : MO2 := fun a b h => (reify 6 h a).bind fun d => (reify 6 h b).bind fun e => (asDL e).bind fun ds => if SeqAt.shaped d = true ∧ SeqAt.shaped e = true then some (.d (.bool (if neg = true then !(ds.any fun z => PyData.eqv z d) else ds.any fun z => PyData.eqv z d)), h) else none
theorem asDL_of {d : PyData} {ds : List PyData} (e : asDL d = some ds) : d = .list ds := by
  unfold asDL at e
  split at e
  · cases e; rfl
  · cases e
theorem sr_in : SimR K (rInD K) (mInD false) := fun w h x y a b v h' rl rx ry e Q q => by
  obtain ⟨d, e1, e⟩ := bind_of e
  obtain ⟨d', e2, e⟩ := bind_of e
  obtain ⟨ds, e3, e⟩ := bind_of e
  split at e
  · rename_i hs
    cases e
    cases asDL_of e3
    exact ⟨d, ds, dpx vis_ex (reify_ok rl 6 rx e1), dpx vis_ex (reify_ok rl 6 ry e2), hs.1, hs.2, q w _ (.refl _) rl (.d (.bl _))⟩
  · cases e
theorem sr_notIn : SimR K (rNotInD K) (mInD true) := fun w h x y a b v h' rl rx ry e Q q => by
  obtain ⟨d, e1, e⟩ := bind_of e
  obtain ⟨d', e2, e⟩ := bind_of e
  obtain ⟨ds, e3, e⟩ := bind_of e
  split at e
  · rename_i hs
    cases e
    cases asDL_of e3
    exact ⟨d, ds, dpx vis_ex (reify_ok rl 6 rx e1), dpx vis_ex (reify_ok rl 6 ry e2), hs.1, hs.2, q w _ (.refl _) rl (.d (.bl _))⟩
  · cases e
/-! ### built-in calls on data -/
def fInt1 : List PyData → Option PyData
  | [.int i] => some (.int i)
  | [.bool k] => some (.int (if k then 1 else 0))
  | _ => none
theorem sc_int1 : SimC K rInt1 (liftD fInt1) := lift_ok fun C H vs ds r ex dv e Q q => by
  unfold fInt1 at e
  split at e
  · cases e; exact G.cd_int C H vs ex dv Q q
  · cases e; exact G.cd_intB C H vs ex dv Q q
  · cases e
def fMax2 : List PyData → Option PyData
  | [.int i, .int j] => some (.int (max i j))
  | _ => none
theorem sc_max2 : SimC K rMax2 (liftD fMax2) := lift_ok fun C H vs ds r ex dv e Q q => by
  unfold fMax2 at e
  split at e
  · cases e; exact G.cd_max2 C H vs ex dv Q q
  · cases e
def fMin2 : List PyData → Option PyData
  | [.int i, .int j] => some (.int (min i j))
  | _ => none
theorem sc_min2 : SimC K rMin2 (liftD fMin2) := lift_ok fun C H vs ds r ex dv e Q q => by
  unfold fMin2 at e
  split at e
  · cases e; exact G.cd_min2 C H vs ex dv Q q
  · cases e
def fAbs : List PyData → Option PyData
  | [.int i] => some (.int (i.natAbs : Int))
  | _ => none
theorem sc_abs : SimC K rAbs (liftD fAbs) := lift_ok fun C H vs ds r ex dv e Q q => by
  unfold fAbs at e
  split at e
  · cases e; exact G.cd_abs C H vs ex dv Q q
  · cases e
def boolsOf : List PyData → Option (List Bool)
  | [] => some []
  | .bool b :: ds => (boolsOf ds).map (b :: ·)
  | _ => none
theorem bools_of : ∀ {ds : List PyData} {bs : List Bool}, boolsOf ds = some bs → ds = bs.map .bool
  | [], bs, e => by cases e; rfl
  | d :: ds, bs, e => by
    unfold boolsOf at e
    split at e
    · cases ‹_ :: _ = []›
    · rename_i b ds' eq
      cases eq
      obtain ⟨bs', e1, e2⟩ := map_of e
      subst e2
      rw [bools_of e1]; rfl
    · cases e
theorem boolsOf_map : ∀ bs : List Bool, boolsOf (bs.map .bool) = some bs
  | [] => rfl
  | b :: bs => by show (boolsOf (bs.map .bool)).map (b :: ·) = _; rw [boolsOf_map bs]; rfl
def fAll : List PyData → Option PyData
  | [.list ds] => (boolsOf ds).map fun bs => .bool (bs.all id)
  | _ => none
theorem sc_all : SimC K (rAll K) (liftD fAll) := lift_ok fun C H vs ds r ex dv e Q q => by
  unfold fAll at e
  split at e
  · obtain ⟨bs, e1, e⟩ := map_of e
    cases e
    cases bools_of e1
    exact G.cd_all C H vs ex dv Q q
  · cases e
def fAny : List PyData → Option PyData
  | [.list ds] => (boolsOf ds).map fun bs => .bool (bs.any id)
  | _ => none
theorem sc_any : SimC K (rAny K) (liftD fAny) := lift_ok fun C H vs ds r ex dv e Q q => by
  unfold fAny at e
  split at e
  · obtain ⟨bs, e1, e⟩ := map_of e
    cases e
    cases bools_of e1
    exact G.cd_any C H vs ex dv Q q
  · cases e
/-- isinstance(x, T) -/
def mIsi (n : String) (me : ME) : ME := fun env h => (me env h).bind fun r => match r.1 with
  | .d p => (kitB (G.kindOf p) n).map fun k => (.d (.bool k), r.2)
  | .tup _ => (kitB "tuple" n).map fun k => (.d (.bool k), r.2)
  | .ref m => match r.2[m]? with
    | some (.lst _) => (kitB "list" n).map fun k => (.d (.bool k), r.2)
    | _ => none
/-! ### None -/
def isNon : MV → Bool
  | .d .none => true
  | _ => false
def mIsN (neg : Bool) : MO2 := fun a b h => if isNon b = true then some (.d (.bool (if neg = true then !isNon a else isNon a)), h) else none
theorem isNon_rep {v : V} {x : MV} (r : Rep K w.ι w.C v x) : decide (v = .non) = isNon x := by
  cases r with
  | d r => cases r <;> simp [isNon]
  | ref _ => simp [isNon]
  | tup _ _ => simp [isNon]
theorem sr_isN : SimR K rIsN (mIsN false) := fun w h x y a b v h' rl rx ry e Q q => by
  unfold mIsN at e
  split at e
  · rename_i hb
    cases e
    refine ⟨by rw [← isNon_rep ry] at hb; simpa using hb, q w _ (.refl _) rl ?_⟩
    rw [isNon_rep rx]
    exact .d (.bl _)
  · cases e
theorem sr_notN : SimR K rNotN (mIsN true) := fun w h x y a b v h' rl rx ry e Q q => by
  unfold mIsN at e
  split at e
  · rename_i hb
    cases e
    refine ⟨by rw [← isNon_rep ry] at hb; simpa using hb, q w _ (.refl _) rl ?_⟩
    rw [isNon_rep rx]
    exact .d (.bl _)
  · cases e
end
end M
namespace M
open PySem PySem.Spec PyProof.Rows L2
open Evl (Ex ex_rd ex_l ex_t rMax2)
open G (dpx dpax dpa_len dpa_get dpa_app dpa_set ex_none wipe_get wipe_eq wipe_wipe RD UD CD Ret rMin2 rInt1 rAbs rTupOf rListOf)
section
variable {K : PySem.W.Frag} {w : Wd} {h : MH}
theorem sm_isi {ta : TE} {ma : ME} {n : String} (ha : SimE K ta ma) : SimE K (G.tIsi K ta n) (mIsi n ma) := fun w h σ env v h' rl re e Q q => by
  obtain ⟨⟨a, h1⟩, e1, e⟩ := bind_of e
  refine ha w h σ env a h1 rl re e1 _ fun w1 u s1 r1 x1 => ?_
  have fin : ∀ T k, TyX K w1.H u (.type T) → kitB T n = some k → Q (.bl k) w1.H → rIsi K [u, .ty n] w1.H Q := fun T k ht hk hq => ⟨u, .ty n, _, .type n, k, rfl, .ty n, ht, kit_ty hk, hq⟩
  cases a with
  | d p =>
    obtain ⟨k, e2, e⟩ := map_of e
    cases e
    exact fin _ k (G.tyx (dpx r1.ch x1.dat)) e2 (q w1 _ s1 r1 (.d (.bl k)))
  | tup xs =>
    obtain ⟨k, e2, e⟩ := map_of e
    cases e
    cases x1 with
    | tup hq ha =>
      refine fin "tuple" k ?_ e2 (q w1 _ s1 r1 (.d (.bl k)))
      rcases ex_t r1.ch (sqt hq) with (h | ⟨o, h⟩) | ⟨o, its, n, h, c, _⟩
      · exact .base (.tup h)
      · exact .fTuple h
      · exact .kTuple h c
  | ref m =>
    simp only at e
    split at e
    · rename_i xs ex
      obtain ⟨k, e2, e⟩ := map_of e
      cases e
      obtain ⟨ad, vs, rfl, g1, g2, g3⟩ := r1.lst x1 ex
      exact fin "list" k (.base (.lst g2)) e2 (q w1 _ s1 r1 (.d (.bl k)))
    · cases e
/-! ### what is walked -/
noncomputable def pairM (x y : MV) : MV := mkTup [x, y]
def mIter (me : ME) : MI := fun env h => (me env h).bind fun r => match r.1 with
  | .d (.list ds) => some (([], ds.map .d), r.2)
  | .d (.tuple ds) => some (([], ds.map .d), r.2)
  | .tup xs => some (([], xs), r.2)
  | .ref n => (asL r.2 (.ref n)).map fun l => (([l], l.2), r.2)
  | _ => none
/-- the row's source, its items -/
def rowOf (h : MH) (x : MV) : Option (List (Nat × List MV) × List MV) := match x with
  | .d (.list ds) => some ([], ds.map .d)
  | .d (.tuple ds) => some ([], ds.map .d)
  | .tup xs => some ([], xs)
  | .ref n => (asL h (.ref n)).map fun l => ([l], l.2)
  | _ => none
/-- a list that can be read as long as its source stands -/
theorem row_L {x : MV} {v : V} {src : List (Nat × List MV)} {xs : List MV} (r : Rel K w h) (rx : Rep K w.ι w.C v x) (t : isT x = false) (e : rowOf h x = some (src, xs)) :
    ∃ a, v = .ref a ∧ ∀ w2 h2, Step w w2 → Rel K w2 h2 → (∀ s ∈ src, h2[s.1]? = some (.lst s.2)) → ∃ vs, SqL K w2.H a vs ∧ RepA K w2.ι w2.C vs xs := by
  cases x with
  | d p =>
    cases p with
    | list ds =>
      cases e
      cases rx with
      | d rx => cases rx with
        | lst hq ha => exact ⟨_, rfl, fun w2 h2 s r2 _ => ⟨_, ex_l r2.ch (ex_l s.ex hq), (RepA.ofD ha).up s⟩⟩
    | tuple ds => cases t
    | none => cases e
    | bool _ => cases e
    | int _ => cases e
    | str _ => cases e
    | dict _ => cases e
  | tup ys => cases t
  | ref n =>
    obtain ⟨⟨m, ys⟩, e1, e2⟩ := map_of e
    cases e2
    obtain ⟨eo, ex⟩ := asL_of e1
    cases eo
    obtain ⟨a, vs, h1, h2, h3, h4⟩ := r.lst rx ex
    refine ⟨a, h1, fun w2 hh2 s r2 hs => ?_⟩
    subst h1
    obtain ⟨a', vs', g0, g1, g2, g3⟩ := r2.lst (rx.up s) (hs (n, ys) List.mem_cons_self)
    cases g0
    exact ⟨vs', .inl (.inl g2), g3⟩
theorem row_T {x : MV} {v : V} {src : List (Nat × List MV)} {xs : List MV} (r : Rel K w h) (rx : Rep K w.ι w.C v x) (t : isT x = true) (e : rowOf h x = some (src, xs)) :
    ∃ a, v = .ref a ∧ ∀ w2 h2, Step w w2 → Rel K w2 h2 → ∃ vs, SqT K w2.H a vs ∧ RepA K w2.ι w2.C vs xs := by
  cases x with
  | d p =>
    cases p with
    | tuple ds =>
      cases e
      cases rx with
      | d rx => cases rx with
        | tup hq ha => exact ⟨_, rfl, fun w2 h2 s r2 => ⟨_, ex_t r2.ch (ex_t s.ex hq), (RepA.ofD ha).up s⟩⟩
    | _ => cases t
  | tup ys =>
    cases e
    cases rx with
    | tup hq ha => exact ⟨_, rfl, fun w2 h2 s r2 => ⟨_, ex_t r2.ch (ex_t s.ex (sqt hq)), ha.up s⟩⟩
  | ref n => cases t
def mItL (me : ME) : MI := fun env h => (me env h).bind fun r => if isT r.1 = false then (rowOf r.2 r.1).map fun s => (s, r.2) else none
def mItT (me : ME) : MI := fun env h => (me env h).bind fun r => if isT r.1 = true then (rowOf r.2 r.1).map fun s => (s, r.2) else none
theorem same_step {w2 : Wd} {h2 : MH} {u : V} {x : MV} (r : Rel K w2 h2) (x1 : Rep K w2.ι w2.C u x) : ∃ w3 : Wd, w3.H = w2.H ∧ Step w2 w3 ∧ Rel K w3 h2 ∧ Rep K w3.ι w3.C u x := ⟨w2, rfl, .refl _, r, x1⟩
theorem si_list {te : TE} {me : ME} (h : SimE K te me) : SimI K (iList K te) (mItL me) := fun w h0 σ env si h' rl re e R q => by
  obtain ⟨⟨a, h1⟩, e1, e⟩ := bind_of e
  simp only at e
  split at e
  · rename_i ht
    obtain ⟨⟨src, xs⟩, e2, e⟩ := map_of e
    cases e
    refine h w h0 σ env a _ rl re e1 _ fun w1 u s1 r1 x1 => ?_
    obtain ⟨ad, rfl, k⟩ := row_L r1 x1 ht e2
    have k0 : ∀ s ∈ src, h'[s.1]? = some (Ob.lst s.2) := fun s m => by
      cases a with
      | ref n =>
        obtain ⟨⟨n', ys⟩, e3, e4⟩ := map_of e2
        cases e4
        obtain ⟨eo, ex⟩ := asL_of e3
        cases List.mem_singleton.mp m
        exact ex
      | d p => cases p <;> (first | (cases e2; cases m) | cases e2)
      | tup ys => cases e2; cases m
    obtain ⟨vs0, z0, _⟩ := k w1 h' (.refl _) r1 k0
    refine ⟨ad, rfl, ⟨vs0, z0⟩, q w1 _ s1 r1 fun w2 h2 s2 r2 hs => ?_⟩
    obtain ⟨vs, z1, z2⟩ := k w2 h2 s2 r2 hs
    refine ⟨⟨vs, z1, by rw [z2.len]; exact Nat.le_refl _⟩, fun i x ex => ?_⟩
    obtain ⟨u, g1, g2⟩ := z2.get ex
    refine ⟨⟨vs, u, z1, g1⟩, fun u' H' y => ?_⟩
    obtain ⟨rfl, y⟩ := y
    have := (y vs z1).symm.trans g1
    cases this
    exact same_step r2 g2
  · cases e
theorem si_tup {te : TE} {me : ME} (h : SimE K te me) : SimI K (iTup K te) (mItT me) := fun w h0 σ env si h' rl re e R q => by
  obtain ⟨⟨a, h1⟩, e1, e⟩ := bind_of e
  simp only at e
  split at e
  · rename_i ht
    obtain ⟨⟨src, xs⟩, e2, e⟩ := map_of e
    cases e
    refine h w h0 σ env a _ rl re e1 _ fun w1 u s1 r1 x1 => ?_
    obtain ⟨ad, rfl, k⟩ := row_T r1 x1 ht e2
    obtain ⟨vs0, z0, _⟩ := k w1 h' (.refl _) r1
    refine ⟨ad, rfl, ⟨vs0, z0⟩, q w1 _ s1 r1 fun w2 h2 s2 r2 hs => ?_⟩
    obtain ⟨vs, z1, z2⟩ := k w2 h2 s2 r2
    refine ⟨⟨vs, z1, by rw [z2.len]; exact Nat.le_refl _⟩, fun i x ex => ?_⟩
    obtain ⟨u, g1, g2⟩ := z2.get ex
    refine ⟨⟨vs, u, z1, g1⟩, fun u' H' y => ?_⟩
    obtain ⟨rfl, y⟩ := y
    have := (y vs z1).symm.trans g1
    cases this
    exact same_step r2 g2
  · cases e
def args1 : List MV → Option Int
  | [x] => asI x
  | _ => none
def mRng1 (ma : MA) : MI := fun env h => (ma env h).bind fun r => (args1 r.1).bind fun n => if n ≤ 100000000 ∧ -100000000 ≤ n then some (([], (List.range n.toNat).map fun (k : Nat) => .d (.int (k : Int))), r.2) else none
theorem si_rng1 {ta : TA} {ma : MA} (h : SimA K ta ma) : SimI K (iRng1 ta) (mRng1 ma) := fun w h0 σ env si h' rl re e R q => by
  obtain ⟨⟨xs, h1⟩, e1, e⟩ := bind_of e
  obtain ⟨n, e2, e⟩ := bind_of e
  simp only at e
  split at e
  · rename_i hn
    cases e
    refine h w h0 σ env xs _ rl re e1 _ fun w1 us s1 r1 x1 => ?_
    replace e2 : args1 xs = some n := e2
    unfold args1 at e2
    split at e2
    · rename_i x
      obtain ⟨u, rfl, x2⟩ := x1.one
      have := asI_rep x2 e2
      subst this
      refine ⟨n, rfl, by omega, by omega, q w1 _ s1 r1 fun w2 h2 s2 r2 hs => ⟨(by show _ ≤ _; simp only [List.length_map, List.length_range]; exact Nat.le_refl _), fun i x ex => ?_⟩⟩
      rw [List.getElem?_map] at ex
      obtain ⟨k, hk, rfl⟩ := Option.map_eq_some_iff.mp ex
      obtain ⟨hlt, rfl⟩ := List.getElem?_eq_some_iff.mp hk
      refine ⟨(by show i < _; simpa only [List.length_range] using hlt), fun x H' y => ?_⟩
      obtain ⟨rfl, rfl⟩ := y
      have : (0 : Int) + (i : Int) = (i : Int) := Int.zero_add _
      rw [this, List.getElem_range]
      exact same_step r2 (.d (.int _))
    · cases e2
  · cases e
def args2 : List MV → Option (Int × Int)
  | [x, y] => (asI x).bind fun i => (asI y).map fun j => (i, j)
  | _ => none
def mRng2 (ma : MA) : MI := fun env h => (ma env h).bind fun r => (args2 r.1).bind fun n => if -100000000 ≤ n.1 ∧ n.1 ≤ 100000000 ∧ -100000000 ≤ n.2 ∧ n.2 ≤ 100000000 then some (([], (List.range (n.2 - n.1).toNat).map fun (k : Nat) => .d (.int (n.1 + (k : Int)))), r.2) else none
theorem si_rng2 {ta : TA} {ma : MA} (h : SimA K ta ma) : SimI K (iRng2 ta) (mRng2 ma) := fun w h0 σ env si h' rl re e R q => by
  obtain ⟨⟨xs, h1⟩, e1, e⟩ := bind_of e
  obtain ⟨⟨m, n⟩, e2, e⟩ := bind_of e
  simp only at e
  split at e
  · rename_i hn
    cases e
    refine h w h0 σ env xs _ rl re e1 _ fun w1 us s1 r1 x1 => ?_
    replace e2 : args2 xs = some (m, n) := e2
    unfold args2 at e2
    split at e2
    · rename_i x y
      obtain ⟨i', e3, e2⟩ := bind_of e2
      obtain ⟨j', e4, e2⟩ := map_of e2
      cases e2
      cases x1 with
      | cons xa xb =>
        obtain ⟨u2, rfl, xc⟩ := xb.one
        have := asI_rep xa e3
        subst this
        have := asI_rep xc e4
        subst this
        refine ⟨m, n, rfl, by omega, q w1 _ s1 r1 fun w2 h2 s2 r2 hs => ⟨(by show _ ≤ _; simp only [List.length_map, List.length_range]; exact Nat.le_refl _), fun i x ex => ?_⟩⟩
        rw [List.getElem?_map] at ex
        obtain ⟨k, hk, rfl⟩ := Option.map_eq_some_iff.mp ex
        obtain ⟨hlt, rfl⟩ := List.getElem?_eq_some_iff.mp hk
        refine ⟨(by show i < _; simpa only [List.length_range] using hlt), fun x H' y => ?_⟩
        obtain ⟨rfl, rfl⟩ := y
        rw [List.getElem_range]
        exact same_step r2 (.d (.int _))
    · cases e2
  · cases e
theorem RepA.two {ι : List Addr} {C : Hp} {us : List V} {x y : MV} (r : RepA K ι C us [x, y]) : ∃ u v, us = [u, v] ∧ Rep K ι C u x ∧ Rep K ι C v y := by
  cases r with
  | cons ra rb =>
    obtain ⟨v, rfl, rc⟩ := rb.one
    exact ⟨_, v, rfl, ra, rc⟩
def argsTT : List MV → Option (MV × MV)
  | [x, y] => some (x, y)
  | _ => none
theorem argsTT_of {xs : List MV} {p : MV × MV} (e : argsTT xs = some p) : xs = [p.1, p.2] := by
  unfold argsTT at e
  split at e
  · cases e; rfl
  · cases e
noncomputable def mZip (ma : MA) : MI := fun env h => (ma env h).bind fun r => (argsTT r.1).bind fun p => if isT p.1 = isT p.2 then (rowOf r.2 p.1).bind fun s => (rowOf r.2 p.2).map fun t => ((s.1 ++ t.1, (s.2.zip t.2).map fun z => pairM z.1 z.2), r.2) else none
theorem pair_know {w2 : Wd} {h2 : MH} {u v : V} {x y : MV} {P : Addr} (r : Rel K w2 h2) (hx : Rep K w2.ι w2.C u x) (hy : Rep K w2.ι w2.C v y) (hP : w2.H P = none) :
    ∃ w3 : Wd, w3.H = upd w2.H P (.tup [u, v]) ∧ Step w2 w3 ∧ Rel K w3 h2 ∧ Rep K w3.ι w3.C (.ref P) (pairM x y) := by
  obtain ⟨s, r'⟩ := know_ok (o := .tup [u, v]) r hP
  exact ⟨_, rfl, s, r', mkTup_rep upd_same (.cons (hx.up s) (.cons (hy.up s) .nil))⟩
theorem row_src {x : MV} {src : List (Nat × List MV)} {xs : List MV} (e : rowOf h x = some (src, xs)) : ∀ s ∈ src, h[s.1]? = some (.lst s.2) := fun s m => by
  cases x with
  | ref n =>
    obtain ⟨⟨n', ys⟩, e3, e4⟩ := map_of e
    cases e4
    obtain ⟨eo, ex⟩ := asL_of e3
    cases List.mem_singleton.mp m
    exact ex
  | d p => cases p <;> (first | (cases e; cases m) | cases e)
  | tup ys => cases e; cases m
theorem si_zip {ta : TA} {ma : MA} (h : SimA K ta ma) : SimI K (RZ.iZipA K ta) (mZip ma) := fun w h0 σ env si h' rl re e R q => by
  obtain ⟨⟨xs, h1⟩, e1, e⟩ := bind_of e
  obtain ⟨⟨x, y⟩, e2, e⟩ := bind_of e
  simp only at e
  split at e
  · rename_i ht
    obtain ⟨⟨s1, xs1⟩, e3, e⟩ := bind_of e
    obtain ⟨⟨s2, xs2⟩, e4, e⟩ := map_of e
    cases e
    refine h w h0 σ env xs _ rl re e1 _ fun w1 us st1 r1 x1 => ?_
    replace e2 : argsTT xs = some (x, y) := e2
    rw [argsTT_of e2] at x1
    replace x1 : RepA K w1.ι w1.C us [x, y] := x1
    obtain ⟨u, v, rfl, hx, hy⟩ := x1.two
    cases hT : isT x with
    | true =>
      rw [hT] at ht
      obtain ⟨a, rfl, k1⟩ := row_T r1 hx hT e3
      obtain ⟨b, rfl, k2⟩ := row_T r1 hy ht.symm e4
      obtain ⟨vs1, z1, _⟩ := k1 w1 _ (.refl _) r1
      obtain ⟨vs2, z2, _⟩ := k2 w1 _ (.refl _) r1
      refine ⟨a, b, vs1, vs2, rfl, .inr ⟨z1, z2, q w1 _ st1 r1 fun w2 h2 st2 r2 hs => ?_⟩⟩
      obtain ⟨us1, y1, y2⟩ := k1 w2 h2 st2 r2
      obtain ⟨us2, y3, y4⟩ := k2 w2 h2 st2 r2
      refine ⟨⟨us1, us2, y1, y3, by simp [y2.len, y4.len]; omega⟩, fun i x ex => ?_⟩
      rw [List.getElem?_map] at ex
      obtain ⟨⟨p1, p2⟩, f1, rfl⟩ := Option.map_eq_some_iff.mp ex
      obtain ⟨f2, f3⟩ := List.getElem?_zip_eq_some.mp f1
      obtain ⟨g1, g2, g3⟩ := y2.get f2
      obtain ⟨g4, g5, g6⟩ := y4.get f3
      refine ⟨⟨us1, us2, g1, g4, y1, y3, g2, g5⟩, fun x H' yy => ?_⟩
      obtain ⟨P, zz1, zz2, rfl, nP, rfl, o1, o2⟩ := yy
      have w1' := (o1 _ y1).symm.trans g2
      have w2' := (o2 _ y3).symm.trans g5
      cases w1'; cases w2'
      exact pair_know r2 g3 g6 nP
    | false =>
      rw [hT] at ht
      obtain ⟨a, rfl, k1⟩ := row_L r1 hx hT e3
      obtain ⟨b, rfl, k2⟩ := row_L r1 hy ht.symm e4
      obtain ⟨vs1, z1, _⟩ := k1 w1 _ (.refl _) r1 (row_src e3)
      obtain ⟨vs2, z2, _⟩ := k2 w1 _ (.refl _) r1 (row_src e4)
      refine ⟨a, b, vs1, vs2, rfl, .inl ⟨z1, z2, q w1 _ st1 r1 fun w2 h2 st2 r2 hs => ?_⟩⟩
      obtain ⟨us1, y1, y2⟩ := k1 w2 h2 st2 r2 fun s m => hs s (List.mem_append_left _ m)
      obtain ⟨us2, y3, y4⟩ := k2 w2 h2 st2 r2 fun s m => hs s (List.mem_append_right _ m)
      refine ⟨⟨us1, us2, y1, y3, by simp [y2.len, y4.len]; omega⟩, fun i x ex => ?_⟩
      rw [List.getElem?_map] at ex
      obtain ⟨⟨p1, p2⟩, f1, rfl⟩ := Option.map_eq_some_iff.mp ex
      obtain ⟨f2, f3⟩ := List.getElem?_zip_eq_some.mp f1
      obtain ⟨g1, g2, g3⟩ := y2.get f2
      obtain ⟨g4, g5, g6⟩ := y4.get f3
      refine ⟨⟨us1, us2, g1, g4, y1, y3, g2, g5⟩, fun x H' yy => ?_⟩
      obtain ⟨P, zz1, zz2, rfl, nP, rfl, o1, o2⟩ := yy
      have w1' := (o1 _ y1).symm.trans g2
      have w2' := (o2 _ y3).symm.trans g5
      cases w1'; cases w2'
      exact pair_know r2 g3 g6 nP
  · cases e
noncomputable def mEnum (ma : MA) : MI := fun env h => (ma env h).bind fun r => (arg1 r.1).bind fun x => (rowOf r.2 x).map fun s => ((s.1, s.2.zipIdx.map fun z => pairM (.d (.int (z.2 : Int))) z.1), r.2)
theorem si_enum {ta : TA} {ma : MA} (h : SimA K ta ma) : SimI K (G.iEnumA K ta) (mEnum ma) := fun w h0 σ env si h' rl re e R q => by
  obtain ⟨⟨xs, h1⟩, e1, e⟩ := bind_of e
  obtain ⟨x, e2, e⟩ := bind_of e
  obtain ⟨⟨s1, xs1⟩, e3, e⟩ := map_of e
  cases e
  refine h w h0 σ env xs _ rl re e1 _ fun w1 us st1 r1 x1 => ?_
  replace e2 : arg1 xs = some x := e2
  rw [arg1_of e2] at x1
  obtain ⟨u, rfl, hx⟩ := x1.one
  have item : ∀ {w2 h2 us1 i x}, Rel K w2 h2 → RepA K w2.ι w2.C us1 xs1 → (xs1.zipIdx.map fun z => pairM (.d (.int (z.2 : Int))) z.1)[i]? = some x → ∃ y, us1[i]? = some y ∧ ∀ P, w2.H P = none → ∃ w3 : Wd, w3.H = upd w2.H P (.tup [.int (i : Nat), y]) ∧ Step w2 w3 ∧ Rel K w3 h2 ∧ Rep K w3.ι w3.C (.ref P) x := by
    intro w2 h2 us1 i x r2 y2 ex
    rw [List.getElem?_map] at ex
    obtain ⟨⟨p1, p2⟩, f1, rfl⟩ := Option.map_eq_some_iff.mp ex
    rw [List.getElem?_zipIdx] at f1
    obtain ⟨z, f2, f3⟩ := Option.map_eq_some_iff.mp f1
    cases f3
    obtain ⟨g1, g2, g3⟩ := y2.get f2
    refine ⟨g1, g2, fun P nP => ?_⟩
    have : ((0 + i : Nat) : Int) = (i : Int) := by omega
    rw [this]
    exact pair_know r2 (.d (.int _)) g3 nP
  cases hT : isT x with
  | true =>
    obtain ⟨a, rfl, k1⟩ := row_T r1 hx hT e3
    obtain ⟨vs1, z1, _⟩ := k1 w1 _ (.refl _) r1
    refine ⟨a, vs1, rfl, .inr ⟨z1, q w1 _ st1 r1 fun w2 h2 st2 r2 hs => ?_⟩⟩
    obtain ⟨us1, y1, y2⟩ := k1 w2 h2 st2 r2
    refine ⟨⟨us1, y1, by simp [y2.len]⟩, fun i x ex => ?_⟩
    obtain ⟨y, g1, g2⟩ := item r2 y2 ex
    refine ⟨⟨us1, y, y1, g1⟩, fun x H' yy => ?_⟩
    obtain ⟨P, zz1, rfl, nP, rfl, o1⟩ := yy
    have w1' := (o1 _ y1).symm.trans g1
    cases w1'
    exact g2 P nP
  | false =>
    obtain ⟨a, rfl, k1⟩ := row_L r1 hx hT e3
    obtain ⟨vs1, z1, _⟩ := k1 w1 _ (.refl _) r1 (row_src e3)
    refine ⟨a, vs1, rfl, .inl ⟨z1, q w1 _ st1 r1 fun w2 h2 st2 r2 hs => ?_⟩⟩
    obtain ⟨us1, y1, y2⟩ := k1 w2 h2 st2 r2 hs
    refine ⟨⟨us1, y1, by simp [y2.len]⟩, fun i x ex => ?_⟩
    obtain ⟨y, g1, g2⟩ := item r2 y2 ex
    refine ⟨⟨us1, y, y1, g1⟩, fun x H' yy => ?_⟩
    obtain ⟨P, zz1, rfl, nP, rfl, o1⟩ := yy
    have w1' := (o1 _ y1).symm.trans g1
    cases w1'
    exact g2 P nP
end
end M
namespace M
open PySem PySem.Spec PyProof.Rows L2
open Evl (Ex ex_rd ex_l ex_t rMax2)
open G (dpx dpax dpa_len dpa_get dpa_app dpa_set ex_none wipe_get wipe_eq wipe_wipe RD UD CD Ret rMin2 rInt1 rAbs rTupOf rListOf)
section
variable {K : PySem.W.Frag} {w : Wd} {h : MH}
/-! ### dicts -/
def valG {κ β : Type} [DecidableEq κ] (kvs : List (κ × β)) (k : κ) : Option β := match kvs with
  | [] => none
  | p :: r => if p.1 = k then some p.2 else valG r k
def hasG {κ β : Type} [DecidableEq κ] (kvs : List (κ × β)) (k : κ) : Bool := (valG kvs k).isSome
def replG {κ β : Type} [DecidableEq κ] (kvs : List (κ × β)) (k : κ) (v : β) : List (κ × β) := kvs.map fun kv => if kv.1 = k then (kv.1, v) else kv
def putG {κ β : Type} [DecidableEq κ] (kvs : List (κ × β)) (k : κ) (v : β) : List (κ × β) := if hasG kvs k = true then replG kvs k v else kvs ++ [(k, v)]
section
variable {κ : Type} [DecidableEq κ] {ι : List Addr} {C : Hp}
def KRep (K : PySem.W.Frag) (ι : List Addr) (C : Hp) (kvs : List (κ × V)) (kws : List (κ × MV)) : Prop := kvs.map (·.1) = kws.map (·.1) ∧ RepA K ι C (kvs.map (·.2)) (kws.map (·.2))
theorem KRep.cases {p : κ × V} {kvs : List (κ × V)} {q : κ × MV} {kws : List (κ × MV)} (h : KRep K ι C (p :: kvs) (q :: kws)) : p.1 = q.1 ∧ Rep K ι C p.2 q.2 ∧ KRep K ι C kvs kws := by
  obtain ⟨h1, h2⟩ := h
  simp only [List.map_cons, List.cons.injEq] at h1
  cases h2 with
  | cons r1 r2 => exact ⟨h1.1, r1, h1.2, r2⟩
theorem KRep.cons {p : κ × V} {kvs : List (κ × V)} {q : κ × MV} {kws : List (κ × MV)} (h1 : p.1 = q.1) (h2 : Rep K ι C p.2 q.2) (h3 : KRep K ι C kvs kws) : KRep K ι C (p :: kvs) (q :: kws) := by
  refine ⟨?_, .cons h2 h3.2⟩
  simp only [List.map_cons, h1, h3.1]
theorem KRep.len {kvs : List (κ × V)} {kws : List (κ × MV)} (h : KRep K ι C kvs kws) : kvs.length = kws.length := by
  have := congrArg List.length h.1
  simpa using this
theorem KRep.val : ∀ {kvs : List (κ × V)} {kws : List (κ × MV)}, KRep K ι C kvs kws → ∀ k, match valG kws k with
    | none => valV kvs k = none
    | some x => ∃ v, valV kvs k = some v ∧ Rep K ι C v x
  | [], [], _, k => rfl
  | [], _ :: _, h, k => by have := h.len; cases this
  | _ :: _, [], h, k => by have := h.len; cases this
  | p :: kvs, q :: kws, h, k => by
    obtain ⟨h1, h2, h3⟩ := h.cases
    unfold valG
    by_cases e : q.1 = k
    · rw [if_pos e]
      exact ⟨p.2, valV_pos (h1.trans e), h2⟩
    · rw [if_neg e]
      rw [valV_neg (fun z => e (h1.symm.trans z))]
      exact KRep.val h3 k
theorem KRep.valN {kvs : List (κ × V)} {kws : List (κ × MV)} (h : KRep K ι C kvs kws) {k : κ} (e : valG kws k = none) : valV kvs k = none := by
  have := h.val k
  rw [e] at this
  exact this
theorem KRep.valS {kvs : List (κ × V)} {kws : List (κ × MV)} (h : KRep K ι C kvs kws) {k : κ} {x : MV} (e : valG kws k = some x) : ∃ v, valV kvs k = some v ∧ Rep K ι C v x := by
  have := h.val k
  rw [e] at this
  exact this
theorem KRep.isSome {kvs : List (κ × V)} {kws : List (κ × MV)} (h : KRep K ι C kvs kws) (k : κ) : (valV kvs k).isSome = (valG kws k).isSome := by
  cases e : valG kws k with
  | none => rw [h.valN e]; rfl
  | some x => obtain ⟨v, h1, _⟩ := h.valS e; rw [h1]; rfl
theorem KRep.app : ∀ {a : List (κ × V)} {b : List (κ × MV)} {c : List (κ × V)} {d : List (κ × MV)}, KRep K ι C a b → KRep K ι C c d → KRep K ι C (a ++ c) (b ++ d)
  | [], [], _, _, _, s => s
  | [], _ :: _, _, _, h, _ => by have := h.len; cases this
  | _ :: _, [], _, _, h, _ => by have := h.len; cases this
  | p :: a, q :: b, c, d, h, s => by
    obtain ⟨h1, h2, h3⟩ := h.cases
    exact .cons h1 h2 (KRep.app h3 s)
theorem KRep.repl {v : V} {x : MV} (r : Rep K ι C v x) (k : κ) : ∀ {kvs : List (κ × V)} {kws : List (κ × MV)}, KRep K ι C kvs kws → KRep K ι C (kvs.map fun kv => if kv.1 = k then (kv.1, v) else kv) (replG kws k x)
  | [], [], h => h
  | [], _ :: _, h => by have := h.len; cases this
  | _ :: _, [], h => by have := h.len; cases this
  | p :: kvs, q :: kws, h => by
    obtain ⟨h1, h2, h3⟩ := h.cases
    have ih := KRep.repl r k h3
    show KRep K ι C ((if p.1 = k then (p.1, v) else p) :: _) ((if q.1 = k then (q.1, x) else q) :: _)
    by_cases e : q.1 = k
    · rw [if_pos e, if_pos (h1.trans e)]; exact .cons h1 r ih
    · rw [if_neg e, if_neg (fun z => e (h1.symm.trans z))]; exact .cons h1 h2 ih
theorem KRep.put {kvs : List (κ × V)} {kws : List (κ × MV)} {v : V} {x : MV} (h : KRep K ι C kvs kws) (r : Rep K ι C v x) (k : κ) : KRep K ι C (putK kvs k v) (putG kws k x) := by
  unfold putK putG hasG
  rw [valV_any, h.isSome k]
  cases (valG kws k).isSome with
  | true => exact h.repl r k
  | false => exact h.app (.cons rfl r ⟨rfl, .nil⟩)
end
def keyOf : MV → Option Key
  | .d (.int i) => some (.inl i)
  | .d (.str s) => some (.inr s)
  | _ => none
theorem keyOf_ok {v : V} {x : MV} {k : Key} (r : Rep K w.ι w.C v x) (e : keyOf x = some k) : v = kV k := by
  cases x with
  | d p =>
    cases p with
    | int i => cases e; cases r with | d r => cases r; rfl
    | str s => cases e; cases r with | d r => cases r; rfl
    | _ => cases e
  | _ => cases e
def asK (h : MH) : MV → Option (Nat × List (Key × MV))
  | .ref n => match h[n]? with
    | some (.dct kws) => some (n, kws)
    | _ => none
  | _ => none
theorem asK_of {v : MV} {n : Nat} {kws : List (Key × MV)} (e : asK h v = some (n, kws)) : v = .ref n ∧ h[n]? = some (.dct kws) := by
  cases v with
  | ref m =>
    unfold asK at e
    cases e1 : h[m]? with
    | none => simp only [e1] at e; cases e
    | some b =>
      cases b with
      | dct ys => simp only [e1] at e; cases e; exact ⟨rfl, e1⟩
      | _ => simp only [e1] at e; cases e
  | d _ => cases e
  | tup _ => cases e
theorem asK_ok (r : Rel K w h) {v : V} {x : MV} {n : Nat} {kws : List (Key × MV)} (rx : Rep K w.ι w.C v x) (e : asK h x = some (n, kws)) : ∃ a kvs, v = .ref a ∧ w.ι[n]? = some a ∧ w.H a = some (.dK kvs) ∧ KRep K w.ι w.C kvs kws := by
  obtain ⟨eo, ex⟩ := asK_of e
  subst eo
  obtain ⟨a, o, h1, h2, h3, h4⟩ := r.look rx ex
  cases h4 with
  | dct h4 h5 => exact ⟨a, _, h1, h2, h3, h4, h5⟩
/-- a dict stays a dict -/
theorem keep_dK {w' : Wd} {h' : MH} (s : Step w w') (r : Rel K w' h') {n : Nat} {a : Addr} {kws : List (Key × MV)} (ha : w.ι[n]? = some a) (e : h'[n]? = some (.dct kws)) : ∃ kvs, w'.H a = some (.dK kvs) ∧ KRep K w'.ι w'.C kvs kws := by
  obtain ⟨o, h1, h2⟩ := r.ob n a _ (pre_get s.pre ha) e
  cases h2 with
  | dct h4 h5 => exact ⟨_, h1, h4, h5⟩
def mDGet (md mk : ME) : ME := fun env h => (md env h).bind fun d => (mk env d.2).bind fun k => (asK k.2 d.1).bind fun t => (keyOf k.1).bind fun y => (valG t.2 y).map fun v => (v, k.2)
theorem sm_dget {td ty : TE} {md mk : ME} (hd : SimE K td md) (hk : SimE K ty mk) : SimE K (tDGet td ty) (mDGet md mk) := fun w h σ env v h' rl re e Q q => by
  obtain ⟨⟨a, h1⟩, e1, e⟩ := bind_of e
  obtain ⟨⟨b, h2⟩, e2, e⟩ := bind_of e
  obtain ⟨⟨n, kws⟩, e3, e⟩ := bind_of e
  obtain ⟨y, e4, e⟩ := bind_of e
  obtain ⟨x, e5, e⟩ := map_of e
  cases e
  refine hd w h σ env a h1 rl re e1 _ fun w1 u1 s1 r1 x1 => hk w1 h1 σ env b _ r1 (re.up s1) e2 _ fun w2 u2 s2 r2 x2 => ?_
  obtain ⟨ad, kvs, rfl, g1, g2, g3⟩ := asK_ok r2 (x1.up s2) e3
  have := keyOf_ok x2 e4
  subst this
  obtain ⟨u, f1, f2⟩ := g3.valS e5
  exact ⟨ad, u, rfl, .inl ⟨kvs, y, .inl g2, rfl, f1.symm⟩, q w2 u (s1.trans s2) r2 f2⟩
def mDIn (neg : Bool) (mk md : ME) : ME := fun env h => (mk env h).bind fun k => (md env k.2).bind fun d => (asK d.2 d.1).bind fun t => (keyOf k.1).map fun y => (.d (.bool (if neg = true then !(valG t.2 y).isSome else (valG t.2 y).isSome)), d.2)
theorem sm_din {td ty : TE} {md mk : ME} (hk : SimE K ty mk) (hd : SimE K td md) : SimE K (tDIn ty td) (mDIn false mk md) := fun w h σ env v h' rl re e Q q => by
  obtain ⟨⟨a, h1⟩, e1, e⟩ := bind_of e
  obtain ⟨⟨b, h2⟩, e2, e⟩ := bind_of e
  obtain ⟨⟨n, kws⟩, e3, e⟩ := bind_of e
  obtain ⟨y, e4, e⟩ := map_of e
  cases e
  refine hk w h σ env a h1 rl re e1 _ fun w1 u1 s1 r1 x1 => hd w1 h1 σ env b _ r1 (re.up s1) e2 _ fun w2 u2 s2 r2 x2 => ?_
  obtain ⟨ad, kvs, rfl, g1, g2, g3⟩ := asK_ok r2 x2 e3
  have := keyOf_ok (x1.up s2) e4
  subst this
  refine ⟨ad, _, rfl, .inl ⟨kvs, y, .inl g2, rfl, rfl⟩, q w2 _ (s1.trans s2) r2 ?_⟩
  rw [g3.isSome y]
  exact .d (.bl _)
theorem sm_dnotin {td ty : TE} {md mk : ME} (hk : SimE K ty mk) (hd : SimE K td md) : SimE K (tDNotIn ty td) (mDIn true mk md) := fun w h σ env v h' rl re e Q q => by
  obtain ⟨⟨a, h1⟩, e1, e⟩ := bind_of e
  obtain ⟨⟨b, h2⟩, e2, e⟩ := bind_of e
  obtain ⟨⟨n, kws⟩, e3, e⟩ := bind_of e
  obtain ⟨y, e4, e⟩ := map_of e
  cases e
  refine hk w h σ env a h1 rl re e1 _ fun w1 u1 s1 r1 x1 => hd w1 h1 σ env b _ r1 (re.up s1) e2 _ fun w2 u2 s2 r2 x2 => ?_
  obtain ⟨ad, kvs, rfl, g1, g2, g3⟩ := asK_ok r2 x2 e3
  have := keyOf_ok (x1.up s2) e4
  subst this
  refine ⟨ad, _, rfl, .inl ⟨kvs, y, .inl g2, rfl, rfl⟩, q w2 _ (s1.trans s2) r2 ?_⟩
  rw [g3.isSome y]
  exact .d (.bl _)
/-- d.get(k, x) -/
def mDGet2 (md mk mx : ME) : ME := fun env h => (md env h).bind fun d => (asK d.2 d.1).bind fun _ => (mk env d.2).bind fun k => (mx env k.2).bind fun x => (asK x.2 d.1).bind fun t => (keyOf k.1).map fun y => ((valG t.2 y).getD x.1, x.2)
theorem getD_rep {κ : Type} [DecidableEq κ] {ι : List Addr} {C : Hp} {kvs : List (κ × V)} {kws : List (κ × MV)} (h : KRep K ι C kvs kws) (k : κ) {u : V} {x : MV} (r : Rep K ι C u x) : Rep K ι C ((valV kvs k).getD u) ((valG kws k).getD x) := by
  cases e : valG kws k with
  | none => rw [h.valN e]; exact r
  | some y => obtain ⟨v, h1, h2⟩ := h.valS e; rw [h1]; exact h2
theorem sm_dget2 {td ty tx : TE} {md mk mx : ME} (hd : SimE K td md) (hk : SimE K ty mk) (hx : SimE K tx mx) : SimE K (tDGet2 td ty tx) (mDGet2 md mk mx) := fun w h σ env v h' rl re e Q q => by
  obtain ⟨⟨a, h1⟩, e1, e⟩ := bind_of e
  obtain ⟨⟨n0, kws0⟩, e0, e⟩ := bind_of e
  obtain ⟨⟨b, h2⟩, e2, e⟩ := bind_of e
  obtain ⟨⟨c, h3⟩, e3, e⟩ := bind_of e
  obtain ⟨⟨n, kws⟩, e4, e⟩ := bind_of e
  obtain ⟨y, e5, e⟩ := map_of e
  cases e
  refine hd w h σ env a h1 rl re e1 _ fun w1 u1 s1 r1 x1 => ?_
  obtain ⟨ad0, kvs0, rfl, g01, g02, g03⟩ := asK_ok r1 x1 e0
  refine ⟨ad0, rfl, .inl ⟨kvs0, .inl g02⟩, hk w1 h1 σ env b h2 r1 (re.up s1) e2 _ fun w2 u2 s2 r2 x2 => hx w2 h2 σ env c _ r2 ((re.up s1).up s2) e3 _ fun w3 u3 s3 r3 x3 => ?_⟩
  obtain ⟨ad, kvs, ea, g1, g2, g3⟩ := asK_ok r3 ((x1.up s2).up s3) e4
  cases ea
  have := keyOf_ok (x2.up s3) e5
  subst this
  exact ⟨_, .inl ⟨kvs, y, .inl g2, rfl, rfl⟩, q w3 _ ((s1.trans s2).trans s3) r3 (getD_rep g3 y x3)⟩
def mDNew : ME := fun _ h => some (.ref h.length, h ++ [.dct []])
theorem sm_dnew : SimE K tDNewK mDNew := fun w h σ env v h' rl re e Q q => by
  cases e
  intro p hp
  obtain ⟨s, r, g⟩ := alloc_ok (o := .dK []) (b := .dct []) rl hp (.dct rfl .nil)
  exact q (w.alloc p (.dK [])) (.ref p) s r (.ref g)
/-- {k: v, ..} -/
def mPairs : List (ME × ME) → Env → MH → Option (List (Key × MV) × MH)
  | [], _, h => some ([], h)
  | (mk, mv) :: r, env, h => (mk env h).bind fun k => (mv env k.2).bind fun v => (keyOf k.1).bind fun y => (mPairs r env v.2).map fun s => ((y, v.1) :: s.1, s.2)
def mergeG (kvs more : List (Key × MV)) : List (Key × MV) := more.foldl (fun acc kv => putG acc kv.1 kv.2) kvs
def mDisp (ps : List (ME × ME)) : ME := fun env h => (mPairs ps env h).bind fun r => if r.1.length ≤ 15 then some (.ref r.2.length, r.2 ++ [.dct (mergeG [] r.1)]) else none
inductive SimPs (K : PySem.W.Frag) : List (TE × TE) → List (ME × ME) → Prop
  | nil : SimPs K [] []
  | cons {tk tv : TE} {mk mv : ME} {ts : List (TE × TE)} {ms : List (ME × ME)} : SimE K tk mk → SimE K tv mv → SimPs K ts ms → SimPs K ((tk, tv) :: ts) ((mk, mv) :: ms)
theorem pairs_ok {ts : List (TE × TE)} {ms : List (ME × ME)} (hp : SimPs K ts ms) : ∀ (w : Wd) (h : MH) (σ : L2.St) (env : Env) (kws : List (Key × MV)) (h' : MH), Rel K w h → RepE K w σ env → mPairs ms env h = some (kws, h') → ∀ Q : List (V × V) → Hp → Prop,
    (∀ w' (kvs : List (Key × V)), Step w w' → Rel K w' h' → KRep K w'.ι w'.C kvs kws → Q (kvs.map fun kv => (kV kv.1, kv.2)) w'.H) → tPairs ts σ w.H Q := by
  induction hp with
  | nil => intro w h σ env kws h' rl re e Q q; cases e; exact q w [] (.refl _) rl ⟨rfl, .nil⟩
  | cons hk hv hr ih =>
    intro w h σ env kws h' rl re e Q q
    obtain ⟨⟨a, h1⟩, e1, e⟩ := bind_of e
    obtain ⟨⟨b, h2⟩, e2, e⟩ := bind_of e
    obtain ⟨y, e3, e⟩ := bind_of e
    obtain ⟨⟨r, h3⟩, e4, e⟩ := map_of e
    cases e
    refine hk w h σ env a h1 rl re e1 _ fun w1 u1 s1 r1 x1 => hv w1 h1 σ env b _ r1 (re.up s1) e2 _ fun w2 u2 s2 r2 x2 => ih w2 h2 σ env r h3 r2 ((re.up s1).up s2) e4 _ fun w3 kvs s3 r3 x3 => ?_
    have := keyOf_ok x1 e3
    subst this
    exact q w3 ((y, u2) :: kvs) ((s1.trans s2).trans s3) r3 (.cons rfl (x2.up s3) x3)
theorem merge_rep {ι : List Addr} {C : Hp} : ∀ {more : List (Key × V)} {morew : List (Key × MV)} {kvs : List (Key × V)} {kws : List (Key × MV)}, KRep K ι C more morew → KRep K ι C kvs kws → KRep K ι C (mergeK kvs more) (mergeG kws morew)
  | [], [], _, _, _, h => h
  | [], _ :: _, _, _, h, _ => by have := h.len; cases this
  | _ :: _, [], _, _, h, _ => by have := h.len; cases this
  | p :: more, q :: morew, kvs, kws, h, g => by
    obtain ⟨h1, h2, h3⟩ := h.cases
    show KRep K ι C (mergeK (putK kvs p.1 p.2) more) (mergeG (putG kws q.1 q.2) morew)
    rw [h1]
    exact merge_rep h3 (g.put h2 q.1)
theorem sm_disp {ts : List (TE × TE)} {ms : List (ME × ME)} (hp : SimPs K ts ms) : SimE K (tDisp ts) (mDisp ms) := fun w h σ env v h' rl re e Q q => by
  obtain ⟨⟨kws, h1⟩, e1, e⟩ := bind_of e
  simp only at e
  split at e
  · rename_i hz
    cases e
    intro p hpn
    obtain ⟨s0, r0⟩ := fresh_ok (o := .dK []) rl hpn
    refine pairs_ok hp _ h σ env kws h1 r0 (re.up s0) e1 _ fun w1 kvs s1 r1 x1 => ?_
    have hn0 := rl.notin hpn
    have hc0 := rl.cnone hpn
    have hp1 : w1.H p = some (.dK []) := s1.fr p _ upd_same hn0
    have hn1 : p ∉ w1.ι := fun m => by
      rcases s1.nw p m with z | z
      · exact hn0 z
      · have z' : upd w.H p (.dK []) p = none := z
        rw [upd_same] at z'; cases z'
    have hc1 : w1.C p = none := s1.nc p (by show upd w.H p (.dK []) p ≠ none; rw [upd_same]; exact fun z => nomatch z) hc0
    refine ⟨hp1, kvs, rfl, by rw [x1.len]; exact hz, ?_⟩
    -- p becomes one's own
    have pf : w1.ι <+: w1.ι ++ [p] := List.prefix_append _ _
    have mg := merge_rep x1 (show KRep K w1.ι w1.C [] [] from ⟨rfl, .nil⟩)
    obtain ⟨s2, r2⟩ := garb (o := .dK (mergeK [] kvs)) (s0.trans s1) r1 hpn hn1 hc1
    refine q ⟨w1.ι ++ [p], w1.C, upd w1.H p (.dK (mergeK [] kvs))⟩ (.ref p) ⟨s2.pre.trans pf, s2.ex, s2.fr, fun a m => ?_, s2.nc, s2.kp, s2.fz⟩ ⟨r2.ch, ?_, ?_, fun a m => ?_, fun n a b g1 g2 => ?_⟩ (.ref ?_)
    · rcases List.mem_append.mp m with z | z
      · exact s2.nw a z
      · rw [List.mem_singleton.mp z]; exact .inr hpn
    · show (w1.ι ++ [p]).length = _
      rw [List.length_append, List.length_append, r1.len]; rfl
    · refine List.nodup_append.mpr ⟨r1.nd, by simp, fun a m b m' => ?_⟩
      rw [List.mem_singleton.mp m']
      exact fun z => hn1 (by rw [← z]; exact m)
    · rcases List.mem_append.mp m with z | z
      · exact r1.ow a z
      · rw [List.mem_singleton.mp z]; exact hc1
    · replace g1 : (w1.ι ++ [p])[n]? = some a := g1
      replace g2 : (h1 ++ [Ob.dct (mergeG [] kws)])[n]? = some b := g2
      by_cases z : n < h1.length
      · rw [List.getElem?_append_left z] at g2
        rw [List.getElem?_append_left (by rw [r1.len]; exact z)] at g1
        obtain ⟨o, q1, q2⟩ := r2.ob n a b g1 g2
        exact ⟨o, q1, q2.mono pf fun _ _ q => q⟩
      · rw [List.getElem?_append_right (by omega)] at g2
        rw [List.getElem?_append_right (by rw [r1.len]; omega), r1.len] at g1
        have hz : n - h1.length = 0 := by
          cases hn : n - h1.length with
          | zero => rfl
          | succ k => rw [hn] at g2; simp at g2
        rw [hz] at g2 g1
        simp at g2 g1
        subst g2 g1
        exact ⟨_, upd_same, .dct mg.1 (mg.2.mono pf fun _ _ q => q)⟩
    · show (w1.ι ++ [p])[h1.length]? = some p
      rw [← r1.len, List.getElem?_append_right (Nat.le_refl _), Nat.sub_self]; rfl
  · cases e
/-- d[k] = v: the value first, then the dict, then the key -/
def mDPut (md mk mv : ME) : MS := fun env h => (mv env h).bind fun v => (md env v.2).bind fun d => (mk env d.2).bind fun k => (asK k.2 d.1).bind fun t => (keyOf k.1).bind fun y => if t.2.length < 100000 then some (.nx env (k.2.set t.1 (.dct (putG t.2 y v.1)))) else none
theorem ss_dput {td ty tv : TE} {md mk mv : ME} (hd : SimE K td md) (hk : SimE K ty mk) (hv : SimE K tv mv) : SimS K (sDPut td ty tv) (mDPut md mk mv) := fun D w h σ env r rl re e p => by
  obtain ⟨⟨v, hh1⟩, e1, e⟩ := bind_of e
  obtain ⟨⟨o, hh2⟩, e2, e⟩ := bind_of e
  obtain ⟨⟨i, hh3⟩, e3, e⟩ := bind_of e
  obtain ⟨⟨n, kws⟩, e4, e⟩ := bind_of e
  obtain ⟨y, e5, e⟩ := bind_of e
  simp only at e
  split at e
  · rename_i hz
    cases e
    refine hv w h σ env v hh1 rl re e1 _ fun w1 u1 s1 r1 x1 => hd w1 hh1 σ env _ hh2 r1 (re.up s1) e2 _ fun w2 u2 s2 r2 x2 => hk w2 hh2 σ env _ hh3 r2 ((re.up s1).up s2) e3 _ fun w3 u3 s3 r3 x3 => ?_
    obtain ⟨a, kvs, rfl, g1, g2, g3⟩ := asK_ok r3 (x2.up s3) e4
    have := keyOf_ok x3 e5
    subst this
    have x1' := (x1.up s2).up s3
    have mg := g3.put x1' y
    obtain ⟨s4, r4⟩ := write_ok (o := .dK (putK kvs y u1)) r3 g1 (.dct mg.1 mg.2) (by rw [g2]; exact fun _ _ z => nomatch z)
    have ss := ((s1.trans s2).trans s3).trans s4
    exact ⟨a, _, rfl, .inl ⟨kvs, y, g2, rfl, by rw [g3.len]; exact Nat.lt_of_lt_of_le hz sl_100000, rfl⟩, p (w3.write a _) σ ss r4 (re.up ss)⟩
  · cases e
/-- len of a dict -/
def rLenD : List V → Hp → VK → Prop := fun xs H Q => ∃ a kvs, xs = [V.ref a] ∧ H a = some (.dK kvs) ∧ Q (.int kvs.length) H
def mLenD : MCa := fun xs h => (arg1 xs).bind fun x => (asK h x).map fun t => (.d (.int t.2.length), h)
theorem sc_lenD : SimC K rLenD mLenD := fun w h us xs v h' rl ra e Q q => by
  obtain ⟨x, e1, e⟩ := bind_of e
  obtain ⟨⟨n, kws⟩, e2, e⟩ := map_of e
  cases e
  rw [arg1_of e1] at ra
  obtain ⟨u, rfl, rx⟩ := ra.one
  obtain ⟨a, kvs, rfl, g1, g2, g3⟩ := asK_ok rl rx e2
  exact ⟨a, kvs, rfl, g2, by rw [g3.len]; exact q w _ (.refl _) rl (.d (.int _))⟩
/-- dict(d) -/
def mDictCp : MCa := fun xs h => (arg1 xs).bind fun x => (asK h x).map fun t => (.ref h.length, h ++ [.dct t.2])
theorem sc_dictCp : SimC K rDictCp mDictCp := fun w h us xs v h' rl ra e Q q => by
  obtain ⟨x, e1, e⟩ := bind_of e
  obtain ⟨⟨n, kws⟩, e2, e⟩ := map_of e
  cases e
  rw [arg1_of e1] at ra
  obtain ⟨u, rfl, rx⟩ := ra.one
  obtain ⟨a, kvs, rfl, g1, g2, g3⟩ := asK_ok rl rx e2
  refine ⟨a, kvs, rfl, .inl g2, fun p hp => ?_⟩
  obtain ⟨s, r, g⟩ := alloc_ok (o := .dK kvs) (b := .dct kws) rl hp (.dct g3.1 (g3.2.mono (List.prefix_append _ _) fun _ _ z => z))
  exact q (w.alloc p (.dK kvs)) (.ref p) s r (.ref g)
/-! ### slices -/
abbrev MO := Env → MH → Option (Option Int × MH)
def SimO (K : PySem.W.Frag) (t : TO) (m : MO) : Prop := ∀ w h σ env v h', Rel K w h → RepE K w σ env → m env h = some (v, h') → ∀ Q : Option Int → Hp → Prop, (∀ w', Step w w' → Rel K w' h' → Q v w'.H) → t σ w.H Q
def mNoPart : MO := fun _ h => some (none, h)
def mPart (me : ME) : MO := fun env h => (me env h).bind fun r => (asI r.1).map fun i => (some i, r.2)
theorem so_none : SimO K tNoPart mNoPart := fun w h σ env v h' rl re e Q q => by
  cases e
  exact q w (.refl _) rl
theorem so_some {te : TE} {me : ME} (he : SimE K te me) : SimO K (tPart te) (mPart me) := fun w h σ env v h' rl re e Q q => by
  obtain ⟨⟨a, h1⟩, e1, e⟩ := bind_of e
  obtain ⟨i, e2, e⟩ := map_of e
  cases e
  exact he w h σ env a _ rl re e1 _ fun w1 u s1 r1 x1 => ⟨i, asI_rep x1 e2, q w1 s1 r1⟩
def cutM {α : Type} (xs : List α) (lo hi : Option Int) : List α := (xs.drop (HT.sIx xs.length 0 lo)).take (HT.sIx xs.length xs.length hi - HT.sIx xs.length 0 lo)
theorem RepA.drop {ι : List Addr} {C : Hp} : ∀ {vs : List V} {xs : List MV} (n : Nat), RepA K ι C vs xs → RepA K ι C (vs.drop n) (xs.drop n)
  | _, _, 0, h => h
  | _, _, n + 1, .nil => .nil
  | _, _, n + 1, .cons _ t => RepA.drop n t
theorem RepA.take {ι : List Addr} {C : Hp} : ∀ {vs : List V} {xs : List MV} (n : Nat), RepA K ι C vs xs → RepA K ι C (vs.take n) (xs.take n)
  | _, _, 0, _ => .nil
  | _, _, n + 1, .nil => .nil
  | _, _, n + 1, .cons r t => .cons r (RepA.take n t)
theorem cut_rep {ι : List Addr} {C : Hp} {vs : List V} {xs : List MV} (r : RepA K ι C vs xs) (lo hi : Option Int) : RepA K ι C (cutV vs lo hi) (cutM xs lo hi) := by
  unfold cutV cutM
  rw [r.len]
  exact (r.drop _).take _
def mSlL (me : ME) (ml mh : MO) : MA := fun env h => (me env h).bind fun r => (ml env r.2).bind fun l => (mh env l.2).bind fun u => if isT r.1 = false then (itemsOf u.2 r.1).map fun xs => (cutM xs l.1 u.1, u.2) else none
theorem sm_slL {te : TE} {tl th : TO} {me : ME} {ml mh : MO} (h1 : SimE K te me) (h2 : SimO K tl ml) (h3 : SimO K th mh) : SimF K (tSl (rSlL K) te tl th) (mSlL me ml mh) := fun w h σ env v h' rl re e Q q => by
  obtain ⟨⟨a, hh1⟩, e1, e⟩ := bind_of e
  obtain ⟨⟨l, hh2⟩, e2, e⟩ := bind_of e
  obtain ⟨⟨u, hh3⟩, e3, e⟩ := bind_of e
  simp only at e
  split at e
  · rename_i ht
    obtain ⟨xs, e4, e⟩ := map_of e
    cases e
    refine h1 w h σ env a hh1 rl re e1 _ fun w1 x s1 r1 x1 => h2 w1 hh1 σ env l hh2 r1 (re.up s1) e2 _ fun w2 s2 r2 => h3 w2 hh2 σ env u _ r2 ((re.up s1).up s2) e3 _ fun w3 s3 r3 => ?_
    obtain ⟨p, vs, rfl, hs, rv⟩ := items_L r3 ((x1.up s2).up s3) e4 ht
    refine ⟨p, vs, rfl, hs, fun l' hl => ?_⟩
    obtain ⟨s4, r4⟩ := fresh_ok (o := .lst (cutV vs l u)) r3 hl
    have ss := (s1.trans s2).trans s3
    exact q _ l' _ (ss.trans s4) r4 (by
      cases z : w.H l' with
      | none => rfl
      | some o => exact absurd hl (ss.kp l' (by rw [z]; exact fun q => nomatch q))) upd_same (r3.notin hl) (r3.cnone hl) (cut_rep rv l u)
  · cases e
def mSlT (me : ME) (ml mh : MO) : ME := fun env h => (me env h).bind fun r => (ml env r.2).bind fun l => (mh env l.2).bind fun u => if isT r.1 = true then (itemsOf u.2 r.1).bind fun xs => if HT.sIx xs.length 0 l.1 = 0 ∧ HT.sIx xs.length xs.length u.1 = xs.length then none else some (mkTup (cutM xs l.1 u.1), u.2) else none
theorem sm_slT {te : TE} {tl th : TO} {me : ME} {ml mh : MO} (h1 : SimE K te me) (h2 : SimO K tl ml) (h3 : SimO K th mh) : SimE K (tSl (rSlT K) te tl th) (mSlT me ml mh) := fun w h σ env v h' rl re e Q q => by
  obtain ⟨⟨a, hh1⟩, e1, e⟩ := bind_of e
  obtain ⟨⟨l, hh2⟩, e2, e⟩ := bind_of e
  obtain ⟨⟨u, hh3⟩, e3, e⟩ := bind_of e
  simp only at e
  split at e
  · rename_i ht
    obtain ⟨xs, e4, e⟩ := bind_of e
    split at e
    · cases e
    · rename_i hw
      cases e
      refine h1 w h σ env a hh1 rl re e1 _ fun w1 x s1 r1 x1 => h2 w1 hh1 σ env l hh2 r1 (re.up s1) e2 _ fun w2 s2 r2 => h3 w2 hh2 σ env u _ r2 ((re.up s1).up s2) e3 _ fun w3 s3 r3 => ?_
      obtain ⟨p, vs, rfl, hs, rv⟩ := items_T r3 ((x1.up s2).up s3) e4 ht
      refine ⟨p, vs, rfl, ex_t r3.ch hs, by rw [rv.len]; exact hw, fun l' hl => ?_⟩
      obtain ⟨s4, r4⟩ := know_ok (o := .tup (cutV vs l u)) r3 hl
      exact q (w3.know l' _) _ (((s1.trans s2).trans s3).trans s4) r4 (mkTup_rep upd_same ((cut_rep rv l u).up s4))
  · cases e
end
end M
namespace M
open PySem PySem.Spec PyProof.Rows L2
open Evl (Ex ex_rd ex_l ex_t rMax2)
open G (dpx dpax dpa_len dpa_get dpa_app dpa_set ex_none wipe_get wipe_eq wipe_wipe RD UD CD Ret rMin2 rInt1 rAbs rTupOf rListOf)
/-! ### constants of the top -/
def GlV (K : PySem.W.Frag) (u : Value) (d : PyData) : Prop := ∃ v : V, RelV v u ∧ ∀ C, Dp K C v d
def GlD (K : PySem.W.Frag) (mg : Str → Option Value) (x : Str) (d : PyData) : Prop := ∃ u, mg x = some u ∧ GlV K u d
inductive GlVs (K : PySem.W.Frag) : List Value → List PyData → Prop
  | nil : GlVs K [] []
  | cons {u : Value} {d : PyData} {us : List Value} {ds : List PyData} : GlV K u d → GlVs K us ds → GlVs K (u :: us) (d :: ds)
theorem glVs_ok {K : PySem.W.Frag} {us : List Value} {ds : List PyData} (h : GlVs K us ds) : ∃ vs, Vals vs us ∧ ∀ C, DpAll K C vs ds := by
  induction h with
  | nil => exact ⟨[], .nil, fun _ => .nil⟩
  | cons h _ ih =>
    obtain ⟨v, r, d⟩ := h
    obtain ⟨vs, rs, ds⟩ := ih
    exact ⟨v :: vs, .cons r rs, fun C => .cons (d C) (ds C)⟩
theorem glV_tup {K : PySem.W.Frag} {a : Addr} {od : Option Addr} {its : Array Value} {n : Nat} {sl : Array (Option Value)} {ds : List PyData} (h : K.lookup a = some ⟨.type "tuple", od, .seq its n, sl⟩) (hz : its.size ≤ sizeLine) (hs : GlVs K its.toList ds) : GlV K (.ref a) (.tuple ds) := by
  obtain ⟨vs, r, d⟩ := glVs_ok hs
  exact ⟨.ref a, rfl, fun C => .tup (.inr ⟨_, its, n, h, rfl, rfl, hz, r⟩) (d C)⟩
def tGlD (K : PySem.W.Frag) (d : PyData) : TE := fun _ H Q => ∀ v, (∀ C, Dp K C v d) → Q v H
theorem pe_glD {X : Cx} {x : Str} {d : PyData} {pos : Pos} (hg : Gl X x) (h : GlD X.K X.mg x d) (hd : (x == ("__debug__" : Str)) = false := by decide) : PE X (.Name x pos) (tGlD X.K d) := by
  obtain ⟨u, hm, v, r, dp⟩ := h
  exact ⟨fun _ _ _ H _ I q => ld_glob I hg hm ⟨v, H, I, r, q v dp⟩ hd⟩
section
variable {K : PySem.W.Frag} {w : Wd} {h : MH}
theorem sm_glD {d : PyData} : SimE K (tGlD K d) (mK d) := fun w h σ env x h' rl re e Q q => by
  cases e
  exact fun v dp => q w v (.refl _) rl (.d (dp _))
def mPar (i j : Nat) (ma : MA) : MS := fun env h => (ma env h).bind fun r => (argsTT r.1).map fun p => .nx ((env.set i (some p.1)).set j (some p.2)) r.2
theorem ss_par {i j : Nat} {ta : TA} {ma : MA} (ha : SimA K ta ma) : SimS K (tPar i j ta) (mPar i j ma) := fun D w h σ env r rl re e p => by
  obtain ⟨⟨xs, h1⟩, e1, e⟩ := bind_of e
  obtain ⟨⟨x, y⟩, e2, e⟩ := map_of e
  cases e
  refine ha w h σ env xs _ rl re e1 _ fun w1 us s1 r1 x1 => ?_
  replace e2 : argsTT xs = some (x, y) := e2
  rw [argsTT_of e2] at x1
  obtain ⟨u, v, rfl, hx, hy⟩ := x1.two
  exact ⟨u, v, rfl, p w1 _ s1 r1 (((re.up s1).put hx i).put hy j)⟩
/-- a tuple of data, k times -/
def mRepA : MO2 := fun a b h => match a with
  | .d (.tuple ds) => (asI b).bind fun k => if ds ≠ [] ∧ ds.length ≤ 1000 ∧ 1 ≤ k ∧ k ≤ 1000 then some (.d (.tuple (List.replicate k.toNat ds).flatten), h) else none
  | _ => none
theorem sr_repA : SimR K (G.rRepA K) mRepA := fun w h x y a b v h' rl rx ry e Q q => by
  unfold mRepA at e
  split at e
  · rename_i ds
    obtain ⟨k, e1, e⟩ := bind_of e
    split at e
    · rename_i hk
      cases e
      have := asI_rep ry e1
      subst this
      refine G.rd_repA (K := K) hk.1 hk.2.1 hk.2.2.1 hk.2.2.2 w.C w.H x (.int k) rl.ch rx.dat (.int k) Q fun u H' t => ?_
      obtain ⟨C', a1, a2, a3, a4, a5⟩ := ret_dat t
      obtain ⟨s, r'⟩ := step_C rl a1 a2 a3 a4
      exact q ⟨w.ι, C', H'⟩ u s r' (.d a5)
    · cases e
  · cases e
/-! ### ascending numbers -/
def ins1 (x : Int) : List Int → List Int
  | [] => [x]
  | y :: ys => if x ≤ y then x :: y :: ys else y :: ins1 x ys
def isort : List Int → List Int
  | [] => []
  | x :: xs => ins1 x (isort xs)
theorem ins1_perm (x : Int) : ∀ ys : List Int, (ins1 x ys).Perm (x :: ys)
  | [] => .refl _
  | y :: ys => by
    unfold ins1
    split
    · exact .refl _
    · exact ((ins1_perm x ys).cons y).trans (List.Perm.swap x y ys)
theorem isort_perm : ∀ xs : List Int, (isort xs).Perm xs
  | [] => .refl _
  | x :: xs => (ins1_perm x _).trans ((isort_perm xs).cons x)
theorem ins1_asc (x : Int) : ∀ {ys : List Int}, ys.Pairwise (· ≤ ·) → (ins1 x ys).Pairwise (· ≤ ·)
  | [], _ => by simp [ins1]
  | y :: ys, h => by
    have hc := List.pairwise_cons.mp h
    unfold ins1
    split
    · rename_i hxy
      refine List.pairwise_cons.mpr ⟨fun z m => ?_, h⟩
      rcases List.mem_cons.mp m with rfl | m
      · exact hxy
      · exact Int.le_trans hxy (hc.1 z m)
    · rename_i hxy
      refine List.pairwise_cons.mpr ⟨fun z m => ?_, ins1_asc x hc.2⟩
      rcases List.mem_cons.mp ((ins1_perm x ys).mem_iff.mp m) with rfl | m
      · omega
      · exact hc.1 z m
theorem isort_asc : ∀ xs : List Int, (isort xs).Pairwise (· ≤ ·)
  | [] => .nil
  | x :: xs => ins1_asc x (isort_asc xs)
theorem asc_perm_eq : ∀ {xs ys : List Int}, xs.Perm ys → xs.Pairwise (· ≤ ·) → ys.Pairwise (· ≤ ·) → xs = ys
  | [], ys, p, _, _ => by simpa using p
  | x :: xs, [], p, _, _ => by simp at p
  | x :: xs, y :: ys, p, hx, hy => by
    have ax := List.pairwise_cons.mp hx
    have ay := List.pairwise_cons.mp hy
    have e : x = y := by
      have m1 : x ∈ y :: ys := p.mem_iff.mp List.mem_cons_self
      have m2 : y ∈ x :: xs := p.mem_iff.mpr List.mem_cons_self
      rcases List.mem_cons.mp m1 with e | m1
      · exact e
      · rcases List.mem_cons.mp m2 with e | m2
        · exact e.symm
        · exact Int.le_antisymm (ax.1 y m2) (ay.1 x m1)
    subst e
    rw [asc_perm_eq ((List.perm_cons x).mp p) ax.2 ay.2]
def intKeys : List Key → Option (List Int)
  | [] => some []
  | .inl i :: r => (intKeys r).map (i :: ·)
  | _ => none
theorem intKeys_of : ∀ {ks : List Key} {is : List Int}, intKeys ks = some is → ks = is.map Sum.inl
  | [], is, e => by cases e; rfl
  | .inl i :: r, is, e => by
    obtain ⟨js, e1, e2⟩ := map_of e
    subst e2
    rw [intKeys_of e1]; rfl
  | .inr _ :: _, _, e => by cases e
def rSortDI : List V → Hp → VK → Prop := fun vs H Q =>
  ∃ (a : Addr) (kvs : List (Key × V)) (ks : List Int),
    vs = [.ref a] ∧ Rd H a (.dK kvs) ∧ kvs.map (·.1) = ks.map Sum.inl ∧ ks.length < 64 ∧
    ∀ (ys : List Int) (p : Addr),
      ys.Perm ks → ys.Pairwise (· ≤ ·) → H p = none → Q (.ref p) (upd H p (.lst (ys.map V.int)))
def mSortDI : List MV → MH → Option (List MV × MH) := fun xs h => (arg1 xs).bind fun x => (asK h x).bind fun t => (intKeys (t.2.map (·.1))).bind fun ks => if ks.length < 64 then some ((isort ks).map fun k => .d (.int k), h) else none
theorem ints_rep {ι : List Addr} {C : Hp} : ∀ ks : List Int, RepA K ι C (ks.map V.int) (ks.map fun k => .d (.int k))
  | [] => .nil
  | k :: ks => .cons (.d (.int k)) (ints_rep ks)
theorem sf_sortDI : SimCF K rSortDI mSortDI := fun w h us xs ys h' rl ra e Q q => by
  obtain ⟨x, e1, e⟩ := bind_of e
  obtain ⟨⟨n, kws⟩, e2, e⟩ := bind_of e
  obtain ⟨ks, e3, e⟩ := bind_of e
  split at e
  · rename_i hz
    cases e
    rw [arg1_of e1] at ra
    obtain ⟨u, rfl, rx⟩ := ra.one
    obtain ⟨a, kvs, rfl, g1, g2, g3⟩ := asK_ok rl rx e2
    refine ⟨a, kvs, ks, rfl, .inl g2, g3.1.trans (intKeys_of e3), hz, fun zs p hp ha hn => ?_⟩
    have : zs = isort ks := asc_perm_eq (hp.trans (isort_perm ks).symm) ha (isort_asc ks)
    subst this
    obtain ⟨s, r⟩ := fresh_ok (o := .lst ((isort ks).map V.int)) rl hn
    exact q _ p _ s r hn upd_same (rl.notin hn) (rl.cnone hn) (ints_rep _)
  · cases e
end
/-! ### the law -/
def spLaw (K : PySem.W.Frag) : Sp := fun vs H Q _ => ∃ (a : Addr) (ns : List Int), vs = [.ref a] ∧ SqL K H a (ns.map V.int) ∧ ns.length ≤ 63 ∧ ∀ H', Q (.bl true) H'
theorem law_imp {K : PySem.W.Frag} {pf : List PyData → Option PyData} (tell : ∀ ns : List Int, ns.length ≤ 63 → pf [.list (ns.map .int)] = some (.bool true)) {vs : List V} {H : Hp} {Q : VK} {E : XK} (h : spLaw K vs H Q E) : spQ K pf vs H Q E := by
  obtain ⟨a, ns, rfl, hS, hl, q⟩ := h
  refine ⟨H, [.list (ns.map .int)], .bool true, Ex.refl H, .cons (.lst hS G.dpa_ints) .nil, tell ns hl, fun v H' r => ?_⟩
  obtain ⟨C', _, _, _, _, d⟩ := ret_dat r
  cases d
  exact q H'
end M
namespace M
open PySem PySem.Spec PyProof.Rows L2
open G (ti li)
/-! ### what things give -/
theorem e_arg1 {x : MV} : arg1 [x] = some x := rfl
theorem e_args1 {x : MV} : args1 [x] = asI x := rfl
theorem e_args2 {x y : MV} : args2 [x, y] = (asI x).bind fun i => (asI y).map fun j => (i, j) := rfl
theorem e_argsTT {x y : MV} : argsTT [x, y] = some (x, y) := rfl
theorem e_asI {i : Int} : asI (.d (.int i)) = some i := rfl
theorem e_asB {b : Bool} {h : MH} : asB (.d (.bool b), h) = some (b, h) := rfl
theorem e_itL {h : MH} {ds : List PyData} : itemsOf h (.d (.list ds)) = some (ds.map .d) := rfl
theorem e_itT {h : MH} {ds : List PyData} : itemsOf h (.d (.tuple ds)) = some (ds.map .d) := rfl
theorem e_itM {h : MH} {xs : List MV} : itemsOf h (.tup xs) = some xs := rfl
theorem e_isTL {ds : List PyData} : isT (.d (.list ds)) = false := rfl
theorem e_isTT {ds : List PyData} : isT (.d (.tuple ds)) = true := rfl
theorem e_isTM {xs : List MV} : isT (.tup xs) = true := rfl
theorem e_isTR {n : Nat} : isT (.ref n) = false := rfl
theorem e_rowL {h : MH} {ds : List PyData} : rowOf h (.d (.list ds)) = some ([], ds.map .d) := rfl
theorem e_rowT {h : MH} {ds : List PyData} : rowOf h (.d (.tuple ds)) = some ([], ds.map .d) := rfl
theorem e_rowM {h : MH} {xs : List MV} : rowOf h (.tup xs) = some ([], xs) := rfl
theorem e_allD0 : allD [] = some [] := rfl
theorem e_allD1 {p : PyData} {xs : List MV} : allD (.d p :: xs) = (allD xs).map (p :: ·) := rfl
theorem e_allDm (ds : List PyData) : allD (ds.map .d) = some ds := allD_map ds
theorem e_allDf {α : Type} (f : α → PyData) (ks : List α) : allD (ks.map fun k => .d (f k)) = some (ks.map f) := by
  rw [show (ks.map fun k => MV.d (f k)) = (ks.map f).map .d by rw [List.map_map]; rfl]
  exact allD_map _
theorem e_liftD {f : List PyData → Option PyData} {xs : List MV} {h : MH} {ds : List PyData} (e : allD xs = some ds) : liftD f xs h = (f ds).map fun r => (.d r, h) := by unfold liftD; rw [e]
theorem e_lift1 {f : List PyData → Option PyData} {a : PyData} {h : MH} : liftD f [.d a] h = (f [a]).map fun r => (.d r, h) := rfl
theorem e_lift2 {f : List PyData → Option PyData} {a b : PyData} {h : MH} : liftD f [.d a, .d b] h = (f [a, b]).map fun r => (.d r, h) := rfl
theorem e_lift3 {f : List PyData → Option PyData} {a b c : PyData} {h : MH} : liftD f [.d a, .d b, .d c] h = (f [a, b, c]).map fun r => (.d r, h) := rfl
theorem e_lift4 {f : List PyData → Option PyData} {a b c d : PyData} {h : MH} : liftD f [.d a, .d b, .d c, .d d] h = (f [a, b, c, d]).map fun r => (.d r, h) := rfl
theorem e_mkTup1 {a : PyData} : mkTup [.d a] = .d (.tuple [a]) := rfl
theorem e_mkTup2 {a b : PyData} : mkTup [.d a, .d b] = .d (.tuple [a, b]) := rfl
theorem e_mkTup3 {a b c : PyData} : mkTup [.d a, .d b, .d c] = .d (.tuple [a, b, c]) := rfl
theorem e_mkTup4 {a b c d : PyData} : mkTup [.d a, .d b, .d c, .d d] = .d (.tuple [a, b, c, d]) := rfl
theorem e_mkTup5 {a b c d e : PyData} : mkTup [.d a, .d b, .d c, .d d, .d e] = .d (.tuple [a, b, c, d, e]) := rfl
theorem e_mkTupm (ds : List PyData) : mkTup (ds.map .d) = .d (.tuple ds) := mkTup_d ds
theorem e_mkTupf {α : Type} (f : α → PyData) (ks : List α) : mkTup (ks.map fun k => .d (f k)) = .d (.tuple (ks.map f)) := by unfold mkTup; rw [e_allDf]
theorem e_mgTupT {n : Nat} {gs : MGs} {ds : List PyData} {env : Env} : mgTup n gs (.d (.tuple ds)) env = if ds.length = n then gs (ds.map .d) env else none := rfl
theorem e_mgTupM {n : Nat} {gs : MGs} {xs : List MV} {env : Env} : mgTup n gs (.tup xs) env = if xs.length = n then gs xs env else none := rfl
theorem e_mgCons {g : MG} {gs : MGs} {v : MV} {r : List MV} {env : Env} : mgCons g gs (v :: r) env = (g v env).bind (gs r) := rfl
theorem e_mgNil {env : Env} : mgNil [] env = some env := rfl
theorem e_mgName {i : Nat} {v : MV} {env : Env} : mgName i v env = some (env.set i (some v)) := rfl
theorem e_seqN {mb : MS} {e : Env} {h : MH} : mSeqK mb (.nx e h) = mb e h := rfl
theorem e_seqR {mb : MS} {v : MV} {h : MH} : mSeqK mb (.rt v h) = some (.rt v h) := rfl
theorem e_seqB {mb : MS} {e : Env} {h : MH} : mSeqK mb (.bk e h) = some (.bk e h) := rfl
theorem e_seqC {mb : MS} {e : Env} {h : MH} : mSeqK mb (.ct e h) = some (.ct e h) := rfl
theorem e_resR {v : MV} {h : MH} : resM (.rt v h) = some (v, h) := rfl
theorem e_resN {e : Env} {h : MH} : resM (.nx e h) = some (.d .none, h) := rfl
theorem e_mVar {i : Nat} {env : Env} {h : MH} : mVar i env h = match env[i]? with
  | some (some v) => some (v, h)
  | _ => none := rfl
theorem e_int1 {i : Int} : fInt1 [.int i] = some (.int i) := rfl
theorem e_int1b {b : Bool} : fInt1 [.bool b] = some (.int (if b then 1 else 0)) := rfl
theorem e_max2 {i j : Int} : fMax2 [.int i, .int j] = some (.int (max i j)) := rfl
theorem e_min2 {i j : Int} : fMin2 [.int i, .int j] = some (.int (min i j)) := rfl
theorem e_abs {i : Int} : fAbs [.int i] = some (.int (i.natAbs : Int)) := rfl
theorem e_allB {bs : List Bool} : fAll [.list (bs.map .bool)] = some (.bool (bs.all id)) := by unfold fAll; simp only [boolsOf_map]; rfl
theorem e_anyB {bs : List Bool} : fAny [.list (bs.map .bool)] = some (.bool (bs.any id)) := by unfold fAny; simp only [boolsOf_map]; rfl
theorem e_allF {α : Type} {ks : List α} {f : α → Bool} : fAll [.list (ks.map fun k => .bool (f k))] = some (.bool (ks.all f)) := by
  have := e_allB (bs := ks.map f)
  rw [List.map_map] at this
  rw [show (ks.map fun k => PyData.bool (f k)) = ks.map (PyData.bool ∘ f) from rfl, this]
  congr 2
  rw [List.all_map]; rfl
theorem e_anyF {α : Type} {ks : List α} {f : α → Bool} : fAny [.list (ks.map fun k => .bool (f k))] = some (.bool (ks.any f)) := by
  have := e_anyB (bs := ks.map f)
  rw [List.map_map] at this
  rw [show (ks.map fun k => PyData.bool (f k)) = ks.map (PyData.bool ∘ f) from rfl, this]
  congr 2
  rw [List.any_map]; rfl
theorem e_repA {ds : List PyData} {k : Int} {h : MH} (h1 : ds ≠ []) (h2 : ds.length ≤ 1000) (h3 : 1 ≤ k) (h4 : k ≤ 1000) : mRepA (.d (.tuple ds)) (.d (.int k)) h = some (.d (.tuple (List.replicate k.toNat ds).flatten), h) := by
  unfold mRepA
  simp only [e_asI, Option.bind_some]
  rw [if_pos ⟨h1, h2, h3, h4⟩]
theorem e_eqD {neg : Bool} {d e : PyData} {h : MH} (h1 : SeqAt.shaped d = true) (h2 : SeqAt.shaped e = true) : mEqD neg (.d d) (.d e) h = some (.d (.bool (if neg = true then !PyData.eqv d e else PyData.eqv d e)), h) := by
  unfold mEqD
  rw [reify_d, reify_d, Option.bind_some, Option.bind_some, if_pos ⟨h1, h2⟩]
theorem e_eqI {i j : Int} {h : MH} : mEqD false (.d (.int i)) (.d (.int j)) h = some (.d (.bool (decide (i = j))), h) := by rw [e_eqD (G.sh_int i) (G.sh_int j), G.eqv_int]; rfl
theorem e_neI {i j : Int} {h : MH} : mEqD true (.d (.int i)) (.d (.int j)) h = some (.d (.bool (!decide (i = j))), h) := by rw [e_eqD (G.sh_int i) (G.sh_int j), G.eqv_int]; rfl
theorem e_eqB {i j : Bool} {h : MH} : mEqD false (.d (.bool i)) (.d (.bool j)) h = some (.d (.bool (decide (i = j))), h) := by rw [e_eqD (G.sh_bool i) (G.sh_bool j), G.eqv_bool]; rfl
theorem e_neB {i j : Bool} {h : MH} : mEqD true (.d (.bool i)) (.d (.bool j)) h = some (.d (.bool (!decide (i = j))), h) := by rw [e_eqD (G.sh_bool i) (G.sh_bool j), G.eqv_bool]; rfl
theorem e_eqT {xs ys : List Int} {h : MH} : mEqD false (.d (ti xs)) (.d (ti ys)) h = some (.d (.bool (decide (xs = ys))), h) := by rw [e_eqD (G.sh_ti xs) (G.sh_ti ys), G.eqv_ti]; rfl
theorem e_neT {xs ys : List Int} {h : MH} : mEqD true (.d (ti xs)) (.d (ti ys)) h = some (.d (.bool (!decide (xs = ys))), h) := by rw [e_eqD (G.sh_ti xs) (G.sh_ti ys), G.eqv_ti]; rfl
theorem e_eqL {xs ys : List Int} {h : MH} : mEqD false (.d (li xs)) (.d (li ys)) h = some (.d (.bool (decide (xs = ys))), h) := by rw [e_eqD (G.sh_li xs) (G.sh_li ys), G.eqv_li]; rfl
theorem e_neL {xs ys : List Int} {h : MH} : mEqD true (.d (li xs)) (.d (li ys)) h = some (.d (.bool (!decide (xs = ys))), h) := by rw [e_eqD (G.sh_li xs) (G.sh_li ys), G.eqv_li]; rfl
theorem e_IC {c : Int → Int → Prop} {g : Int → Int → Int} {i j : Int} {h : MH} (hc : c i j) : mIC c g (.d (.int i)) (.d (.int j)) h = some (.d (.int (g i j)), h) := by
  show (asI (.d (.int i))).bind _ = _
  rw [e_asI, Option.bind_some, e_asI, Option.bind_some, if_pos hc]
theorem e_mod {i j : Int} {h : MH} (hj : 0 < j) : mIC (fun _ j => 0 < j) (fun i j => i % j) (.d (.int i)) (.d (.int j)) h = some (.d (.int (i % j)), h) := e_IC hj
theorem e_I {g : Int → Int → Int} {i j : Int} {h : MH} : mI g (.d (.int i)) (.d (.int j)) h = some (.d (.int (g i j)), h) := rfl
theorem e_IB {g : Int → Int → Bool} {i j : Int} {h : MH} : mIB g (.d (.int i)) (.d (.int j)) h = some (.d (.bool (g i j)), h) := rfl
theorem e_neg {i : Int} {h : MH} : mNeg (.d (.int i)) h = some (.d (.int (-i)), h) := rfl
theorem atI_map {α β : Type} (f : α → β) (xs : List α) (i : Int) : atI (xs.map f) i = (atI xs i).map f := by
  unfold atI
  rw [List.length_map]
  cases ixN xs.length i with
  | none => rfl
  | some j => simp
theorem atI_get {α : Type} {xs : List α} {i : Int} (h0 : 0 ≤ i) (h1 : i < xs.length) (z : α) : atI xs i = some (xs.getD i.toNat z) := by
  refine G.atI_ok h0 ?_
  rw [List.getD_eq_getElem?_getD, List.getElem?_eq_getElem (by omega)]; rfl
theorem e_ixL {ds : List PyData} {i : Int} {h : MH} {p : PyData} (e : atI ds i = some p) : mIx (.d (.list ds)) (.d (.int i)) h = some (.d p, h) := by
  show (itemsOf h (.d (.list ds))).bind _ = _
  rw [e_itL, Option.bind_some, e_asI, Option.bind_some, atI_map, e]; rfl
theorem e_ixT {ds : List PyData} {i : Int} {h : MH} {p : PyData} (e : atI ds i = some p) : mIx (.d (.tuple ds)) (.d (.int i)) h = some (.d p, h) := by
  show (itemsOf h (.d (.tuple ds))).bind _ = _
  rw [e_itT, Option.bind_some, e_asI, Option.bind_some, atI_map, e]; rfl
theorem e_ixLi {xs : List Int} {i : Int} {h : MH} (h0 : 0 ≤ i) (h1 : i < xs.length) : mIx (.d (li xs)) (.d (.int i)) h = some (.d (.int (xs.getD i.toNat 0)), h) := e_ixL (by rw [atI_map, atI_get h0 h1 0]; rfl)
theorem e_ixTi {xs : List Int} {i : Int} {h : MH} (h0 : 0 ≤ i) (h1 : i < xs.length) : mIx (.d (ti xs)) (.d (.int i)) h = some (.d (.int (xs.getD i.toNat 0)), h) := e_ixT (by rw [atI_map, atI_get h0 h1 0]; rfl)
theorem e_ixR {n : Nat} {xs : List MV} {i : Int} {h : MH} {x : MV} (hn : h[n]? = some (.lst xs)) (e : atI xs i = some x) : mIx (.ref n) (.d (.int i)) h = some (x, h) := by
  show (itemsOf h (.ref n)).bind _ = _
  have : itemsOf h (.ref n) = some xs := by
    show (asL h (.ref n)).map (·.2) = _
    unfold asL
    simp only [hn]; rfl
  rw [this, Option.bind_some, e_asI, Option.bind_some, e]; rfl
theorem e_itR {n : Nat} {xs : List MV} {h : MH} (hn : h[n]? = some (.lst xs)) : itemsOf h (.ref n) = some xs := by
  show (asL h (.ref n)).map (·.2) = _
  unfold asL
  simp only [hn]; rfl
theorem e_asL {n : Nat} {xs : List MV} {h : MH} (hn : h[n]? = some (.lst xs)) : asL h (.ref n) = some (n, xs) := by
  unfold asL
  simp only [hn]
theorem e_asK {n : Nat} {kws : List (Key × MV)} {h : MH} (hn : h[n]? = some (.dct kws)) : asK h (.ref n) = some (n, kws) := by
  unfold asK
  simp only [hn]
theorem e_keyI {i : Int} : keyOf (.d (.int i)) = some (.inl i) := rfl
theorem e_keyS {s : Str} : keyOf (.d (.str s)) = some (.inr s) := rfl
/-! ### loops -/
theorem lc_map {α : Type} {g : MG} {me : ME} {env : Env} {h : MH} (φ f : α → MV) : ∀ ks : List α, (∀ k ∈ ks, (g (φ k) env).bind (fun e => me e h) = some (f k, h)) → lcLoop g mYes me [] env (ks.map φ) h = some (ks.map f, h)
  | [], _ => by rw [List.map_nil, lcLoop, srcIf_nil]; rfl
  | k :: ks, hb => by
    rw [List.map_cons, lcLoop, srcIf_nil]
    have h1 := hb k List.mem_cons_self
    obtain ⟨e', e1, e2⟩ := bind_of h1
    rw [e1, Option.bind_some]
    show (some (true, h)).bind _ = _
    rw [Option.bind_some]
    simp only [if_true]
    rw [e2, Option.bind_some, lc_map φ f ks fun k m => hb k (List.mem_cons_of_mem _ m)]
    rfl
theorem lc_filt {α : Type} {g : MG} {mt : MT} {me : ME} {env : Env} {h : MH} (φ f : α → MV) (c : α → Bool) : ∀ ks : List α, (∀ k ∈ ks, (g (φ k) env).bind (fun e => mt e h) = some (c k, h)) → (∀ k ∈ ks, c k = true → (g (φ k) env).bind (fun e => me e h) = some (f k, h)) → lcLoop g mt me [] env (ks.map φ) h = some ((ks.filter c).map f, h)
  | [], _, _ => by rw [List.map_nil, lcLoop, srcIf_nil]; rfl
  | k :: ks, ht, hb => by
    rw [List.map_cons, lcLoop, srcIf_nil]
    have h1 := ht k List.mem_cons_self
    obtain ⟨e', e1, e2⟩ := bind_of h1
    rw [e1, Option.bind_some, e2, Option.bind_some]
    have ih := lc_filt φ f c ks (fun k m => ht k (List.mem_cons_of_mem _ m)) (fun k m => hb k (List.mem_cons_of_mem _ m))
    cases hc : c k with
    | true =>
      have h2 := hb k List.mem_cons_self hc
      rw [e1, Option.bind_some] at h2
      rw [if_pos rfl, h2, Option.bind_some, ih, List.filter_cons, if_pos hc]
      rfl
    | false =>
      rw [if_neg (fun z => nomatch z), ih, List.filter_cons, if_neg (by rw [hc]; decide)]
theorem mLc_map {α : Type} {mi : MI} {g : MG} {me : ME} {vs : List Nat} {env : Env} {h h1 : MH} (ks : List α) (φ f : α → MV) (hi : mi env h = some (([], ks.map φ), h1)) (hb : ∀ k ∈ ks, (g (φ k) (wipeM env vs)).bind (fun e => me e h1) = some (f k, h1)) (hz : ks.length ≤ 100000) : mLc mi g mYes me vs env h = some (ks.map f, h1) := by
  unfold mLc
  rw [hi, Option.bind_some]
  show (lcLoop g mYes me [] (wipeM env vs) (ks.map φ) h1).bind _ = _
  rw [lc_map φ f ks hb, Option.bind_some, if_pos (by simpa using hz)]
theorem mLc_filt {α : Type} {mi : MI} {g : MG} {mt : MT} {me : ME} {vs : List Nat} {env : Env} {h h1 : MH} (ks : List α) (φ f : α → MV) (c : α → Bool) (hi : mi env h = some (([], ks.map φ), h1)) (ht : ∀ k ∈ ks, (g (φ k) (wipeM env vs)).bind (fun e => mt e h1) = some (c k, h1)) (hb : ∀ k ∈ ks, c k = true → (g (φ k) (wipeM env vs)).bind (fun e => me e h1) = some (f k, h1)) (hz : ks.length ≤ 100000) :
    mLc mi g mt me vs env h = some ((ks.filter c).map f, h1) := by
  unfold mLc
  rw [hi, Option.bind_some]
  show (lcLoop g mt me [] (wipeM env vs) (ks.map φ) h1).bind _ = _
  rw [lc_filt φ f c ks ht hb, Option.bind_some, if_pos (by
    show ((ks.filter c).map f).length ≤ _
    rw [List.length_map]; exact Nat.le_trans (List.length_filter_le _ _) hz)]
/-- a loop with an invariant: Inv i env h ahead of turn i -/
theorem mLoop_inv {α : Type} {g : MG} {mb : MS} (φ : α → MV) (ks : List α) (Inv : Nat → Env → MH → Prop) (step : ∀ i k env h, ks[i]? = some k → Inv i env h → ∃ env1 env2 h2, g (φ k) env = some env1 ∧ mb env1 h = some (.nx env2 h2) ∧ Inv (i + 1) env2 h2) :
    ∀ (i : Nat) (env : Env) (h : MH), i ≤ ks.length → Inv i env h → ∃ env' h', mLoop g mb [] ((ks.drop i).map φ) env h = some (.nx env' h') ∧ Inv ks.length env' h' := by
  intro i
  generalize hn : ks.length - i = n
  induction n generalizing i with
  | zero =>
    intro env h hi inv
    have : i = ks.length := by omega
    subst this
    rw [List.drop_length, List.map_nil, mLoop, srcIf_nil]
    exact ⟨env, h, rfl, inv⟩
  | succ n ih =>
    intro env h hi inv
    have hlt : i < ks.length := by omega
    rw [List.drop_eq_getElem_cons hlt, List.map_cons, mLoop, srcIf_nil]
    obtain ⟨e1, e2, h2, g1, g2, g3⟩ := step i ks[i] env h (by simp [hlt]) inv
    rw [g1, Option.bind_some, g2, Option.bind_some]
    exact ih (i + 1) (by omega) e2 h2 hlt g3
theorem mFor_inv {α : Type} {mi : MI} {g : MG} {mb : MS} {env : Env} {h h1 : MH} (ks : List α) (φ : α → MV) (hi : mi env h = some (([], ks.map φ), h1)) (Inv : Nat → Env → MH → Prop) (h0 : Inv 0 env h1)
    (step : ∀ i k env h, ks[i]? = some k → Inv i env h → ∃ env1 env2 h2, g (φ k) env = some env1 ∧ mb env1 h = some (.nx env2 h2) ∧ Inv (i + 1) env2 h2) : ∃ env' h', mFor mi g mb env h = some (.nx env' h') ∧ Inv ks.length env' h' := by
  unfold mFor
  rw [hi, Option.bind_some]
  exact mLoop_inv φ ks Inv step 0 env h1 (Nat.zero_le _) h0
theorem e_zipT {ma : MA} {env : Env} {h h1 : MH} {xs ys : List PyData} (e : ma env h = some ([.d (.tuple xs), .d (.tuple ys)], h1)) : mZip ma env h = some (([], (xs.zip ys).map fun z => .d (.tuple [z.1, z.2])), h1) := by
  unfold mZip
  rw [e, Option.bind_some, e_argsTT, Option.bind_some]
  simp only [e_isTT, if_true, e_rowT, Option.bind_some, Option.map_some, List.nil_append]
  congr 3
  rw [List.zip_map, List.map_map]
  refine List.map_congr_left fun z _ => ?_
  rfl
theorem e_enumT {ma : MA} {env : Env} {h h1 : MH} {xs : List PyData} (e : ma env h = some ([.d (.tuple xs)], h1)) : mEnum ma env h = some (([], xs.zipIdx.map fun z => .d (.tuple [.int (z.2 : Int), z.1])), h1) := by
  unfold mEnum
  rw [e, Option.bind_some, e_arg1, Option.bind_some, e_rowT, Option.map_some]
  congr 3
  rw [List.zipIdx_map, List.map_map]
  refine List.map_congr_left fun z _ => ?_
  rfl
theorem e_enumL {ma : MA} {env : Env} {h h1 : MH} {xs : List PyData} (e : ma env h = some ([.d (.list xs)], h1)) : mEnum ma env h = some (([], xs.zipIdx.map fun z => .d (.tuple [.int (z.2 : Int), z.1])), h1) := by
  unfold mEnum
  rw [e, Option.bind_some, e_arg1, Option.bind_some, e_rowL, Option.map_some]
  congr 3
  rw [List.zipIdx_map, List.map_map]
  refine List.map_congr_left fun z _ => ?_
  rfl
theorem e_rng1 {ma : MA} {env : Env} {h h1 : MH} {n : Int} (e : ma env h = some ([.d (.int n)], h1)) (hn : n ≤ 100000000) (h0 : -100000000 ≤ n) : mRng1 ma env h = some (([], (List.range n.toNat).map fun (k : Nat) => .d (.int (k : Int))), h1) := by
  unfold mRng1
  rw [e, Option.bind_some, e_args1, e_asI, Option.bind_some, if_pos ⟨hn, h0⟩]
theorem e_lst {me : ME} {env : Env} {h h1 : MH} {ds : List PyData} (e : me env h = some (.d (.list ds), h1)) : mItL me env h = some (([], ds.map .d), h1) := by
  unfold mItL
  rw [e, Option.bind_some, if_pos e_isTL, e_rowL]; rfl
theorem e_tup {me : ME} {env : Env} {h h1 : MH} {ds : List PyData} (e : me env h = some (.d (.tuple ds), h1)) : mItT me env h = some (([], ds.map .d), h1) := by
  unfold mItT
  rw [e, Option.bind_some, if_pos e_isTT, e_rowT]; rfl
end M
namespace M
open PySem PySem.Spec PyProof.Rows L2
open G (ti li)
theorem e_asL0 {xs : List MV} {h : MH} : asL (Ob.lst xs :: h) (.ref 0) = some (0, xs) := rfl
theorem e_asL1 {xs : List MV} {a : Ob} {h : MH} : asL (a :: Ob.lst xs :: h) (.ref 1) = some (1, xs) := rfl
theorem e_asL2 {xs : List MV} {a b : Ob} {h : MH} : asL (a :: b :: Ob.lst xs :: h) (.ref 2) = some (2, xs) := rfl
theorem e_it0 {xs : List MV} {h : MH} : itemsOf (Ob.lst xs :: h) (.ref 0) = some xs := rfl
theorem e_it1 {xs : List MV} {a : Ob} {h : MH} : itemsOf (a :: Ob.lst xs :: h) (.ref 1) = some xs := rfl
theorem e_it2 {xs : List MV} {a b : Ob} {h : MH} : itemsOf (a :: b :: Ob.lst xs :: h) (.ref 2) = some xs := rfl
abbrev dI (x : Int) : MV := .d (.int x)
theorem re_ints (k : Nat) (h : MH) (xs : List Int) : mapO (reify k h) (xs.map dI) = some (xs.map .int) := by
  rw [show xs.map dI = (xs.map PyData.int).map .d by rw [List.map_map]; rfl]
  exact mapO_reify_d k h _
theorem re_ref {k : Nat} {h : MH} {n : Nat} {ys : List MV} {ds : List PyData} (hn : h[n]? = some (.lst ys)) (e : mapO (reify k h) ys = some ds) : reify (k + 1) h (.ref n) = some (.list ds) := by
  show (match h[n]? with | some (.lst xs) => (mapO (reify k h) xs).map PyData.list | _ => none) = _
  simp only [hn, e]; rfl
theorem re_li {k : Nat} {h : MH} {n : Nat} {xs : List Int} (hn : h[n]? = some (.lst (xs.map dI))) : reify (k + 1) h (.ref n) = some (li xs) := re_ref hn (re_ints k h xs)
theorem ii_map (xs : List Int) : (xs.map PyData.int).map MV.d = xs.map dI := by rw [List.map_map]; rfl
theorem cmul_r {i j : Int} (h : -(2 ^ 64) < j ∧ j < 2 ^ 64) : CMul i j ∨ CMulW i j := .inl (.inr h)
theorem cmul_l {i j : Int} (h : -(2 ^ 64) < i ∧ i < 2 ^ 64) : CMul i j ∨ CMulW i j := .inl (.inl h)
theorem cdiv_ok {i j : Int} (h0 : 0 < j) (h1 : j < 2 ^ 62) : CDivW i j := by
  refine ⟨h0, ?_⟩
  have : j.natAbs < 2 ^ 9000 := by
    have : j.natAbs < 2 ^ 62 := by omega
    exact Nat.lt_of_lt_of_le this (Nat.pow_le_pow_right (by decide) (by decide))
  by_cases hz : j.natAbs = 0
  · rw [hz]; decide
  · exact (Nat.log2_lt hz).mpr this
theorem cpow_ok {i j : Int} (h0 : 0 ≤ j) (h1 : j ≤ 64) (h2 : i.natAbs < 2 ^ 64) : CPow i j := ⟨h0, by omega, h2⟩
theorem e_pow1018 {h : MH} : mIC CPow (fun i j => i ^ j.toNat) (.d (.int 10)) (.d (.int 18)) h = some (.d (.int 1000000000000000000), h) := by
  rw [e_IC (cpow_ok (by decide) (by decide) (by decide))]
  rfl
end M
namespace M
open PySem PySem.Spec PyProof.Rows L2
open G (ti li)
theorem tup_ti {α : Type} (f : α → Int) (ks : List α) : PyData.tuple (ks.map fun k => .int (f k)) = ti (ks.map f) := by
  unfold ti
  rw [List.map_map]; rfl
theorem lst_li {α : Type} (f : α → Int) (ks : List α) : PyData.list (ks.map fun k => .int (f k)) = li (ks.map f) := by
  unfold li
  rw [List.map_map]; rfl
theorem key_ne {s t : Str} (h : (s == t) = false) : ((Sum.inr s : Key) = Sum.inr t) = False := by
  refine eq_false fun e => ?_
  injection e with e
  subst e
  simp at h
end M
namespace M
open PySem
theorem str_ne {s t : Str} (h : (s == t) = false) : (s = t) = False := by
  refine eq_false fun e => ?_
  subst e
  simp at h
end M
namespace M
open PySem
theorem e_mCons {ma : ME} {mr : MA} {env : Env} {h h1 h2 : MH} {x : MV} {xs : List MV} (e1 : ma env h = some (x, h1)) (e2 : mr env h1 = some (xs, h2)) : mCons ma mr env h = some (x :: xs, h2) := by
  unfold mCons
  rw [e1, Option.bind_some, e2]; rfl
theorem e_mTup {ma : MA} {env : Env} {h h1 : MH} {xs : List MV} (e1 : ma env h = some (xs, h1)) (hz : xs.length ≤ 100000 := by decide) : mTup ma env h = some (mkTup xs, h1) := by
  unfold mTup
  rw [e1, Option.bind_some, if_pos hz]
theorem e_mOp {mr : MO2} {ma mb : ME} {env : Env} {h h1 h2 : MH} {x y : MV} (e1 : ma env h = some (x, h1)) (e2 : mb env h1 = some (y, h2)) : mOp mr ma mb env h = mr x y h2 := by
  unfold mOp
  rw [e1, Option.bind_some, e2]; rfl
theorem e_mCB {mr : MCa} {ma : MA} {env : Env} {h h1 : MH} {xs : List MV} (e1 : ma env h = some (xs, h1)) : mCB mr ma env h = mr xs h1 := by
  unfold mCB
  rw [e1]; rfl
theorem e_mSeq {a b : MS} {env env1 : Env} {h h1 : MH} (e : a env h = some (.nx env1 h1)) : mSeq a b env h = b env1 h1 := by
  unfold mSeq
  rw [e]; rfl
theorem e_mAsg {me : ME} {g : MG} {env env1 : Env} {h h1 : MH} {v : MV} (e : me env h = some (v, h1)) (e2 : g v env = some env1) : mAsg me g env h = some (.nx env1 h1) := by
  unfold mAsg
  rw [e, Option.bind_some, e2]; rfl
theorem e_mIfS {mt : MT} {a b : MS} {env : Env} {h h1 : MH} {k : Bool} (e : mt env h = some (k, h1)) : mIfS mt a b env h = if k = true then a env h1 else b env h1 := by
  unfold mIfS
  rw [e]; rfl
theorem e_mTest {me : ME} {env : Env} {h h1 : MH} {k : Bool} (e : me env h = some (.d (.bool k), h1)) : mTest me env h = some (k, h1) := by
  unfold mTest
  rw [e]; rfl
theorem e_mDrop {me : ME} {env : Env} {h h1 : MH} {v : MV} (e : me env h = some (v, h1)) : mDrop me env h = some (.nx env h1) := by
  unfold mDrop
  rw [e]; rfl
end M
namespace M
open PySem
theorem e_ixL_0 { x : PyData} {xs : List PyData} {h : MH} : mIx (.d (.list (x :: xs))) (.d (.int 0)) h = some (.d x, h) := e_ixL (G.atI_ok (by decide) rfl)
theorem e_ixT_0 { x : PyData} {xs : List PyData} {h : MH} : mIx (.d (.tuple (x :: xs))) (.d (.int 0)) h = some (.d x, h) := e_ixT (G.atI_ok (by decide) rfl)
theorem e_ixL_1 {a0 x : PyData} {xs : List PyData} {h : MH} : mIx (.d (.list (a0 :: x :: xs))) (.d (.int 1)) h = some (.d x, h) := e_ixL (G.atI_ok (by decide) rfl)
theorem e_ixT_1 {a0 x : PyData} {xs : List PyData} {h : MH} : mIx (.d (.tuple (a0 :: x :: xs))) (.d (.int 1)) h = some (.d x, h) := e_ixT (G.atI_ok (by decide) rfl)
theorem e_ixL_2 {a0 a1 x : PyData} {xs : List PyData} {h : MH} : mIx (.d (.list (a0 :: a1 :: x :: xs))) (.d (.int 2)) h = some (.d x, h) := e_ixL (G.atI_ok (by decide) rfl)
theorem e_ixT_2 {a0 a1 x : PyData} {xs : List PyData} {h : MH} : mIx (.d (.tuple (a0 :: a1 :: x :: xs))) (.d (.int 2)) h = some (.d x, h) := e_ixT (G.atI_ok (by decide) rfl)
theorem e_ixL_3 {a0 a1 a2 x : PyData} {xs : List PyData} {h : MH} : mIx (.d (.list (a0 :: a1 :: a2 :: x :: xs))) (.d (.int 3)) h = some (.d x, h) := e_ixL (G.atI_ok (by decide) rfl)
theorem e_ixT_3 {a0 a1 a2 x : PyData} {xs : List PyData} {h : MH} : mIx (.d (.tuple (a0 :: a1 :: a2 :: x :: xs))) (.d (.int 3)) h = some (.d x, h) := e_ixT (G.atI_ok (by decide) rfl)
theorem e_ixL_4 {a0 a1 a2 a3 x : PyData} {xs : List PyData} {h : MH} : mIx (.d (.list (a0 :: a1 :: a2 :: a3 :: x :: xs))) (.d (.int 4)) h = some (.d x, h) := e_ixL (G.atI_ok (by decide) rfl)
theorem e_ixT_4 {a0 a1 a2 a3 x : PyData} {xs : List PyData} {h : MH} : mIx (.d (.tuple (a0 :: a1 :: a2 :: a3 :: x :: xs))) (.d (.int 4)) h = some (.d x, h) := e_ixT (G.atI_ok (by decide) rfl)
theorem e_ixL_5 {a0 a1 a2 a3 a4 x : PyData} {xs : List PyData} {h : MH} : mIx (.d (.list (a0 :: a1 :: a2 :: a3 :: a4 :: x :: xs))) (.d (.int 5)) h = some (.d x, h) := e_ixL (G.atI_ok (by decide) rfl)
theorem e_ixT_5 {a0 a1 a2 a3 a4 x : PyData} {xs : List PyData} {h : MH} : mIx (.d (.tuple (a0 :: a1 :: a2 :: a3 :: a4 :: x :: xs))) (.d (.int 5)) h = some (.d x, h) := e_ixT (G.atI_ok (by decide) rfl)
theorem e_ixL_6 {a0 a1 a2 a3 a4 a5 x : PyData} {xs : List PyData} {h : MH} : mIx (.d (.list (a0 :: a1 :: a2 :: a3 :: a4 :: a5 :: x :: xs))) (.d (.int 6)) h = some (.d x, h) := e_ixL (G.atI_ok (by decide) rfl)
theorem e_ixT_6 {a0 a1 a2 a3 a4 a5 x : PyData} {xs : List PyData} {h : MH} : mIx (.d (.tuple (a0 :: a1 :: a2 :: a3 :: a4 :: a5 :: x :: xs))) (.d (.int 6)) h = some (.d x, h) := e_ixT (G.atI_ok (by decide) rfl)
theorem e_ixL_7 {a0 a1 a2 a3 a4 a5 a6 x : PyData} {xs : List PyData} {h : MH} : mIx (.d (.list (a0 :: a1 :: a2 :: a3 :: a4 :: a5 :: a6 :: x :: xs))) (.d (.int 7)) h = some (.d x, h) := e_ixL (G.atI_ok (by decide) rfl)
theorem e_ixT_7 {a0 a1 a2 a3 a4 a5 a6 x : PyData} {xs : List PyData} {h : MH} : mIx (.d (.tuple (a0 :: a1 :: a2 :: a3 :: a4 :: a5 :: a6 :: x :: xs))) (.d (.int 7)) h = some (.d x, h) := e_ixT (G.atI_ok (by decide) rfl)
theorem e_ixL_8 {a0 a1 a2 a3 a4 a5 a6 a7 x : PyData} {xs : List PyData} {h : MH} : mIx (.d (.list (a0 :: a1 :: a2 :: a3 :: a4 :: a5 :: a6 :: a7 :: x :: xs))) (.d (.int 8)) h = some (.d x, h) := e_ixL (G.atI_ok (by decide) rfl)
theorem e_ixT_8 {a0 a1 a2 a3 a4 a5 a6 a7 x : PyData} {xs : List PyData} {h : MH} : mIx (.d (.tuple (a0 :: a1 :: a2 :: a3 :: a4 :: a5 :: a6 :: a7 :: x :: xs))) (.d (.int 8)) h = some (.d x, h) := e_ixT (G.atI_ok (by decide) rfl)
end M
namespace L2
open PySem PySem.Spec PyProof.Rows
/-! ### two dicts, equal or not -/
inductive HitsV (K : PySem.W.Frag) (H : Hp) (ls : List (Key × V)) : List (Key × V) → Bool → Prop
  | nil : HitsV K H ls [] true
  | miss {k : Key} {v : V} {r : List (Key × V)} : valV ls k = none → HitsV K H ls ((k, v) :: r) false
  | hit {k : Key} {v y : V} {r : List (Key × V)} {d e : PyData} {b : Bool} : valV ls k = some y → Dp K H v d → Dp K H y e → SeqAt.shaped d = true → SeqAt.shaped e = true → HitsV K H ls r b → HitsV K H ls ((k, v) :: r) (PyData.eqv d e && b)
def rDk (K : PySem.W.Frag) (neg : Bool) : R2 := fun x y H Q => ∃ (a b : Addr) (ks ls : List (Key × V)) (r : Bool), x = .ref a ∧ y = .ref b ∧ H a = some (.dK ks) ∧ H b = some (.dK ls) ∧ HitsV K H ls ks r ∧ Q (.bl (if neg = true then !((ks.length == ls.length) && r) else ((ks.length == ls.length) && r))) H
section
variable {X : Cx} {pins : List (Addr × Obj)} {σ : St} {H : Hp} {s : Shared}
theorem shaped_of {d : PyData} (h : SeqAt.shaped d = true) : d.canLay0 = true ∧ d.depth ≤ 64 := by
  unfold SeqAt.shaped at h
  simp only [Bool.and_eq_true, decide_eq_true_eq] at h
  omega
theorem hits_run2 (I : Inv X pins σ H s) {A : Around} (hu : A.units + 64 < cLine) {ls : List (Key × V)} {vb : List (Key × Value)} (rb : KV ls vb) {ks : List (Key × V)} {r : Bool} (h : HitsV X.K H ls ks r) : ∀ {va : List (Key × Value)}, KV ks va → PySem.W.KeqHits A s vb va r := by
  induction h with
  | nil => intro va k; cases k; exact .nil
  | @miss k0 v0 r0 hn =>
    intro va k
    cases k with
    | cons hq hr =>
      rename_i q _
      obtain ⟨q1, q2⟩ := q
      obtain ⟨e1, e2⟩ := hq
      cases e1
      have := rb.val k0
      rw [hn] at this
      refine .miss ?_
      cases hv : valueAt vb k0 with
      | none => rfl
      | some u => rw [hv] at this; cases this
  | @hit k0 v0 y0 r0 d0 e0 b0 hy hd he sd se _ ih =>
    intro va k
    cases k with
    | cons hq hr =>
      rename_i q _
      obtain ⟨q1, q2⟩ := q
      obtain ⟨e1, e2⟩ := hq
      cases e1
      have := rb.val k0
      rw [hy] at this
      cases hv : valueAt vb k0 with
      | none => rw [hv] at this; cases this
      | some u =>
        rw [hv] at this
        obtain ⟨as, r1⟩ := Dp.reads I _ _ _ hd e2
        have ru : RelV y0 u := by
          first | exact this | (cases this; assumption)
        obtain ⟨bs, r2⟩ := Dp.reads I _ _ _ he ru
        exact .hit hv (PySem.SeqAt.eqAt_reads _ _ A s _ _ as bs r1 r2 (shaped_of sd).1 (shaped_of se).1 (by have := (shaped_of sd).2; omega)) (ih hr)
end
theorem op_eqDk {X : Cx} (hu : X.A.units + 65 < cLine) : OpR X (compareOp .Eq) (rDk X.K false) := by
  intro pins s σ H x y v u Q I rx ry h
  obtain ⟨a, b, ks, ls, r, rfl, rfl, ea, eb, hp, q⟩ := h
  cases rx
  cases ry
  obtain ⟨_, ya, va, ra, da⟩ := dk_of I.hok ea
  obtain ⟨_, yb, vb, rb, db⟩ := dk_of I.hok eb
  refine PySem.W.keq_eq (knd := mixKind X.prog X.w) (r := r) ya yb da db (by omega) (fun _ => hits_run2 I (by show X.A.units + 1 + 64 < cLine; omega) rb hp ra) ?_
  rw [← ra.length, ← rb.length]
  exact ⟨.bl _, H, I, rfl, q⟩
theorem op_neDk {X : Cx} (hu : X.A.units + 65 < cLine) : OpR X (compareOp .NotEq) (rDk X.K true) := by
  intro pins s σ H x y v u Q I rx ry h
  obtain ⟨a, b, ks, ls, r, rfl, rfl, ea, eb, hp, q⟩ := h
  cases rx
  cases ry
  obtain ⟨_, ya, va, ra, da⟩ := dk_of I.hok ea
  obtain ⟨_, yb, vb, rb, db⟩ := dk_of I.hok eb
  refine PySem.W.keq_ne (knd := mixKind X.prog X.w) (r := r) ya yb da db (by omega) (fun _ => hits_run2 I (by show X.A.units + 1 + 64 < cLine; omega) rb hp ra) ?_
  rw [← ra.length, ← rb.length]
  exact ⟨.bl _, H, I, rfl, q⟩
end L2
namespace M
open PySem PySem.Spec PyProof.Rows L2
open Evl (Ex ex_rd ex_l ex_t rMax2)
open G (dpx dpax dpa_len dpa_get dpa_app dpa_set ex_none ti li)
section
variable {K : PySem.W.Frag} {w : Wd} {h : MH}
def hitsM (h : MH) (ls : List (Key × MV)) : List (Key × MV) → Option Bool
  | [] => some true
  | (k, x) :: r => match valG ls k with
    | none => some false
    | some y => (reify 6 h x).bind fun d => (reify 6 h y).bind fun e => if SeqAt.shaped d = true ∧ SeqAt.shaped e = true then (hitsM h ls r).map fun b => PyData.eqv d e && b else none
theorem hitsM_ok (r : Rel K w h) {ls : List (Key × V)} {lw : List (Key × MV)} (hl : KRep K w.ι w.C ls lw) : ∀ {ks : List (Key × V)} {kw : List (Key × MV)} {b : Bool}, KRep K w.ι w.C ks kw → hitsM h lw kw = some b → HitsV K w.H ls ks b
  | [], [], b, _, e => by cases e; exact .nil
  | [], _ :: _, _, hk, _ => by have := hk.len; cases this
  | _ :: _, [], _, hk, _ => by have := hk.len; cases this
  | (k, v) :: ks, (k', x) :: kw, b, hk, e => by
    obtain ⟨h1, h2, h3⟩ := hk.cases
    cases h1
    rw [hitsM] at e
    cases hv : valG lw k with
    | none =>
      rw [hv] at e
      cases e
      exact .miss (hl.valN hv)
    | some y =>
      simp only [hv] at e
      obtain ⟨d, e1, e⟩ := bind_of e
      obtain ⟨d', e2, e⟩ := bind_of e
      split at e
      · rename_i hs
        obtain ⟨c, e3, e⟩ := map_of e
        subst e
        obtain ⟨u, g1, g2⟩ := hl.valS hv
        exact .hit g1 (dpx vis_ex (reify_ok r 6 h2 e1)) (dpx vis_ex (reify_ok r 6 g2 e2)) hs.1 hs.2 (hitsM_ok r hl h3 e3)
      · cases e
def mDk (neg : Bool) : MO2 := fun a b h => (asK h a).bind fun s => (asK h b).bind fun t => (hitsM h t.2 s.2).map fun r => (.d (.bool (if neg = true then !((s.2.length == t.2.length) && r) else ((s.2.length == t.2.length) && r))), h)
theorem sr_dk {neg : Bool} : SimR K (rDk K neg) (mDk neg) := fun w h x y a b v h' rl rx ry e Q q => by
  obtain ⟨⟨n1, k1⟩, e1, e⟩ := bind_of e
  obtain ⟨⟨n2, k2⟩, e2, e⟩ := bind_of e
  obtain ⟨r, e3, e⟩ := map_of e
  cases e
  obtain ⟨ad, kvs, rfl, g1, g2, g3⟩ := asK_ok rl rx e1
  obtain ⟨ad', kvs', rfl, g1', g2', g3'⟩ := asK_ok rl ry e2
  refine ⟨ad, ad', kvs, kvs', r, rfl, rfl, g2, g2', hitsM_ok rl g3' g3 e3, ?_⟩
  rw [g3.len, g3'.len]
  exact q w _ (.refl _) rl (.d (.bl _))
/-- d.setdefault(k, x) -/
def mDSetd (md mk mx : ME) : ME := fun env h => (md env h).bind fun d => (asK d.2 d.1).bind fun _ => (mk env d.2).bind fun k => (mx env k.2).bind fun x => (asK x.2 d.1).bind fun t => (keyOf k.1).bind fun y => if t.2.length < 100000 then (match valG t.2 y with
  | some v => some (v, x.2)
  | none => some (x.1, x.2.set t.1 (.dct (putG t.2 y x.1)))) else none
theorem sm_dsetd {td ty tx : TE} {md mk mx : ME} (hd : SimE K td md) (hk : SimE K ty mk) (hx : SimE K tx mx) : SimE K (tDSetd td ty tx) (mDSetd md mk mx) := fun w h σ env v h' rl re e Q q => by
  obtain ⟨⟨a, h1⟩, e1, e⟩ := bind_of e
  obtain ⟨⟨n0, kws0⟩, e0, e⟩ := bind_of e
  obtain ⟨⟨b, h2⟩, e2, e⟩ := bind_of e
  obtain ⟨⟨c, h3⟩, e3, e⟩ := bind_of e
  obtain ⟨⟨n, kws⟩, e4, e⟩ := bind_of e
  obtain ⟨y, e5, e⟩ := bind_of e
  simp only at e
  split at e
  · rename_i hz
    refine hd w h σ env a h1 rl re e1 _ fun w1 u1 s1 r1 x1 => ?_
    obtain ⟨ad0, kvs0, rfl, g01, g02, g03⟩ := asK_ok r1 x1 e0
    refine ⟨ad0, rfl, .inl ⟨kvs0, .inl g02⟩, hk w1 h1 σ env b h2 r1 (re.up s1) e2 _ fun w2 u2 s2 r2 x2 => hx w2 h2 σ env c _ r2 ((re.up s1).up s2) e3 _ fun w3 u3 s3 r3 x3 => ?_⟩
    obtain ⟨ad, kvs, ea, g1, g2, g3⟩ := asK_ok r3 ((x1.up s2).up s3) e4
    cases ea
    have := keyOf_ok (x2.up s3) e5
    subst this
    have ss := (s1.trans s2).trans s3
    refine ⟨kvs, y, g2, rfl, by rw [g3.len]; exact Nat.lt_of_lt_of_le hz sl_100000, fun vv hv => ?_, fun hv => ?_⟩
    · cases hg : valG kws y with
      | none => rw [g3.valN hg] at hv; cases hv
      | some x =>
        simp only [hg] at e
        cases e
        obtain ⟨u, f1, f2⟩ := g3.valS hg
        rw [hv] at f1
        cases f1
        exact q w3 _ ss r3 f2
    · cases hg : valG kws y with
      | some x => obtain ⟨u, f1, f2⟩ := g3.valS hg; rw [hv] at f1; cases f1
      | none =>
        simp only [hg] at e
        cases e
        have mg := g3.put x3 y
        obtain ⟨s4, r4⟩ := write_ok (o := .dK (putK kvs y u3)) r3 g1 (.dct mg.1 mg.2) (by rw [g2]; exact fun _ _ z => nomatch z)
        exact q (w3.write ad0 _) u3 (ss.trans s4) r4 (x3.up s4)
  · cases e
/-- xs[::-1] -/
def mRevL (me : ME) : MA := fun env h => (me env h).bind fun r => if isT r.1 = false then (itemsOf r.2 r.1).map fun xs => (xs.reverse, r.2) else none
theorem RepA.rev {ι : List Addr} {C : Hp} : ∀ {vs : List V} {xs : List MV}, RepA K ι C vs xs → RepA K ι C vs.reverse xs.reverse
  | _, _, .nil => .nil
  | _, _, .cons r t => by
    rw [List.reverse_cons, List.reverse_cons]
    exact (RepA.rev t).app (.cons r .nil)
theorem sm_revL {te : TE} {me : ME} (h1 : SimE K te me) : SimF K (tRevL K te) (mRevL me) := fun w h σ env v h' rl re e Q q => by
  obtain ⟨⟨a, hh1⟩, e1, e⟩ := bind_of e
  simp only at e
  split at e
  · rename_i ht
    obtain ⟨xs, e4, e⟩ := map_of e
    cases e
    refine h1 w h σ env a _ rl re e1 _ fun w1 x s1 r1 x1 => ?_
    obtain ⟨p, vs, rfl, hs, rv⟩ := items_L r1 x1 e4 ht
    refine ⟨p, vs, rfl, hs, fun l' hl => ?_⟩
    obtain ⟨s4, r4⟩ := fresh_ok (o := .lst vs.reverse) r1 hl
    exact q _ l' _ (s1.trans s4) r4 (by
      cases z : w.H l' with
      | none => rfl
      | some o => exact absurd hl (s1.kp l' (by rw [z]; exact fun q => nomatch q))) upd_same (r1.notin hl) (r1.cnone hl) rv.rev
  · cases e
/-- xs.pop(k) -/
def mPopAt (mo mi : ME) : ME := fun env h => (mo env h).bind fun o => (asL o.2 o.1).bind fun _ => (mi env o.2).bind fun i => (asL i.2 o.1).bind fun l => (asI i.1).bind fun k => if 0 ≤ k ∧ k < l.2.length then (l.2[k.toNat]?).map fun x => (x, i.2.set l.1 (.lst (l.2.eraseIdx k.toNat))) else none
theorem RepA.erase {ι : List Addr} {C : Hp} : ∀ {vs : List V} {xs : List MV} (n : Nat), RepA K ι C vs xs → RepA K ι C (vs.eraseIdx n) (xs.eraseIdx n)
  | _, _, _, .nil => .nil
  | _, _, 0, .cons _ t => t
  | _, _, n + 1, .cons r t => .cons r (RepA.erase n t)
end
end M
namespace M
open PySem PySem.Spec PyProof.Rows L2
open G (ti li)
/-! ### kinds of data that == tells apart -/
structure Enc {α : Type} [DecidableEq α] (f : α → PyData) (n : Nat) : Prop where
  eq : ∀ a b, PyData.eqv (f a) (f b) = decide (a = b)
  lay : ∀ a, (f a).canLay0 = true
  dep : ∀ a, (f a).depth ≤ n
section
variable {α β γ δ : Type} [DecidableEq α] [DecidableEq β] [DecidableEq γ] [DecidableEq δ] {f : α → PyData} {g : β → PyData} {k : γ → PyData} {l : δ → PyData} {n m p q : Nat}
theorem Enc.mono (E : Enc f n) (h : n ≤ m) : Enc f m := ⟨E.eq, E.lay, fun a => Nat.le_trans (E.dep a) h⟩
theorem Enc.int : Enc PyData.int 0 := ⟨G.eqv_int, fun _ => by rw [PyData.canLay0], fun _ => by rw [PyData.depth]; exact Nat.le_refl _⟩
theorem Enc.bool : Enc PyData.bool 0 := ⟨G.eqv_bool, fun _ => by rw [PyData.canLay0], fun _ => by rw [PyData.depth]; exact Nat.le_refl _⟩
theorem Enc.sh (E : Enc f n) (a : α) (h : n ≤ 64 := by decide) : SeqAt.shaped (f a) = true := by
  unfold SeqAt.shaped
  rw [E.lay a, Bool.true_and, decide_eq_true_iff]
  exact Nat.le_trans (E.dep a) h
theorem Enc.comap (E : Enc f n) (i : β → α) (hi : ∀ a b, i a = i b → a = b) : Enc (fun b => f (i b)) n :=
  ⟨fun a b => by rw [E.eq]; exact decide_eq_decide.mpr ⟨hi a b, fun e => by rw [e]⟩, fun b => E.lay _, fun b => E.dep _⟩
theorem Enc.pair (E : Enc f n) (F : Enc g m) : Enc (fun x : α × β => .tuple [f x.1, g x.2]) (max n m + 1) := by
  refine ⟨fun a b => ?_, fun a => ?_, fun a => ?_⟩
  · rw [PyData.eqv, PyData.eqvAll, PyData.eqvAll, PyData.eqvAll, E.eq, F.eq, Bool.and_true, ← Bool.decide_and]
    exact decide_eq_decide.mpr Prod.ext_iff.symm
  · simp only [PyData.canLay0, PyData.canLayAll0, E.lay, F.lay, Bool.and_true]
  · have := E.dep a.1
    have := F.dep a.2
    simp only [PyData.depth, PyData.depthAll]
    omega
theorem Enc.trip (E : Enc f n) (F : Enc g m) (I : Enc k p) : Enc (fun x : α × β × γ => .tuple [f x.1, g x.2.1, k x.2.2]) (max n (max m p) + 1) := by
  refine ⟨fun a b => ?_, fun a => ?_, fun a => ?_⟩
  · rw [PyData.eqv, PyData.eqvAll, PyData.eqvAll, PyData.eqvAll, PyData.eqvAll, E.eq, F.eq, I.eq, Bool.and_true, ← Bool.decide_and, ← Bool.decide_and]
    exact decide_eq_decide.mpr (by rw [Prod.ext_iff, Prod.ext_iff])
  · simp only [PyData.canLay0, PyData.canLayAll0, E.lay, F.lay, I.lay, Bool.and_true]
  · have := E.dep a.1
    have := F.dep a.2.1
    have := I.dep a.2.2
    simp only [PyData.depth, PyData.depthAll]
    omega
theorem Enc.quad (E : Enc f n) (F : Enc g m) (I : Enc k p) (J : Enc l q) : Enc (fun x : α × β × γ × δ => .tuple [f x.1, g x.2.1, k x.2.2.1, l x.2.2.2]) (max (max n m) (max p q) + 1) := by
  refine ⟨fun a b => ?_, fun a => ?_, fun a => ?_⟩
  · rw [PyData.eqv, PyData.eqvAll, PyData.eqvAll, PyData.eqvAll, PyData.eqvAll, PyData.eqvAll, E.eq, F.eq, I.eq, J.eq, Bool.and_true, ← Bool.decide_and, ← Bool.decide_and, ← Bool.decide_and]
    exact decide_eq_decide.mpr (by rw [Prod.ext_iff, Prod.ext_iff, Prod.ext_iff])
  · simp only [PyData.canLay0, PyData.canLayAll0, E.lay, F.lay, I.lay, J.lay, Bool.and_true]
  · have := E.dep a.1
    have := F.dep a.2.1
    have := I.dep a.2.2.1
    have := J.dep a.2.2.2
    simp only [PyData.depth, PyData.depthAll]
    omega
theorem Enc.eqAll (E : Enc f n) : ∀ xs ys : List α, PyData.eqvAll (xs.map f) (ys.map f) = decide (xs = ys)
  | [], [] => by simp [PyData.eqvAll]
  | [], _ :: _ => by simp [PyData.eqvAll]
  | _ :: _, [] => by simp [PyData.eqvAll]
  | x :: xs, y :: ys => by
    rw [List.map_cons, List.map_cons, PyData.eqvAll, E.eq, E.eqAll xs ys, ← Bool.decide_and]
    exact decide_eq_decide.mpr (by simp)
theorem Enc.layAll (E : Enc f n) : ∀ xs : List α, PyData.canLayAll0 (xs.map f) = true
  | [] => by simp [PyData.canLayAll0]
  | x :: xs => by rw [List.map_cons, PyData.canLayAll0, E.lay, E.layAll xs]; rfl
theorem Enc.depAll (E : Enc f n) : ∀ xs : List α, PyData.depthAll (xs.map f) ≤ n
  | [] => by simp [PyData.depthAll]
  | x :: xs => by
    rw [List.map_cons, PyData.depthAll]
    have := E.depAll xs
    have := E.dep x
    omega
theorem Enc.list (E : Enc f n) : Enc (fun xs : List α => .list (xs.map f)) (n + 1) :=
  ⟨fun a b => by rw [PyData.eqv]; exact E.eqAll a b, fun a => by rw [PyData.canLay0]; exact E.layAll a, fun a => by rw [PyData.depth]; exact Nat.succ_le_succ (E.depAll a)⟩
theorem Enc.tup (E : Enc f n) : Enc (fun xs : List α => .tuple (xs.map f)) (n + 1) :=
  ⟨fun a b => by rw [PyData.eqv]; exact E.eqAll a b, fun a => by rw [PyData.canLay0]; exact E.layAll a, fun a => by rw [PyData.depth]; exact Nat.succ_le_succ (E.depAll a)⟩
theorem e_eqE (E : Enc f n) {neg : Bool} {a b : α} {h : MH} (hn : n ≤ 64 := by decide) : mEqD neg (.d (f a)) (.d (f b)) h = some (.d (.bool (if neg = true then !decide (a = b) else decide (a = b))), h) := by
  rw [e_eqD (E.sh a hn) (E.sh b hn), E.eq]
theorem e_eqR (E : Enc f n) {neg : Bool} {a b : α} {h : MH} {x y : MV} (hx : reify 6 h x = some (f a)) (hy : reify 6 h y = some (f b)) (hn : n ≤ 64 := by decide) : mEqD neg x y h = some (.d (.bool (if neg = true then !decide (a = b) else decide (a = b))), h) := by
  unfold mEqD
  rw [hx, hy, Option.bind_some, Option.bind_some, if_pos ⟨E.sh a hn, E.sh b hn⟩, E.eq]
theorem Enc.any (E : Enc f n) (a : α) : ∀ bs : List α, ((bs.map f).any fun z => PyData.eqv z (f a)) = decide (a ∈ bs)
  | [] => by simp
  | b :: bs => by
    rw [List.map_cons, List.any_cons, E.any a bs, E.eq, ← Bool.decide_or]
    exact decide_eq_decide.mpr (by rw [List.mem_cons]; exact or_congr ⟨Eq.symm, Eq.symm⟩ Iff.rfl)
theorem e_inR (E : Enc f n) {neg : Bool} {a : α} {bs : List α} {h : MH} {x y : MV} (hx : reify 6 h x = some (f a)) (hy : reify 6 h y = some (.list (bs.map f))) (hn : n ≤ 63 := by decide) : mInD neg x y h = some (.d (.bool (if neg = true then !decide (a ∈ bs) else decide (a ∈ bs))), h) := by
  unfold mInD
  rw [hx, hy, Option.bind_some, Option.bind_some]
  show (some (bs.map f)).bind _ = _
  rw [Option.bind_some, if_pos ⟨E.sh a (by omega), E.list.sh bs (by omega)⟩, E.any]
/-! ### what is read off the heap -/
theorem re_map (f : α → PyData) (k : Nat) (h : MH) (xs : List α) : mapO (reify k h) (xs.map fun x => .d (f x)) = some (xs.map f) := by
  rw [show (xs.map fun x => MV.d (f x)) = (xs.map f).map .d by rw [List.map_map]; rfl]
  exact mapO_reify_d _ _ _
theorem re_lst (f : α → PyData) {k : Nat} {h : MH} {n : Nat} {xs : List α} (hn : h[n]? = some (.lst (xs.map fun x => .d (f x)))) : reify (k + 1) h (.ref n) = some (.list (xs.map f)) := re_ref hn (re_map f _ _ _)
theorem mapO_map {α β : Type} (f : α → Option β) (g : α → β) (xs : List α) (h : ∀ x ∈ xs, f x = some (g x)) : mapO f xs = some (xs.map g) := mapO_some h
/-- refs of lists -/
theorem re_refs (f : α → PyData) {k : Nat} {h : MH} : ∀ {rs : List Nat} {xss : List (List α)}, rs.length = xss.length → (∀ (i r : Nat) (xs : List α), rs[i]? = some r → xss[i]? = some xs → h[r]? = some (.lst (xs.map fun x => .d (f x)))) → mapO (reify (k + 1) h) (rs.map MV.ref) = some (xss.map fun xs => .list (xs.map f))
  | [], [], _, _ => rfl
  | [], _ :: _, e, _ => by cases e
  | _ :: _, [], e, _ => by cases e
  | r :: rs, xs :: xss, e, hh => by
    rw [List.map_cons, mapO, re_lst f (hh 0 r xs rfl rfl), re_refs f (by simpa using e) (fun i r' xs' h1 h2 => hh (i + 1) r' xs' (by simpa using h1) (by simpa using h2))]
    rfl
end
/-! ### more of what things give -/
theorem flat_rep (k : Nat) (x : PyData) : (List.replicate k [x]).flatten = List.replicate k x := by
  induction k with
  | zero => rfl
  | succ k ih => rw [List.replicate_succ, List.flatten_cons, ih]; rfl
theorem flat_repM (k : Nat) (x : MV) : (List.replicate k [x]).flatten = List.replicate k x := by
  induction k with
  | zero => rfl
  | succ k ih => rw [List.replicate_succ, List.flatten_cons, ih]; rfl
theorem e_liftR {f : List PyData → Option PyData} {xs : List MV} {h : MH} {ds : List PyData} {r : PyData} (ha : allD xs = none) (e : mapO (reify 6 h) xs = some ds) (hf : f ds = some r) (hn : noL r = true) : liftD f xs h = some (.d r, h) := by
  unfold liftD
  rw [ha]
  simp only [e, Option.bind_some, hf, hn, if_true]
theorem kk_bb : kitB "bool" "bool" = some true := by decide +kernel
theorem e_isiBB {b : Bool} {h : MH} {me : ME} {env : Env} (e : me env h = some (.d (.bool b), h)) : mIsi "bool" me env h = some (.d (.bool true), h) := by
  unfold mIsi
  rw [e, Option.bind_some]
  show (kitB "bool" "bool").map _ = _
  rw [kk_bb]; rfl
theorem allD_dI (xs : List Int) : allD (xs.map dI) = some (xs.map .int) := by
  rw [show xs.map dI = (xs.map PyData.int).map .d by rw [List.map_map]; rfl]
  exact allD_map _
theorem mkTup_dI (xs : List Int) : mkTup (xs.map dI) = .d (ti xs) := by unfold mkTup; rw [allD_dI]
theorem tupR {h : MH} {n : Nat} {xs : List Int} (hn : h[n]? = some (.lst (xs.map dI))) : mTupOf [.ref n] h = some (.d (ti xs), h) := by
  unfold mTupOf
  rw [e_arg1, Option.bind_some, e_itR hn, Option.map_some, e_isTR, mkTup_dI]; rfl
theorem ixR_dI {h : MH} {n : Nat} {xs : List Int} {i : Int} (hn : h[n]? = some (.lst (xs.map dI))) (h0 : 0 ≤ i) (h1 : i < xs.length) : mIx (.ref n) (.d (.int i)) h = some (dI (xs.getD i.toNat 0), h) := e_ixR hn (by rw [atI_map, atI_get h0 h1 0]; rfl)
theorem set_getD (xs : List Int) (j : Nat) (v : Int) (k : Nat) : (xs.set j v).getD k 0 = if j = k ∧ j < xs.length then v else xs.getD k 0 := by
  simp only [List.getD_eq_getElem?_getD, List.getElem?_set]
  by_cases e : j = k
  · subst e
    by_cases hl : j < xs.length
    · simp [hl]
    · simp [hl]
  · simp [e]
theorem map_range_get (xs : List Int) : (List.range xs.length).map (fun k => xs.getD k 0) = xs := by
  refine List.ext_getElem? fun k => ?_
  by_cases hk : k < xs.length
  · simp [hk, List.getD_eq_getElem?_getD]
  · rw [List.getElem?_eq_none (by simp; omega), List.getElem?_eq_none (by omega)]
/-! ### < over pairs of numbers -/
abbrev kD (k : Int × Int) : PyData := .tuple [.int k.1, .int k.2]
def kLt (a b : Int × Int) : Bool := decide (a.1 < b.1) || (decide (a.1 = b.1) && decide (a.2 < b.2))
theorem lt_kD (a b : Int × Int) : PySem.W.dataLt (kD a) (kD b) = kLt a b := by
  rw [PySem.W.dataLt_tuple]
  by_cases h1 : a.1 = b.1
  · rw [PySem.W.dataLt_all_yes (by simp [PySem.W.alike]) (by rw [G.eqv_int]; exact decide_eq_true h1)]
    by_cases h2 : a.2 = b.2
    · rw [PySem.W.dataLt_all_yes (by simp [PySem.W.alike]) (by rw [G.eqv_int]; exact decide_eq_true h2)]
      simp only [PySem.W.keyToksAll, kLt, h1, h2, Int.lt_irrefl, decide_false, Bool.and_false, Bool.or_false]
      exact PyProof.Rows.lex_self (O := PyProof.Rows.itemOrd) _ _ _
    · rw [PySem.W.dataLt_all_no (by simp [PySem.W.alike]) (by rw [G.eqv_int]; exact decide_eq_false h2), PySem.W.dataLt_int]
      simp [kLt, h1]
  · rw [PySem.W.dataLt_all_no (by simp [PySem.W.alike]) (by rw [G.eqv_int]; exact decide_eq_false h1), PySem.W.dataLt_int]
    simp [kLt, h1]
theorem al_kD (a b : Int × Int) : PySem.W.alike (kD a) (kD b) = true := by simp [PySem.W.alike, PySem.W.alikeAll]
theorem de_kD (a : Int × Int) : (kD a).depth = 1 := by simp [PyData.depth, PyData.depthAll]
theorem e_cmpK {fn : PyData → PyData → Bool} {a b : Int × Int} {h : MH} : mCmp fn (.d (kD a)) (.d (kD b)) h = some (.d (.bool (fn (kD a) (kD b))), h) := by
  unfold mCmp
  rw [reify_d, reify_d, Option.bind_some, Option.bind_some, if_pos ⟨al_kD a b, by simp, by rw [de_kD, de_kD]; decide⟩]
theorem e_gtK {a b : Int × Int} {h : MH} : mCmp fGt (.d (kD a)) (.d (kD b)) h = some (.d (.bool (kLt b a)), h) := by rw [e_cmpK]; unfold fGt; rw [lt_kD]
theorem e_leK {a b : Int × Int} {h : MH} : mCmp fLe (.d (kD a)) (.d (kD b)) h = some (.d (.bool (!kLt b a)), h) := by rw [e_cmpK]; unfold fLe; rw [lt_kD]
theorem e_geK {a b : Int × Int} {h : MH} : mCmp fGe (.d (kD a)) (.d (kD b)) h = some (.d (.bool (!kLt a b)), h) := by rw [e_cmpK]; unfold fGe; rw [lt_kD]
theorem Enc.k : Enc kD 1 := Enc.int.pair Enc.int
/-! ### comprehensions that change the heap -/
theorem lc_inv {α : Type} {g : MG} {me : ME} {env : Env} (φ : α → MV) (Inv : Nat → List MV → MH → Prop) (ks : List α)
    (step : ∀ i k xs h, ks[i]? = some k → Inv i xs h → ∃ x h', (g (φ k) env).bind (fun e => me e h) = some (x, h') ∧ Inv (i + 1) (xs ++ [x]) h') :
    ∀ (i : Nat) (xs : List MV) (h : MH), i ≤ ks.length → Inv i xs h → ∃ ys h', lcLoop g mYes me [] env ((ks.drop i).map φ) h = some (ys, h') ∧ Inv ks.length (xs ++ ys) h' := by
  intro i
  generalize hn : ks.length - i = n
  induction n generalizing i with
  | zero =>
    intro xs h hi inv
    have : i = ks.length := by omega
    subst this
    rw [List.drop_length, List.map_nil, lcLoop, srcIf_nil]
    exact ⟨[], h, rfl, by rw [List.append_nil]; exact inv⟩
  | succ n ih =>
    intro xs h hi inv
    have hlt : i < ks.length := by omega
    rw [List.drop_eq_getElem_cons hlt, List.map_cons, lcLoop, srcIf_nil]
    obtain ⟨x, h1, g1, g2⟩ := step i ks[i] xs h (by simp [hlt]) inv
    obtain ⟨ys, h2, g3, g4⟩ := ih (i + 1) (by omega) (xs ++ [x]) h1 hlt g2
    refine ⟨x :: ys, h2, ?_, by rw [List.append_assoc] at g4; exact g4⟩
    obtain ⟨e', e1, e2⟩ := bind_of g1
    rw [e1, Option.bind_some]
    show (some (true, h)).bind _ = _
    rw [Option.bind_some]
    simp only [if_true]
    rw [e2, Option.bind_some, g3]
    rfl
theorem mLc_inv {α : Type} {mi : MI} {g : MG} {me : ME} {vs : List Nat} {env : Env} {h h1 : MH} (ks : List α) (φ : α → MV) (hi : mi env h = some (([], ks.map φ), h1)) (Inv : Nat → List MV → MH → Prop) (h0 : Inv 0 [] h1)
    (step : ∀ i k xs h, ks[i]? = some k → Inv i xs h → ∃ x h', (g (φ k) (wipeM env vs)).bind (fun e => me e h) = some (x, h') ∧ Inv (i + 1) (xs ++ [x]) h') (hz : ∀ xs h, Inv ks.length xs h → xs.length ≤ 100000) : ∃ ys h', mLc mi g mYes me vs env h = some (ys, h') ∧ Inv ks.length ys h' := by
  obtain ⟨ys, h', e, iv⟩ := lc_inv φ Inv ks step 0 [] h1 (Nat.zero_le _) h0
  refine ⟨ys, h', ?_, iv⟩
  unfold mLc
  rw [hi, Option.bind_some]
  show (lcLoop g mYes me [] (wipeM env vs) (ks.map φ) h1).bind _ = _
  rw [List.drop_zero] at e
  rw [e, Option.bind_some, if_pos (show ys.length ≤ 100000 from hz ys h' iv)]
theorem e_nilR {α : Type} [DecidableEq α] {f : α → PyData} {n : Nat} (E : Enc f n) {neg : Bool} {a : List α} {h : MH} {x : MV} (hx : reify 6 h x = some (.list (a.map f))) (hn : n ≤ 63 := by decide) : mEqD neg x (.d (.list [])) h = some (.d (.bool (if neg = true then !decide (a = []) else decide (a = []))), h) :=
  e_eqR E.list (a := a) (b := []) hx (reify_d _ _ _) (by omega)
/-! ### loops over a list of one's own -/
theorem srcIf_ok {α : Type} {src : List (Nat × List MV)} {h : MH} {o : Option α} (e : ∀ s ∈ src, h[s.1]? = some (.lst s.2)) : srcIf src h o = o := by
  unfold srcIf
  rw [if_pos e]
theorem lc_invS {α : Type} {g : MG} {me : ME} {env : Env} {src : List (Nat × List MV)} (φ : α → MV) (Inv : Nat → List MV → MH → Prop) (ks : List α) (hs : ∀ i xs h, Inv i xs h → ∀ s ∈ src, h[s.1]? = some (.lst s.2))
    (step : ∀ i k xs h, ks[i]? = some k → Inv i xs h → ∃ x h', (g (φ k) env).bind (fun e => me e h) = some (x, h') ∧ Inv (i + 1) (xs ++ [x]) h') :
    ∀ (i : Nat) (xs : List MV) (h : MH), i ≤ ks.length → Inv i xs h → ∃ ys h', lcLoop g mYes me src env ((ks.drop i).map φ) h = some (ys, h') ∧ Inv ks.length (xs ++ ys) h' := by
  intro i
  generalize hn : ks.length - i = n
  induction n generalizing i with
  | zero =>
    intro xs h hi inv
    have : i = ks.length := by omega
    subst this
    rw [List.drop_length, List.map_nil, lcLoop, srcIf_ok (hs _ _ _ inv)]
    exact ⟨[], h, rfl, by rw [List.append_nil]; exact inv⟩
  | succ n ih =>
    intro xs h hi inv
    have hlt : i < ks.length := by omega
    rw [List.drop_eq_getElem_cons hlt, List.map_cons, lcLoop, srcIf_ok (hs _ _ _ inv)]
    obtain ⟨x, h1, g1, g2⟩ := step i ks[i] xs h (by simp [hlt]) inv
    obtain ⟨ys, h2, g3, g4⟩ := ih (i + 1) (by omega) (xs ++ [x]) h1 hlt g2
    refine ⟨x :: ys, h2, ?_, by rw [List.append_assoc] at g4; exact g4⟩
    obtain ⟨e', e1, e2⟩ := bind_of g1
    rw [e1, Option.bind_some]
    show (some (true, h)).bind _ = _
    rw [Option.bind_some]
    simp only [if_true]
    rw [e2, Option.bind_some, g3]
    rfl
theorem mLc_invS {α : Type} {mi : MI} {g : MG} {me : ME} {vs : List Nat} {env : Env} {h h1 : MH} {src : List (Nat × List MV)} (ks : List α) (φ : α → MV) (hi : mi env h = some ((src, ks.map φ), h1)) (Inv : Nat → List MV → MH → Prop) (h0 : Inv 0 [] h1) (hs : ∀ i xs h, Inv i xs h → ∀ s ∈ src, h[s.1]? = some (.lst s.2))
    (step : ∀ i k xs h, ks[i]? = some k → Inv i xs h → ∃ x h', (g (φ k) (wipeM env vs)).bind (fun e => me e h) = some (x, h') ∧ Inv (i + 1) (xs ++ [x]) h') (hz : ∀ xs h, Inv ks.length xs h → xs.length ≤ 100000) : ∃ ys h', mLc mi g mYes me vs env h = some (ys, h') ∧ Inv ks.length ys h' := by
  obtain ⟨ys, h', e, iv⟩ := lc_invS φ Inv ks hs step 0 [] h1 (Nat.zero_le _) h0
  refine ⟨ys, h', ?_, iv⟩
  unfold mLc
  rw [hi, Option.bind_some]
  show (lcLoop g mYes me src (wipeM env vs) (ks.map φ) h1).bind _ = _
  rw [List.drop_zero] at e
  rw [e, Option.bind_some, if_pos (show ys.length ≤ 100000 from hz ys h' iv)]
theorem e_ref {me : ME} {env : Env} {h h1 : MH} {n : Nat} {xs : List MV} (e : me env h = some (.ref n, h1)) (hn : h1[n]? = some (.lst xs)) : mItL me env h = some (([(n, xs)], xs), h1) := by
  unfold mItL
  rw [e, Option.bind_some]
  show (if isT (.ref n) = false then (rowOf h1 (.ref n)).map _ else none) = _
  rw [if_pos (e_isTR (n := n)), rowOf, e_asL hn]
  rfl
theorem e_cmpI {fn : PyData → PyData → Bool} {i j : Int} {h : MH} : mCmp fn (.d (.int i)) (.d (.int j)) h = some (.d (.bool (fn (.int i) (.int j))), h) := by
  unfold mCmp
  rw [reify_d, reify_d, Option.bind_some, Option.bind_some, if_pos ⟨by simp [PySem.W.alike], by simp, by simp [PyData.depth]⟩]
theorem e_ltI {i j : Int} {h : MH} : mCmp fLt (.d (.int i)) (.d (.int j)) h = some (.d (.bool (decide (i < j))), h) := by rw [e_cmpI]; unfold fLt; rw [PySem.W.dataLt_int]
end M
namespace M
open PySem PySem.Spec PyProof.Rows L2
open Evl (Ex ex_rd ex_l ex_t rMax2)
open G (dpx dpax dpa_len dpa_get dpa_app dpa_set ex_none wipe_get wipe_eq wipe_wipe RD UD CD Ret rMin2 rInt1 rAbs rTupOf rListOf)
/-! ### sorted(xs), data -/
noncomputable def srtD (ds : List PyData) : List PyData := ds.mergeSort (PySem.W.dataLe false id)
def rSortDD (K : PySem.W.Frag) : List V → Hp → VK → Prop := fun vs H Q => ∃ (C : Hp) (a : Addr) (xs : List V) (ds : List PyData), vs = [.ref a] ∧ Ex C H ∧ SqL K H a xs ∧ DpAll K C xs ds ∧ PySem.W.AllAlike ds ∧ PySem.W.Sortable ds ∧ (∀ d ∈ ds, d.depth ≤ 60) ∧
  ∀ (ys : List V) (p : Addr), DpAll K C ys (srtD ds) → H p = none → Q (.ref p) (upd H p (.lst ys))
theorem hu66 {A : Around} {k : Nat} (hr : Room k A) : A.units + 62 < cLine := by have := hr.un; omega
section
variable {K : PySem.W.Frag} {C : Hp}
theorem each_zip {X : Cx} {R : Value → V × PyData → Prop} (hR : ∀ v x d, RelV x v → Dp X.K C x d → R v (x, d)) : ∀ {xs : List V} {vs : List Value} {ds : List PyData}, Vals xs vs → DpAll X.K C xs ds → PySem.W.EachIs R vs (xs.zip ds)
  | _, _, _, .nil, .nil => .nil
  | _, _, _, .cons r rs, .cons d ds => .cons (hR _ _ _ r d) (each_zip hR rs ds)
theorem each_out {R : Value → V × PyData → Prop} (hR : ∀ v b, R v b → RelV b.1 v ∧ Dp K C b.1 b.2) : ∀ {vs : List Value} {bs : List (V × PyData)}, PySem.W.EachIs R vs bs → Vals (bs.map (·.1)) vs ∧ DpAll K C (bs.map (·.1)) (bs.map (·.2))
  | _, _, .nil => ⟨.nil, .nil⟩
  | _, _, .cons r rs => ⟨.cons (hR _ _ r).1 (each_out hR rs).1, .cons (hR _ _ r).2 (each_out hR rs).2⟩
theorem zip_snd {α β : Type} : ∀ {xs : List α} {ys : List β}, xs.length = ys.length → (xs.zip ys).map (·.2) = ys
  | [], [], _ => rfl
  | _ :: xs, y :: ys, h => by rw [List.zip_cons_cons, List.map_cons, zip_snd (by simpa using h)]
theorem cr_sortedDD {X : Cx} (hu : X.A.units + 62 < cLine) : CallR X (.builtin "sorted") (rSortDD X.K) := by
  intro pins s σ H vs us Q I r h
  obtain ⟨C, a, xs, ds, rfl, ex, hs, hd, ha, hk, hz, q⟩ := h
  obtain ⟨its, rv, hl, hlen⟩ := I.list hs
  rw [Vals.ref1 r]
  have hxd : xs.length = ds.length := dpa_len hd
  have hm : (xs.zip ds).map (·.2) = ds := zip_snd hxd
  refine PySem.W.sorted_data (R := fun v (b : V × PyData) => RelV b.1 v ∧ Dp X.K C b.1 b.2) (bs := xs.zip ds) (enc := fun b => b.2) hl.isList (each_zip (fun v x d h1 h2 => ⟨h1, h2⟩) rv hd)
    (each_zip (R := fun v b => ∃ as, Reads s.heap v b.2 as) (fun v x d h1 h2 => Dp.reads I d x v (dpx ex h2) h1) rv hd) (by rw [hm]; exact ha) (by rw [hm]; exact hk) (by rw [List.length_zip, ← hxd, Nat.min_self]; exact hlen) (fun b hb => ?_) fun out h1 h2 => ?_
  · have : b.2 ∈ ds := (List.of_mem_zip (a := b.1) (b := b.2) hb).2
    have := hz _ this
    omega
  · obtain ⟨k1, k2⟩ := each_out (fun _ _ h => h) h2
    obtain ⟨ep, he'⟩ := PyProof.Rows.sortedAll_at s.heap its out.toArray
    have hml : (((xs.zip ds).mergeSort (PySem.W.dataLe false fun b => b.2)).map (·.1)).length ≤ sizeLine := by
      rw [List.length_map, List.length_mergeSort, List.length_zip, ← hxd, Nat.min_self]; exact hlen
    have hms : ((xs.zip ds).mergeSort (PySem.W.dataLe false fun b => b.2)).map (·.2) = srtD ds := by
      rw [List.map_mergeSort (r := PySem.W.dataLe false fun b : V × PyData => b.2) (s := PySem.W.dataLe false id) (f := fun b : V × PyData => b.2) (fun a _ b _ => rfl), hm]; rfl
    rw [hms] at k2
    exact ⟨.ref _, upd H (s.heap.objs.size + 1) (.lst _), I.laid (t' := s.toks) (fun _ _ => PyProof.Rows.sortedAll_old) (Nat.le_succ _) ⟨hml, out, ep, k1, he'⟩, rfl, q _ _ k2 (I.hok.fresh (Nat.le_succ _))⟩
noncomputable def mSortD : List MV → MH → Option (List MV × MH) := fun xs h => (arg1 xs).bind fun x => if isT x = false then (itemsOf h x).bind fun ys => (allD ys).bind fun ds => open Classical in if PySem.W.AllAlike ds ∧ PySem.W.Sortable ds ∧ ∀ d ∈ ds, d.depth ≤ 60 then some ((srtD ds).map .d, h) else none else none
theorem sf_sortD : SimCF K (rSortDD K) mSortD := fun w h us xs ys h' rl ra e Q q => by
  obtain ⟨x, e1, e⟩ := bind_of e
  split at e
  · rename_i ht
    obtain ⟨zs, e2, e⟩ := bind_of e
    obtain ⟨ds, e3, e⟩ := bind_of e
    split at e
    · rename_i hz
      cases e
      rw [arg1_of e1] at ra
      obtain ⟨u, rfl, rx⟩ := ra.one
      obtain ⟨p, vs, rfl, sq, rp⟩ := items_L rl rx e2 ht
      rw [allD_eq e3] at rp
      refine ⟨w.C, p, vs, ds, rfl, rl.ch, sq, rp.toD, hz.1, hz.2.1, hz.2.2, fun ys a hd hn => ?_⟩
      obtain ⟨s, r⟩ := fresh_ok (o := .lst ys) rl hn
      exact q _ a _ s r hn upd_same (rl.notin hn) (rl.cnone hn) (RepA.ofD hd)
    · cases e
  · cases e
end
/-! ### the order of what is sorted -/
theorem e_sortD {x : MV} {h : MH} {α : Type} (f : α → PyData) (xs : List α) (ht : isT x = false) (hi : itemsOf h x = some (xs.map fun a => .d (f a))) (ha : ∀ a b, PySem.W.alike (f a) (f b) = true) (hk : ∀ a, ∃ d r, f a = .tuple (d :: r)) (hz : ∀ a, (f a).depth ≤ 60) : mSortD [x] h = some ((srtD (xs.map f)).map .d, h) := by
  unfold mSortD
  rw [e_arg1, Option.bind_some, if_pos ht, hi, Option.bind_some, e_allDf, Option.bind_some, if_pos]
  refine ⟨fun d hd d' hd' => ?_, .inl fun d hd => ?_, fun d hd => ?_⟩
  · obtain ⟨a, _, rfl⟩ := List.mem_map.mp hd
    obtain ⟨b, _, rfl⟩ := List.mem_map.mp hd'
    exact ha a b
  · obtain ⟨a, _, rfl⟩ := List.mem_map.mp hd
    exact hk a
  · obtain ⟨a, _, rfl⟩ := List.mem_map.mp hd
    exact hz a
/-- what is sorted stands in the order, nothing lost -/
theorem srt_map {α : Type} (f : α → PyData) (le : α → α → Bool) (hle : ∀ a b, (!PySem.W.dataLt (f b) (f a)) = le a b) (xs : List α) : srtD (xs.map f) = (xs.mergeSort le).map f := by
  unfold srtD
  rw [List.map_mergeSort (s := PySem.W.dataLe false id) (r := le) (fun a _ b _ => ?_)]
  rw [← hle a b]
  exact (congrFun (congrFun (PySem.W.dataLe_eq false (id : PyData → PyData)) (f a)) (f b)).symm
end M
namespace M
open PySem PySem.Spec PyProof.Rows L2
open Evl (Ex ex_rd ex_l ex_t rMax2)
open G (dpx dpax dpa_len dpa_get dpa_app dpa_set ex_none wipe_get wipe_eq wipe_wipe RD UD CD Ret rMin2 rInt1 rAbs rTupOf rListOf li ti rSetLi tSoSet)
/-! ### over a list or a tuple -/
def iOr (w1 w2 : TI) : TI := fun σ H R => w1 σ H R ∨ w2 σ H R
theorem pi_or {X : Cx} {tg iter : Expr} {w1 w2 : TI} (h1 : PI X tg iter w1) (h2 : PI X tg iter w2) : PI X tg iter (iOr w1 w2) := ⟨fun pins s σ H R I h => h.elim (h1.run pins s σ H R I) (h2.run pins s σ H R I)⟩
def mItA (me : ME) : MI := fun env h => (me env h).bind fun r => (rowOf r.2 r.1).map fun s => (s, r.2)
theorem si_any {K : PySem.W.Frag} {te : TE} {me : ME} (h : SimE K te me) : SimI K (iOr (iList K te) (iTup K te)) (mItA me) := fun w h0 σ env si h' rl re e R q => by
  obtain ⟨⟨x, h1⟩, e1, e⟩ := bind_of e
  cases t : isT x with
  | false => exact .inl (si_list h w h0 σ env si h' rl re (by
      show (me env h0).bind _ = _
      rw [e1, Option.bind_some]
      simp only [t, if_true]
      exact e) R q)
  | true => exact .inr (si_tup h w h0 σ env si h' rl re (by
      show (me env h0).bind _ = _
      rw [e1, Option.bind_some]
      simp only [t, if_true]
      exact e) R q)
/-! ### ascending, each once -/
def insU (x : Int) : List Int → List Int
  | [] => [x]
  | y :: ys => if x < y then x :: y :: ys else if x = y then y :: ys else y :: insU x ys
def ascU : List Int → List Int
  | [] => []
  | x :: xs => insU x (ascU xs)
theorem mem_insU (x z : Int) : ∀ ys : List Int, z ∈ insU x ys ↔ z = x ∨ z ∈ ys
  | [] => by simp [insU]
  | y :: ys => by
    unfold insU
    split
    · simp
    · split
      · rename_i e
        rw [e]; simp
      · rw [List.mem_cons, mem_insU x z ys, List.mem_cons]
        exact ⟨fun h => by rcases h with h | h | h <;> simp [h], fun h => by rcases h with h | h | h <;> simp [h]⟩
theorem mem_ascU (z : Int) : ∀ xs : List Int, z ∈ ascU xs ↔ z ∈ xs
  | [] => Iff.rfl
  | x :: xs => by rw [ascU, mem_insU, mem_ascU z xs, List.mem_cons]
theorem insU_asc (x : Int) : ∀ {ys : List Int}, ys.Pairwise (· < ·) → (insU x ys).Pairwise (· < ·)
  | [], _ => by simp [insU]
  | y :: ys, h => by
    have hc := List.pairwise_cons.mp h
    unfold insU
    split
    · rename_i hxy
      refine List.pairwise_cons.mpr ⟨fun z m => ?_, h⟩
      rcases List.mem_cons.mp m with rfl | m
      · exact hxy
      · exact Int.lt_trans hxy (hc.1 z m)
    · split
      · exact h
      · refine List.pairwise_cons.mpr ⟨fun z m => ?_, insU_asc x hc.2⟩
        rcases (mem_insU x z ys).mp m with rfl | m
        · omega
        · exact hc.1 z m
theorem ascU_asc : ∀ xs : List Int, (ascU xs).Pairwise (· < ·)
  | [] => .nil
  | x :: xs => insU_asc x (ascU_asc xs)
theorem asc_same : ∀ {xs ys : List Int}, xs.Pairwise (· < ·) → ys.Pairwise (· < ·) → (∀ z, z ∈ xs ↔ z ∈ ys) → xs = ys
  | [], [], _, _, _ => rfl
  | [], y :: ys, _, _, h => by have := (h y).mpr List.mem_cons_self; cases this
  | x :: xs, [], _, _, h => by have := (h x).mp List.mem_cons_self; cases this
  | x :: xs, y :: ys, hx, hy, h => by
    have ax := List.pairwise_cons.mp hx
    have ay := List.pairwise_cons.mp hy
    have e : x = y := by
      have m1 := (h x).mp List.mem_cons_self
      have m2 := (h y).mpr List.mem_cons_self
      rcases List.mem_cons.mp m1 with e | m1
      · exact e
      · rcases List.mem_cons.mp m2 with e | m2
        · exact e.symm
        · have := ax.1 y m2; have := ay.1 x m1; omega
    subst e
    rw [asc_same ax.2 ay.2 fun z => ?_]
    constructor
    · intro m
      rcases List.mem_cons.mp ((h z).mp (List.mem_cons_of_mem _ m)) with e | m'
      · subst e; exact absurd (ax.1 z m) (Int.lt_irrefl z)
      · exact m'
    · intro m
      rcases List.mem_cons.mp ((h z).mpr (List.mem_cons_of_mem _ m)) with e | m'
      · subst e; exact absurd (ay.1 z m) (Int.lt_irrefl z)
      · exact m'
def intsOf : List MV → Option (List Int)
  | [] => some []
  | x :: xs => (asI x).bind fun i => (intsOf xs).map (i :: ·)
theorem intsOf_map : ∀ ns : List Int, intsOf (ns.map dI) = some ns
  | [] => rfl
  | n :: ns => by
    show (asI (dI n)).bind _ = _
    rw [e_asI, Option.bind_some, intsOf_map ns]; rfl
theorem intsOf_eq : ∀ {xs : List MV} {ns : List Int}, intsOf xs = some ns → xs = ns.map dI
  | [], ns, h => by cases h; rfl
  | x :: xs, ns, h => by
    obtain ⟨i, e1, h⟩ := bind_of h
    obtain ⟨r, e2, h⟩ := map_of h
    subst h
    rw [asI_of e1, intsOf_eq e2]; rfl
theorem rep_ints {K : PySem.W.Frag} {ι : List Addr} {C : Hp} : ∀ {vs : List V} {ns : List Int}, RepA K ι C vs (ns.map dI) → vs = ns.map V.int
  | _, [], .nil => rfl
  | _, n :: ns, .cons r t => by
    rw [rep_ints t]
    cases r with
    | d h => cases h; rfl
def mSoSet (ml : MA) : MA := fun env h => (ml env h).bind fun r => (arg1 r.1).bind fun x => if isT x = false then (itemsOf r.2 x).bind fun ys => (intsOf ys).bind fun ns => if ns.length < 64 then some ((ascU ns).map dI, r.2) else none else none
theorem sm_soSet {K : PySem.W.Frag} {tl : TA} {ml : MA} (h : SimA K tl ml) : SimF K (tSoSet K tl) (mSoSet ml) := fun w h0 σ env xs h' rl re e Q q wd => by
  obtain ⟨⟨as, h1⟩, e1, e⟩ := bind_of e
  obtain ⟨x, e2, e⟩ := bind_of e
  split at e
  · rename_i ht
    obtain ⟨ys, e3, e⟩ := bind_of e
    obtain ⟨ns, e4, e⟩ := bind_of e
    split at e
    · rename_i hz
      cases e
      refine h w h0 σ env as h1 rl re e1 _ fun w1 us s1 r1 x1 => ?_
      replace e2 : arg1 as = some x := e2
      rw [arg1_of e2] at x1
      obtain ⟨u, rfl, rx⟩ := x1.one
      obtain ⟨p0, vs, rfl, sq, rp⟩ := items_L r1 rx e3 ht
      rw [intsOf_eq e4] at rp
      rw [rep_ints rp] at sq
      refine ⟨_, ns, rfl, sq, by simp only [scanBound]; omega, fun p n le hp => ?_⟩
      show rSortedSet wd [V.ref p] _ Q
      refine ⟨p, _, n, rfl, upd_same, by omega, fun ks q2 g1 g2 _ g3 => ?_⟩
      have e5 : ks = ascU ns := asc_same g1 (ascU_asc ns) fun z => by rw [g2 z, mem_ascU]; simp
      subst e5
      obtain ⟨s2, r2⟩ := fresh_ok (o := SetO wd p (fun j => decide (j ∈ ns)) n) r1 hp
      obtain ⟨s3, r3⟩ := fresh_ok (o := .lst ((ascU ns).map V.int)) r2 g3
      have sA := (s1.trans s2).trans s3
      have hq0 : w.H q2 = none := by
        cases z : w.H q2 with
        | none => rfl
        | some o => exact absurd g3 ((s1.trans s2).kp q2 (by rw [z]; exact fun q => nomatch q))
      exact q _ q2 _ sA r3 hq0 upd_same (r2.notin g3) (r2.cnone g3) (by
        have := ints_rep (K := K) (ι := w1.ι) (C := w1.C) (ascU ns)
        exact this)
    · cases e
  · cases e
theorem e_lift5 {f : List PyData → Option PyData} {a b c d e : PyData} {h : MH} : liftD f [.d a, .d b, .d c, .d d, .d e] h = (f [a, b, c, d, e]).map fun r => (.d r, h) := rfl
end M
namespace M
open PySem PySem.Spec PyProof.Rows L2
/-! ### the body of a key, over the heap alone -/
def Keep (h h' : Heap) : Prop := ∀ b o, h.get? b = some o → h'.get? b = some o
theorem Keep.refl (h : Heap) : Keep h h := fun _ _ e => e
theorem Keep.trans {h h1 h2 : Heap} (a : Keep h h1) (b : Keep h1 h2) : Keep h h2 := fun c o e => b c o (a c o e)
/-- e gives f of the datum that x stands for -/
def KB (prog : Program) (w : World) (sc : Scope) (x : Str) (e : Expr) (f : PyData → Option PyData) : Prop :=
  ∀ (env : PySem.Env) (A : Around) (E : Value → Shared → Prop) (v : Value) (d r : PyData) (as : List Addr) (s : Shared) (m : Str → Option Value) (Q : Value → Shared → Prop), env.scope = sc → s.heap.Ns env.locals m → m x = some v → Reads s.heap v d as → f d = some r →
    (∀ (u : Value) (bs : List Addr) (h' : Heap) (tk : Nat), Keep s.heap h' → Reads h' u r bs → Q u { s with heap := h', toks := tk }) → wpAny (model prog w) A (eval e env) Q E s
section
variable {prog : Program} {w : World} {sc : Scope} {x : Str}
theorem kb_name {p : Pos} (hk : sc.kind = .function) (hl : sc.names.lookup x = some .local) (hd : (x == ("__debug__" : Str)) = false := by decide) : KB prog w sc x (.Name x p) some := fun env A E v d r as s m Q es hn hm rd e q => by
  cases e
  refine wpAny_Name (wpAny_loadName_local (by rw [es]; exact hk) (show env.scope.names.lookup x = some .local by rw [es]; exact hl) hn hm ?_) hd
  exact q v as s.heap s.toks (Keep.refl _) rd
theorem reads_at : ∀ {h : Heap} {vs : List Value} {ds : List PyData} {as : List Addr} {j : Nat} {d : PyData}, ReadsAll h vs ds as → ds[j]? = some d → ∃ v bs, vs[j]? = some v ∧ Reads h v d bs
  | _, _, _, _, _, _, .nil, e => by simp at e
  | _, _, _, _, 0, _, .cons r _, e => by simp at e; subst e; exact ⟨_, _, rfl, r⟩
  | _, _, _, _, j + 1, _, .cons _ rs, e => by
    obtain ⟨v, bs, h1, h2⟩ := reads_at rs (show _ = some _ by simpa using e)
    exact ⟨v, bs, by simpa using h1, h2⟩
theorem readsAll_len : ∀ {h : Heap} {vs : List Value} {ds : List PyData} {as : List Addr}, ReadsAll h vs ds as → vs.length = ds.length
  | _, _, _, _, .nil => rfl
  | _, _, _, _, .cons _ rs => by rw [List.length_cons, List.length_cons, readsAll_len rs]
theorem readsAll_keeps {h h' : Heap} (k : Keep h h') : ∀ {vs : List Value} {ds : List PyData} {as : List Addr}, ReadsAll h vs ds as → ReadsAll h' vs ds as
  | _, _, _, .nil => .nil
  | _, _, _, .cons r rs => .cons (PyProof.Rows.Reads.keeps k r) (readsAll_keeps k rs)
def fIx (f : PyData → Option PyData) (j : Nat) : PyData → Option PyData := fun d => (f d).bind fun r => match r with
  | .tuple ds => ds[j]?
  | _ => none
theorem kb_ix {e : Expr} {f : PyData → Option PyData} {j k : Nat} {p p2 : Pos} (h : KB prog w sc x e f) (hj : j < 1000) (hs : ∀ o i, subscripted (.Constant (.int (j : Int)) k p) false o i = operate [o, i] (getItem o i)) : KB prog w sc x (.Subscript e (.Constant (.int (j : Int)) k p) p2) (fIx f j) := fun env A E v d r as s m Q es hn hm rd hf q => by
  obtain ⟨t, e1, e2⟩ := bind_of hf
  refine Subscript_ (h env A E v d t as s m _ es hn hm rd e1 fun u bs h' tk kp ru => wpAny_Constant_int ?_)
  split at e2
  · rename_i ds
    cases ru with
    | tuple ho hc hd ra =>
      rename_i a o vs n
      obtain ⟨y, cs, g1, g2⟩ := reads_at ra e2
      have hlt : j < vs.toList.length := (List.getElem?_eq_some_iff.mp g1).1
      refine subscriptTail_builtinR (x := y) (IsTup.typeIs ⟨o, ho, hc, n, hd⟩) slot_tuple_getitem.lookup
        (PyProof.Rows.getItem_tuple (j := j) (Q := fun r' s' => r' = y ∧ Q r' s') ⟨o, ho, hc, n, hd⟩ (by omega) (by omega) ?_ ?_ ⟨rfl, ?_⟩) (hs _ _)
      · unfold seqIndex?
        rw [Array.length_toList] at hlt
        simp
        omega
      · rw [← g1]; simp
      · exact q y cs h' _ kp g2
  · cases e2
def KBs (prog : Program) (w : World) (sc : Scope) (x : Str) (es : List Expr) (f : PyData → Option (List PyData)) : Prop :=
  ∀ (pos : Pos) (env : PySem.Env) (A : Around) (E : Value → Shared → Prop) (v : Value) (d : PyData) (rs : List PyData) (as : List Addr) (s : Shared) (m : Str → Option Value) (Q : List Value → Shared → Prop), env.scope = sc → s.heap.Ns env.locals m → m x = some v → Reads s.heap v d as → f d = some rs →
    (∀ (us : List Value) (bs : List Addr) (h' : Heap) (tk : Nat), Keep s.heap h' → ReadsAll h' us rs bs → Q us { s with heap := h', toks := tk }) → wpAny (model prog w) A (spliced (backTo pos (starEach es env))) Q E s
theorem kbs_nil : KBs prog w sc x [] (fun _ => some []) := fun pos env A E v d rs as s m Q es hn hm rd hf q => by
  cases hf
  exact Calls.spliced_nil (q [] [] s.heap s.toks (Keep.refl _) .nil)
theorem kbs_cons {e : Expr} {es : List Expr} {f : PyData → Option PyData} {g : PyData → Option (List PyData)} (h : KB prog w sc x e f) (hr : KBs prog w sc x es g) (hs : ∀ env : PySem.Env, starEach (e :: es) env = (false, eval e env) :: starEach es env := by intro; rfl) :
    KBs prog w sc x (e :: es) (fun d => (f d).bind fun a => (g d).map fun r => a :: r) := fun pos env A E v d rs as s m Q es' hn hm rd hf q => by
  obtain ⟨a, e1, e2⟩ := bind_of hf
  obtain ⟨r, e3, e4⟩ := map_of e2
  subst e4
  rw [hs]
  show wpAny _ _ (spliced ((false, eval e env) :: backTo pos (starEach es env))) _ _ s
  refine Calls.spliced_cons (h env A E v d a as s m _ es' hn hm rd e1 fun u bs h' tk kp ru => ?_)
  refine hr pos env A E v d r as { s with heap := h', toks := tk } m _ es' (hn.keeps kp) hm (PyProof.Rows.Reads.keeps kp rd) e3 fun us cs h2 tk2 kp2 rus => ?_
  exact q (u :: us) (bs ++ cs) h2 tk2 (kp.trans kp2) (.cons (PyProof.Rows.Reads.keeps kp2 ru) rus)
theorem kb_tup {es : List Expr} {k : Nat} {p : Pos} {g : PyData → Option (List PyData)} (h : KBs prog w sc x es g) (hz : ∀ d rs, g d = some rs → rs.length ≤ 1000) : KB prog w sc x (.Tuple es k p) (fun d => (g d).map .tuple) := fun env A E v d r as s m Q es' hn hm rd hf q => by
  obtain ⟨rs, e1, e2⟩ := map_of hf
  subst e2
  refine wpAny_Tuple_spliced (h p env A E v d rs as s m _ es' hn hm rd e1 fun us bs h' tk kp rus => ?_)
  have hl : us.length = rs.length := readsAll_len rus
  have := hz d rs e1
  refine ⟨by rw [sizeLine_eq]; omega, ?_⟩
  have kp2 : Keep h' (h'.push { cls := .type "tuple", data := .seq us.toArray }) := fun b o e => Heap.get?_push_of_some _ e
  exact q _ bs _ tk (kp.trans kp2) (.tuple (Heap.get?_push_size _ rfl) rfl rfl (by simpa using readsAll_keeps kp2 rus))
mutual
theorem reads_noL : ∀ {h : Heap} {v : Value} {d : PyData} {as : List Addr}, noL d = true → Reads h v d as → as = []
  | _, _, _, _, _, .none => rfl
  | _, _, _, _, _, .bool _ => rfl
  | _, _, _, _, _, .int _ _ => rfl
  | _, _, _, _, _, .str _ _ => rfl
  | _, _, _, _, n, .list _ _ _ _ => by rw [noL] at n; cases n
  | _, _, _, _, n, .tuple _ _ _ ra => readsA_noL (by rw [noL] at n; exact n) ra
  | _, _, _, _, n, .dict _ _ _ _ _ => by rw [noL] at n; cases n
theorem readsA_noL : ∀ {h : Heap} {vs : List Value} {ds : List PyData} {as : List Addr}, noLA ds = true → ReadsAll h vs ds as → as = []
  | _, _, _, _, _, .nil => rfl
  | _, _, _, _, n, .cons r rs => by
    rw [noLA, Bool.and_eq_true] at n
    rw [reads_noL n.1 r, readsA_noL n.2 rs]; rfl
end
structure KeyS (sc : Scope) (x : Str) : Prop where
  kind : sc.kind = .function
  co : sc.isCoroutine = false
  gen : sc.isGenerator = false
  loc : sc.names.lookup x = some .local
  nc : ∀ y ∈ sc.names, y.2 ≠ .cell
theorem key_turn {f c' : Addr} {q : Str} {pm ctv : Value} {params : Arguments} {body : Expr} {g : PyData → Option PyData} (S : KeyS sc x) (B : KB prog w sc x body g) (hbind : ∀ v, bindArgs (PySem.W.kla_fn "<lambda>" q params body sc [] pm (.ref c') ctv) ⟨[v], []⟩ = pure [(x, v)])
    {A : Around} {s : Shared} {v : Value} {d r : PyData} {as : List Addr} (hd : A.depth < recursionLimit) (hf : s.heap.get? f = some (PySem.W.kla_obj "<lambda>" q params body sc [] pm c' ctv)) (hc : s.heap.CodeRec (.ref c') q) (lim : s.heap.NoLimit) (rd : Reads s.heap v d as) (hg : g d = some r) (hn : noL r = true) :
    wpAny (model prog w) A (call (.ref f) [v]) (PySem.W.KeyPure r s) (fun _ _ => False) s := by
  refine wpAny_call (PySem.W.kla_callFunE hd hf rfl S.co S.gen rfl hc ?_)
  rw [hbind v]
  refine wpAny_pure (wpAny_newFunctionEnv S.nc (fun y hy => by rw [List.mem_singleton.mp hy]; exact S.loc) (fun h₁ hns hsb => ⟨lim.fresh _ hsb, ?_⟩) S.kind)
  have kp : Keep s.heap h₁ := fun b o e => hsb.extBut b o (Nat.ne_of_lt (Heap.lt_size e)) (Heap.get?_push_of_some _ e)
  refine PySem.W.kla_codeExpr (B _ _ _ v d r as _ _ _ rfl hns (by simp) (PyProof.Rows.Reads.keeps kp rd) hg fun u bs h' tk kp2 ru => ?_)
  have hb := reads_noL hn ru
  subst hb
  exact ⟨h', tk, rfl, kp.trans kp2, ru⟩
end
end M
namespace M
open PySem PySem.Spec PyProof.Rows L2
open Evl (Ex ex_rd ex_l ex_t rMax2)
open G (dpx dpax dpa_len ex_none)
/-! ### sorted(xs, key=f), f a lambda -/
/-- the object at f is that lambda -/
def LamO (f c' : Addr) (q : Str) (params : Arguments) (body : Expr) (sc : Scope) : HO := .ext fun h => ∃ pm ctv, h.get? f = some (PySem.W.kla_obj "<lambda>" q params body sc [] pm c' ctv)
/-- the code objects that are told by name -/
noncomputable def keyD (g : PyData → Option PyData) (d : PyData) : PyData := (g d).getD .none
noncomputable def srtK (g : PyData → Option PyData) (ds : List PyData) : List PyData := ds.mergeSort (PySem.W.dataLe false (keyD g))
def KeysOk (g : PyData → Option PyData) (ds : List PyData) : Prop := (∀ d ∈ ds, ∃ r, g d = some r ∧ noL r = true ∧ r.depth ≤ 60) ∧ PySem.W.AllAlike (ds.map (keyD g)) ∧ PySem.W.Sortable (ds.map (keyD g))
def rSortLam (K : PySem.W.Frag) (q : Str) (params : Arguments) (body : Expr) (sc : Scope) (g : PyData → Option PyData) : List V → List V → Hp → VK → Prop := fun vs zs H Q =>
  ∃ (C : Hp) (f c' a : Addr) (xs : List V) (ds : List PyData), vs = [.ref a] ∧ zs = [.ref f] ∧ H f = some (LamO f c' q params body sc) ∧ H c' = some (LamX.CodeO c' q) ∧ Ex C H ∧ SqL K H a xs ∧ DpAll K C xs ds ∧ KeysOk g ds ∧
    ∀ (ys : List V) (p : Addr), DpAll K C ys (srtK g ds) → H p = none → Q (.ref p) (upd H p (.lst ys))
theorem cr_sortLam {X : Cx} {q : Str} {params : Arguments} {body : Expr} {sc : Scope} {x : Str} {g : PyData → Option PyData} {k : Nat} (hr : Room k X.A) (S : KeyS sc x) (B : KB X.prog X.w sc x body g)
    (hbind : ∀ pm c' ctv v, bindArgs (PySem.W.kla_fn "<lambda>" q params body sc [] pm (.ref c') ctv) ⟨[v], []⟩ = pure [(x, v)]) : CallRK X (.builtin "sorted") [Str.ofString "key"] (rSortLam X.K q params body sc g) := by
  intro pins s σ H vs zs us ws Q I r rz h
  obtain ⟨C, f, c', a, xs, ds, rfl, rfl, hf, hc, ex, hs, hd, ⟨hg, hal, hk⟩, qq⟩ := h
  obtain ⟨its, rv, hl, hlen⟩ := I.list hs
  rw [Vals.ref1 r, Vals.ref1 rz]
  have hxd : xs.length = ds.length := dpa_len hd
  have hm : (xs.zip ds).map (·.2) = ds := zip_snd hxd
  have hm2 : (xs.zip ds).map (fun b => keyD g b.2) = ds.map (keyD g) := by
    rw [show (xs.zip ds).map (fun b => keyD g b.2) = ((xs.zip ds).map (·.2)).map (keyD g) by rw [List.map_map]; rfl, hm]
  have key : ∀ d ∈ ds, g d = some (keyD g d) ∧ noL (keyD g d) = true ∧ (keyD g d).depth ≤ 60 := fun d m => by
    obtain ⟨r, e1, e2, e3⟩ := hg d m
    unfold keyD
    rw [e1]
    exact ⟨rfl, e2, e3⟩
  obtain ⟨⟨pm, ctv, hfo⟩, _, _⟩ := I.hok f _ hf
  have hcr : s.heap.CodeRec (.ref c') q := by
    obtain ⟨⟨oc, vs, t, h1, h2, h3⟩, _, _⟩ := I.hok c' _ hc
    exact ⟨c', oc, vs, t, rfl, h1, h2, h3⟩
  refine PySem.W.sorted_key_data (b := false) (R := fun v (b : V × PyData) => RelV b.1 v ∧ Dp X.K C b.1 b.2) (bs := xs.zip ds) (fun b => keyD g b.2) hl.isList (each_zip (fun v x d h1 h2 => ⟨h1, h2⟩) rv hd) (by rw [hm2]; exact hal) (by rw [hm2]; exact hk)
    (by rw [List.length_zip, ← hxd, Nat.min_self]; exact hlen) (fun b hb => ?_) (PyProof.Rows.ksk_s1 _ _) (fun _ => PyProof.Rows.ksk_l1 _ _) (fun _ => PyProof.Rows.ksk_t1 _ _) (fun v b hR hb h tk kp => ?_) fun out c h' tk kp nf hD h1 h2 => ?_
  · have := (key b.2 (List.of_mem_zip (a := b.1) (b := b.2) hb).2).2.2
    have := hr.un
    omega
  · obtain ⟨k1, k2, _⟩ := key b.2 (List.of_mem_zip (a := b.1) (b := b.2) hb).2
    obtain ⟨as, rd⟩ := Dp.reads I b.2 b.1 v (dpx ex hR.2) hR.1
    refine key_turn (d := b.2) (as := as) S B (hbind pm c' ctv) ?_ (kp _ _ hfo) (hcr.keeps kp) (I.nolimit.keeps kp) (PyProof.Rows.Reads.keeps kp rd) k1 k2
    have := hr.dp
    show X.A.depth < recursionLimit
    omega
  · obtain ⟨k1, k2⟩ := each_out (fun _ _ h => h) h2
    have hml : (((xs.zip ds).mergeSort (PySem.W.dataLe false fun b => keyD g b.2)).map (·.1)).length ≤ sizeLine := by
      rw [List.length_map, List.length_mergeSort, List.length_zip, ← hxd, Nat.min_self]; exact hlen
    have hms : ((xs.zip ds).mergeSort (PySem.W.dataLe false fun b => keyD g b.2)).map (·.2) = srtK g ds := by
      rw [List.map_mergeSort (r := PySem.W.dataLe false fun b : V × PyData => keyD g b.2) (s := PySem.W.dataLe false (keyD g)) (f := fun b : V × PyData => b.2) (fun a _ b _ => rfl), hm]; rfl
    rw [hms] at k2
    exact ⟨.ref _, upd H (s.heap.objs.size + 1) (.lst _), I.laid (t' := tk) kp (Nat.le_succ _) ⟨hml, out, c, k1, hD⟩, rfl, qq _ _ k2 (I.hok.fresh (Nat.le_succ _))⟩
end M
namespace M
open PySem PySem.Spec PyProof.Rows L2
open Evl (Ex ex_rd ex_l ex_t rMax2)
open G (dpx dpax dpa_len ex_none)
open LamX (TabS TabB CodeO among_app inv_table)
/-! ### a lambda is made -/
/-- what the making does to what is held: nothing, or the table grows by a code object that is new -/
def Made (P : Addr) (q : Str) (H : Hp) (c' : Addr) (H1 : Hp) : Prop := H1 = H ∨ ∃ ps ps' : Array Value, H P = some (.tbl ps) ∧ H c' = none ∧ (∀ (pos : Pos) (cv : Value), codeAmong pos ps'.toList = some cv → codeAmong pos ps.toList = some cv ∨ cv = .ref c') ∧ H1 = upd (upd H P (.tbl ps')) c' (CodeO c' q)
def tLamO (P : Addr) (q : Str) (params : Arguments) (body : Expr) (sc : Scope) : TE := fun _ H Q => TabS H P q ∧ ∀ (f c' : Addr) (H1 : Hp), Made P q H c' H1 → TabS H1 P q → H1 f = none → H1 c' = some (CodeO c' q) → Q (.ref f) (upd H1 f (LamO f c' q params body sc))
theorem no_clo {cells : List (Str × Addr)} {sc : Scope} (h : ∀ y ∈ sc.names, y.2 ≠ .free) : cloFrom cells sc.names [] = [] := by
  refine List.eq_nil_iff_forall_not_mem.mpr fun y hy => ?_
  rcases cloFrom_mem hy with z | ⟨z, _⟩
  · cases z
  · exact h _ z rfl
theorem lamO_ok {P : Program} {w : World} {H : Hp} {h : Heap} {f c' : Addr} {q : Str} {params : Arguments} {body : Expr} {sc : Scope} {pm ctv : Value} (e : h.get? f = some (PySem.W.kla_obj "<lambda>" q params body sc [] pm c' ctv)) : ObjOk P w H h f (LamO f c' q params body sc) :=
  ⟨⟨pm, ctv, e⟩, ⟨_, e⟩, fun _ _ ⟨a, b, z⟩ st => ⟨a, b, st _ z⟩⟩
theorem pe_lamO {X : Cx} {c P : Addr} {q : Str} {params : Arguments} {body : Expr} {sc : Scope} {pos : Pos} (TB : TabB X.base X.mg c P) (hcode : X.env.code = .ref c) (hq : X.env.qual ++ "<lambda>" = q) (hdef : defaultsOf params X.env = ([], [])) (hfree : ∀ y ∈ sc.names, y.2 ≠ .free) :
    PE X (.Lambda params body sc pos) (tLamO P q params body sc) := by
  refine ⟨fun pins s σ H Q I h => ?_⟩
  obtain ⟨⟨ps, hP, ht, ha⟩, h⟩ := h
  refine PySem.W.kla_eval hdef ?_
  rw [hq]
  have hclo : closureFor sc X.env = pure [] := by
    rw [closure_ok (scope := sc) (env := X.env) fun y m e => absurd e (hfree y m), no_clo hfree]
  have bP := TB.bm.keeps I.bk
  have hP' : s.heap.get? P = some { cls := .none, data := .fields ps } := I.hok P _ hP
  cases hc : codeAmong pos ps.toList with
  | none =>
    refine PySem.W.kla_makeFunction (mg := X.mg) (c := c) (P := P) (ps := ps) hclo I.ok.glob (I.mod.glob.keeps I.bk) hcode (TB.code.keeps I.bk) hP' ht hc TB.gP bP fun c' ctv h' tk hx hge hlt hrec htb => ?_
    obtain ⟨c2, oc, vs, t, z, hoc, hdc, hvc⟩ := hrec
    cases z
    have nC : H c' = none := I.hok.fresh hge
    have hsz : s.heap.objs.size ≤ h'.objs.size := Nat.le_trans hge (Nat.le_of_lt hlt)
    have J := inv_table (t' := tk) (more := #[rawInt pos.line, rawInt pos.col, .ref c']) I hP (fun b o hb e => hx b o hb e) htb hge ⟨oc, vs, t, hoc, hdc, hvc⟩
    obtain ⟨H1, hH1⟩ : ∃ H1, H1 = upd (upd H P (.tbl (ps ++ #[rawInt pos.line, rawInt pos.col, .ref c']))) c' (CodeO c' q) := ⟨_, rfl⟩
    rw [← hH1] at J
    have nPc : P ≠ c' := fun z => by rw [z, nC] at hP; cases hP
    have c1 : H1 c' = some (CodeO c' q) := by rw [hH1, upd_same]
    have keepC : ∀ b q', H b = some (CodeO b q') → H1 b = some (CodeO b q') := fun b q' e => by
      rw [hH1, upd_ne (fun z => by rw [z, nC] at e; cases e), upd_ne (fun z => by rw [z, hP] at e; exact LamX.codeO_ne ps (Option.some.inj e).symm)]
      exact e
    have tb1 : TabS H1 P q := by
      refine ⟨ps ++ #[rawInt pos.line, rawInt pos.col, .ref c'], by rw [hH1, upd_ne nPc, upd_same], ?_, fun p' cv hcv => ?_⟩
      · rw [Array.toList_append]
        exact PySem.TriplesOk_snoc _ _ _ _ ht
      · rw [Array.toList_append] at hcv
        rcases among_app _ ht hcv with z | z
        · obtain ⟨c0, e1, e2⟩ := ha p' cv z
          exact ⟨c0, e1, keepC _ _ e2⟩
        · exact ⟨c', z, c1⟩
    have nf : H1 h'.objs.size = none := J.hok.fresh (Nat.le_refl _)
    exact ⟨.ref h'.objs.size, _, J.laid (t' := tk) (fun b u e => Heap.get?_push_of_some _ e) (Nat.le_refl _) (lamO_ok (Heap.get?_push_size _ rfl)), rfl, h _ c' H1 (.inr ⟨ps, _, hP, nC, fun p' cv hcv => among_app _ ht (by rw [Array.toList_append] at hcv; exact hcv), hH1⟩) tb1 nf c1⟩
  | some cv =>
    obtain ⟨c', z, hco⟩ := ha pos cv hc
    subst z
    refine PySem.W.kla_makeFunctionHit (mg := X.mg) (c := c) (P := P) (ps := ps) hclo I.ok.glob (I.mod.glob.keeps I.bk) hcode (TB.code.keeps I.bk) hP' ht hc bP fun ctv h' tk hx hsz => ?_
    have J : Inv X pins σ H { s with heap := h', toks := tk } := I.kept hx
    exact ⟨.ref h'.objs.size, _, J.laid (t' := tk) (fun b u e => Heap.get?_push_of_some _ e) (Nat.le_refl _) (lamO_ok (Heap.get?_push_size _ rfl)), rfl, h _ c' H (.inl rfl) ⟨ps, hP, ht, ha⟩ (J.hok.fresh (Nat.le_refl _)) hco⟩
end M
namespace M
open PySem PySem.Spec PyProof.Rows L2
open Evl (Ex ex_rd ex_l ex_t rMax2)
open G (dpx dpax dpa_len ex_none)
open LamX (TabS TabB CodeO)
/-! ### sorted(e, key=lambda ..) -/
def qlam (x : Str) : Str := (x ++ ".<locals>.") ++ "<lambda>"
def lamArgs : Expr → Arguments
  | .Lambda a _ _ _ => a
  | _ => ⟨[], [], none, [], [], none, []⟩
def lamBody : Expr → Expr
  | .Lambda _ b _ _ => b
  | e => e
def lamScope : Expr → Scope
  | .Lambda _ _ s _ => s
  | _ => { kind := .function, names := [], isGenerator := false, isCoroutine := false, more := [] }
def tSortLam (K : PySem.W.Frag) (P : Addr) (q : Str) (lam : Expr) (g : PyData → Option PyData) (te : TE) : TE := tCKw (rSortLam K q (lamArgs lam) (lamBody lam) (lamScope lam) g) (tCons te tNil) (tCons (tLamO P q (lamArgs lam) (lamBody lam) (lamScope lam)) tNil)
theorem len_nil : ∀ (d : PyData) (rs : List PyData), (fun _ : PyData => some ([] : List PyData)) d = some rs → rs.length ≤ 0 := fun d rs e => by cases e; exact Nat.le_refl _
theorem len_cons {n : Nat} {f : PyData → Option PyData} {g : PyData → Option (List PyData)} (h : ∀ d rs, g d = some rs → rs.length ≤ n) : ∀ (d : PyData) (rs : List PyData), ((f d).bind fun a => (g d).map fun r => a :: r) = some rs → rs.length ≤ n + 1 := fun d rs e => by
  obtain ⟨a, _, e2⟩ := bind_of e
  obtain ⟨r, e3, e4⟩ := map_of e2
  subst e4
  exact Nat.succ_le_succ (h d r e3)
theorem len_le {n : Nat} {g : PyData → Option (List PyData)} (h : ∀ d rs, g d = some rs → rs.length ≤ n) (hn : n ≤ 1000) : ∀ d rs, g d = some rs → rs.length ≤ 1000 := fun d rs e => Nat.le_trans (h d rs e) hn
theorem pe_sortLam {X : Cx} {c P : Addr} {q : Str} {lam e : Expr} {x : Str} {g : PyData → Option PyData} {k : Nat} {te : TE} {p pos kpos lpos : Pos} (hr : Room k X.A) (TB : TabB X.base X.mg c P) (hcode : X.env.code = .ref c) (hq : X.env.qual ++ "<lambda>" = q)
    (hdef : defaultsOf (lamArgs lam) X.env = ([], [])) (hfree : ∀ y ∈ (lamScope lam).names, y.2 ≠ .free) (S : KeyS (lamScope lam) x) (B : KB X.prog X.w (lamScope lam) x (lamBody lam) g)
    (hbind : ∀ pm c' ctv v, bindArgs (PySem.W.kla_fn "<lambda>" q (lamArgs lam) (lamBody lam) (lamScope lam) [] pm (.ref c') ctv) ⟨[v], []⟩ = pure [(x, v)]) (hg : Gl X "sorted") (hm : X.mg "sorted" = none) (he : PE X e te)
    (h1 : starEach [e] X.env = (false, eval e X.env) :: starEach [] X.env := by rfl) (h2 : (backTo pos (starEach [e] X.env)).any (·.1) = false := by rfl)
    (h3 : (backToKw pos (keywordEach [⟨some "key", .Lambda (lamArgs lam) (lamBody lam) (lamScope lam) lpos, kpos⟩] X.env)).all (·.1.isSome) = true := by rfl) (h4 : (backToKw pos (keywordEach [⟨some "key", .Lambda (lamArgs lam) (lamBody lam) (lamScope lam) lpos, kpos⟩] X.env)).any (·.1.isNone) = false := by rfl)
    (h5 : (backToKw pos (keywordEach [⟨some "key", .Lambda (lamArgs lam) (lamBody lam) (lamScope lam) lpos, kpos⟩] X.env)).filterMap (·.1) = [Str.ofString "key"] := by rfl) :
    PE X (.Call (.Name "sorted" p) [e] [⟨some "key", .Lambda (lamArgs lam) (lamBody lam) (lamScope lam) lpos, kpos⟩] pos) (tSortLam X.K P q lam g te) :=
  pe_callBK (cr_sortLam hr S B hbind) hg hm rfl (pa_cons he pa_nil h1) (pk_cons (pe_lamO TB hcode hq hdef hfree) pk_nil) (by decide) (by decide) (by rw [h1]; rfl) h2 h3 h4 h5
noncomputable def mSortLam (i : Nat) (P : Addr) (q : Str) (g : PyData → Option PyData) (me : ME) : MA := fun env h => (me env h).bind fun r => open Classical in if r.2[i]? = some (.tab P q) ∧ isT r.1 = false then (itemsOf r.2 r.1).bind fun ys => (allD ys).bind fun ds => if KeysOk g ds then some ((srtK g ds).map .d, r.2) else none else none
/-- behind the making of a lambda -/
theorem made_ok {K : PySem.W.Frag} {w : Wd} {h : MH} (r : Rel K w h) {P c' : Addr} {q : Str} {H1 : Hp} (hP : P ∈ w.ι) (m : Made P q w.H c' H1) (tb : TabS H1 P q) (hq : ∀ (n : Nat) (b : Ob), w.ι[n]? = some P → h[n]? = some b → b = .tab P q) :
    ∃ C1 : Hp, Step w ⟨w.ι, C1, H1⟩ ∧ Rel K ⟨w.ι, C1, H1⟩ h := by
  rcases m with rfl | ⟨ps, ps', hp, hc, hold, e⟩
  · exact ⟨w.C, .refl w, r⟩
  · have nPc : P ≠ c' := fun z => by rw [z, hc] at hp; cases hp
    have cC : w.C c' = none := r.cnone hc
    have nc' : c' ∉ w.ι := r.notin hc
    have H1P : H1 P = some (.tbl ps') := by rw [e, upd_ne nPc, upd_same]
    have H1c : H1 c' = some (CodeO c' q) := by rw [e, upd_same]
    have H1o : ∀ a, a ≠ P → a ≠ c' → H1 a = w.H a := fun a z1 z2 => by rw [e, upd_ne z2, upd_ne z1]
    have ex : Ex w.C (upd w.C c' (CodeO c' q)) := Ex.new cC
    refine ⟨upd w.C c' (CodeO c' q), ⟨List.prefix_refl _, ex, fun a o z n => ?_, fun a m => .inl m, fun a z z2 => ?_, fun a z => ?_, fun a o u z => by
      show H1 a = _
      rw [H1o a (fun y => by rw [y, hp] at z; cases z) (fun y => by rw [y, hc] at z; cases z)]
      exact z⟩, ⟨fun a o z => ?_, r.len, r.nd, fun a m => ?_, fun n a b z1 z2 => ?_⟩⟩
    · show H1 a = some o
      rw [H1o a (fun y => n (by rw [y]; exact hP)) (fun y => by rw [y, hc] at z; cases z)]
      exact z
    · show upd w.C c' _ a = none
      rw [upd_ne (fun y => z (by rw [y]; exact hc))]
      exact z2
    · show H1 a ≠ none
      by_cases y : a = P
      · rw [y, H1P]; exact fun z => nomatch z
      · rw [H1o a y (fun y => z (by rw [y]; exact hc))]; exact z
    · show H1 a = some o
      replace z : upd w.C c' (CodeO c' q) a = some o := z
      by_cases y : a = c'
      · rw [y, upd_same] at z
        rw [y, H1c]; exact z
      · rw [upd_ne y] at z
        rw [H1o a (fun y2 => by rw [y2, r.ow P hP] at z; cases z) y]
        exact r.ch a o z
    · show upd w.C c' _ a = none
      rw [upd_ne (fun y => nc' (by rw [← y]; exact m))]
      exact r.ow a m
    · by_cases y : a = P
      · subst y
        rw [hq n b z1 z2]
        obtain ⟨ps2, t1, t2, t3⟩ := tb
        rw [H1P] at t1
        cases t1
        refine ⟨_, H1P, .tab t2 fun pos cv hcv => ?_⟩
        obtain ⟨o, g1, g2⟩ := r.ob n a b z1 z2
        rw [hq n b z1 z2] at g2
        cases g2 with
        | tab u1 u2 =>
          rw [hp] at g1
          cases g1
          rcases hold pos cv hcv with v | v
          · obtain ⟨c0, v1, v2⟩ := u2 pos cv v
            exact ⟨c0, v1, ex _ _ v2⟩
          · exact ⟨c', v, upd_same⟩
      · obtain ⟨o, g1, g2⟩ := r.ob n a b z1 z2
        refine ⟨o, ?_, g2.mono (List.prefix_refl _) ex⟩
        show H1 a = some o
        rw [H1o a y (fun y2 => by rw [y2, hc] at g1; cases g1)]
        exact g1
theorem sm_sortLam {K : PySem.W.Frag} {i : Nat} {P : Addr} {q : Str} {lam : Expr} {g : PyData → Option PyData} {te : TE} {me : ME} (ha : SimE K te me) : SimF K (tSortLam K P q lam g te) (mSortLam i P q g me) := fun w h0 σ env xs h' rl re e Q qq => by
  obtain ⟨⟨x, h1⟩, e1, e⟩ := bind_of e
  split at e
  · rename_i hz
    obtain ⟨ys, e2, e⟩ := bind_of e
    obtain ⟨ds, e3, e⟩ := bind_of e
    split at e
    · rename_i hk
      cases e
      obtain ⟨hi, ht⟩ := hz
      replace hi : h1[i]? = some (.tab P q) := hi
      refine ha w h0 σ env x h1 rl re e1 _ fun w1 u s1 r1 rx => ?_
      have hil : i < w1.ι.length := by rw [r1.len]; exact (List.getElem?_eq_some_iff.mp hi).1
      obtain ⟨o, g1, g2⟩ := r1.ob i w1.ι[i] _ (List.getElem?_eq_getElem hil) hi
      have hιP : w1.ι[i] = P := by cases g2; rfl
      rw [hιP] at g1 g2
      have hPm : P ∈ w1.ι := by rw [← hιP]; exact List.getElem_mem hil
      have only : ∀ (n : Nat) (b : Ob), w1.ι[n]? = some P → h1[n]? = some b → b = .tab P q := fun n b z1 z2 => by
        have : n = i := by
          have z3 : w1.ι[i]? = some P := by rw [List.getElem?_eq_getElem hil, hιP]
          exact ((List.getElem?_inj (List.getElem?_eq_some_iff.mp z1).1 r1.nd).mp (z1.trans z3.symm))
        subst this
        rw [hi] at z2
        exact (Option.some.inj z2).symm
      cases g2 with
      | tab u1 u2 =>
        rename_i ps
        refine ⟨⟨ps, g1, u1, fun pos cv hcv => ?_⟩, fun f c' H1 mk tb nf hc' => ?_⟩
        · obtain ⟨c0, v1, v2⟩ := u2 pos cv hcv
          exact ⟨c0, v1, r1.ch _ _ v2⟩
        · obtain ⟨C1, s2, r2⟩ := made_ok r1 hPm mk tb only
          obtain ⟨s3, r3⟩ := fresh_ok (o := LamO f c' q (lamArgs lam) (lamBody lam) (lamScope lam)) r2 nf
          have s23 := s2.trans s3
          obtain ⟨p, vs, hu, sq, rp⟩ := items_L r3 (rx.up s23) e2 ht
          rw [allD_eq e3] at rp
          have nfc : c' ≠ f := fun z => by rw [z, nf] at hc'; cases hc'
          refine ⟨C1, f, c', p, vs, ds, by rw [hu], rfl, upd_same, by rw [upd_ne nfc]; exact hc', r3.ch, sq, rp.toD, hk, fun zs a hd hn => ?_⟩
          obtain ⟨s4, r4⟩ := fresh_ok (o := .lst zs) r3 hn
          have sA := (s1.trans s23).trans s4
          have hq0 : w.H a = none := by
            cases z : w.H a with
            | none => rfl
            | some o => exact absurd hn ((s1.trans s23).kp a (by rw [z]; exact fun q => nomatch q))
          exact qq _ a _ sA r4 hq0 upd_same (r3.notin hn) (r3.cnone hn) (RepA.ofD hd)
    · cases e
  · cases e
/-! ### defs that make lambdas, and the end -/
theorem Fun.okC {P : Program} {w : World} {K : PySem.W.Frag} {mg : Str → Option Value} {base : Heap} {x qual : Str} {st : Stmt} {f : Addr} {fd : FuncData} {N ps : List Str} {k : Nat} {sp : Sp} (F : Fun K x qual st f fd) (S : FnScope N ps (defScope st)) (len : ∀ vs H Q E, sp vs H Q E → vs.length = ps.length)
    (hbody : ∀ (A : Around) (outer : List PySem.Env) (s : Shared) (H : Hp) (vs : List V) (Q : VK) (E : XK), Room k (A.deeper (envOfC qual (defScope st) s.heap.objs.size f fd.code)) → sp vs H Q E →
      ∃ t, PSs (cxOf CX0 P w K mg base N qual (defScope st) f fd.code A outer s H E).nox (defBody st) t ∧ t { nx := fun _ H' => Q .non H', rt := Q } (L2.start N vs) H) : FnOk P w K mg base CX0 (k + 1) f fd ps sp := by
  obtain ⟨oc, od, kV, doc, pm, an, cdv, ct, osl, rfl, lk, hcd⟩ := F.ex
  refine fn_of lk hcd S len fun A outer s H vs Q E hr hsp => ?_
  obtain ⟨t, h, q⟩ := hbody A outer s H vs Q E hr hsp
  exact ⟨t, h.nox, q⟩
theorem fn_okHC {P : Program} {w : World} {K : PySem.W.Frag} {mg : Str → Option Value} {base : Heap} {x qual : Str} {st : Stmt} {f : Addr} {fd : FuncData} {N ps : List Str} {k : Nat} {tr : TS} {ms : MS} {np nN : Nat} (F : Fun K x qual st f fd) (S : FnScope N ps (defScope st)) (hnp : ps.length = np) (hN : N.length = nN)
    (pst : ∀ (A : Around) (outer : List PySem.Env) (s : Shared) (H : Hp) (E : XK), Room k (A.deeper (envOfC qual (defScope st) s.heap.objs.size f fd.code)) → PSs (cxOf CX0 P w K mg base N qual (defScope st) f fd.code A outer s H E).nox (defBody st) tr)
    (hs : SimS K tr ms) : FnOk P w K mg base CX0 (k + 1) f fd ps (spH K (toHeap np nN ms)) := by
  refine Fun.okC F S (fun vs H Q E h => ?_) (fun A outer s H vs Q E hr h => ⟨_, pst A outer s H E hr, ?_⟩)
  · obtain ⟨wd, h, xs, v, h', _, _, ra, e, _⟩ := h
    rw [ra.len, toHeap_len e, hnp]
  · obtain ⟨wd, h, xs, v, h', rfl, rl, ra, e, q⟩ := h
    exact run_ok hs rl ra e hN q
end M
namespace M
open PySem PySem.Spec PyProof.Rows L2
open Evl (Ex ex_rd ex_l ex_t rMax2)
open LamX (TabS TabB CodeO)
/-! ### the end of a law whose program makes lambdas -/
theorem sp_start {K : PySem.W.Frag} {f : MCa} {cs : List (Addr × Str)} {H : Hp} {a : Addr} {ns : List Int} {Q : VK} {E : XK} (hH : ∀ p ∈ cs, H p.1 = some (.tbl #[])) (nd : (cs.map (·.1)).Nodup) (hS : SqL K H a (ns.map V.int))
    (tell : ∃ h', f [.d (.list (ns.map .int))] (cs.map fun p => .tab p.1 p.2) = some (.d (.bool true), h')) (hQ : ∀ H', Q (.bl true) H') : spH K f [.ref a] H Q E := by
  obtain ⟨h', e⟩ := tell
  obtain ⟨C, hC⟩ : ∃ C : Hp, C = fun b => if b ∈ cs.map (·.1) then none else H b := ⟨_, rfl⟩
  have isT : ∀ b, b ∈ cs.map (·.1) → H b = some (.tbl #[]) := fun b hb => by
    obtain ⟨p, hp, e⟩ := List.mem_map.mp hb
    rw [← e]; exact hH p hp
  have eC : ∀ b o, H b = some o → (∀ ps, o ≠ .tbl ps) → C b = some o := fun b o z n => by
    rw [hC]
    show (if b ∈ cs.map (·.1) then none else H b) = some o
    rw [if_neg fun m => n #[] (by rw [isT b m] at z; exact (Option.some.inj z).symm)]
    exact z
  have hSC : SqL K C a (ns.map V.int) := by
    rcases hS with (z | ⟨ob, z⟩) | z
    · exact .inl (.inl (eC _ _ z fun ps y => nomatch y))
    · exact .inl (.inr ⟨ob, eC _ _ z fun ps y => nomatch y⟩)
    · exact .inr z
  refine ⟨⟨cs.map (·.1), C, H⟩, _, [.d (.list (ns.map .int))], .d (.bool true), h', rfl, ⟨fun b o z => ?_, by simp, nd, fun b m => ?_, fun n b ob z1 z2 => ?_⟩, .cons (.d (.lst hSC G.dpa_ints)) .nil, e, fun w' u _ _ ru => ?_⟩
  · rw [hC] at z
    replace z : (if b ∈ cs.map (·.1) then none else H b) = some o := z
    split at z
    · cases z
    · exact z
  · rw [hC]
    exact if_pos m
  · rw [List.getElem?_map] at z1 z2
    cases y : cs[n]? with
    | none => rw [y] at z1; cases z1
    | some p =>
      rw [y] at z1 z2
      cases z1
      cases z2
      exact ⟨_, hH p (List.mem_of_getElem? y), .tab True.intro fun pos cv hcv => by
        replace hcv : codeAmong pos [] = some cv := hcv
        simp [codeAmong] at hcv⟩
  · cases ru with
    | d h => cases h; exact hQ _
theorem walk_ofL {l : PySem.W.OpenLaw} {n k : Nat} {q : Program} {loose : List Str} {XP : (Str → Option Value) → Heap → Prop} {YP : World → Heap → Prop} {d : DefRec} {K : Params → PySem.W.Frag} {CX : World → CXT} {x : Str}
    (hmost : l.most = some n) (hsize : n ≤ sizeLine) (hnodef : d.params.defaults = []) (hroom : Room k callerA) (hin : ∀ (w : World) (h : Heap), YP w h → (K w.params).In h)
    (F : ∀ (w : World) (mg : Str → Option Value) (fa : Addr) (h : Heap), YP w h → (K w.params).In h → h.Ns mainGlobals mg → mg d.name = some (.ref fa) → (∀ nm : Str, ((recsOf q).any fun e => e.name == nm) = true → ∀ ga, mg nm = some (.ref ga) → LamX.OwnTab (K w.params) ga h) → LamX.LawAtS l w (K w.params) (CX w) k n x mg fa h)
    (hnox : ∀ (w : World) (H : Hp) (s : Shared) (e : Value) (s' : Shared), CX w [] H s (fun _ _ _ => False) e s' → False) :
    PySem.W.WalkO q loose XP YP l.row.toRowW d [] (fun f vs => PySem.call f vs) := by
  refine Att.attach_callB hmost hnodef fun w s0 s1 mg mb fa ob pm cd doc a vs ns top yp hob hdat hcode hname hlist hnums hlen hbits hgens => ?_
  have inK := hin w _ yp
  have own : ∀ nm : Str, ((recsOf q).any fun e => e.name == nm) = true → ∀ ga, mg nm = some (.ref ga) → LamX.OwnTab (K w.params) ga s1.heap := fun nm hnm ga hga c P o1 f1 e1 dd us sl k1 k2 k3 k4 k5 => by
    obtain ⟨r, hr, hrn⟩ := List.any_eq_true.mp hnm
    obtain ⟨a2, o2, f2, c2, P2, g1, g2, g3, g4, g5, g6⟩ := top.T.tab r hr
    rw [beq_iff_eq.mp hrn, hga] at g1
    cases g1
    have z := inK _ _ k1
    rw [g2] at z
    cases z
    rw [k2] at g3
    cases g3
    rw [k3] at g4
    cases g4
    obtain ⟨⟨oc, vc, y1, _, y3, y4⟩, yP⟩ := g6
    have z2 := inK _ _ k4
    rw [y1] at z2
    cases z2
    cases y3
    rw [k5] at y4
    cases y4
    exact yP
  obtain ⟨fd, cs, sp, hT, nT, hC, hb, hsp, hF⟩ := F w mg fa _ yp inK top.T.g hname own
  exact LamX.law_callTs inK top.T.g top.T.b top.T.builtins top.T.nolimit hgens hT nT hC top.T.bmain hlist hnums (Nat.le_trans hlen hsize) hroom hF hb (fun H hH hS => hsp H a ns hlen hbits hH hS) fun H e s' => hnox w H s1 e s'
end M
namespace M
open PySem PySem.Spec PyProof.Rows L2
open Evl (Ex ex_rd ex_l ex_t rMax2)
open G (dpx dpax dpa_len ex_none)
/-! ### dict(pairs) with tuples as keys, known by its values; list(d.values()) -/
theorem dvP_ok {P : Program} {w : World} {H : Hp} {h : Heap} {a : Addr} {vs : List V} (x : dvP a vs h) : ObjOk P w H h a (.ext (dvP a vs)) :=
  ⟨x, (let ⟨_, _, o, _, _, e, _⟩ := x; ⟨o, e⟩), fun h1 h2 y k => let ⟨y1, y2, o, es, ep, e, r⟩ := y; ⟨y1, y2, o, es, ep, k o e, r⟩⟩
inductive PairsV (K : PySem.W.Frag) (H : Hp) : List V → List (List Key × V) → Prop
  | nil : PairsV K H [] []
  | cons {t b : Addr} {v : V} {ks : List Key} {vs : List V} {qs : List (List Key × V)} : SqT K H t [.ref b, v] → SqT K H b (ks.map kV) → PairsV K H vs qs → PairsV K H (.ref t :: vs) ((ks, v) :: qs)
def rDictP (K : PySem.W.Frag) : List V → Hp → VK → Prop := fun xs H Q => ∃ p vs qs, xs = [.ref p] ∧ SqL K H p vs ∧ PairsV K H vs qs ∧ (qs.map (·.1)).Nodup ∧ ∀ a, H a = none → Q (.ref a) (upd H a (.ext (dvP a (qs.map (·.2)))))
section
variable {X : Cx}
theorem pairsV_conc {pins : List (Addr × Obj)} {s : Shared} {σ : L2.St} {H : Hp} (I : Inv X pins σ H s) : ∀ {vs : List V} {qs : List (List Key × V)} {its : List Value}, PairsV X.K H vs qs → Vals vs its →
    ∃ (ps : List (List Key × Addr × Value)) (ts : List Addr), its = ts.map Value.ref ∧ ts.length = ps.length ∧ ps.map (·.1) = qs.map (·.1) ∧ Vals (qs.map (·.2)) (ps.map (·.2.2)) ∧ (∀ x ∈ ps, (tupleKind (mixKind X.prog X.w)).is s.heap x.1 x.2.1) ∧
      ∀ (j : Nat) (t : Addr) (x : List Key × Addr × Value), ts[j]? = some t → ps[j]? = some x → s.heap.IsTuple t #[.ref x.2.1, x.2.2]
  | _, _, _, .nil, .nil => ⟨[], [], rfl, rfl, rfl, .nil, (fun _ h => nomatch h), fun j t x e => by simp at e⟩
  | _, _, _, .cons (t := t) (b := b) (v := v) (ks := ks) h1 h2 h3, .cons (l₂ := its) r1 r2 => by
    obtain ⟨ps, ts, e1, e2, e3, e4, e5, e6⟩ := pairsV_conc I h3 r2
    cases r1
    obtain ⟨i1, u1, p1, _⟩ := I.tuple h1
    obtain ⟨i2, u2, p2, _⟩ := I.tuple h2
    obtain ⟨x1, x2, rfl, y1, y2⟩ := u1.two
    cases y1
    refine ⟨(ks, b, x2) :: ps, t :: ts, by rw [e1]; rfl, by simp [e2], by simp [e3], .cons y2 e4, fun x hx => ?_, fun j t' x z1 z2 => ?_⟩
    · rcases List.mem_cons.mp hx with rfl | hx
      · obtain ⟨o, g1, g2, n, g3⟩ := p2
        exact ⟨o, i2.toArray, n, g1, g2, g3, by simpa using items_are u2⟩
      · exact e5 x hx
    · cases j with
      | zero =>
        simp at z1 z2
        subst z1; subst z2
        obtain ⟨o, g1, g2, n, g3⟩ := p1
        exact ⟨o, g1, g2, n, g3⟩
      | succ j => exact e6 j t' x (by simpa using z1) (by simpa using z2)
theorem cr_dictP {k : Nat} (hr : Room k X.A) : CallR X (.type "dict") (rDictP X.K) := by
  intro pins s σ H xs us Q I r h
  obtain ⟨p, vs, qs, rfl, hl, hp, hn, q⟩ := h
  obtain ⟨u, rfl, rx⟩ := r.one
  cases rx
  obtain ⟨its, rv, pl, hz⟩ := I.list hl
  obtain ⟨ps, ts, e1, e2, e3, e4, e5, e6⟩ := pairsV_conc I hp rv
  have hlen : vs.length = ps.length := by rw [rv.length, e1, List.length_map, e2]
  have hnd : (ps.map (·.1)).Nodup := by rw [e3]; exact hn
  obtain ⟨o, n, g1, g2, g3, g4⟩ := pl
  refine call_dict_pairsH (knd := tupleKind (mixKind X.prog X.w)) (ps := ps) (PairArg.list p its.toArray (fun j => (ts[j]?).getD 0) (ps.map fun x => (Value.ref x.2.1, x.2.2))) hr.hd (by have := hr.un; show X.A.units + 2 < cLine; omega) ⟨⟨o, n, g1, g2, g3, g4⟩, ?_, ?_⟩ ⟨by simp, ?_⟩ ?_ (by simp; omega) ?_
  · simp [e1, e2]
  · intro j k' v' hj
    obtain ⟨x, hx, hx2⟩ := by rw [List.getElem?_map] at hj; exact Option.map_eq_some_iff.mp hj
    cases hx2
    have hjl : j < ts.length := by rw [e2]; exact (List.getElem?_eq_some_iff.mp hx).1
    refine ⟨?_, .inl ?_⟩
    · rw [List.getElem?_toArray, e1, List.getElem?_map, List.getElem?_eq_getElem hjl]
      show _ = some (Value.ref ((ts[j]?).getD 0))
      rw [List.getElem?_eq_getElem hjl]
      rfl
    · have : ts[j]? = some ts[j] := List.getElem?_eq_getElem hjl
      show s.heap.IsTuple ((ts[j]?).getD 0) _
      rw [this]
      exact e6 j _ x this hx
  · intro i key v hrel
    obtain ⟨x, hx, hx2⟩ := by
      replace hrel : (ps.map fun x => (Value.ref x.2.1, x.2.2))[i]? = some (key, v) := hrel
      rw [List.getElem?_map] at hrel; exact Option.map_eq_some_iff.mp hrel
    cases hx2
    exact ⟨x.1, x.2.1, hx, rfl⟩
  · intro h' hk x hx
    obtain ⟨o', its', n', g1', g2', g3', g4'⟩ := e5 x hx
    exact ⟨o', its', n', hk _ _ (Nat.ne_of_lt (Heap.lt_size g1')) (fun z => nomatch z) g1', g2', g3', g4'⟩
  · intro h' tk hd' hk
    rw [storedAllH_nil_of_nodup ps hnd] at hd'
    obtain ⟨o', es, ep, d1, d2, d3, d4, _, _⟩ := hd'
    refine ⟨.ref s.heap.objs.size, _, I.laid (t' := tk) (o := .ext (dvP s.heap.objs.size (qs.map (·.2)))) (fun b u e => hk b u (fun z => nomatch z) e) (Nat.le_refl _) (dvP_ok ⟨?_, ?_, o', es, ep, d1, d2, d3, ?_⟩), rfl, q _ (I.hok.fresh (Nat.le_refl _))⟩
    · have := I.big
      simp only [beq_eq_false_iff_ne, ne_eq]
      exact Nat.ne_of_gt this
    · have z1 : (qs.map (·.2)).length = ps.length := by
        have := congrArg List.length e3
        simpa using this.symm
      rw [z1, ← hlen]; exact hz
    · have : es.toList.map (·.val) = ps.map (·.2.2) := by
        rw [d4, List.map_map]
        rfl
      rw [this]
      exact e4
def viewO (p a : Addr) : HO := .ext fun h => h.IsValuesView p a
def rVals : V → List V → Hp → VK → Prop := fun x xs H Q => ∃ a vs, x = .ref a ∧ xs = [] ∧ H a = some (.ext (dvP a vs)) ∧ ∀ p, H p = none → Q (.ref p) (upd H p (viewO p a))
theorem mt_vals : MtR X "dict.values" rVals := by
  intro pins s σ H x xs v us Q I rx rxs h
  obtain ⟨a, vs, rfl, rfl, ha, q⟩ := h
  cases rx
  cases rxs
  obtain ⟨⟨y1, y2, o, es, ep, e, ex, dd, _⟩, _⟩ := (show ObjOk X.prog X.w H s.heap a (.ext (dvP a vs)) from I.hok a _ ha)
  refine call_meetsIn PySem.F.slot_dict_values ⟨o, e, ex.1⟩ PySem.F.entry_dict_values (PySem.F.args_dict_values_1 _) (meets_dict_values_raw a y1) ⟨⟨es, ep, o, e, ex, dd⟩, ?_⟩
  have hf : H s.heap.objs.size = none := I.hok.fresh (Nat.le_refl _)
  exact ⟨.ref s.heap.objs.size, upd H s.heap.objs.size (viewO s.heap.objs.size a), I.laid (t' := s.toks) (fun b u e => Heap.get?_push_of_some _ e) (Nat.le_refl _) ⟨⟨_, Heap.get?_push_size _ rfl, rfl, rfl⟩, ⟨_, Heap.get?_push_size _ rfl⟩, fun h1 h2 x k => let ⟨o, ho, r⟩ := x; ⟨o, k o ho, r⟩⟩, rfl, q _ hf⟩
def tVals (to : TE) : TE := fun σ H Q => to σ H fun x H1 => rVals x [] H1 Q
theorem pe_vals {o : Expr} {to : TE} {apos cpos : Pos} (ho : PE X o to) (hbase : attributeBase o "values" X.env (eval o X.env) = eval o X.env := by rfl) (hline : (apos.endLine == cpos.line) = true := by rfl) : PE X (.Call (.Attribute o "values" apos) [] [] cpos) (tVals to) := by
  refine ⟨fun pins s σ H Q I h => ?_⟩
  refine wpAny_Call_method0_late hbase hline (thn (ho.run pins s σ H _ I h) fun v s1 ⟨x, H1, I1, r1, q1⟩ => ?_)
  obtain ⟨a, vs, rfl, _, ha, q2⟩ := id q1
  cases r1
  obtain ⟨⟨y1, y2, ob, es, ep, e, ex, dd, _⟩, _⟩ := (show ObjOk X.prog X.w H1 s1.heap a (.ext (dvP a vs)) from I1.hok a _ ha)
  exact ⟨"dict", "dict.values", PySem.F.plainAttrs_dict, PySem.F.slot_dict_values, PySem.F.type_dict_values, ⟨ob, e, ex.1⟩, (fun b eb => by cases eb; exact ⟨ob, e, ex.2.1⟩), Calls.callWith_builtin rfl (PySem.evalArgs_none (mt_vals pins s1 σ H1 (.ref a) [] (.ref a) [] Q I1 rfl .nil q1))⟩
def rListV : List V → Hp → VK → Prop := fun xs H Q => ∃ p a vs, xs = [.ref p] ∧ H p = some (viewO p a) ∧ H a = some (.ext (dvP a vs)) ∧ ∀ l, H l = none → Q (.ref l) (upd H l (.lst vs))
theorem cr_listV {k : Nat} (hr : Room k X.A) : CallR X (.type "list") rListV := by
  intro pins s σ H xs us Q I r h
  obtain ⟨p, a, vs, rfl, hp, ha, q⟩ := h
  obtain ⟨u, rfl, rx⟩ := r.one
  cases rx
  obtain ⟨⟨y1, y2, o, es, ep, e, ex, dd, rv⟩, _⟩ := (show ObjOk X.prog X.w H s.heap a (.ext (dvP a vs)) from I.hok a _ ha)
  obtain ⟨hv, _⟩ := (show ObjOk X.prog X.w H s.heap p (viewO p a) from I.hok p _ hp)
  have hl : vs.length = es.size := by rw [rv.length]; simp
  refine PySem.W.kdl_call (PySem.KdlSrc.rawValues (ep := ep)) hr.hd ⟨hv, o, e, ex, dd⟩ (by omega) fun h' tk acc' c' kp e' it => ?_
  have ea : acc'.toList = es.toList.map (·.val) := by
    apply List.ext_getElem?
    intro j
    rw [List.getElem?_map]
    cases hj : acc'.toList[j]? with
    | none =>
      have h1 := List.getElem?_eq_none_iff.mp hj
      rw [Array.length_toList, it.1] at h1
      rw [List.getElem?_eq_none (by rw [Array.length_toList]; exact h1)]
      rfl
    | some v =>
      obtain ⟨hi, hv'⟩ := it.2 j v (by rw [← Array.getElem?_toList]; exact hj)
      rw [List.getElem?_eq_getElem (by rw [Array.length_toList]; exact hi), hv']
      simp
  refine ⟨.ref s.heap.objs.size, _, I.laid (t' := tk) (o := .lst vs) kp (Nat.le_refl _) ?_, rfl, q _ (I.hok.fresh (Nat.le_refl _))⟩
  exact ⟨y2, acc'.toList, c', by rw [ea]; exact rv, by rw [Array.toArray_toList]; exact e'⟩
end
/-! ### in the model -/
def keysOf : List PyData → Option (List Key)
  | [] => some []
  | .int i :: r => (keysOf r).map (Sum.inl i :: ·)
  | .str s :: r => (keysOf r).map (Sum.inr s :: ·)
  | _ => none
def pairsD : List PyData → Option (List (List Key × PyData))
  | [] => some []
  | .tuple [.tuple ks, v] :: r => (keysOf ks).bind fun k => (pairsD r).map ((k, v) :: ·)
  | _ => none
theorem keysOf_ok {K : PySem.W.Frag} {C : Hp} : ∀ {ds : List PyData} {ks : List Key} {vs : List V}, keysOf ds = some ks → DpAll K C vs ds → vs = ks.map kV
  | [], ks, vs, e, h => by cases e; cases h; rfl
  | .int i :: r, ks, vs, e, h => by
    obtain ⟨k', e1, e2⟩ := map_of e
    cases e2
    cases h with
    | cons h1 h2 => cases h1; rw [keysOf_ok e1 h2]; rfl
  | .str s :: r, ks, vs, e, h => by
    obtain ⟨k', e1, e2⟩ := map_of e
    cases e2
    cases h with
    | cons h1 h2 => cases h1; rw [keysOf_ok e1 h2]; rfl
  | .none :: _, _, _, e, _ => by cases e
  | .bool _ :: _, _, _, e, _ => by cases e
  | .list _ :: _, _, _, e, _ => by cases e
  | .tuple _ :: _, _, _, e, _ => by cases e
  | .dict _ :: _, _, _, e, _ => by cases e
theorem pairsD_ok {K : PySem.W.Frag} {C H : Hp} (hx : Ex C H) : ∀ {ds : List PyData} {qs : List (List Key × PyData)} {vs : List V}, pairsD ds = some qs → DpAll K C vs ds → ∃ ws, PairsV K H vs ws ∧ ws.map (·.1) = qs.map (·.1) ∧ DpAll K C (ws.map (·.2)) (qs.map (·.2)) := by
  intro ds
  induction ds with
  | nil => intro qs vs e h; cases e; cases h; exact ⟨[], .nil, rfl, .nil⟩
  | cons d r ih =>
    intro qs vs e h
    unfold pairsD at e
    split at e
    · rename_i z; cases z
    · rename_i ks v r' z
      cases z
      obtain ⟨k, e1, e⟩ := bind_of e
      obtain ⟨q', e2, e⟩ := map_of e
      cases e
      cases h with
      | cons h1 h2 =>
        obtain ⟨ws, w1, w2, w3⟩ := ih e2 h2
        cases h1 with
        | tup s1 a1 =>
          cases a1 with
          | cons b1 b2 =>
            cases b2 with
            | cons b2 b3 =>
              cases b3
              cases b1 with
              | tup s2 a2 =>
                have := keysOf_ok e1 a2
                subst this
                exact ⟨_ :: ws, .cons (ex_t hx s1) (ex_t hx s2) w1, by simp [w2], .cons b2 w3⟩
    · cases e
def mDictP : MCa := fun xs h => (arg1 xs).bind fun x => if isT x = false then (itemsOf h x).bind fun ys => (allD ys).bind fun ds => (pairsD ds).bind fun qs => if (qs.map (·.1)).Nodup then some (.ref h.length, h ++ [.dv ((qs.map (·.2)).map .d)]) else none else none
theorem sc_dictP {K : PySem.W.Frag} : SimC K (rDictP K) mDictP := fun w h us xs v h' rl ra e Q q => by
  obtain ⟨x, e1, e⟩ := bind_of e
  split at e
  · rename_i ht
    obtain ⟨ys, e2, e⟩ := bind_of e
    obtain ⟨ds, e3, e⟩ := bind_of e
    obtain ⟨qs, e4, e⟩ := bind_of e
    split at e
    · rename_i hn
      cases e
      rw [arg1_of e1] at ra
      obtain ⟨u, rfl, rx⟩ := ra.one
      obtain ⟨p, vs, rfl, sq, rp⟩ := items_L rl rx e2 ht
      rw [allD_eq e3] at rp
      obtain ⟨ws, w1, w2, w3⟩ := pairsD_ok rl.ch e4 rp.toD
      refine ⟨p, vs, ws, rfl, sq, w1, by rw [w2]; exact hn, fun a ha => ?_⟩
      obtain ⟨s, r, g⟩ := alloc_ok (o := .ext (dvP a (ws.map (·.2)))) (b := .dv ((qs.map (·.2)).map .d)) rl ha (.dv ((RepA.ofD w3).mono (List.prefix_append _ _) fun _ _ z => z))
      exact q (w.alloc a _) (.ref a) s r (.ref g)
    · cases e
  · cases e
def asDv (h : MH) : MV → Option (List MV)
  | .ref n => match h[n]? with
    | some (.dv xs) => some xs
    | _ => none
  | _ => none
theorem asDv_of {h : MH} {v : MV} {xs : List MV} (e : asDv h v = some xs) : ∃ n, v = .ref n ∧ h[n]? = some (.dv xs) := by
  cases v with
  | ref m =>
    unfold asDv at e
    cases e1 : h[m]? with
    | none => simp only [e1] at e; cases e
    | some b =>
      cases b with
      | dv ys => simp only [e1] at e; cases e; exact ⟨m, rfl, e1⟩
      | _ => simp only [e1] at e; cases e
  | d _ => cases e
  | tup _ => cases e
def tListVals (to : TE) : TE := tCB rListV (tCons (tVals to) tNil)
def mListVals (me : ME) : MA := fun env h => (me env h).bind fun r => (asDv r.2 r.1).map fun xs => (xs, r.2)
theorem pe_listVals {X : Cx} {k : Nat} {o : Expr} {to : TE} {p pos apos cpos : Pos} (hr : Room k X.A) (hg : Gl X "list") (hm : X.mg "list" = none) (ho : PE X o to) (hbase : attributeBase o "values" X.env (eval o X.env) = eval o X.env) (hline : (apos.endLine == cpos.line) = true)
    (h1 : starEach [(.Call (.Attribute o "values" apos) [] [] cpos)] X.env = (false, eval (.Call (.Attribute o "values" apos) [] [] cpos) X.env) :: starEach [] X.env) (h2 : (backTo pos (starEach [] X.env)).any (·.1) = false) : PE X (.Call (.Name "list" p) [.Call (.Attribute o "values" apos) [] [] cpos] [] pos) (tListVals to) :=
  pe_callTy (cr_listV hr) hg hm (by decide +kernel) (pa_cons (pe_vals ho hbase hline) pa_nil)
theorem sm_listVals {K : PySem.W.Frag} {te : TE} {me : ME} (ha : SimE K te me) : SimF K (tListVals te) (mListVals me) := fun w h0 σ env xs h' rl re e Q qq => by
  obtain ⟨⟨x, h1⟩, e1, e⟩ := bind_of e
  obtain ⟨ys, e2, e⟩ := map_of e
  cases e
  refine ha w h0 σ env x _ rl re e1 _ fun w1 u s1 r1 rx => ?_
  obtain ⟨n, rfl, en⟩ := asDv_of e2
  obtain ⟨a, o, z1, z2, z3, z4⟩ := r1.look rx en
  cases z4 with
  | dv z4 =>
    rename_i vs
    refine ⟨a, vs, z1, rfl, z3, fun p hp => ?_⟩
    obtain ⟨s2, r2⟩ := fresh_ok (o := viewO p a) r1 hp
    have nap : a ≠ p := fun z => by rw [z, hp] at z3; cases z3
    refine ⟨p, a, vs, rfl, upd_same, by rw [upd_ne nap]; exact z3, fun l hl => ?_⟩
    obtain ⟨s3, r3⟩ := fresh_ok (o := .lst vs) r2 hl
    have sA := (s1.trans s2).trans s3
    have hq0 : w.H l = none := by
      cases z : w.H l with
      | none => rfl
      | some o => exact absurd hl ((s1.trans s2).kp l (by rw [z]; exact fun q => nomatch q))
    exact qq _ l _ sA r3 hq0 upd_same (r2.notin hl) (r2.cnone hl) (z4.mono (List.prefix_refl _) (fun _ _ z => z))
end M
namespace M
open PySem PySem.Spec PyProof.Rows L2
open Evl (Ex ex_rd ex_l ex_t rMax2)
open G (dpx dpax dpa_len ex_none)
/-! ### a dict of the module with text keys -/
inductive TabIs (K : PySem.W.Frag) : List DictEntry → List (Str × PyData) → Prop
  | nil : TabIs K [] []
  | cons {i : Int} {x : Str} {t : Tok} {u : Value} {d : PyData} {es : List DictEntry} {tab : List (Str × PyData)} : GlV K u d → TabIs K es tab → TabIs K (⟨i, .str x t, u⟩ :: es) ((x, d) :: tab)
def TabAt (K : PySem.W.Frag) (a : Addr) (tab : List (Str × PyData)) : Prop := ∀ z, match valG tab z with
  | some d => ∃ u, PySem.W.nsIn K a z = some (some u) ∧ GlV K u d
  | none => PySem.W.nsIn K a z = some none
theorem tabIs_find {K : PySem.W.Frag} (z : Str) : ∀ {es : List DictEntry} {tab : List (Str × PyData)}, TabIs K es tab → (match es.find? (·.key.isStr z) with
    | some e => ∃ d, valG tab z = some d ∧ GlV K e.val d
    | none => valG tab z = none) ∧ es.any (·.refKey) = false
  | _, _, .nil => ⟨rfl, rfl⟩
  | _, _, .cons (x := x) (t := t) (u := u) (d := d) (tab := tab) g r => by
    obtain ⟨h1, h2⟩ := tabIs_find z r
    refine ⟨?_, by rw [List.any_cons, h2]; rfl⟩
    rw [List.find?_cons, valG]
    by_cases e : x = z
    · subst e
      rw [show (Value.str x t).isStr x = true by simp [Value.isStr]]
      simp only [if_true]
      exact ⟨d, rfl, g⟩
    · rw [show (Value.str x t).isStr z = false by simp [Value.isStr, e]]
      rw [if_neg e]
      exact h1
theorem tabAt_of {K : PySem.W.Frag} {a : Addr} {es : Array DictEntry} {n : Nat} {od : Option Addr} {c : Value} {sl : Array (Option Value)} {tab : List (Str × PyData)} (h : K.lookup a = some ⟨c, od, .dict es n, sl⟩) (t : TabIs K es.toList tab) : TabAt K a tab := fun z => by
  obtain ⟨h1, h2⟩ := tabIs_find z t
  unfold PySem.W.nsIn
  rw [h]
  cases e : es.toList.find? (·.key.isStr z) with
  | some en =>
    rw [e] at h1
    obtain ⟨d, g1, g2⟩ := h1
    rw [g1]
    exact ⟨en.val, by simp only [e], g2⟩
  | none =>
    rw [e] at h1
    replace h1 : valG tab z = none := h1
    rw [h1]
    simp only [e, h2]
    rfl
def GlT (w : World) (K : PySem.W.Frag) (mg : Str → Option Value) (x : Str) (tab : List (Str × PyData)) : Prop := ∃ d es n, mg x = some (.ref d) ∧ KDict K w d es n ∧ TabAt K d tab
def tKIx (K : PySem.W.Frag) (tab : List (Str × PyData)) (te : TE) : TE := fun σ H Q => te σ H fun y H1 => ∃ z d, y = .str z ∧ valG tab z = some d ∧ ∀ v, (∀ C, Dp K C v d) → Q v H1
def tKIn (neg : Bool) (tab : List (Str × PyData)) (te : TE) : TE := fun σ H Q => te σ H fun y H1 => ∃ z, y = .str z ∧ Q (.bl (if neg = true then !(valG tab z).isSome else (valG tab z).isSome)) H1
section
variable {X : Cx} {x : Str} {tab : List (Str × PyData)} {i : Expr} {te : TE} {p pos : Pos}
theorem pe_glR {d : Addr} (hg : Gl X x) (hm : X.mg x = some (.ref d)) (hd : (x == ("__debug__" : Str)) = false) : PE X (.Name x pos) (fun _ H Q => Q (.ref d) H) :=
  ⟨fun _ _ _ H _ I q => ld_glob I hg hm ⟨.ref d, H, I, rfl, q⟩ hd⟩
theorem pe_kix (hg : Gl X x) (G : GlT X.w X.K X.mg x tab) (hi : PE X i te) (hs : NoSl i) (hd : (x == ("__debug__" : Str)) = false := by decide) : PE X (.Subscript (.Name x p) i pos) (tKIx X.K tab te) := by
  obtain ⟨d, es, n, hm, D, T⟩ := G
  have ho : PE X (.Name x p) (fun _ H Q => Q (.ref d) H) := pe_glR hg hm hd
  refine ⟨fun pins s σ H Q I h => ?_⟩
  refine subD_of PySem.F.slot_dict_getitem.lookup hs (thn (ho.run pins s σ H (fun y H1 => y = .ref d ∧ H1 = H) I ⟨rfl, rfl⟩) fun u s1 ⟨y0, H1, I1, rx, e1, e2⟩ => ?_)
  subst e1
  subst e2
  obtain rfl : u = Value.ref d := rx
  refine thn (hi.run pins s1 σ _ _ I1 h) fun iv s2 ⟨y, H2, I2, ry, z, dd, ey, g, q2⟩ => ?_
  subst ey
  have tz := T z
  rw [g] at tz
  obtain ⟨u0, g1, v0, g2, g3⟩ := tz
  exact ⟨kd_type D I2, op_item_kd D pins s2 σ H2 (.ref d) (.str z) (.ref d) iv Q I2 rfl ry ⟨z, u0, v0, rfl, rfl, g1, g2, q2 v0 g3⟩⟩
theorem ns_some {K : PySem.W.Frag} {d : Addr} (T : TabAt K d tab) (z : Str) : ∃ r, PySem.W.nsIn K d z = some r ∧ r.isSome = (valG tab z).isSome := by
  have tz := T z
  cases e : valG tab z with
  | some dd =>
    rw [e] at tz
    obtain ⟨u, g, _⟩ := tz
    exact ⟨some u, g, rfl⟩
  | none =>
    rw [e] at tz
    exact ⟨none, tz, rfl⟩
theorem pc_kin (hg : Gl X x) (G : GlT X.w X.K X.mg x tab) (hi : PE X i te) (hd : (x == ("__debug__" : Str)) = false := by decide) : PC X .In i (.Name x p) (tKIn false tab te) := by
  obtain ⟨d, es, n, hm, D, T⟩ := G
  have ho : PE X (.Name x p) (fun _ H Q => Q (.ref d) H) := pe_glR hg hm hd
  refine ⟨fun pins s σ H Q I h => ?_⟩
  refine thn (hi.run pins s σ H _ I h) fun iv s1 ⟨y, H1, I1, ry, z, ey, q1⟩ => thn (ho.run pins s1 σ H1 (fun y0 H2 => y0 = .ref d ∧ H2 = H1) I1 ⟨rfl, rfl⟩) fun u s2 ⟨y0, H2, I2, rx, e1, e2⟩ => ?_
  subst e1
  subst e2
  subst ey
  obtain ⟨r, g1, g2⟩ := ns_some T z
  exact op_in_kd D pins s2 σ _ (.str z) (.ref d) iv u Q I2 ry rx ⟨z, r, rfl, rfl, g1, by rw [g2]; exact q1⟩
theorem pc_knotin (hg : Gl X x) (G : GlT X.w X.K X.mg x tab) (hi : PE X i te) (hd : (x == ("__debug__" : Str)) = false := by decide) : PC X .NotIn i (.Name x p) (tKIn true tab te) := by
  obtain ⟨d, es, n, hm, D, T⟩ := G
  have ho : PE X (.Name x p) (fun _ H Q => Q (.ref d) H) := pe_glR hg hm hd
  refine ⟨fun pins s σ H Q I h => ?_⟩
  refine thn (hi.run pins s σ H _ I h) fun iv s1 ⟨y, H1, I1, ry, z, ey, q1⟩ => thn (ho.run pins s1 σ H1 (fun y0 H2 => y0 = .ref d ∧ H2 = H1) I1 ⟨rfl, rfl⟩) fun u s2 ⟨y0, H2, I2, rx, e1, e2⟩ => ?_
  subst e1
  subst e2
  subst ey
  obtain ⟨r, g1, g2⟩ := ns_some T z
  exact op_notIn_kd D pins s2 σ _ (.str z) (.ref d) iv u Q I2 ry rx ⟨z, r, rfl, rfl, g1, by rw [g2]; exact q1⟩
end
def asS : MV → Option Str
  | .d (.str z) => some z
  | _ => none
theorem asS_rep {K : PySem.W.Frag} {ι : List Addr} {C : Hp} {v : V} {x : MV} {z : Str} (r : Rep K ι C v x) (e : asS x = some z) : v = .str z := by
  cases x with
  | d p =>
    cases p with
    | str s => cases e; cases r with | d r => cases r; rfl
    | _ => cases e
  | _ => cases e
def mKIx (tab : List (Str × PyData)) (me : ME) : ME := fun env h => (me env h).bind fun r => (asS r.1).bind fun z => (valG tab z).map fun d => (.d d, r.2)
def mKIn (neg : Bool) (tab : List (Str × PyData)) (me : ME) : ME := fun env h => (me env h).bind fun r => (asS r.1).map fun z => (.d (.bool (if neg = true then !(valG tab z).isSome else (valG tab z).isSome)), r.2)
section
variable {K : PySem.W.Frag} {te : TE} {me : ME}
theorem sm_kix {tab : List (Str × PyData)} (he : SimE K te me) : SimE K (tKIx K tab te) (mKIx tab me) := fun w h σ env v h' rl re e Q q => by
  obtain ⟨⟨a, h1⟩, e1, e⟩ := bind_of e
  obtain ⟨z, e2, e⟩ := bind_of e
  obtain ⟨d, e3, e⟩ := map_of e
  cases e
  exact he w h σ env a _ rl re e1 _ fun w1 u1 s1 r1 x1 => ⟨z, d, asS_rep x1 e2, e3, fun v dv => q w1 v s1 r1 (.d (dv _))⟩
theorem sm_kin {neg : Bool} {tab : List (Str × PyData)} (he : SimE K te me) : SimE K (tKIn neg tab te) (mKIn neg tab me) := fun w h σ env v h' rl re e Q q => by
  obtain ⟨⟨a, h1⟩, e1, e⟩ := bind_of e
  obtain ⟨z, e2, e⟩ := map_of e
  cases e
  exact he w h σ env a _ rl re e1 _ fun w1 u1 s1 r1 x1 => ⟨z, asS_rep x1 e2, q w1 _ s1 r1 (.d (.bl _))⟩
/-! ### texts -/
def chM (z : Str) : List MV := z.cps.toList.map fun c => .d (.str ⟨#[c]⟩)
def mItS (me : ME) : MI := fun env h => (me env h).bind fun r => (asS r.1).map fun z => (([], chM z), r.2)
theorem si_str (he : SimE K te me) : SimI K (iStr te) (mItS me) := fun w h0 σ env si h' rl re e R q => by
  obtain ⟨⟨a, h1⟩, e1, e⟩ := bind_of e
  obtain ⟨z, e2, e⟩ := map_of e
  cases e
  refine he w h0 σ env a _ rl re e1 _ fun w1 u s1 r1 x1 => ⟨z, asS_rep x1 e2, q w1 _ s1 r1 fun w2 h2 s2 r2 hs => ⟨?_, fun i x ex => ?_⟩⟩
  · show z.cps.size ≤ (chM z).length
    simp [chM]
  · have hl : i < z.cps.size := by
      have := (List.getElem?_eq_some_iff.mp ex).1
      simpa [chM] using this
    refine ⟨hl, fun u' H' y => ?_⟩
    obtain ⟨rfl, c, hc, rfl⟩ := y
    have hx : x = .d (.str ⟨#[c]⟩) := by
      unfold chM at ex
      rw [List.getElem?_map, Array.getElem?_toList, hc] at ex
      cases ex
      rfl
    subst hx
    exact same_step r2 (.d (.str _))
def mIxS : MO2 := fun a b h => (asS a).bind fun z => (asI b).bind fun i => if z.length ≤ 1000 then (atI z.cps.toList i).map fun c => (.d (.str ⟨#[c]⟩), h) else none
theorem sr_ixS : SimR K (rIx K) mIxS := fun w h x y a b v h' rl rx ry e Q q => by
  obtain ⟨z, e1, e⟩ := bind_of e
  obtain ⟨i, e2, e⟩ := bind_of e
  split at e
  · rename_i hz
    obtain ⟨c, e3, e⟩ := map_of e
    cases e
    exact .inr (.inr ⟨z, i, c, asS_rep rx e1, asI_rep ry e2, Nat.le_trans hz (by rw [sizeLine_eq]; decide), e3, q w _ (.refl _) rl (.d (.str _))⟩)
  · cases e
def rLenS : List V → Hp → VK → Prop := fun xs H Q => ∃ z : Str, xs = [.str z] ∧ z.length ≤ sizeLine ∧ Q (.int z.length) H
theorem cr_lenS {X : Cx} : CallR X (.builtin "len") rLenS := call_len_str
def mLenS : MCa := fun xs h => (arg1 xs).bind fun x => (asS x).bind fun z => if z.length ≤ 1000 then some (.d (.int z.length), h) else none
theorem sc_lenS : SimC K rLenS mLenS := fun w h us xs v h' rl ra e Q q => by
  obtain ⟨x, e1, e⟩ := bind_of e
  obtain ⟨z, e2, e⟩ := bind_of e
  split at e
  · rename_i hz
    cases e
    rw [arg1_of e1] at ra
    obtain ⟨u, rfl, rx⟩ := ra.one
    exact ⟨z, by rw [asS_rep rx e2], Nat.le_trans hz (by rw [sizeLine_eq]; decide), q w _ (.refl _) rl (.d (.int _))⟩
  · cases e
/-! ### d.get(k); is True, is not False -/
def mDGet1 (md mk : ME) : ME := fun env h => (md env h).bind fun d => (asK d.2 d.1).bind fun _ => (mk env d.2).bind fun k => (asK k.2 d.1).bind fun t => (keyOf k.1).map fun y => ((valG t.2 y).getD (.d .none), k.2)
theorem sm_dget1 {td ty : TE} {md mk : ME} (hd : SimE K td md) (hk : SimE K ty mk) : SimE K (tDGet1 td ty) (mDGet1 md mk) := fun w h σ env v h' rl re e Q q => by
  obtain ⟨⟨a, h1⟩, e1, e⟩ := bind_of e
  obtain ⟨⟨n0, kws0⟩, e0, e⟩ := bind_of e
  obtain ⟨⟨b, h2⟩, e2, e⟩ := bind_of e
  obtain ⟨⟨n, kws⟩, e3, e⟩ := bind_of e
  obtain ⟨y, e4, e⟩ := map_of e
  cases e
  refine hd w h σ env a h1 rl re e1 _ fun w1 u1 s1 r1 x1 => ?_
  obtain ⟨a0, kvs0, rfl, f1, f2, f3⟩ := asK_ok r1 x1 e0
  refine ⟨a0, rfl, .inl ⟨kvs0, .inl f2⟩, hk w1 h1 σ env b _ r1 (re.up s1) e2 _ fun w2 u2 s2 r2 x2 => ?_⟩
  obtain ⟨ad, kvs, hu, g1, g2, g3⟩ := asK_ok r2 (x1.up s2) e3
  cases hu
  have := keyOf_ok x2 e4
  subst this
  exact ⟨_, .inl ⟨kvs, y, .inl g2, rfl, rfl⟩, q w2 _ (s1.trans s2) r2 (getD_rep g3 y (.d .non))⟩
def mIsB (neg : Bool) : MO2 := fun a b h => match a, b with
  | .d (.bool x), .d (.bool y) => some (.d (.bool (if neg = true then !decide (x = y) else decide (x = y))), h)
  | _, _ => none
theorem bool_rep {ι : List Addr} {C : Hp} {v : V} {x : Bool} (r : Rep K ι C v (.d (.bool x))) : v = .bl x := by
  cases r with | d r => cases r; rfl
theorem isB_of {neg : Bool} {a b v : MV} {h h' : MH} (e : mIsB neg a b h = some (v, h')) : ∃ x y, a = .d (.bool x) ∧ b = .d (.bool y) ∧ v = .d (.bool (if neg = true then !decide (x = y) else decide (x = y))) ∧ h' = h := by
  unfold mIsB at e
  split at e
  · cases e; exact ⟨_, _, rfl, rfl, rfl, rfl⟩
  · cases e
theorem sr_isB : SimR K rIsB (mIsB false) := fun w h x y a b v h' rl rx ry e Q q => by
  obtain ⟨p, r, rfl, rfl, rfl, rfl⟩ := isB_of e
  exact ⟨p, r, bool_rep rx, bool_rep ry, q w _ (.refl _) rl (.d (.bl _))⟩
theorem sr_notB : SimR K rNotB (mIsB true) := fun w h x y a b v h' rl rx ry e Q q => by
  obtain ⟨p, r, rfl, rfl, rfl, rfl⟩ := isB_of e
  exact ⟨p, r, bool_rep rx, bool_rep ry, q w _ (.refl _) rl (.d (.bl _))⟩
end
end M
namespace M
open PySem PySem.Spec PyProof.Rows L2
open Evl (Ex ex_rd ex_l ex_t rMax2)
open G (dpx dpax dpa_len ex_none)
/-! ### xs.pop(0) as a statement; max(xs) of a list of ints -/
def mPop0 (mo : ME) : MS := fun env h => (mo env h).bind fun o => (asL o.2 o.1).bind fun l => match l.2 with
  | [] => none
  | _ :: r => some (.nx env (o.2.set l.1 (.lst r)))
section
variable {K : PySem.W.Frag} {to_ : TE} {mo : ME}
theorem ss_pop0 (h1 : SimE K to_ mo) : SimS K (tDrop (tBM K "list" rPopAt to_ (tCons (tC (.int 0)) tNil))) (mPop0 mo) := fun D w h σ env r rl re e p => by
  obtain ⟨⟨o, hh1⟩, e1, e⟩ := bind_of e
  obtain ⟨⟨n, xs⟩, e4, e⟩ := bind_of e
  cases xs with
  | nil => cases e
  | cons x rest =>
    cases e
    obtain ⟨eo, ex⟩ := asL_of e4
    simp only at eo ex
    subst eo
    refine h1 w h σ env _ hh1 rl re e1 _ fun w1 u1 s1 r1 x1 => ?_
    obtain ⟨a, vs0, rfl, g01, g02, g03⟩ := r1.lst x1 ex
    cases g03 with
    | cons q1 q2 =>
      rename_i v vs
      refine ⟨.inl ⟨rfl, _, .inl (.inl g02)⟩, ?_⟩
      obtain ⟨s4, r4⟩ := write_ok (o := .lst vs) r1 g01 (.lst q2) (by rw [g02]; exact fun _ _ z => nomatch z)
      have ss := s1.trans s4
      refine ⟨a, v :: vs, 0, 0, v, rfl, rfl, g02, by decide, by decide, ?_, rfl, p (w1.write a _) σ ss r4 (re.up ss)⟩
      rw [List.length_cons]
      unfold seqIndex?
      simp
      try omega
def maxI : List Int → Int
  | [] => 0
  | [x] => x
  | x :: xs => max x (maxI xs)
theorem maxI_ge : ∀ {xs : List Int} {y : Int}, y ∈ xs → y ≤ maxI xs
  | [x], y, h => by rw [List.mem_singleton.mp h]; exact Int.le_refl _
  | x :: z :: xs, y, h => by
    rw [maxI]
    rcases List.mem_cons.mp h with rfl | h
    · exact Int.le_max_left _ _
    · exact Int.le_trans (maxI_ge h) (Int.le_max_right _ _)
    · simp
theorem maxI_mem : ∀ {xs : List Int}, xs ≠ [] → maxI xs ∈ xs
  | [x], _ => by rw [maxI]; exact List.mem_singleton.mpr rfl
  | x :: z :: xs, _ => by
    rw [maxI]
    · have ih := maxI_mem (xs := z :: xs) (by simp)
      rcases Int.le_total x (maxI (z :: xs)) with h | h
      · rw [Int.max_eq_right h]; exact List.mem_cons_of_mem _ ih
      · rw [Int.max_eq_left h]; exact List.mem_cons_self
    · simp
def mMaxL : MCa := fun xs h => (arg1 xs).bind fun x => if isT x = false then (itemsOf h x).bind fun ys => (intsOf ys).bind fun ns => if ns ≠ [] then some (.d (.int (maxI ns)), h) else none else none
theorem sc_maxL : SimC K (rMax K) mMaxL := fun w h us xs v h' rl ra e Q q => by
  obtain ⟨x, e1, e⟩ := bind_of e
  split at e
  · rename_i ht
    obtain ⟨ys, e2, e⟩ := bind_of e
    obtain ⟨ns, e3, e⟩ := bind_of e
    split at e
    · rename_i hne
      cases e
      rw [arg1_of e1] at ra
      obtain ⟨u, rfl, rx⟩ := ra.one
      obtain ⟨p, vs, rfl, sq, rp⟩ := items_L rl rx e2 ht
      rw [intsOf_eq e3] at rp
      rw [rep_ints rp] at sq
      refine ⟨p, ns, rfl, sq, List.length_pos_iff.mpr hne, fun m hm hy => ?_⟩
      have : m = maxI ns := Int.le_antisymm (maxI_ge hm) (hy _ (maxI_mem hne))
      rw [this]
      exact q w _ (.refl _) rl (.d (.int _))
    · cases e
  · cases e
end
/-! ### slices in a key -/
def fSl (f : PyData → Option PyData) (j : Nat) : PyData → Option PyData := fun d => (f d).bind fun r => match r with
  | .tuple ds => if j < ds.length ∧ ds.length ≤ 1000 then some (.tuple (ds.take j)) else none
  | _ => none
theorem readsAll_take : ∀ {h : Heap} {vs : List Value} {ds : List PyData} {as : List Addr} (j : Nat), ReadsAll h vs ds as → ∃ bs, ReadsAll h (vs.take j) (ds.take j) bs
  | _, _, _, _, 0, _ => ⟨[], .nil⟩
  | _, _, _, _, _ + 1, .nil => ⟨[], .nil⟩
  | _, _, _, _, j + 1, .cons r rs => by
    obtain ⟨bs, h1⟩ := readsAll_take j rs
    exact ⟨_, .cons r h1⟩
theorem kb_sl {prog : Program} {w : World} {sc : Scope} {x : Str} {e : Expr} {f : PyData → Option PyData} {j k : Nat} {p p2 p3 : Pos} (h : KB prog w sc x e f) (hj : j < 1000) : KB prog w sc x (.Subscript e (.Slice none (some (.Constant (.int (j : Int)) k p)) none p2) p3) (fSl f j) := fun env A E v d r as s m Q es hn hm rd hf q => by
  obtain ⟨t, e1, e2⟩ := bind_of hf
  refine Subscript_ (h env A E v d t as s m _ es hn hm rd e1 fun u bs h' tk kp ru => ?_)
  refine wpAny_Slice ?_
  rw [evalPart_none]
  refine wpAny_pure ?_
  rw [evalPart_some]
  refine wpAny_Constant_int ?_
  refine wpAny_pure ?_
  split at e2
  · rename_i ds
    split at e2
    · rename_i hz
      cases e2
      cases ru with
      | tuple ho hc hd ra =>
        rename_i a o vs n
        have kp2 : ∀ z : Obj, Keep h' (h'.push z) := fun z b o e => Heap.get?_push_of_some _ e
        have kp3 : ∀ z y : Obj, Keep h' ((h'.push z).push y) := fun z y b o e => Heap.get?_push_of_some _ (Heap.get?_push_of_some _ e)
        have ht : IsTup h' a vs := ⟨o, ho, hc, n, hd⟩
        have hl : vs.toList.length = ds.length := readsAll_len ra
        rw [Array.length_toList] at hl
        refine tail_any (ops := [.ref h'.objs.size, .ref a]) (T := "tuple") ⟨o, kp2 _ a o ho, hc⟩ slot_tuple_getitem.lookup (HT.getItem_tuple_cut (lo := none) (hi := some (j : Int)) ⟨o, kp2 _ a o ho, hc, n, hd⟩ (Heap.IsSliceOf.new ..) .none (.int _ _) ?_ ?_ (by rw [sizeLine_eq]; omega)) (by with_unfolding_all rfl)
        · rw [hl, HT.sIx_nat]
          omega
        · rw [hl, HT.sIx_nat, HT.sIx_none]
          obtain ⟨cs, hcs⟩ := readsAll_take j ra
          refine q _ cs _ _ (kp.trans (kp3 _ _)) (.tuple (Heap.get?_push_size _ rfl) rfl rfl ?_)
          have e3 : min j ds.length - 0 = j := by omega
          rw [e3, List.drop_zero]
          simpa using readsAll_keeps (kp3 _ _) hcs
    · cases e2
  · cases e2
/-! ### sorted(set(xs)), xs a list or a tuple -/
def rSetX (w : World) (K : PySem.W.Frag) : List V → Hp → VK → Prop := fun vs H Q => ∃ (a : Addr) (ns : List Int), vs = [V.ref a] ∧ (SqL K H a (ns.map V.int) ∨ SqT K H a (ns.map V.int)) ∧ ns.length + 1 < scanBound ∧ ∀ (p : Addr) (n : Nat), n ≤ ns.length → H p = none → Q (.ref p) (upd H p (SetO w p (fun j => decide (j ∈ ns)) n))
def tSoSetX (K : PySem.W.Frag) (t : TA) : TE := fun σ H Q => ∀ w : World, tCB (rSortedSet w) (tCons (tCB (rSetX w K) t) tNil) σ H Q
section
variable {X : Cx}
theorem cr_setX (hc : X.calm = true) : CallR X (.type "set") (rSetX X.w X.K) := by
  intro pins s σ H vs us Q I r h
  obtain ⟨a, ns, rfl, hs, room, q⟩ := h
  rcases hs with hs | hs
  · exact G.cr_setLi hc pins s σ H _ us Q I r ⟨a, ns, rfl, hs, room, q⟩
  · obtain ⟨its, rv, ht, _⟩ := I.tuple hs
    rw [Vals.ref1 r]
    obtain ⟨o, h1, h2, n, h3⟩ := ht
    refine call_set_tupI ns (I.ok.hd hc) ⟨o, h1, h2, n, h3⟩ rv.ints room fun g k c st le old => ?_
    have hp := I.hok.fresh (Nat.le_refl _)
    exact ⟨.ref _, upd H s.heap.objs.size (SetO X.w s.heap.objs.size (fun j => decide (j ∈ ns)) c), I.laid (t' := k) old (Nat.le_refl _) (setO_new st), rfl, q _ c le hp⟩
theorem pe_soSetX {p p2 pos pos2 : Pos} {e : Expr} {t : TA} (hc : X.calm = true) (g1 : Gl X "sorted") (m1 : X.mg "sorted" = none) (g2 : Gl X "set") (m2 : X.mg "set" = none) (ha : PA X [e] t)
    (h1 : starEach [e] X.env = (false, eval e X.env) :: starEach [] X.env := by rfl) (h2 : starEach [Expr.Call (.Name "set" p2) [e] [] pos2] X.env = (false, eval (Expr.Call (.Name "set" p2) [e] [] pos2) X.env) :: starEach [] X.env := by rfl)
    (h3 : (backTo pos2 (starEach [] X.env)).any (·.1) = false := by rfl) (h4 : (backTo pos (starEach [] X.env)).any (·.1) = false := by rfl) :
    PE X (.Call (.Name "sorted" p) [.Call (.Name "set" p2) [e] [] pos2] [] pos) (tSoSetX X.K t) := by
  have A := pe_callTy (p := p2) (cr_setX hc) g2 m2 (by decide +kernel) ha (he := h1) (hpl := h3)
  have B := pe_callB (p := p) (cr_sortedSet hc) g1 m1 (by decide +kernel) (pa_cons A pa_nil h2) (he := h2) (hpl := h4)
  exact ⟨fun pins s σ H Q I h => B.run pins s σ H Q I (h X.w)⟩
end
def mSoSetX (ml : MA) : MA := fun env h => (ml env h).bind fun r => (arg1 r.1).bind fun x => (itemsOf r.2 x).bind fun ys => (intsOf ys).bind fun ns => if ns.length < 64 then some ((ascU ns).map dI, r.2) else none
theorem sm_soSetX {K : PySem.W.Frag} {tl : TA} {ml : MA} (h : SimA K tl ml) : SimF K (tSoSetX K tl) (mSoSetX ml) := fun w h0 σ env xs h' rl re e Q q wd => by
  obtain ⟨⟨as, h1⟩, e1, e⟩ := bind_of e
  obtain ⟨x, e2, e⟩ := bind_of e
  obtain ⟨ys, e3, e⟩ := bind_of e
  obtain ⟨ns, e4, e⟩ := bind_of e
  split at e
  · rename_i hz
    cases e
    refine h w h0 σ env as h1 rl re e1 _ fun w1 us s1 r1 x1 => ?_
    replace e2 : arg1 as = some x := e2
    rw [arg1_of e2] at x1
    obtain ⟨u, rfl, rx⟩ := x1.one
    obtain ⟨p0, vs, rfl, sq, rp⟩ := items_ok r1 rx e3
    rw [intsOf_eq e4] at rp
    rw [rep_ints rp] at sq
    refine ⟨_, ns, rfl, sq, by simp only [scanBound]; omega, fun p n le hp => ?_⟩
    show rSortedSet wd [V.ref p] _ Q
    refine ⟨p, _, n, rfl, upd_same, by omega, fun ks q2 g1 g2 _ g3 => ?_⟩
    have e5 : ks = ascU ns := asc_same g1 (ascU_asc ns) fun z => by rw [g2 z, mem_ascU]; simp
    subst e5
    obtain ⟨s2, r2⟩ := fresh_ok (o := SetO wd p (fun j => decide (j ∈ ns)) n) r1 hp
    obtain ⟨s3, r3⟩ := fresh_ok (o := .lst ((ascU ns).map V.int)) r2 g3
    have sA := (s1.trans s2).trans s3
    have hq0 : w.H q2 = none := by
      cases z : w.H q2 with
      | none => rfl
      | some o => exact absurd g3 ((s1.trans s2).kp q2 (by rw [z]; exact fun q => nomatch q))
    exact q _ q2 _ sA r3 hq0 upd_same (r2.notin g3) (r2.cnone g3) (by
      have := ints_rep (K := K) (ι := w1.ι) (C := w1.C) (ascU ns)
      exact this)
  · cases e
/-! ### xs.extend(ys), both lists of one's own -/
def mExt (mo me : ME) : MS := fun env h => (mo env h).bind fun o => (asL o.2 o.1).bind fun _ => (me env o.2).bind fun r => (asL r.2 o.1).bind fun l => (asL r.2 r.1).bind fun q => if l.2.length + q.2.length ≤ 100000 then some (.nx env (r.2.set l.1 (.lst (l.2 ++ q.2)))) else none
theorem ss_ext {K : PySem.W.Frag} {to_ te : TE} {mo me : ME} (h1 : SimE K to_ mo) (h2 : SimE K te me) : SimS K (tDrop (tBM K "list" rExtend to_ (tCons te tNil))) (mExt mo me) := fun D w h σ env r rl re e p => by
  obtain ⟨⟨o, hh1⟩, e1, e⟩ := bind_of e
  obtain ⟨⟨n0, xs0⟩, e0, e⟩ := bind_of e
  obtain ⟨⟨v, hh2⟩, e2, e⟩ := bind_of e
  obtain ⟨⟨n, xs⟩, e4, e⟩ := bind_of e
  obtain ⟨⟨m, ys⟩, e5, e⟩ := bind_of e
  simp only at e
  split at e
  · rename_i hz
    cases e
    obtain ⟨eo, ex⟩ := asL_of e4
    obtain ⟨ev, ey⟩ := asL_of e5
    obtain ⟨eo0, ex0⟩ := asL_of e0
    simp only at eo ex eo0 ex0 ev ey
    subst eo
    cases eo0
    subst ev
    refine h1 w h σ env _ hh1 rl re e1 _ fun w1 u1 s1 r1 x1 => ?_
    obtain ⟨a, vs0, rfl, g01, g02, g03⟩ := r1.lst x1 ex0
    refine ⟨.inl ⟨rfl, _, .inl (.inl g02)⟩, h2 w1 hh1 σ env _ hh2 r1 (re.up s1) e2 _ fun w2 u2 s2 r2 x2 => ?_⟩
    obtain ⟨a', vs, ea, g1, g2, g3⟩ := r2.lst (x1.up s2) ex
    cases ea
    obtain ⟨b, us, rfl, f1, f2, f3⟩ := r2.lst x2 ey
    obtain ⟨s4, r4⟩ := write_ok (o := .lst (vs ++ us)) r2 g1 (.lst (g3.app f3)) (by rw [g2]; exact fun _ _ z => nomatch z)
    have ss := (s1.trans s2).trans s4
    exact ⟨a, b, vs, us, rfl, rfl, g2, f2, by rw [g3.len, f3.len]; exact Nat.le_trans hz sl_100000, p (w2.write a _) σ ss r4 (re.up ss)⟩
  · cases e
end M
namespace M
open PySem PySem.Spec PyProof.Rows L2
open Evl (Ex ex_rd ex_l ex_t rMax2)
open G (dpx dpax dpa_len dpa_get dpa_app dpa_set ex_none wipe_get wipe_eq wipe_wipe RD UD CD Ret)
/-! ### dicts with tuples as keys -/
def keyT : MV → Option (List Key)
  | .tup xs => mapO keyOf xs
  | _ => none
section
variable {K : PySem.W.Frag} {w : Wd} {h : MH}
theorem keysT_ok : ∀ {vs : List V} {xs : List MV} {ks : List Key}, RepA K w.ι w.C vs xs → mapO keyOf xs = some ks → vs = ks.map kV
  | _, [], ks, .nil, e => by cases e; rfl
  | _, x :: xs, ks, .cons r t, e => by
    rw [mapO] at e
    cases e1 : keyOf x with
    | none => rw [e1] at e; cases e
    | some k =>
      rw [e1] at e
      cases e2 : mapO keyOf xs with
      | none => rw [e2] at e; cases e
      | some ls => rw [e2] at e; cases e; rw [keyOf_ok r e1, keysT_ok t e2]; rfl
theorem keyT_ok {v : V} {x : MV} {ks : List Key} (r : Rep K w.ι w.C v x) (e : keyT x = some ks) : ∃ b, v = .ref b ∧ w.C b = some (.tup (ks.map kV)) := by
  cases x with
  | tup xs =>
    cases r with
    | tup q a => rw [keysT_ok a e] at q; exact ⟨_, rfl, q⟩
  | d _ => cases e
  | ref _ => cases e
def asKT (h : MH) : MV → Option (Nat × List (List Key × MV))
  | .ref n => match h[n]? with
    | some (.dctT kws) => some (n, kws)
    | _ => none
  | _ => none
theorem asKT_of {v : MV} {n : Nat} {kws : List (List Key × MV)} (e : asKT h v = some (n, kws)) : v = .ref n ∧ h[n]? = some (.dctT kws) := by
  cases v with
  | ref m =>
    unfold asKT at e
    cases e1 : h[m]? with
    | none => simp only [e1] at e; cases e
    | some b =>
      cases b with
      | dctT ys => simp only [e1] at e; cases e; exact ⟨rfl, e1⟩
      | _ => simp only [e1] at e; cases e
  | d _ => cases e
  | tup _ => cases e
theorem e_asKT {n : Nat} {kws : List (List Key × MV)} {h : MH} (hn : h[n]? = some (.dctT kws)) : asKT h (.ref n) = some (n, kws) := by
  unfold asKT; simp only [hn]
theorem asKT_ok (r : Rel K w h) {v : V} {x : MV} {n : Nat} {kws : List (List Key × MV)} (rx : Rep K w.ι w.C v x) (e : asKT h x = some (n, kws)) : ∃ a kvs, v = .ref a ∧ w.ι[n]? = some a ∧ w.H a = some (.dT kvs) ∧ KRep K w.ι w.C kvs kws := by
  obtain ⟨eo, ex⟩ := asKT_of e
  subst eo
  obtain ⟨a, o, h1, h2, h3, h4⟩ := r.look rx ex
  cases h4 with
  | dctT h4 h5 => exact ⟨a, _, h1, h2, h3, h4, h5⟩
end
section
variable {K : PySem.W.Frag} {td ty tx tv : TE} {md mk mx mv : ME}
def mTupK (ma : MA) : ME := fun env h => (ma env h).bind fun r => if r.1.length ≤ 100000 then some (.tup r.1, r.2) else none
theorem sm_tupK {tl : TA} {ml : MA} (ha : SimA K tl ml) : SimE K (tTup tl) (mTupK ml) := fun w h σ env v h' rl re e Q q => by
  obtain ⟨⟨a, h1⟩, e1, e⟩ := bind_of e
  simp only at e
  split at e
  · rename_i hz
    cases e
    refine ha w h σ env _ _ rl re e1 _ fun w1 xs s1 r1 x1 => ⟨by rw [x1.len]; exact Nat.le_trans hz sl_100000, fun p hp => ?_⟩
    obtain ⟨s2, r2⟩ := know_ok (o := .tup xs) r1 hp
    exact q (w1.know p (.tup xs)) _ (s1.trans s2) r2 (.tup upd_same (x1.up s2))
  · cases e
def mTGet (md mk : ME) : ME := fun env h => (md env h).bind fun d => (mk env d.2).bind fun k => (asKT k.2 d.1).bind fun t => (keyT k.1).bind fun y => (valG t.2 y).map fun v => (v, k.2)
theorem sm_tget (hd : SimE K td md) (hk : SimE K ty mk) : SimE K (tDGet td ty) (mTGet md mk) := fun w h σ env v h' rl re e Q q => by
  obtain ⟨⟨a, h1⟩, e1, e⟩ := bind_of e
  obtain ⟨⟨b, h2⟩, e2, e⟩ := bind_of e
  obtain ⟨⟨n, kws⟩, e3, e⟩ := bind_of e
  obtain ⟨y, e4, e⟩ := bind_of e
  obtain ⟨x, e5, e⟩ := map_of e
  cases e
  refine hd w h σ env a h1 rl re e1 _ fun w1 u1 s1 r1 x1 => hk w1 h1 σ env b _ r1 (re.up s1) e2 _ fun w2 u2 s2 r2 x2 => ?_
  obtain ⟨ad, kvs, rfl, g1, g2, g3⟩ := asKT_ok r2 (x1.up s2) e3
  obtain ⟨bb, rfl, gb⟩ := keyT_ok x2 e4
  obtain ⟨u, f1, f2⟩ := g3.valS e5
  exact ⟨ad, u, rfl, .inr ⟨kvs, y, bb, .inl g2, rfl, r2.ch _ _ gb, f1.symm⟩, q w2 u (s1.trans s2) r2 f2⟩
def mTIn (neg : Bool) (mk md : ME) : ME := fun env h => (mk env h).bind fun k => (md env k.2).bind fun d => (asKT d.2 d.1).bind fun t => (keyT k.1).map fun y => (.d (.bool (if neg = true then !(valG t.2 y).isSome else (valG t.2 y).isSome)), d.2)
theorem sm_tin (hk : SimE K ty mk) (hd : SimE K td md) : SimE K (tDIn ty td) (mTIn false mk md) := fun w h σ env v h' rl re e Q q => by
  obtain ⟨⟨a, h1⟩, e1, e⟩ := bind_of e
  obtain ⟨⟨b, h2⟩, e2, e⟩ := bind_of e
  obtain ⟨⟨n, kws⟩, e3, e⟩ := bind_of e
  obtain ⟨y, e4, e⟩ := map_of e
  cases e
  refine hk w h σ env a h1 rl re e1 _ fun w1 u1 s1 r1 x1 => hd w1 h1 σ env b _ r1 (re.up s1) e2 _ fun w2 u2 s2 r2 x2 => ?_
  obtain ⟨ad, kvs, rfl, g1, g2, g3⟩ := asKT_ok r2 x2 e3
  obtain ⟨bb, rfl, gb⟩ := keyT_ok (x1.up s2) e4
  refine ⟨ad, _, rfl, .inr ⟨kvs, y, bb, .inl g2, rfl, r2.ch _ _ gb, rfl⟩, q w2 _ (s1.trans s2) r2 ?_⟩
  rw [g3.isSome y]
  exact .d (.bl _)
theorem sm_tnotin (hk : SimE K ty mk) (hd : SimE K td md) : SimE K (tDNotIn ty td) (mTIn true mk md) := fun w h σ env v h' rl re e Q q => by
  obtain ⟨⟨a, h1⟩, e1, e⟩ := bind_of e
  obtain ⟨⟨b, h2⟩, e2, e⟩ := bind_of e
  obtain ⟨⟨n, kws⟩, e3, e⟩ := bind_of e
  obtain ⟨y, e4, e⟩ := map_of e
  cases e
  refine hk w h σ env a h1 rl re e1 _ fun w1 u1 s1 r1 x1 => hd w1 h1 σ env b _ r1 (re.up s1) e2 _ fun w2 u2 s2 r2 x2 => ?_
  obtain ⟨ad, kvs, rfl, g1, g2, g3⟩ := asKT_ok r2 x2 e3
  obtain ⟨bb, rfl, gb⟩ := keyT_ok (x1.up s2) e4
  refine ⟨ad, _, rfl, .inr ⟨kvs, y, bb, .inl g2, rfl, r2.ch _ _ gb, rfl⟩, q w2 _ (s1.trans s2) r2 ?_⟩
  rw [g3.isSome y]
  exact .d (.bl _)
def mTGet2 (md mk mx : ME) : ME := fun env h => (md env h).bind fun d => (asKT d.2 d.1).bind fun _ => (mk env d.2).bind fun k => (mx env k.2).bind fun x => (asKT x.2 d.1).bind fun t => (keyT k.1).map fun y => ((valG t.2 y).getD x.1, x.2)
theorem sm_tget2 (hd : SimE K td md) (hk : SimE K ty mk) (hx : SimE K tx mx) : SimE K (tDGet2 td ty tx) (mTGet2 md mk mx) := fun w h σ env v h' rl re e Q q => by
  obtain ⟨⟨a, h1⟩, e1, e⟩ := bind_of e
  obtain ⟨⟨n0, kws0⟩, e0, e⟩ := bind_of e
  obtain ⟨⟨b, h2⟩, e2, e⟩ := bind_of e
  obtain ⟨⟨c, h3⟩, e3, e⟩ := bind_of e
  obtain ⟨⟨n, kws⟩, e4, e⟩ := bind_of e
  obtain ⟨y, e5, e⟩ := map_of e
  cases e
  refine hd w h σ env a h1 rl re e1 _ fun w1 u1 s1 r1 x1 => ?_
  obtain ⟨ad0, kvs0, rfl, g01, g02, g03⟩ := asKT_ok r1 x1 e0
  refine ⟨ad0, rfl, .inr ⟨kvs0, .inl g02⟩, hk w1 h1 σ env b h2 r1 (re.up s1) e2 _ fun w2 u2 s2 r2 x2 => hx w2 h2 σ env c _ r2 ((re.up s1).up s2) e3 _ fun w3 u3 s3 r3 x3 => ?_⟩
  obtain ⟨ad, kvs, ea, g1, g2, g3⟩ := asKT_ok r3 ((x1.up s2).up s3) e4
  cases ea
  obtain ⟨bb, rfl, gb⟩ := keyT_ok (x2.up s3) e5
  exact ⟨_, .inr ⟨kvs, y, bb, .inl g2, rfl, r3.ch _ _ gb, rfl⟩, q w3 _ ((s1.trans s2).trans s3) r3 (getD_rep g3 y x3)⟩
def mTNew : ME := fun _ h => some (.ref h.length, h ++ [.dctT []])
theorem sm_tnew : SimE K tDNewT mTNew := fun w h σ env v h' rl re e Q q => by
  cases e
  intro p hp
  obtain ⟨s, r, g⟩ := alloc_ok (o := .dT []) (b := .dctT []) rl hp (.dctT rfl .nil)
  exact q (w.alloc p (.dT [])) (.ref p) s r (.ref g)
def mTPut (md mk mv : ME) : MS := fun env h => (mv env h).bind fun v => (md env v.2).bind fun d => (mk env d.2).bind fun k => (asKT k.2 d.1).bind fun t => (keyT k.1).bind fun y => if t.2.length < 100000 then some (.nx env (k.2.set t.1 (.dctT (putG t.2 y v.1)))) else none
theorem ss_tput (hd : SimE K td md) (hk : SimE K ty mk) (hv : SimE K tv mv) : SimS K (sDPut td ty tv) (mTPut md mk mv) := fun D w h σ env r rl re e p => by
  obtain ⟨⟨v, hh1⟩, e1, e⟩ := bind_of e
  obtain ⟨⟨d, hh2⟩, e2, e⟩ := bind_of e
  obtain ⟨⟨k, hh3⟩, e3, e⟩ := bind_of e
  obtain ⟨⟨n, kws⟩, e4, e⟩ := bind_of e
  obtain ⟨y, e5, e⟩ := bind_of e
  simp only at e
  split at e
  · rename_i hz
    cases e
    refine hv w h σ env v hh1 rl re e1 _ fun w1 u1 s1 r1 x1 => hd w1 hh1 σ env d hh2 r1 (re.up s1) e2 _ fun w2 u2 s2 r2 x2 => hk w2 hh2 σ env k hh3 r2 ((re.up s1).up s2) e3 _ fun w3 u3 s3 r3 x3 => ?_
    obtain ⟨a, kvs, rfl, g1, g2, g3⟩ := asKT_ok r3 (x2.up s3) e4
    obtain ⟨bb, rfl, gb⟩ := keyT_ok x3 e5
    have x1' := (x1.up s2).up s3
    have gp := g3.put x1' y
    obtain ⟨s4, r4⟩ := write_ok (o := .dT (putK kvs y u1)) r3 g1 (.dctT gp.1 gp.2) (by rw [g2]; exact fun _ _ z => nomatch z)
    have ss := ((s1.trans s2).trans s3).trans s4
    exact ⟨a, _, rfl, .inr ⟨kvs, y, bb, g2, rfl, r3.ch _ _ gb, by rw [g3.len]; exact Nat.lt_of_lt_of_le hz sl_100000, rfl⟩, p (w3.write a _) σ ss r4 (re.up ss)⟩
  · cases e
def mLenT : MCa := fun xs h => (arg1 xs).bind fun x => (asKT h x).map fun t => (.d (.int t.2.length), h)
theorem sc_lenT : SimC K rLenT mLenT := fun w h us xs v h' rl ra e Q q => by
  obtain ⟨x, e1, e⟩ := bind_of e
  obtain ⟨⟨n, kws⟩, e2, e⟩ := map_of e
  cases e
  rw [arg1_of e1] at ra
  obtain ⟨u, rfl, rx⟩ := ra.one
  obtain ⟨a, kvs, rfl, g1, g2, g3⟩ := asKT_ok rl rx e2
  refine ⟨a, kvs, rfl, g2, ?_⟩
  have := g3.len
  rw [this]
  exact q w _ (.refl _) rl (.d (.int _))
end
end M
namespace M
open PySem PySem.Spec PyProof.Rows L2
open G (ti li)
/-! ### slots and heaps by what is known of them -/
abbrev At (env : Env) (i : Nat) (v : MV) : Prop := env[i]? = some (some v)
theorem at_lt {env : Env} {i : Nat} {v : MV} (a : At env i v) : i < env.length := (List.getElem?_eq_some_iff.mp a).1
theorem at_ne {env : Env} {i j : Nat} {v : MV} {x : Option MV} (a : At env i v) (n : j ≠ i) : At (env.set j x) i v := by
  show (env.set j x)[i]? = _
  rw [List.getElem?_set_ne n]; exact a
theorem at_eq {env : Env} {i : Nat} {v : MV} (l : i < env.length) : At (env.set i (some v)) i v := List.getElem?_set_self l
theorem e_v {env : Env} {i : Nat} {v : MV} {h : MH} (a : At env i v) : mVar i env h = some (v, h) := by
  unfold mVar
  rw [show env[i]? = some (some v) from a]
theorem asL_ref {h : MH} {n : Nat} : asL h (.ref n) = match h[n]? with | some (.lst xs) => some (n, xs) | _ => none := by
  unfold asL; rfl
theorem asK_ref {h : MH} {n : Nat} : asK h (.ref n) = match h[n]? with | some (.dct xs) => some (n, xs) | _ => none := by
  unfold asK; rfl
theorem asKT_ref {h : MH} {n : Nat} : asKT h (.ref n) = match h[n]? with | some (.dctT xs) => some (n, xs) | _ => none := by
  unfold asKT; rfl
theorem it_ref {h : MH} {n : Nat} : itemsOf h (.ref n) = (asL h (.ref n)).map (·.2) := rfl
/-- a heap laid out by roles -/
structure Lay {ρ : Type} (D : ρ → Prop) (loc : ρ → Nat) (c : ρ → Ob) (h : MH) : Prop where
  inj : ∀ r s, D r → D s → loc r = loc s → r = s
  at_ : ∀ r, D r → h[loc r]? = some (c r)
section
variable {ρ : Type} {D : ρ → Prop} {loc : ρ → Nat} {c c' : ρ → Ob} {h : MH}
theorem Lay.lt (L : Lay D loc c h) {r : ρ} (hr : D r) : loc r < h.length := (List.getElem?_eq_some_iff.mp (L.at_ r hr)).1
theorem Lay.set (L : Lay D loc c h) {r : ρ} (hr : D r) {o : Ob} (ho : c' r = o) (e : ∀ s, D s → s ≠ r → c' s = c s) : Lay D loc c' (h.set (loc r) o) where
  inj := L.inj
  at_ s hs := by
    by_cases z : s = r
    · subst z
      rw [List.getElem?_set_self (L.lt hs), ho]
    · rw [List.getElem?_set_ne (fun y => z (L.inj s r hs hr y.symm)), e s hs z]
      exact L.at_ s hs
theorem Lay.imp (L : Lay D loc c h) (e : ∀ s, D s → c' s = c s) : Lay D loc c' h := ⟨L.inj, fun s hs => by rw [e s hs]; exact L.at_ s hs⟩
theorem Lay.app (L : Lay D loc c h) (g : MH) : Lay D loc c (h ++ g) := ⟨L.inj, fun s hs => by rw [List.getElem?_append_left (L.lt hs)]; exact L.at_ s hs⟩
/-- one role more -/
theorem Lay.grow {D' : ρ → Prop} {loc' : ρ → Nat} (L : Lay D loc c h) (r : ρ) {o : Ob} (hl : loc' r = h.length) (ho : c' r = o) (hD : ∀ s, D' s → s ≠ r → D s) (hloc : ∀ s, D' s → s ≠ r → loc' s = loc s) (hc : ∀ s, D' s → s ≠ r → c' s = c s) : Lay D' loc' c' (h ++ [o]) where
  inj a b ha hb e := by
    by_cases z : a = r
    · by_cases y : b = r
      · rw [z, y]
      · have := L.lt (hD b hb y)
        rw [z, hl, hloc b hb y] at e
        omega
    · by_cases y : b = r
      · have := L.lt (hD a ha z)
        rw [y, hl, hloc a ha z] at e
        omega
      · rw [hloc a ha z, hloc b hb y] at e
        exact L.inj a b (hD a ha z) (hD b hb y) e
  at_ a ha := by
    by_cases z : a = r
    · rw [z, hl, List.getElem?_append_right (Nat.le_refl _), Nat.sub_self, ho]; rfl
    · rw [hloc a ha z, hc a ha z, List.getElem?_append_left (L.lt (hD a ha z))]
      exact L.at_ a (hD a ha z)
end
/-! ### what a dict holds -/
section
variable {κ β : Type} [DecidableEq κ]
theorem valG_nil (k : κ) : valG ([] : List (κ × β)) k = none := rfl
theorem valG_cons (p : κ × β) (ps : List (κ × β)) (k : κ) : valG (p :: ps) k = if p.1 = k then some p.2 else valG ps k := by rw [valG]
theorem valG_app (a b : List (κ × β)) (k : κ) : valG (a ++ b) k = match valG a k with | some v => some v | none => valG b k := by
  induction a with
  | nil => rfl
  | cons p a ih =>
    rw [List.cons_append, valG_cons, valG_cons]
    by_cases e : p.1 = k
    · rw [if_pos e, if_pos e]
    · rw [if_neg e, if_neg e]; exact ih
theorem valG_repl (a : List (κ × β)) (k : κ) (v : β) (j : κ) : valG (replG a k v) j = if j = k ∧ (valG a k).isSome = true then some v else valG a j := by
  induction a with
  | nil => simp [replG, valG_nil]
  | cons p a ih =>
    have e0 : replG (p :: a) k v = (if p.1 = k then (p.1, v) else p) :: replG a k v := rfl
    rw [e0, valG_cons, ih, valG_cons, valG_cons]
    by_cases e : p.1 = k
    · by_cases f : j = k
      · subst f; simp [e]
      · have : ¬ p.1 = j := fun z => f (z.symm.trans e)
        have f' : ¬ k = j := fun z => f z.symm
        simp [e, f, f']
    · by_cases f : p.1 = j
      · have : ¬ j = k := fun z => e (f.trans z)
        simp [e, f, this]
      · simp [e, f]
theorem valG_put (a : List (κ × β)) (k : κ) (v : β) (j : κ) : valG (putG a k v) j = if j = k then some v else valG a j := by
  unfold putG hasG
  by_cases e : (valG a k).isSome = true
  · rw [if_pos e, valG_repl]
    simp [e]
  · have en : valG a k = none := by
      cases z : valG a k with
      | none => rfl
      | some x => rw [z] at e; exact absurd rfl e
    rw [if_neg e, valG_app]
    by_cases f : j = k
    · subst f
      simp [en, valG_cons]
    · have f' : ¬ k = j := fun z => f z.symm
      cases z : valG a j with
      | none => simp [f, f', valG_cons, valG_nil]
      | some x => simp [f]
theorem put_len (a : List (κ × β)) (k : κ) (v : β) : (putG a k v).length ≤ a.length + 1 := by
  unfold putG
  split
  · unfold replG; rw [List.length_map]; omega
  · simp
end
theorem keyT_ii (i j : Int) : keyT (.tup [.d (.int i), .d (.int j)]) = some [.inl i, .inl j] := rfl
section
variable {ρ : Type} {D : ρ → Prop} {loc : ρ → Nat} {c c' : ρ → Ob} {h : MH}
theorem Lay.ne (L : Lay D loc c h) {r s : ρ} (hr : D r) (hs : D s) (n : r ≠ s) : loc r ≠ loc s := fun e => n (L.inj r s hr hs e)
theorem Lay.set2 (L : Lay D loc c h) {r s : ρ} (hr : D r) (hs : D s) (n : r ≠ s) {o p : Ob} (ho : c' r = o) (hp : c' s = p) (e : ∀ x, D x → x ≠ r → x ≠ s → c' x = c x) : Lay D loc c' ((h.set (loc r) o).set (loc s) p) where
  inj := L.inj
  at_ x hx := by
    by_cases z : x = s
    · subst z
      rw [List.getElem?_set_self (by rw [List.length_set]; exact L.lt hx), hp]
    · rw [List.getElem?_set_ne (L.ne hs hx (Ne.symm z))]
      by_cases y : x = r
      · subst y
        rw [List.getElem?_set_self (L.lt hx), ho]
      · rw [List.getElem?_set_ne (L.ne hr hx (Ne.symm y)), e x hx y z]
        exact L.at_ x hx
end
/-! ### comprehensions over a list of one's own, the heap stays -/
theorem lc_filtS {α : Type} {src : List (Nat × List MV)} {g : MG} {mt : MT} {me : ME} {env : Env} {h : MH} (hs : ∀ s ∈ src, h[s.1]? = some (.lst s.2)) (φ f : α → MV) (c : α → Bool) : ∀ ks : List α, (∀ k ∈ ks, (g (φ k) env).bind (fun e => mt e h) = some (c k, h)) → (∀ k ∈ ks, c k = true → (g (φ k) env).bind (fun e => me e h) = some (f k, h)) → lcLoop g mt me src env (ks.map φ) h = some ((ks.filter c).map f, h)
  | [], _, _ => by rw [List.map_nil, lcLoop, srcIf_ok hs]; rfl
  | k :: ks, ht, hb => by
    rw [List.map_cons, lcLoop, srcIf_ok hs]
    have h1 := ht k List.mem_cons_self
    obtain ⟨e', e1, e2⟩ := bind_of h1
    rw [e1, Option.bind_some, e2, Option.bind_some]
    have ih := lc_filtS hs φ f c ks (fun k m => ht k (List.mem_cons_of_mem _ m)) (fun k m => hb k (List.mem_cons_of_mem _ m))
    cases hc : c k with
    | true =>
      have h2 := hb k List.mem_cons_self hc
      rw [e1, Option.bind_some] at h2
      rw [if_pos rfl, h2, Option.bind_some, ih, List.filter_cons, if_pos hc]
      rfl
    | false =>
      rw [if_neg (fun z => nomatch z), ih, List.filter_cons, if_neg (by rw [hc]; decide)]
theorem mLc_filtS {α : Type} {src : List (Nat × List MV)} {mi : MI} {g : MG} {mt : MT} {me : ME} {vs : List Nat} {env : Env} {h h1 : MH} (ks : List α) (φ f : α → MV) (c : α → Bool) (hi : mi env h = some ((src, ks.map φ), h1)) (hs : ∀ s ∈ src, h1[s.1]? = some (.lst s.2)) (ht : ∀ k ∈ ks, (g (φ k) (wipeM env vs)).bind (fun e => mt e h1) = some (c k, h1)) (hb : ∀ k ∈ ks, c k = true → (g (φ k) (wipeM env vs)).bind (fun e => me e h1) = some (f k, h1)) (hz : ks.length ≤ 100000) :
    mLc mi g mt me vs env h = some ((ks.filter c).map f, h1) := by
  unfold mLc
  rw [hi, Option.bind_some]
  show (lcLoop g mt me src (wipeM env vs) (ks.map φ) h1).bind _ = _
  rw [lc_filtS hs φ f c ks ht hb, Option.bind_some, if_pos (by
    show ((ks.filter c).map f).length ≤ _
    rw [List.length_map]; exact Nat.le_trans (List.length_filter_le _ _) hz)]
theorem mLc_mapS {α : Type} {src : List (Nat × List MV)} {mi : MI} {g : MG} {me : ME} {vs : List Nat} {env : Env} {h h1 : MH} (ks : List α) (φ f : α → MV) (hi : mi env h = some ((src, ks.map φ), h1)) (hs : ∀ s ∈ src, h1[s.1]? = some (.lst s.2)) (hb : ∀ k ∈ ks, (g (φ k) (wipeM env vs)).bind (fun e => me e h1) = some (f k, h1)) (hz : ks.length ≤ 100000) : mLc mi g mYes me vs env h = some (ks.map f, h1) := by
  have := mLc_filtS (mt := mYes) ks φ f (fun _ => true) hi hs (fun k hk => by
    obtain ⟨e', e1, e2⟩ := bind_of (hb k hk)
    rw [e1]; rfl) (fun k hk _ => hb k hk) hz
  rwa [List.filter_eq_self.mpr (fun _ _ => rfl)] at this
theorem filt_zip {α : Type} (n : Nat) : ∀ (xs : List α) (k : Nat), (xs.zipIdx k).filter (fun z => decide ((n : Int) < (z.2 : Nat) + 1)) = (xs.zipIdx k).drop (n - k)
  | [], k => by simp
  | x :: xs, k => by
    rw [List.zipIdx_cons, List.filter_cons]
    by_cases e : n < k + 1
    · have : (decide ((n : Int) < ((x, k).2 : Nat) + 1)) = true := by simp; omega
      rw [if_pos this, filt_zip n xs (k + 1), show n - (k + 1) = 0 by omega, show n - k = 0 by omega]
      rfl
    · have : ¬ (decide ((n : Int) < ((x, k).2 : Nat) + 1)) = true := by simp; omega
      rw [if_neg this, filt_zip n xs (k + 1), show n - k = (n - (k + 1)) + 1 by omega]
      rfl
theorem drop_zip {α : Type} : ∀ (xs : List α) (j k : Nat), (xs.zipIdx k).drop j = (xs.drop j).zipIdx (k + j)
  | xs, 0, k => rfl
  | [], j + 1, k => by simp
  | x :: xs, j + 1, k => by
    rw [List.zipIdx_cons, List.drop_succ_cons, List.drop_succ_cons, drop_zip xs j (k + 1), show k + 1 + j = k + (j + 1) by omega]
theorem at_l0 {α : Type} {x : α} {xs : List α} : atI (x :: xs) 0 = some x := by
  rw [atI_get (by decide) (by simp [List.length_cons] <;> omega) x]; rfl
theorem at_l1 {α : Type} {x y : α} {xs : List α} : atI (x :: y :: xs) 1 = some y := by
  rw [atI_get (by decide) (by simp [List.length_cons] <;> omega) x]; rfl
theorem at_l2 {α : Type} {x y z : α} {xs : List α} : atI (x :: y :: z :: xs) 2 = some z := by
  rw [atI_get (by decide) (by simp [List.length_cons] <;> omega) x]; rfl
theorem at_l3 {α : Type} {x y z w : α} {xs : List α} : atI (x :: y :: z :: w :: xs) 3 = some w := by
  rw [atI_get (by decide) (by simp [List.length_cons] <;> omega) x]; rfl
theorem at_l4 {α : Type} {x y z w v : α} {xs : List α} : atI (x :: y :: z :: w :: v :: xs) 4 = some v := by
  rw [atI_get (by decide) (by simp [List.length_cons] <;> omega) x]; rfl
/-! ### data that may be compared -/
def pl (n : Nat) (d : PyData) : Prop := PyData.canLay0 d = true ∧ d.depth ≤ n
theorem pl_up {n m : Nat} {d : PyData} (h : pl n d) (e : n ≤ m) : pl m d := ⟨h.1, Nat.le_trans h.2 e⟩
theorem pl_int {n : Nat} (i : Int) : pl n (.int i) := ⟨by rw [PyData.canLay0], by rw [PyData.depth]; omega⟩
theorem pl_bool {n : Nat} (b : Bool) : pl n (.bool b) := ⟨by rw [PyData.canLay0], by rw [PyData.depth]; omega⟩
theorem pl_none {n : Nat} : pl n .none := ⟨by rw [PyData.canLay0], by rw [PyData.depth]; omega⟩
theorem pl_str {n : Nat} {s : Str} (h : PyData.strOk s = true) : pl n (.str s) := ⟨by rw [PyData.canLay0, h], by rw [PyData.depth]; omega⟩
theorem plA {n : Nat} : ∀ {ds : List PyData}, (∀ d ∈ ds, pl n d) → PyData.canLayAll0 ds = true ∧ PyData.depthAll ds ≤ n
  | [], _ => ⟨by rw [PyData.canLayAll0], by rw [PyData.depthAll]; omega⟩
  | d :: ds, h => by
    obtain ⟨h1, h2⟩ := h d List.mem_cons_self
    obtain ⟨h3, h4⟩ := plA (ds := ds) fun x m => h x (List.mem_cons_of_mem _ m)
    exact ⟨by rw [PyData.canLayAll0, h1, h3]; rfl, by rw [PyData.depthAll]; omega⟩
theorem pl_tup {n : Nat} {ds : List PyData} (h : ∀ d ∈ ds, pl n d) : pl (n + 1) (.tuple ds) := ⟨by rw [PyData.canLay0]; exact (plA h).1, by rw [PyData.depth]; have := (plA h).2; omega⟩
theorem pl_list {n : Nat} {ds : List PyData} (h : ∀ d ∈ ds, pl n d) : pl (n + 1) (.list ds) := ⟨by rw [PyData.canLay0]; exact (plA h).1, by rw [PyData.depth]; have := (plA h).2; omega⟩
theorem pl_t2 {n : Nat} {a b : PyData} (h1 : pl n a) (h2 : pl n b) : pl (n + 1) (.tuple [a, b]) := pl_tup fun d m => by
  rcases List.mem_cons.mp m with e | m
  · rw [e]; exact h1
  · rw [List.mem_singleton.mp m]; exact h2
theorem pl_t3 {n : Nat} {a b c : PyData} (h1 : pl n a) (h2 : pl n b) (h3 : pl n c) : pl (n + 1) (.tuple [a, b, c]) := pl_tup fun d m => by
  rcases List.mem_cons.mp m with e | m
  · rw [e]; exact h1
  · rcases List.mem_cons.mp m with e | m
    · rw [e]; exact h2
    · rw [List.mem_singleton.mp m]; exact h3
theorem pl_sh {n : Nat} {d : PyData} (h : pl n d) (e : n ≤ 64 := by decide) : SeqAt.shaped d = true := by
  unfold SeqAt.shaped
  rw [h.1, Bool.true_and, decide_eq_true_iff]
  exact Nat.le_trans h.2 e
theorem e_sameR {neg : Bool} {d : PyData} {x y : MV} {h : MH} (hx : reify 6 h x = some d) (hy : reify 6 h y = some d) (hd : SeqAt.shaped d = true) : mEqD neg x y h = some (.d (.bool (!neg)), h) := by
  unfold mEqD
  have hc : d.canLay0 = true := by
    unfold SeqAt.shaped at hd
    exact (Bool.and_eq_true_iff.mp hd).1
  rw [hx, hy, Option.bind_some, Option.bind_some, if_pos ⟨hd, hd⟩, SeqAt.eqv_refl d hc]
  cases neg <;> rfl
theorem e_same {neg : Bool} {d : PyData} {h : MH} (hd : SeqAt.shaped d = true) : mEqD neg (.d d) (.d d) h = some (.d (.bool (!neg)), h) := e_sameR (reify_d _ _ _) (reify_d _ _ _) hd
/-- a list against the empty one -/
theorem e_nilE {neg : Bool} {ds : List PyData} {x : MV} {h : MH} (hx : reify 6 h x = some (.list ds)) (hd : SeqAt.shaped (.list ds) = true) : mEqD neg x (.d (.list [])) h = some (.d (.bool (if neg = true then !decide (ds = []) else decide (ds = []))), h) := by
  unfold mEqD
  rw [hx, reify_d, Option.bind_some, Option.bind_some, if_pos ⟨hd, pl_sh (n := 1) (pl_list fun d m => nomatch m)⟩]
  cases ds with
  | nil => rw [PyData.eqv, PyData.eqvAll]; simp
  | cons a as => rw [PyData.eqv, PyData.eqvAll]; simp
/-! ### a written dict -/
theorem valG_out {κ β : Type} [DecidableEq κ] {kvs : List (κ × β)} {k : κ} (h : k ∉ kvs.map (·.1)) : valG kvs k = none := by
  induction kvs with
  | nil => rfl
  | cons p ps ih =>
    rw [List.map_cons, List.mem_cons] at h
    rw [valG_cons, if_neg (fun e => h (.inl e.symm)), ih (fun e => h (.inr e))]
theorem mergeG_app : ∀ {more kvs : List (Key × MV)}, ((kvs ++ more).map (·.1)).Nodup → mergeG kvs more = kvs ++ more
  | [], kvs, _ => by simp [mergeG]
  | p :: more, kvs, h => by
    have e : putG kvs p.1 p.2 = kvs ++ [p] := by
      unfold putG hasG
      rw [valG_out]
      · rfl
      · rw [List.map_append, List.nodup_append] at h
        exact fun m => h.2.2 _ m _ (by simp) rfl
    show mergeG (putG kvs p.1 p.2) more = _
    rw [e, mergeG_app (by rw [List.append_assoc]; exact h), List.append_assoc]; rfl
theorem mergeG_new {more : List (Key × MV)} (h : (more.map (·.1)).Nodup) : mergeG [] more = more := mergeG_app (kvs := []) h
end M
namespace M
open PySem PySem.Spec PyProof.Rows L2
open Evl (Ex ex_rd ex_l ex_t rMax2)
open G (dpx dpax dpa_len dpa_get dpa_app dpa_set ex_none wipe_get wipe_eq wipe_wipe RD UD CD Ret ti li)
/-! ### {k: v for ..} -/
noncomputable def dcLoop (g : MG) (mt : MT) (mk mv : ME) (src : List (Nat × List MV)) (env : Env) : List MV → List (Key × MV) → MH → Option (List (Key × MV) × MH)
  | [], acc, h => srcIf src h (some (acc, h))
  | x :: xs, acc, h => srcIf src h ((g x env).bind fun env' => (mt env' h).bind fun b => if b.1 = true then (mk env' b.2).bind fun y => (mv env' y.2).bind fun z => (keyOf y.1).bind fun k => if acc.length < 100000 then dcLoop g mt mk mv src env xs (putG acc k z.1) z.2 else none else dcLoop g mt mk mv src env xs acc b.2)
noncomputable def mDc (mi : MI) (g : MG) (mt : MT) (mk mv : ME) (vs : List Nat) : ME := fun env h => (mi env h).bind fun s => (dcLoop g mt mk mv s.1.1 (wipeM env vs) s.1.2 [] s.2).map fun r => (.ref r.2.length, r.2 ++ [.dct r.1])
section
variable {K : PySem.W.Frag} {wi : TI} {mi : MI} {g : TG} {mg : MG} {tk tv : TE} {mk mv : ME} {tt : TT} {mt : MT}
theorem KRep.mono' {ι ι' : List Addr} {C C' : Hp} {kvs : List (Key × V)} {kws : List (Key × MV)} (p : ι <+: ι') (e : Ex C C') (h : KRep K ι C kvs kws) : KRep K ι' C' kvs kws := ⟨h.1, h.2.mono p e⟩
theorem KRep.up' {w w' : Wd} {kvs : List (Key × V)} {kws : List (Key × MV)} (s : Step w w') (h : KRep K w.ι w.C kvs kws) : KRep K w'.ι w'.C kvs kws := h.mono' s.pre s.ex
theorem sm_dc {vs : List Nat} (hI : SimI K wi mi) (hg : SimG K g mg vs) (ht : SimT K tt mt) (hk : SimE K tk mk) (hv : SimE K tv mv) : SimE K (tDc wi g tt tk tv vs) (mDc mi mg mt mk mv vs) := fun w h σ env v0 hE0 rl re e Q q => by
  obtain ⟨⟨⟨src, items⟩, h1⟩, e1, e⟩ := bind_of e
  obtain ⟨⟨kws, hE⟩, e2, e⟩ := map_of e
  cases e
  refine hI w h σ env _ h1 rl re e1 _ fun w1 J s1 r1 ok D hD => ?_
  have hD0 : w.H D = none := by
    cases z : w.H D with
    | none => rfl
    | some o => exact absurd hD (s1.kp D (by rw [z]; exact fun q => nomatch q))
  refine ⟨fun i m H' => ∃ w' h' acc accM, w'.H = H' ∧ H' D = some (.dK acc) ∧ D ∉ w'.ι ∧ w'.C D = none ∧ Step w1 w' ∧ Rel K w' h' ∧ KRep K w'.ι w'.C acc accM ∧ i ≤ items.length ∧ m = items.length - i ∧
    dcLoop mg mt mk mv src (wipeM env vs) (items.drop i) accM h' = some (kws, hE), ?_, ?_⟩
  · obtain ⟨s2, r2⟩ := garb (o := .dK []) (Step.refl w1) r1 hD (r1.notin hD) (r1.cnone hD)
    exact ⟨_, ⟨w1.ι, w1.C, upd w1.H D (.dK [])⟩, h1, [], [], rfl, upd_same, r1.notin hD, r1.cnone hD, s2, r2, ⟨rfl, .nil⟩, Nat.zero_le _, rfl, e2⟩
  · rintro i m H' ⟨w', h', acc, accM, rfl, hA, hi, hc, s2, r2, ra, hl, rfl, el⟩
    by_cases hlt : i < items.length
    · rw [List.drop_eq_getElem_cons hlt, dcLoop] at el
      obtain ⟨hs, el⟩ := srcIf_of el
      obtain ⟨env2, g1, el⟩ := bind_of el
      obtain ⟨⟨b, h2⟩, g2, el⟩ := bind_of el
      obtain ⟨_, go⟩ := ok w' h' s2 r2 hs
      obtain ⟨go1, go2⟩ := go i items[i] (by simp [hlt])
      refine .inr ⟨go1, fun H2 => ∃ w' h' acc accM, w'.H = H2 ∧ H2 D = some (.dK acc) ∧ D ∉ w'.ι ∧ w'.C D = none ∧ Step w1 w' ∧ Rel K w' h' ∧ KRep K w'.ι w'.C acc accM ∧ dcLoop mg mt mk mv src (wipeM env vs) (items.drop (i + 1)) accM h' = some (kws, hE), fun H2 n => ?_, fun u H2 y => ?_⟩
      · obtain ⟨w', h', acc, accM, a1, a2, a3, a4, a5, a6, a7, a9⟩ := n
        exact ⟨_, by omega, w', h', acc, accM, a1, a2, a3, a4, a5, a6, a7, hlt, rfl, a9⟩
      · obtain ⟨w3, rfl, s3, r3, x3⟩ := go2 u H2 y
        have stay : ∀ {wa wb : Wd}, Step wa wb → wa.H D = some (.dK acc) → D ∉ wa.ι → wa.C D = none → wb.H D = some (.dK acc) ∧ D ∉ wb.ι ∧ wb.C D = none := fun {wa wb} s a b c => by
          refine ⟨s.fr D _ a b, fun m => ?_, s.nc D (by rw [a]; exact fun q => nomatch q) c⟩
          rcases s.nw D m with z | z
          · exact b z
          · rw [a] at z; cases z
        obtain ⟨d1, d2, d3⟩ := stay s3 hA hi hc
        have rw0 : RepE K w3 (wipe σ vs) (wipeM env vs) := (((re.up s1).up s2).up s3).wipe vs
        refine hg w3 h' _ _ u items[i] env2 r3 rw0 x3 g1 _ fun σ3 re3 l3 k3 => ⟨?_, ?_⟩
        · rw [show wipe σ3 vs = wipe (wipe σ vs) vs from wipe_eq l3 k3, wipe_wipe]
        · refine ht w3 h' σ3 env2 b h2 r3 re3 g2 _ fun w4 s4 r4 => ?_
          obtain ⟨d4, d5, d6⟩ := stay s4 d1 d2 d3
          cases b with
          | true =>
            replace el : (mk env2 h2).bind (fun y => (mv env2 y.2).bind fun z => (keyOf y.1).bind fun k => if accM.length < 100000 then dcLoop mg mt mk mv src (wipeM env vs) (items.drop (i + 1)) (putG accM k z.1) z.2 else none) = some (kws, hE) := el
            obtain ⟨⟨y, h3⟩, g3, el⟩ := bind_of el
            obtain ⟨⟨z, h4⟩, g4, el⟩ := bind_of el
            obtain ⟨k, g5, el⟩ := bind_of el
            simp only at el
            split at el
            · rename_i hz
              refine iteT (hk w4 h2 σ3 env2 y h3 r4 (re3.up s4) g3 _ fun w5 uy s5 r5 x5 => hv w5 h3 σ3 env2 z h4 r5 ((re3.up s4).up s5) g4 _ fun w6 uz s6 r6 x6 => ?_)
              obtain ⟨d7, d8, d9⟩ := stay s5 d4 d5 d6
              obtain ⟨d10, d11, d12⟩ := stay s6 d7 d8 d9
              have := keyOf_ok (x5.up s6) g5
              subst this
              have ss := (((s2.trans s3).trans s4).trans s5).trans s6
              have ra6 := (((ra.up' s3).up' s4).up' s5).up' s6
              have rp := ra6.put x6 k
              obtain ⟨s7, r7⟩ := garb (o := .dK (putK acc k uz)) ss r6 hD d11 d12
              exact ⟨acc, k, rfl, d10, by rw [ra6.len]; exact Nat.lt_of_lt_of_le hz sl_100000, ⟨w6.ι, w6.C, upd w6.H D (.dK (putK acc k uz))⟩, h4, putK acc k uz, putG accM k z, rfl, upd_same, d11, d12, s7, r7, rp, el⟩
            · cases el
          | false =>
            exact iteF ⟨w4, h2, acc, accM, rfl, d4, d5, d6, (s2.trans s3).trans s4, r4, (ra.up' s3).up' s4, el⟩
    · have ei : i = items.length := by omega
      subst ei
      rw [List.drop_length, dcLoop] at el
      obtain ⟨hs, el⟩ := srcIf_of el
      cases el
      refine .inl ⟨(ok w' _ s2 r2 hs).1, ?_⟩
      replace r2 : Rel K w' hE := r2
      have pf : w'.ι <+: w'.ι ++ [D] := List.prefix_append _ _
      have s12 := s1.trans s2
      refine q ⟨w'.ι ++ [D], w'.C, w'.H⟩ (.ref D) ⟨s12.pre.trans pf, s12.ex, s12.fr, fun a m => ?_, s12.nc, s12.kp, s12.fz⟩ ⟨r2.ch, ?_, ?_, fun a m => ?_, fun n a b e1 e2 => ?_⟩ (.ref ?_)
      · rcases List.mem_append.mp m with z | z
        · exact s12.nw a z
        · rw [List.mem_singleton.mp z]; exact .inr hD0
      · show (w'.ι ++ [D]).length = _
        rw [List.length_append, List.length_append, r2.len]; rfl
      · refine List.nodup_append.mpr ⟨r2.nd, by simp, fun a m b m' => ?_⟩
        rw [List.mem_singleton.mp m']
        exact fun z => hi (by rw [← z]; exact m)
      · rcases List.mem_append.mp m with z | z
        · exact r2.ow a z
        · rw [List.mem_singleton.mp z]; exact hc
      · replace e1 : (w'.ι ++ [D])[n]? = some a := e1
        replace e2 : (hE ++ [Ob.dct kws])[n]? = some b := e2
        by_cases z : n < hE.length
        · rw [List.getElem?_append_left z] at e2
          rw [List.getElem?_append_left (by rw [r2.len]; exact z)] at e1
          obtain ⟨o, q1, q2⟩ := r2.ob n a b e1 e2
          exact ⟨o, q1, q2.mono pf fun _ _ q => q⟩
        · rw [List.getElem?_append_right (by omega)] at e2
          rw [List.getElem?_append_right (by rw [r2.len]; omega), r2.len] at e1
          have hz : n - hE.length = 0 := by
            cases hn : n - hE.length with
            | zero => rfl
            | succ k => rw [hn] at e2; simp at e2
          rw [hz] at e2 e1
          simp at e2 e1
          subst e2 e1
          exact ⟨_, hA, .dct ra.1 (ra.2.mono pf fun _ _ q => q)⟩
      · show (w'.ι ++ [D])[hE.length]? = some D
        rw [← r2.len, List.getElem?_append_right (Nat.le_refl _), Nat.sub_self]; rfl
/-- over data, the heap stays -/
theorem dc_data {α : Type} {h : MH} {env : Env} (φ : α → MV) (kf : α → Key) (vf : α → MV) : ∀ (ks : List α) (acc : List (Key × MV)), (∀ k ∈ ks, ∃ e', mg (φ k) env = some e' ∧ ∃ y, mk e' h = some (y, h) ∧ keyOf y = some (kf k) ∧ mv e' h = some (vf k, h)) → acc.length + ks.length < 100000 →
    dcLoop mg mYes mk mv [] env (ks.map φ) acc h = some (ks.foldl (fun a k => putG a (kf k) (vf k)) acc, h)
  | [], acc, _, _ => by rw [List.map_nil, dcLoop, srcIf_nil]; rfl
  | k :: ks, acc, hb, hz => by
    obtain ⟨e', e1, y, e2, e3, e4⟩ := hb k List.mem_cons_self
    rw [List.map_cons, dcLoop, srcIf_nil, e1, Option.bind_some]
    show (some (true, h)).bind _ = _
    rw [Option.bind_some]
    have hp := put_len acc (kf k) (vf k)
    rw [List.length_cons] at hz
    simp only [if_true, e2, Option.bind_some, e4, e3]
    rw [if_pos (by omega), dc_data φ kf vf ks (putG acc (kf k) (vf k)) (fun x m => hb x (List.mem_cons_of_mem _ m)) (by omega)]
    rfl
theorem mDc_data {α : Type} {h h1 : MH} {env : Env} {vs : List Nat} (ks : List α) (φ : α → MV) (kf : α → Key) (vf : α → MV) (hi : mi env h = some (([], ks.map φ), h1)) (hb : ∀ k ∈ ks, ∃ e', mg (φ k) (wipeM env vs) = some e' ∧ ∃ y, mk e' h1 = some (y, h1) ∧ keyOf y = some (kf k) ∧ mv e' h1 = some (vf k, h1)) (hz : ks.length < 100000) :
    mDc mi mg mYes mk mv vs env h = some (.ref h1.length, h1 ++ [.dct (ks.foldl (fun a k => putG a (kf k) (vf k)) [])]) := by
  unfold mDc
  rw [hi, Option.bind_some]
  show (dcLoop mg mYes mk mv [] (wipeM env vs) (ks.map φ) [] h1).map _ = _
  rw [dc_data φ kf vf ks [] hb (by simpa using hz)]
  rfl
end
/-! ### xs.pop(0) as a value -/
def mPop0E (mo : ME) : ME := fun env h => (mo env h).bind fun o => (asL o.2 o.1).bind fun l => match l.2 with
  | x :: r => some (x, o.2.set l.1 (.lst r))
  | [] => none
theorem sm_pop0 {K : PySem.W.Frag} {to_ : TE} {mo : ME} (h1 : SimE K to_ mo) : SimE K (tBM K "list" rPopAt to_ (tCons (tC (.int 0)) tNil)) (mPop0E mo) := fun w h σ env v h' rl re e Q p => by
  obtain ⟨⟨o, hh1⟩, e1, e⟩ := bind_of e
  obtain ⟨⟨n, xs⟩, e4, e⟩ := bind_of e
  cases xs with
  | nil => cases e
  | cons x rest =>
    cases e
    obtain ⟨eo, ex⟩ := asL_of e4
    simp only at eo ex
    subst eo
    refine h1 w h σ env _ hh1 rl re e1 _ fun w1 u1 s1 r1 x1 => ?_
    obtain ⟨a, vs0, rfl, g01, g02, g03⟩ := r1.lst x1 ex
    cases g03 with
    | cons q1 q2 =>
      rename_i v vs
      refine ⟨.inl ⟨rfl, _, .inl (.inl g02)⟩, ?_⟩
      obtain ⟨s4, r4⟩ := write_ok (o := .lst vs) r1 g01 (.lst q2) (by rw [g02]; exact fun _ _ z => nomatch z)
      have ss := s1.trans s4
      refine ⟨a, v :: vs, 0, 0, v, rfl, rfl, g02, by decide, by decide, ?_, rfl, p (w1.write a _) v ss r4 (q1.up s4)⟩
      rw [List.length_cons]
      unfold seqIndex?
      simp
      try omega
end M
namespace Cmb
open PySem PySem.Spec
open Sem (wp)
theorem mro_cmb : mroOf (.type "itertools.combinations") = pure [.type "itertools.combinations", .type "object"] := by rw [mroOf_type]; kernel_rfl
theorem lookup_cmb_new : typeLookup (.type "itertools.combinations") "__new__" = pure (some (.builtin "itertools.combinations.__new__")) := by rw [typeLookup_type, builtinLookup_eq_fast]; kernel_rfl
theorem slot_cmb_init : Slot "itertools.combinations" "__init__" "object.__init__" :=
  .of (owner := "object") (n := "__init__") (by rw [typeLookup_type, builtinLookup_eq_fast]; kernel_rfl) (by decide +kernel) (by decide +kernel) (by decide +kernel)
    (by first | exact .inl (by decide +kernel) | exact .inr (by decide +kernel)) (by rw [isSubtype_type]; kernel_rfl)
theorem sub_cmb : isSubtype (.type "itertools.combinations") (.type "itertools.combinations") = pure true := by rw [isSubtype_type]; kernel_rfl
theorem called_cmb : TypeCalled "itertools.combinations" "itertools.combinations.__new__" "object.__init__" :=
  ⟨by decide +kernel, by decide +kernel, ⟨_, _, mro_cmb⟩, madeBy_type mro_cmb lookup_cmb_new (by decide +kernel), by decide +kernel, sub_cmb, slot_cmb_init⟩
theorem typeCall_cmb_2 (a b : Value) : checkTypeCall "itertools.combinations" ⟨[a, b], []⟩ = pure () := by kernel_rfl
theorem newCall_cmb_2 (a b : Value) : checkBuiltinCall "itertools.combinations.__new__" ⟨[.type "itertools.combinations", a, b], []⟩ = pure () := by kernel_rfl
theorem entry_cmb_new : entryFor table "itertools.combinations.__new__" = some Builtin.«itertools.combinations.__new__» := entryFor_of_tree (by kernel_rfl)
theorem slot_cmb_iter : Slot "itertools.combinations" "__iter__" "itertools.combinations.__iter__" :=
  .of (owner := "itertools.combinations") (n := "__iter__") (by rw [typeLookup_type, builtinLookup_eq_fast]; kernel_rfl) (by decide +kernel) (by decide +kernel) (by decide +kernel)
    (by first | exact .inl (by decide +kernel) | exact .inr (by decide +kernel)) sub_cmb
theorem slot_cmb_next : Slot "itertools.combinations" "__next__" "itertools.combinations.__next__" :=
  .of (owner := "itertools.combinations") (n := "__next__") (by rw [typeLookup_type, builtinLookup_eq_fast]; kernel_rfl) (by decide +kernel) (by decide +kernel) (by decide +kernel)
    (by first | exact .inl (by decide +kernel) | exact .inr (by decide +kernel)) sub_cmb
theorem entry_cmb_iter : entryFor table "itertools.combinations.__iter__" = some Builtin.«dict_keyiterator.__iter__» :=
  entryFor_alias (id' := "dict_keyiterator.__iter__") (by kernel_rfl) (by first | rfl | decide +kernel | (unfold String.splitOn; simp +decide [String.splitOnAux])) (by decide +kernel) (by kernel_rfl)
theorem entry_cmb_next : entryFor table "itertools.combinations.__next__" = some Builtin.«itertools.combinations.__next__» := entryFor_of_tree (by kernel_rfl)
theorem owner_cmb : Manifest.owners.lookup (String.ofList ['s', 'n', 'o', 'i', 't', 'a', 'n', 'i', 'b', 'm', 'o', 'c', '.', 's', 'l', 'o', 'o', 't', 'r', 'e', 't', 'i'].reverse) = some Manifest.sig_itertools_combinations := by kernel_rfl
theorem args_cmb_iter (a : Value) : argsOk "itertools.combinations.__iter__" ⟨[a], []⟩ := by
  unfold argsOk; rw [signature?_of (id := "itertools.combinations.__iter__") (n := ['_', '_', 'r', 'e', 't', 'i', '_', '_']) (o := ['s', 'n', 'o', 'i', 't', 'a', 'n', 'i', 'b', 'm', 'o', 'c', '.', 's', 'l', 'o', 'o', 't', 'r', 'e', 't', 'i']) (by kernel_rfl) owner_cmb]; kernel_rfl
theorem args_cmb_next (a : Value) : argsOk "itertools.combinations.__next__" ⟨[a], []⟩ := by
  unfold argsOk; rw [signature?_of (id := "itertools.combinations.__next__") (n := ['_', '_', 't', 'x', 'e', 'n', '_', '_']) (o := ['s', 'n', 'o', 'i', 't', 'a', 'n', 'i', 'b', 'm', 'o', 'c', '.', 's', 'l', 'o', 'o', 't', 'r', 'e', 't', 'i']) (by kernel_rfl) owner_cmb]; kernel_rfl
theorem noDict_cmb : typeHasDict (.type "itertools.combinations") = false := by decide +kernel
/-- a combinations object for pairs: its pool, its state, what it gave last, its two places -/
abbrev cmbObj (p : Addr) (st : Int) (last : Value) (a b : Nat) : Obj := { cls := .type "itertools.combinations", dict := none, data := .fields #[.ref p, .int st 0, last, .int (a : Int) 0, .int (b : Int) 0], slots := #[] }
abbrev IsTup (h : Heap) (p : Addr) (its : List Value) : Prop := h.get? p = some { cls := .type "tuple", data := .seq its.toArray }
section
variable {prog : Program} {w : World} {A : Around} {E : Value → Shared → Prop} {s : Shared}
theorem cmb_collect {Q : List Value → Shared → Prop} (it : Addr) {o : Obj} {xs : Array Value} {n : Nat} (ho : s.heap.get? it = some o) (hc : o.cls = .type "list") (hd : o.data = .seq xs n) (hsz : xs.size ≤ sizeLine)
    (hQ : ∀ h', s.heap.objs.size ≤ h'.objs.size → (∀ b o', s.heap.get? b = some o' → h'.get? b = some o') → Q xs.toList { s with heap := h' }) : wpAny (model prog w) A (collect (.ref it)) Q E s := by
  have hS : (s.heap.push { cls := .type "list", data := .seq ([] : List Value).toArray }).get? s.heap.objs.size = some { cls := .type "list", data := .seq #[] 0 } := Heap.get?_push_size _ rfl
  have hS2 := Heap.get?_update_self (Obj.mapSeq (· ++ xs)) hS rfl
  have sz : s.heap.objs.size ≤ ((s.heap.push { cls := .type "list", data := .seq ([] : List Value).toArray }).update s.heap.objs.size (Obj.mapSeq (· ++ xs))).objs.size := by
    rw [Heap.size_update, Heap.size_push]; omega
  have kp : ∀ b o', s.heap.get? b = some o' → ((s.heap.push { cls := .type "list", data := .seq ([] : List Value).toArray }).update s.heap.objs.size (Obj.mapSeq (· ++ xs))).get? b = some o' := fun b o' hb =>
    (Heap.get?_update_other _ _ (Nat.ne_of_gt (Heap.lt_size hb))).trans (Heap.get?_push_of_some _ hb)
  have e : ((#[] : Array Value) ++ xs).toList = xs.toList := by simp
  unfold collect
  refine wpAny_bind (wpAny_runValue (codeAny_builtin F.entry_proto_collect ?_)); rw [Around.under_plainId F.plain_proto_collect _]
  show wpAny _ A.in1 (newList [] >>= fun l => again (.builtin "list.__iadd__" ⟨[l, .ref it], []⟩)) _ _ s
  refine wpAny_bind (wpAny_newObj_type (wpAny_pure ⟨plainId_quiet F.plain_list_iadd _, codeAny_builtin F.entry_list_iadd ?_⟩))
  rw [Around.under_plainId F.plain_list_iadd _]
  show wpAny _ A.in1 (Builtin.List.listExtendWith (.ref s.heap.objs.size) (.ref it) (.ref s.heap.objs.size)) _ _ { s with heap := s.heap.push _ }
  have last : wpAny (model prog w) A (match Value.ref s.heap.objs.size with | Value.ref a => (do match (← load a).data with | Data.seq xs _ => pure xs.toList | _ => unsupported "internal:collect") | _ => unsupported "internal:collect") Q E
      { s with heap := (s.heap.push { cls := .type "list", data := .seq ([] : List Value).toArray }).update s.heap.objs.size (Obj.mapSeq (· ++ xs)) } := by
    refine wpAny_bind (wpAny_load hS2 (wpAny_pure ?_))
    have := hQ _ sz kp
    rw [← e] at this
    exact this
  refine wpAny_mono (wpAny_extend_seq (hsz := hsz) (A := A) (R := fun r s' => r = .ok (.ret (.ref s.heap.objs.size)) ∧ s' = { s with heap := (s.heap.push { cls := .type "list", data := .seq ([] : List Value).toArray }).update s.heap.objs.size (Obj.mapSeq (· ++ xs)) })
    (s := { s with heap := s.heap.push { cls := .type "list", data := .seq ([] : List Value).toArray } }) _ it _ 0 (.inl rfl) hS (Heap.get?_push_of_some _ ho) hc hd ⟨rfl, rfl⟩) (fun f s' h => ?_) (fun e s' h => ?_)
  · cases f with
    | done f => obtain ⟨e1, rfl⟩ := h; cases e1; exact last
    | again c => exact ⟨h.1, codeAny_mono h.2 fun r s2 hr => (by obtain ⟨rfl, rfl⟩ := hr; exact last)⟩
  · obtain ⟨e1, _⟩ := h; cases e1
end
def cmbSpec (l : Addr) : Spec := fun _ R s => ∃ o its n, s.heap.get? l = some o ∧ o.cls = .type "list" ∧ o.data = .seq its n ∧ its.size ≤ sizeLine ∧
  ∀ h' p c, IsTup h' p its.toList → h'.get? c = some (cmbObj p (if 2 > its.size then 2 else 0) .none 0 1) → p ≠ c → s.heap.objs.size ≤ p → s.heap.objs.size ≤ c → (∀ b o', s.heap.get? b = some o' → h'.get? b = some o') → R (.ok (.ret (.ref c))) { s with heap := h' }
theorem meets_cmb_new (l : Addr) (t : Tok) : Meets (Builtin.«itertools.combinations.__new__» ⟨[.type "itertools.combinations", .ref l, .int 2 t], []⟩) (cmbSpec l) :=
  .of_wp fun prog w A R s h => by
    obtain ⟨o, its, n, ho, hc, hd, hz, h⟩ := h
    have hsub : isSubtype (.type "itertools.combinations") (.type ("itertools." ++ "combinations")) = pure true := sub_cmb
    have hdd := noDict_cmb
    repeat (first
      | refine cmb_collect l ho hc hd hz fun h1 hz1 hk => ?_
      | wp_step
      | simp only [List.head?_cons, Option.some_or, List.getElem?_cons_succ, List.getElem?_cons_zero, List.length_cons, List.length_nil, List.forIn_nil])
    refine ⟨_, rfl, ?_⟩
    have e1 : (h1.push { cls := Value.type "tuple", data := Data.seq its.toList.toArray }).objs.size = h1.objs.size + 1 := Heap.size_push ..
    refine h _ h1.objs.size _ ?_ ?_ ?_ hz1 ?_ ?_
    · exact Heap.get?_push_of_some _ (Heap.get?_push_size _ rfl)
    · rw [Heap.get?_push_size _ rfl, Array.length_toList]; rfl
    · rw [e1]; exact Nat.ne_of_lt (Nat.lt_succ_self _)
    · exact Nat.le_trans hz1 (by rw [e1]; omega)
    · exact fun b o' hb => Heap.get?_push_of_some _ (Heap.get?_push_of_some _ (hk b o' hb))
section
variable {prog : Program} {w : World} {A : Around} {E : Value → Shared → Prop} {s : Shared}
theorem call_cmb {l : Addr} {o : Obj} {its : Array Value} {n : Nat} {t : Tok} {Q : Value → Shared → Prop} (ho : s.heap.get? l = some o) (hc : o.cls = .type "list") (hd : o.data = .seq its n) (hz : its.size ≤ sizeLine)
    (h : ∀ h' p c, IsTup h' p its.toList → h'.get? c = some (cmbObj p (if 2 > its.size then 2 else 0) .none 0 1) → p ≠ c → s.heap.objs.size ≤ p → s.heap.objs.size ≤ c → (∀ b o', s.heap.get? b = some o' → h'.get? b = some o') → Q (.ref c) { s with heap := h' }) :
    wpAny (model prog w) A (call (.type "itertools.combinations") [.ref l, .int 2 t]) Q E s :=
  callType_new called_cmb (by decide +kernel) (typeCall_cmb_2 _ _) (newCall_cmb_2 _ _) (fun obj => F.args_object_init_3 obj _ _) entry_cmb_new (meets_cmb_new l t)
    ⟨o, its, n, ho, hc, hd, hz, fun h' p c h1 h2 h3 h4 h5 h6 => ⟨⟨_, h2, rfl⟩, h h' p c h1 h2 h3 h4 h5 h6⟩⟩
theorem iter_cmb {c p : Addr} {st : Int} {last : Value} {a b : Nat} {Q : Value → Shared → Prop} (hit : s.heap.get? c = some (cmbObj p st last a b)) (h : Q (.ref c) s) : wpAny (model prog w) A (pyIter (.ref c)) Q E s := by
  have hT : s.TypeIs (.ref c) "itertools.combinations" := ⟨_, hit, rfl⟩
  refine wpAny_pyIter_slot hT slot_cmb_iter (wpAny_call_entry slot_cmb_iter hT entry_cmb_iter ?_ (args_cmb_iter _))
  exact (show wpAny _ _ (ret (.ref c)) _ _ s from wpAny_pure ⟨_, rfl, "itertools.combinations", _, hT, slot_cmb_next.lookup, h⟩)
/-- the next places -/
def nx (n : Nat) (q : Nat × Nat) : Option (Nat × Nat) := if q.2 + 1 < n then some (q.1, q.2 + 1) else if q.1 + 2 < n then some (q.1 + 1, q.1 + 2) else none
/-- the first pair -/
theorem cmb_first {c p : Addr} {last : Value} {its : List Value} {x y : Value} {Q : Option Value → Shared → Prop} (hit : s.heap.get? c = some (cmbObj p 0 last 0 1)) (hp : IsTup s.heap p its) (hpc : p ≠ c) (hx : its[0]? = some x) (hy : its[1]? = some y)
    (hQ : ∀ h' T, h'.get? c = some (cmbObj p 1 (.ref T) 0 1) → h'.get? T = some { cls := .type "tuple", data := .seq #[x, y] } → s.heap.objs.size ≤ T → (∀ b o', b ≠ c → s.heap.get? b = some o' → h'.get? b = some o') → Q (some (.ref T)) { s with heap := h' }) :
    wpAny (model prog w) A (callSpecial? (.ref c) "__next__") Q E s := by
  have hT : s.TypeIs (.ref c) "itertools.combinations" := ⟨_, hit, rfl⟩
  refine wpAny_callSpecial?_slot (name := Str.ofString "__next__") hT slot_cmb_next (wpAny_call_entry slot_cmb_next hT entry_cmb_next ?_ (args_cmb_next _))
  have i0 : (#[Value.ref p, .int 0 0, last, .int ((0 : Nat) : Int) 0, .int ((1 : Nat) : Int) 0] : Array Value)[0]? = some (.ref p) := rfl
  have i1 : (#[Value.ref p, .int 0 0, last, .int ((0 : Nat) : Int) 0, .int ((1 : Nat) : Int) 0] : Array Value)[1]? = some (.int 0 0) := rfl
  repeat (first
      | refine wpAny_field hit rfl i0 ?_
      | refine wpAny_field hit rfl i1 ?_
      | wp_step)
  obtain ⟨h1, eh1⟩ : ∃ h1, h1 = s.heap.update c (Obj.mapFields fun x => x.setIfInBounds 1 (rawInt 1)) := ⟨_, rfl⟩
  have c1 : h1.get? c = some (cmbObj p 1 last 0 1) := by rw [eh1]; exact Heap.get?_update_self _ hit rfl
  have z1 : h1.objs.size = s.heap.objs.size := by rw [eh1]; exact Heap.size_update ..
  have k1 : ∀ b, b ≠ c → h1.get? b = s.heap.get? b := fun b hb => by rw [eh1]; exact Heap.get?_update_other _ _ (Ne.symm hb)
  rw [← eh1]
  have el : some ({ cls := Value.type "tuple", data := Data.seq [its.toArray.getD 0 Value.none, its.toArray.getD 1 Value.none].toArray } : Obj) = some { cls := .type "tuple", data := .seq #[x, y] } := by
    simp [Array.getD_eq_getD_getElem?, hx, hy]
  have ct : c ≠ h1.objs.size := Nat.ne_of_lt (Heap.lt_size c1)
  refine ⟨_, rfl, hQ _ h1.objs.size ?_ ?_ (Nat.le_of_eq z1.symm) fun b o' hb hs => ?_⟩
  · exact Heap.get?_update_self _ (Heap.get?_push_of_some _ c1) rfl
  · exact (Heap.get?_update_other _ _ ct).trans ((Heap.get?_push_size _ rfl).trans el)
  · rw [← k1 b hb] at hs
    exact (Heap.get?_update_other _ _ (Ne.symm hb)).trans (Heap.get?_push_of_some _ hs)
def ncm (n : Nat) (l : List Nat) : Option (List Nat) := match (List.range l.length).reverse.find? (fun i => l.getD i 0 != i + n - l.length) with | none => none | some i => some (l.take i ++ (List.range (l.length - i)).map fun k => l.getD i 0 + 1 + k)
theorem ncm_two {n a b : Nat} (h1 : a < b) (h2 : b < n) : ncm n [a, b] = (nx n (a, b)).map fun q => [q.1, q.2] := by
  have e : (List.range [a, b].length).reverse = [1, 0] := rfl
  unfold ncm nx
  rw [e]
  by_cases hb : b + 1 < n
  · have x1 : (([a, b].getD 1 0) != 1 + n - [a, b].length) = true := by simp; omega
    rw [List.find?_cons, x1, if_pos hb]
    simp [List.range_succ]
  · have x1 : (([a, b].getD 1 0) != 1 + n - [a, b].length) = false := by simp; omega
    rw [List.find?_cons, x1, if_neg hb]
    by_cases ha : a + 2 < n
    · have x2 : (([a, b].getD 0 0) != 0 + n - [a, b].length) = true := by simp; omega
      rw [List.find?_cons, x2, if_pos ha]
      simp [List.range_succ]
    · have x2 : (([a, b].getD 0 0) != 0 + n - [a, b].length) = false := by simp; omega
      rw [List.find?_cons, x2, if_neg ha]
      rfl
theorem cmb_item {c p : Addr} {last : Value} {its : List Value} {a b a2 b2 : Nat} {x y : Value} {Q : Option Value → Shared → Prop} (hit : s.heap.get? c = some (cmbObj p 1 last a b)) (hp : IsTup s.heap p its) (hpc : p ≠ c) (hab : a < b) (hb : b < its.length) (hn : nx its.length (a, b) = some (a2, b2)) (hx : its[a2]? = some x) (hy : its[b2]? = some y)
    (hQ : ∀ h' T, h'.get? c = some (cmbObj p 1 (.ref T) a2 b2) → h'.get? T = some { cls := .type "tuple", data := .seq #[x, y] } → s.heap.objs.size ≤ T → (∀ b o', b ≠ c → s.heap.get? b = some o' → h'.get? b = some o') → Q (some (.ref T)) { s with heap := h' }) :
    wpAny (model prog w) A (callSpecial? (.ref c) "__next__") Q E s := by
  have hT : s.TypeIs (.ref c) "itertools.combinations" := ⟨_, hit, rfl⟩
  refine wpAny_callSpecial?_slot (name := Str.ofString "__next__") hT slot_cmb_next (wpAny_call_entry slot_cmb_next hT entry_cmb_next ?_ (args_cmb_next _))
  have i0 : (#[Value.ref p, .int 1 0, last, .int (a : Int) 0, .int (b : Int) 0] : Array Value)[0]? = some (.ref p) := rfl
  have i1 : (#[Value.ref p, .int 1 0, last, .int (a : Int) 0, .int (b : Int) 0] : Array Value)[1]? = some (.int 1 0) := rfl
  repeat (first
      | refine wpAny_field hit rfl i0 ?_
      | refine wpAny_field hit rfl i1 ?_
      | wp_step)
  have hz : its.toArray.size = its.length := List.size_toArray ..
  split
  · rename_i next heq
    have e2 : ncm its.toArray.size [a, b] = some next := heq
    rw [hz, ncm_two hab hb, hn] at e2
    cases e2
    repeat (first
      | refine wpAny_field hit rfl i0 ?_
      | refine wpAny_field hit rfl i1 ?_
      | wp_step)
    obtain ⟨h1, eh1⟩ : ∃ h1, h1 = s.heap.update c (Obj.mapFields fun fs => fs.extract 0 3 ++ (List.map (fun n : Nat => rawInt (n : Int)) ((fun q : Nat × Nat => [q.fst, q.snd]) (a2, b2))).toArray) := ⟨_, rfl⟩
    have c1 : h1.get? c = some (cmbObj p 1 last a2 b2) := by rw [eh1]; exact Heap.get?_update_self _ hit rfl
    have z1 : h1.objs.size = s.heap.objs.size := by rw [eh1]; exact Heap.size_update ..
    have k1 : ∀ b, b ≠ c → h1.get? b = s.heap.get? b := fun b hb => by rw [eh1]; exact Heap.get?_update_other _ _ (Ne.symm hb)
    rw [← eh1]
    have el : some ({ cls := Value.type "tuple", data := Data.seq [its.toArray.getD a2 Value.none, its.toArray.getD b2 Value.none].toArray } : Obj) = some { cls := .type "tuple", data := .seq #[x, y] } := by
      simp [Array.getD_eq_getD_getElem?, hx, hy]
    have ct : c ≠ h1.objs.size := Nat.ne_of_lt (Heap.lt_size c1)
    refine ⟨_, rfl, hQ _ h1.objs.size ?_ ?_ (Nat.le_of_eq z1.symm) fun b o' hb hs => ?_⟩
    · exact Heap.get?_update_self _ (Heap.get?_push_of_some _ c1) rfl
    · exact (Heap.get?_update_other _ _ ct).trans ((Heap.get?_push_size _ rfl).trans el)
    · rw [← k1 b hb] at hs
      exact (Heap.get?_update_other _ _ (Ne.symm hb)).trans (Heap.get?_push_of_some _ hs)
  · rename_i heq
    have e2 : ncm its.toArray.size [a, b] = none := heq
    rw [hz, ncm_two hab hb, hn] at e2
    cases e2
theorem stop_it {α : Type} {Q : α → Shared → Prop} (hh : A.handled = none) (h : ∀ e h', (∃ o, s.heap.objs.size ≤ e ∧ h'.get? e = some o ∧ o.cls = .type "StopIteration") → (∀ b o, s.heap.get? b = some o → h'.get? b = some o) → E (.ref e) { s with heap := h' }) : wpAny (model prog w) A (Builtin.Itertools.itStop : Sem α) Q E s := by
  unfold Builtin.Itertools.itStop; refine wpAny_bind ?_; simp only [newExc, newTuple]
  refine wpAny_bind (wpAny_newObj_type (wpAny_bind (m := firstArgMember _ _) (wpAny_of_eq (a := Value.none) (by first | rfl | (simp only [firstArgMember]; rfl)) (wpAny_newObj_type ?_ (by size_fits)))) (by size_fits))
  simp only [raiseNew]; refine wpAny_bind (wpAny_handled ?_); rw [hh]; refine wpAny_bind (wpAny_pure (wpAny_throw (h _ _ ⟨_, ?_, Heap.get?_push_size _ rfl, rfl⟩ fun b o q => Heap.get?_push_of_some _ (Heap.get?_push_of_some _ q))))
  rw [Heap.size_push]; omega
theorem cmb_end {c p : Addr} {last : Value} {its : List Value} {a b : Nat} {st : Int} {Q : Option Value → Shared → Prop} (hh : A.handled = none) (hit : s.heap.get? c = some (cmbObj p st last a b)) (hp : IsTup s.heap p its) (hpc : p ≠ c) (hab : a < b) (hb : st = 1 → b < its.length) (hst : st = 1 ∧ nx its.length (a, b) = none ∨ st = 2)
    (hQ : ∀ e h', (∃ o, h'.get? e = some o ∧ o.cls = .type "StopIteration") → (∀ b o', b ≠ c → s.heap.get? b = some o' → h'.get? b = some o') → E (.ref e) { s with heap := h' }) :
    wpAny (model prog w) A (callSpecial? (.ref c) "__next__") Q E s := by
  have hT : s.TypeIs (.ref c) "itertools.combinations" := ⟨_, hit, rfl⟩
  refine wpAny_callSpecial?_slot (name := Str.ofString "__next__") hT slot_cmb_next (wpAny_call_entry slot_cmb_next hT entry_cmb_next ?_ (args_cmb_next _))
  have i0 : (#[Value.ref p, .int st 0, last, .int (a : Int) 0, .int (b : Int) 0] : Array Value)[0]? = some (.ref p) := rfl
  have i1 : (#[Value.ref p, .int st 0, last, .int (a : Int) 0, .int (b : Int) 0] : Array Value)[1]? = some (.int st 0) := rfl
  have hh1 : A.in1.handled = none := hh
  have hz : its.toArray.size = its.length := List.size_toArray ..
  rcases hst with ⟨rfl, hn⟩ | rfl
  · repeat (first
      | refine wpAny_field hit rfl i0 ?_
      | refine wpAny_field hit rfl i1 ?_
      | wp_step)
    split
    · rename_i next heq
      have e2 : ncm its.toArray.size [a, b] = some next := heq
      rw [hz, ncm_two hab (hb rfl), hn] at e2
      cases e2
    · refine wpAny_bind (wpAny_setField hit rfl (by simp) (stop_it hh1 fun e h' he hk => hQ e h' (he.imp fun _ z => z.2) fun b o' hb hs => hk b o' ?_))
      exact (Heap.get?_update_other _ _ (Ne.symm hb)).trans hs
  · repeat (first
      | refine wpAny_field hit rfl i0 ?_
      | refine wpAny_field hit rfl i1 ?_
      | refine stop_it hh1 fun e h' he hk => hQ e h' (he.imp fun _ z => z.2) fun b o' _ hs => hk b o' hs
      | wp_step)
theorem next_of {c : Addr} {Q : Option Value → Shared → Prop} (h : wpAny (model prog w) A (callSpecial? (.ref c) "__next__") (fun r s1 => ∃ v, r = some v ∧ Q (some v) s1) (fun _ _ => False) s) : wpAny (model prog w) A (pyNext (.ref c)) Q E s := by
  unfold pyNext
  refine wpAny_bind (wpAny_attempt (wpAny_mono h (fun r s1 hr => ?_) fun e s1 he => he.elim))
  obtain ⟨v, rfl, hv⟩ := hr
  exact wpAny_pure hv
theorem end_of {c : Addr} {Q : Option Value → Shared → Prop} (h : wpAny (model prog w) A (callSpecial? (.ref c) "__next__") (fun _ _ => False) (fun e s1 => ∃ a o, e = .ref a ∧ s1.heap.get? a = some o ∧ o.cls = .type "StopIteration" ∧ Q none s1) s) : wpAny (model prog w) A (pyNext (.ref c)) Q E s := by
  unfold pyNext
  refine wpAny_bind (wpAny_attempt (wpAny_mono h (fun r s1 hr => hr.elim) fun e s1 he => ?_))
  obtain ⟨a, o, rfl, ho, hc, q⟩ := he
  exact wpAny_bind (wpAny_isInstance (T := "StopIteration") (b := true) ⟨o, ho, hc⟩ isSubtype_stop (wpAny_pure q))
end
end Cmb
namespace L2
open PySem PySem.Spec PyProof.Rows
/-- the pairs of places, k the first -/
def pairsN : Nat → Nat → List (Nat × Nat)
  | _, 0 => []
  | k, m + 1 => (List.range m).map (fun d => (k, k + 1 + d)) ++ pairsN (k + 1) m
theorem pairsN_mem : ∀ {m k : Nat} {q : Nat × Nat}, q ∈ pairsN k m → k ≤ q.1 ∧ q.1 < q.2 ∧ q.2 < k + m
  | 0, _, _, h => by cases h
  | m + 1, k, q, h => by
    rw [pairsN] at h
    rcases List.mem_append.mp h with h | h
    · obtain ⟨d, hd, rfl⟩ := List.mem_map.mp h
      have := List.mem_range.mp hd
      exact ⟨Nat.le_refl _, by show k < k + 1 + d; omega, by show k + 1 + d < k + (m + 1); omega⟩
    · have := pairsN_mem h
      omega
theorem pairsN_zero : ∀ {m k : Nat} {q : Nat × Nat}, (pairsN k m)[0]? = some q → q = (k, k + 1) ∧ 2 ≤ m
  | 0, _, _, h => by cases h
  | 1, k, q, h => by cases h
  | m + 2, k, q, h => by
    rw [pairsN, List.range_succ_eq_map] at h
    cases h
    exact ⟨rfl, by omega⟩
theorem pairsN_nx : ∀ {m k i : Nat} {p q : Nat × Nat}, (pairsN k m)[i]? = some p → (pairsN k m)[i + 1]? = some q → Cmb.nx (k + m) p = some q
  | 0, _, _, _, _, h, _ => by cases h
  | m + 1, k, i, p, q, h1, h2 => by
    rw [pairsN] at h1 h2
    by_cases e : i + 1 < m
    · rw [List.getElem?_append_left (by simp; omega), List.getElem?_map, List.getElem?_range (by omega)] at h1
      rw [List.getElem?_append_left (by simp; omega), List.getElem?_map, List.getElem?_range e] at h2
      cases h1; cases h2
      unfold Cmb.nx
      rw [if_pos (by show k + 1 + i + 1 < k + (m + 1); omega)]; rfl
    · rw [List.getElem?_append_right (by simp; omega), List.length_map, List.length_range] at h2
      by_cases e2 : i < m
      · rw [List.getElem?_append_left (by simp; omega), List.getElem?_map, List.getElem?_range e2] at h1
        cases h1
        have hi : i + 1 - m = 0 := by omega
        rw [hi] at h2
        obtain ⟨rfl, hm⟩ := pairsN_zero h2
        unfold Cmb.nx
        rw [if_neg (by show ¬ (k + 1 + i + 1 < k + (m + 1)); omega), if_pos (by show k + 2 < k + (m + 1); omega)]
      · rw [List.getElem?_append_right (by simp; omega), List.length_map, List.length_range] at h1
        have hi : i + 1 - m = (i - m) + 1 := by omega
        rw [hi] at h2
        have := pairsN_nx h1 h2
        rwa [show k + 1 + m = k + (m + 1) by omega] at this
theorem pairsN_last : ∀ {m k i : Nat} {p : Nat × Nat}, (pairsN k m)[i]? = some p → (pairsN k m).length ≤ i + 1 → Cmb.nx (k + m) p = none
  | 0, _, _, _, h, _ => by cases h
  | m + 1, k, i, p, h1, h2 => by
    rw [pairsN] at h1 h2
    rw [List.length_append, List.length_map, List.length_range] at h2
    by_cases e2 : i < m
    · rw [List.getElem?_append_left (by simp; omega), List.getElem?_map, List.getElem?_range e2] at h1
      cases h1
      have h0 : (pairsN (k + 1) m).length = 0 := by omega
      have hm : m ≤ 1 := by
        match m, h0 with
        | 0, _ => omega
        | 1, _ => omega
        | m + 2, h0 => rw [pairsN] at h0; simp at h0
      unfold Cmb.nx
      rw [if_neg (by show ¬ (k + 1 + i + 1 < k + (m + 1)); omega), if_neg (by show ¬ (k + 2 < k + (m + 1)); omega)]
    · rw [List.getElem?_append_right (by simp; omega), List.length_map, List.length_range] at h1
      have := pairsN_last h1 (by omega)
      rwa [show k + 1 + m = k + (m + 1) by omega] at this
theorem pairsN_nil {m : Nat} (h : (pairsN 0 m).length = 0) : m ≤ 1 := by
  match m, h with
  | 0, _ => omega
  | 1, _ => omega
  | m + 2, h => rw [pairsN] at h; simp at h
/-- pairs of the values xs, each a new tuple -/
def Itc2 (xs : List V) : It :=
  ⟨fun i _ => i < (pairsN 0 xs.length).length, fun i H v H' => ∃ T a b x y, v = .ref T ∧ H T = none ∧ (pairsN 0 xs.length)[i]? = some (a, b) ∧ xs[a]? = some x ∧ xs[b]? = some y ∧ H' = upd H T (.tup [x, y]), fun i _ => (pairsN 0 xs.length).length ≤ i⟩
def cmbSt (n i : Nat) (st : Int) (q : Nat × Nat) : Prop := (i = 0 ∧ q = (0, 1) ∧ st = if 2 > n then 2 else 0) ∨ ∃ j, i = j + 1 ∧ st = 1 ∧ (pairsN 0 n)[j]? = some q
theorem turn_cmb {P : Program} {w : World} {K : PySem.W.Frag} {tg : Expr} {xs : List V} {its : List Value} {c p : Addr} (rv : Vals xs its) (hpc : p ≠ c) :
    Turn P w K tg (Itc2 xs) [c, p] c (fun i h => ∃ st last q, h.get? c = some (Cmb.cmbObj p st last q.1 q.2) ∧ Cmb.IsTup h p its ∧ cmbSt xs.length i st q) where
  mem := by simp
  obj := fun i h st b hb => by
    obtain ⟨s, l, q, h1, h2, _⟩ := st
    rcases (by simpa using hb : b = c ∨ b = p) with e | e
    · rw [e]; exact ⟨_, h1, fun v z => nomatch z⟩
    · rw [e]; exact ⟨_, h2, fun v z => nomatch z⟩
  keep := fun i h h' st k => by
    obtain ⟨s, l, q, h1, h2, h3⟩ := st
    exact ⟨s, l, q, k c (by simp) _ h1, k p (by simp) _ h2, h3⟩
  self := fun A i s Q E st h => by
    obtain ⟨_, l, q, h1, _, _⟩ := st
    exact Cmb.iter_cmb h1 h
  done := by
    intro X hP hw hK hc i pins s σ H E I hf st hg
    subst hP hw hK
    obtain ⟨s1, l, q, h1, h2, h3⟩ := st
    obtain ⟨f0, f1, f2, f3, f4, f5⟩ := hf c (by simp)
    have hl := rv.length
    replace hg : (pairsN 0 xs.length).length ≤ i := hg
    have hab : q.1 < q.2 := by
      rcases h3 with ⟨_, e, _⟩ | ⟨j, _, _, e⟩
      · rw [e]; decide
      · exact (pairsN_mem (List.mem_of_getElem? e)).2.1
    refine Cmb.end_of (Cmb.cmb_end (I.ok.hd hc) h1 h2 hpc hab (fun e1 => ?_) ?_ fun e h' he hk => ?_)
    · rcases h3 with ⟨_, _, e⟩ | ⟨j, _, _, e⟩
      · rw [e] at e1; split at e1 <;> cases e1
      · have := (pairsN_mem (List.mem_of_getElem? e)).2.2
        rw [← hl]; omega
    · rcases h3 with ⟨e0, _, e⟩ | ⟨j, ej, es, e⟩
      · right
        rw [e0] at hg
        have := pairsN_nil (Nat.le_zero.mp hg)
        rw [e, if_pos (by omega)]
      · left
        refine ⟨es, ?_⟩
        rw [ej] at hg
        have := pairsN_last e hg
        rw [Nat.zero_add, hl] at this
        exact this
    · obtain ⟨o, ho, hc'⟩ := he
      exact ⟨e, o, rfl, ho, hc', rfl, I.turned (t' := s.toks) (fun b o' hb z => hk b o' hb z) f0 f1 f3 f4 f5⟩
  item := by
    intro X hP hw hK hc i pins s σ H E I hf st hg
    subst hP hw hK
    obtain ⟨s1, l, q, h1, h2, h3⟩ := st
    have hl := rv.length
    replace hg : i < (pairsN 0 xs.length).length := hg
    obtain ⟨⟨a, b⟩, hq⟩ : ∃ q, (pairsN 0 xs.length)[i]? = some q := ⟨_, List.getElem?_eq_getElem hg⟩
    obtain ⟨_, m2, m3⟩ := pairsN_mem (List.mem_of_getElem? hq)
    rw [Nat.zero_add] at m3
    obtain ⟨x, hx⟩ : ∃ x, xs[a]? = some x := ⟨_, List.getElem?_eq_getElem (by show a < xs.length; omega)⟩
    obtain ⟨y, hy⟩ : ∃ y, xs[b]? = some y := ⟨_, List.getElem?_eq_getElem m3⟩
    obtain ⟨u, hu, ru⟩ := rv.get hx
    obtain ⟨u2, hu2, ru2⟩ := rv.get hy
    have fin : ∀ h' T, h'.get? c = some (Cmb.cmbObj p 1 (.ref T) a b) → h'.get? T = some { cls := .type "tuple", data := .seq #[u, u2] } → s.heap.objs.size ≤ T → (∀ b o', b ≠ c → s.heap.get? b = some o' → h'.get? b = some o') →
        ∃ v, (some (Value.ref T) : Option Value) = some v ∧ (fun (r : Option Value) s1 => ∃ u, r = some u ∧ wpAny (model X.prog X.w) X.A (letOwnedTupleGo tg (.ref c) u) (fun _ s2 => ∃ x H', Inv X pins σ H' s2 ∧ RelV x u ∧ (Itc2 xs).yld i H x H' ∧ (∃ st last q, s2.heap.get? c = some (Cmb.cmbObj p st last q.1 q.2) ∧ Cmb.IsTup s2.heap p its ∧ cmbSt xs.length (i + 1) st q) ∧ ∀ b ∈ [c, p], H' b = none) E s1) (some v) { s with heap := h' } := by
      intro h' T g1 g2 g3 g4
      refine ⟨_, rfl, _, rfl, go_of (s := { s with heap := h' }) g1 rfl rfl (by decide) ?_⟩
      have new : ObjOk X.prog X.w (upd H T (.tup [x, y])) h' T (.tup [x, y]) := ⟨by show 2 ≤ sizeLine; decide, [u, u2], .cons ru (.cons ru2 .nil), ⟨_, g2, rfl, _, rfl⟩⟩
      have I1 : Inv X pins σ (upd H T (.tup [x, y])) { s with heap := h' } := I.turnedNew (t' := s.toks) (ch := [c, p]) (fun b o hb z => g4 b o (fun e => hb (by simp [e])) z) hf g3 new
      have tp : Cmb.IsTup h' p its := g4 p _ hpc h2
      refine ⟨.ref T, _, I1, rfl, ⟨T, a, b, x, y, rfl, I.hok.fresh g3, hq, hx, hy, rfl⟩, ⟨1, _, (a, b), g1, tp, .inr ⟨i, rfl, rfl, hq⟩⟩, fun d hd => ?_⟩
      have hlt : d < s.heap.objs.size := by
        rcases (by simpa using hd : d = c ∨ d = p) with e | e
        · rw [e]; exact Heap.lt_size h1
        · rw [e]; exact Heap.lt_size h2
      rw [upd_ne (Nat.ne_of_lt (Nat.lt_of_lt_of_le hlt g3))]
      exact (hf d hd).1
    refine Cmb.next_of ?_
    rcases h3 with ⟨e0, eq, es⟩ | ⟨j, ej, es, ej2⟩
    · rw [e0] at hq
      obtain ⟨e1, hm⟩ := pairsN_zero hq
      cases e1
      rw [if_neg (by omega)] at es
      subst es
      rw [eq] at h1
      exact Cmb.cmb_first h1 h2 hpc hu hu2 fin
    · subst es
      have hn := pairsN_nx ej2 (by rw [← ej]; exact hq)
      rw [Nat.zero_add, hl] at hn
      obtain ⟨_, n2, n3⟩ := pairsN_mem (List.mem_of_getElem? ej2)
      exact Cmb.cmb_item h1 h2 hpc n2 (by rw [← hl]; omega) hn hu hu2 fin
def iCmb (K : PySem.W.Frag) (ta : TA) : TI := fun σ H R => ta σ H fun vs H1 => ∃ a xs, vs = [.ref a, .int 2] ∧ SqL K H1 a xs ∧ R (Itc2 xs) H1
theorem pi_cmb {X : Cx} {e e2 : Expr} {ta : TA} {p pos : Pos} {tg : Expr} {n : Str} (hg : Gl X n) (hm : X.mg n = some (.type "itertools.combinations")) (ha : PA X [e, e2] ta)
    (hs : starEach [e, e2] X.env = (false, eval e X.env) :: starEach [e2] X.env := by rfl) (hpl : (backTo pos (starEach [e2] X.env)).any (·.1) = false := by rfl) (hd : (n == ("__debug__" : Str)) = false := by decide) :
    PI X tg (.Call (.Name n p) [e, e2] [] pos) (iCmb X.K ta) := by
  refine ⟨fun pins s σ H R I h => ?_⟩
  refine Call_ (ld_glob I hg hm (PyProof.Rows.callWith_type1 (thn (ha.run pos pins s σ H _ I h) fun us s1 ⟨vs, H1, I1, r1, q1⟩ => ?_) hs hpl) hd)
  obtain ⟨a, xs, ex, hq, q⟩ := q1
  subst ex
  cases r1 with
  | cons r rr =>
    cases rr with
    | cons r' rr =>
      cases rr
      cases r
      obtain ⟨t, rfl⟩ := r'
      obtain ⟨its, rv, p1, hz⟩ := I1.list hq
      obtain ⟨o, ho, hc, n0, hd0⟩ := p1.isList
      refine Cmb.call_cmb ho hc hd0 (by rw [List.size_toArray, ← rv.length]; exact hz) fun h' p c t1 g1 hpc sp sc hk => Cmb.iter_cmb g1 ?_
      have I2 : Inv X pins σ H1 { s1 with heap := h' } := I1.kept (t' := s1.toks) hk
      have hl := rv.length
      refine ⟨c, [c, p], _, _, H1, rfl, I2, turn_cmb rv hpc, ⟨_, _, (0, 1), g1, t1, .inl ⟨rfl, rfl, ?_⟩⟩, fun b hb => ?_, q⟩
      · rw [hl]; simp
      · rcases (by simpa using hb : b = c ∨ b = p) with e | e
        · rw [e]; exact I1.fpOk sc (I1.hok.fresh sc)
        · rw [e]; exact I1.fpOk sp (I1.hok.fresh sp)
end L2
namespace M
open PySem PySem.Spec PyProof.Rows L2
open Evl (Ex ex_rd ex_l ex_t rMax2)
open G (dpx dpax dpa_len dpa_get dpa_app dpa_set ex_none ti li)
/-! ### combinations(xs, 2) -/
noncomputable def mCmb (ma : MA) : MI := fun env h => (ma env h).bind fun r => (argsTT r.1).bind fun p => if isT p.1 = false ∧ asI p.2 = some 2 then (itemsOf r.2 p.1).map fun xs => (([], (pairsN 0 xs.length).map fun q => pairM (xs.getD q.1 (.d .none)) (xs.getD q.2 (.d .none))), r.2) else none
theorem si_cmb {K : PySem.W.Frag} {ta : TA} {ma : MA} (h : SimA K ta ma) : SimI K (iCmb K ta) (mCmb ma) := fun w h0 σ env si h' rl re e R q => by
  obtain ⟨⟨xs, h1⟩, e1, e⟩ := bind_of e
  obtain ⟨⟨x, y⟩, e2, e⟩ := bind_of e
  simp only at e
  split at e
  · rename_i ht
    obtain ⟨ys, e3, e⟩ := map_of e
    cases e
    refine h w h0 σ env xs _ rl re e1 _ fun w1 us st1 r1 x1 => ?_
    replace e2 : argsTT xs = some (x, y) := e2
    rw [argsTT_of e2] at x1
    replace x1 : RepA K w1.ι w1.C us [x, y] := x1
    obtain ⟨u, v, rfl, hx, hy⟩ := x1.two
    have hv := asI_rep hy ht.2
    subst hv
    obtain ⟨a, vs, rfl, hq, ra⟩ := items_L r1 hx e3 ht.1
    refine ⟨a, vs, rfl, hq, q w1 _ st1 r1 fun w2 h2 st2 r2 _ => ?_⟩
    have hl := ra.len
    have ra2 := ra.up st2
    refine ⟨?_, fun i z ez => ?_⟩
    · show (pairsN 0 vs.length).length ≤ ((pairsN 0 ys.length).map _).length
      rw [List.length_map, hl]; exact Nat.le_refl _
    · rw [List.getElem?_map] at ez
      obtain ⟨⟨a1, b1⟩, f1, rfl⟩ := Option.map_eq_some_iff.mp ez
      refine ⟨by show i < (pairsN 0 vs.length).length; rw [hl]; exact (List.getElem?_eq_some_iff.mp f1).1, fun u H' yy => ?_⟩
      obtain ⟨T, a, b, x, y, rfl, hT, g1, g2, g3, rfl⟩ := yy
      rw [hl, f1] at g1
      cases g1
      obtain ⟨_, _, m3⟩ := pairsN_mem (List.mem_of_getElem? f1)
      obtain ⟨_, m2, _⟩ := pairsN_mem (List.mem_of_getElem? f1)
      have n1 : ys[a1]? = some (ys.getD a1 (.d .none)) := by rw [List.getD_eq_getElem?_getD, List.getElem?_eq_getElem (by show a1 < ys.length; omega)]; rfl
      have n2 : ys[b1]? = some (ys.getD b1 (.d .none)) := by rw [List.getD_eq_getElem?_getD, List.getElem?_eq_getElem (by show b1 < ys.length; omega)]; rfl
      obtain ⟨x', gx, rx⟩ := ra2.get n1
      obtain ⟨y', gy, ry⟩ := ra2.get n2
      rw [g2] at gx; cases gx
      rw [g3] at gy; cases gy
      exact pair_know r2 rx ry hT
  · cases e
end M
namespace M
open PySem PySem.Spec PyProof.Rows L2
open Evl (Ex ex_rd ex_l ex_t rMax2)
open G (dpx dpax dpa_len dpa_get dpa_app dpa_set ex_none ti li)
/-! ### tuple + tuple, data -/
def mCatT : MO2 := fun a b h => match a, b with
  | .d (.tuple xs), .d (.tuple ys) => if xs.length + ys.length ≤ 100000 then some (.d (.tuple (xs ++ ys)), h) else none
  | _, _ => none
theorem sr_catT {K : PySem.W.Frag} : SimR K (rCatA K) mCatT := fun w h x y a b v h' rl rx ry e Q q => by
  unfold mCatT at e
  split at e
  · rename_i xs ys
    split at e
    · rename_i hz
      cases e
      cases rx with
      | d rx =>
        cases ry with
        | d ry =>
          cases rx with
          | @tup a1 us _ hx ax =>
            cases ry with
            | @tup a2 vs _ hy ay =>
              have lx := dpa_len ax
              have ly := dpa_len ay
              refine ⟨_, _, _, _, rfl, rfl, ex_t rl.ch hx, ex_t rl.ch hy, by rw [lx, ly]; exact Nat.le_trans hz sl_100000, fun e0 => ?_, fun _ e0 => ?_, fun _ _ p hp => ?_⟩
              · have : xs = [] := List.length_eq_zero_iff.mp (by rw [← lx, e0]; rfl)
                subst this
                exact q w _ (.refl _) rl (.d (.tup hy ay))
              · have : ys = [] := List.length_eq_zero_iff.mp (by rw [← ly, e0]; rfl)
                subst this
                rw [List.append_nil] at q
                exact q w _ (.refl _) rl (.d (.tup hx ax))
              · obtain ⟨s2, r2⟩ := know_ok (o := .tup (us ++ vs)) rl hp
                exact q (w.know p _) _ s2 r2 (.d (.tup (.inl (.inl upd_same)) (dpa_app (dpax s2.ex ax) (dpax s2.ex ay))))
    · cases e
  · cases e
/-! ### in a list or in a tuple -/
def rInX (K : PySem.W.Frag) (neg : Bool) : R2 := fun x y H Q => ∃ d ds, Dp K H x d ∧ (Dp K H y (.list ds) ∨ Dp K H y (.tuple ds)) ∧ SeqAt.shaped d = true ∧ SeqAt.shaped (.list ds) = true ∧ SeqAt.shaped (.tuple ds) = true ∧ Q (.bl (if neg = true then !(ds.any fun z => PyData.eqv z d) else ds.any fun z => PyData.eqv z d)) H
theorem op_inX {X : Cx} (hu : X.A.units + 65 < cLine) : OpR X (compareOp .In) (rInX X.K false) := fun pins s σ H x y v u Q I rx ry ⟨d, ds, hd, he, sd, se, st, q⟩ => he.elim (fun he => op_inD hu pins s σ H x y v u Q I rx ry ⟨d, ds, hd, he, sd, se, q⟩) fun he =>
  (Dp.reads I d x v hd rx).elim fun as r1 => (Dp.reads I (.tuple ds) y u he ry).elim fun bs r2 => SeqAt.in_tuple_reads r2 r1 (SeqAt.canLay_of_shaped st) (SeqAt.canLay_of_shaped sd) (room_in_shaped sd hu) ⟨.bl _, H, I, rfl, q⟩
theorem op_notInX {X : Cx} (hu : X.A.units + 65 < cLine) : OpR X (compareOp .NotIn) (rInX X.K true) := fun pins s σ H x y v u Q I rx ry ⟨d, ds, hd, he, sd, se, st, q⟩ => he.elim (fun he => op_notInD hu pins s σ H x y v u Q I rx ry ⟨d, ds, hd, he, sd, se, q⟩) fun he =>
  (Dp.reads I d x v hd rx).elim fun as r1 => (Dp.reads I (.tuple ds) y u he ry).elim fun bs r2 => SeqAt.notIn_tuple_reads r2 r1 (SeqAt.canLay_of_shaped st) (SeqAt.canLay_of_shaped sd) (room_in_shaped sd hu) ⟨.bl _, H, I, rfl, q⟩
def asDX (d : PyData) : Option (List PyData) := match d with
  | .list ds => some ds
  | .tuple ds => some ds
  | _ => none
def mInX (neg : Bool) : MO2 := fun a b h => (reify 6 h a).bind fun d => (reify 6 h b).bind fun e => (asDX e).bind fun ds => if SeqAt.shaped d = true ∧ SeqAt.shaped (.list ds) = true ∧ SeqAt.shaped (.tuple ds) = true then some (.d (.bool (if neg = true then !(ds.any fun z => PyData.eqv z d) else ds.any fun z => PyData.eqv z d)), h) else none
theorem asDX_of {d : PyData} {ds : List PyData} (e : asDX d = some ds) : d = .list ds ∨ d = .tuple ds := by
  unfold asDX at e
  split at e
  · cases e; exact .inl rfl
  · cases e; exact .inr rfl
  · cases e
theorem sr_inX {K : PySem.W.Frag} {neg : Bool} : SimR K (rInX K neg) (mInX neg) := fun w h x y a b v h' rl rx ry e Q q => by
  obtain ⟨d, e1, e⟩ := bind_of e
  obtain ⟨e', e2, e⟩ := bind_of e
  obtain ⟨ds, e3, e⟩ := bind_of e
  split at e
  · rename_i hs
    cases e
    have d1 := dpx vis_ex (reify_ok rl 6 rx e1)
    have d2 := dpx vis_ex (reify_ok rl 6 ry e2)
    refine ⟨d, ds, d1, ?_, hs.1, hs.2.1, hs.2.2, q w _ (.refl _) rl (.d (.bl _))⟩
    rcases asDX_of e3 with z | z <;> rw [z] at d2
    · exact .inl d2
    · exact .inr d2
  · cases e
theorem e_inX {α : Type} [DecidableEq α] {f : α → PyData} {n : Nat} (E : Enc f n) {neg : Bool} {a : α} {bs : List α} {h : MH} {x y : MV} (hx : reify 6 h x = some (f a)) (hy : reify 6 h y = some (.list (bs.map f)) ∨ reify 6 h y = some (.tuple (bs.map f))) (hn : n ≤ 63 := by decide) : mInX neg x y h = some (.d (.bool (if neg = true then !decide (a ∈ bs) else decide (a ∈ bs))), h) := by
  have s1 := E.sh a (by omega)
  have s2 : SeqAt.shaped (.list (bs.map f)) = true := E.list.sh bs (by omega)
  have s3 : SeqAt.shaped (.tuple (bs.map f)) = true := E.tup.sh bs (by omega)
  unfold mInX
  rcases hy with hy | hy
  · rw [hx, hy, Option.bind_some, Option.bind_some, show asDX (.list (bs.map f)) = some (bs.map f) from rfl, Option.bind_some, if_pos ⟨s1, s2, s3⟩, E.any a bs]
  · rw [hx, hy, Option.bind_some, Option.bind_some, show asDX (.tuple (bs.map f)) = some (bs.map f) from rfl, Option.bind_some, if_pos ⟨s1, s2, s3⟩, E.any a bs]
end M
namespace PySem.W
open PySem PySem.Calls PyProof.Rows PyProof.V PySem.Spec
open PySem.SeqAt (EqIn EqAt)
section
variable {prog : Program} {w : World} {κ : Type} [DecidableEq κ] {knd : KeyKind prog w κ} {A : Around} {E : Value → Shared → Prop} {s : Shared}
theorem hitsIn_of {vb : List (κ × Value)} : ∀ {va : List (κ × Value)} {b : Bool}, KeqHits A s vb va b → KeqHitsIn prog w A s vb va b := by
  intro va b h
  induction h with
  | nil => exact .nil
  | miss h => exact .miss h
  | hit h e _ ih => exact .hit h (e.inModel prog w) ih
theorem neq_in {a b : Addr} {ka kb : List (κ × Value)} {r : Bool} {Q : Value → Shared → Prop} (ha : (a == sysModules) = false) (hb : (b == sysModules) = false)
    (da : s.heap.DictOf knd a ka) (db : s.heap.DictOf knd b kb) (hu : A.units < cLine) (hits : ka.length = kb.length → KeqHitsIn prog w A.in1 s kb ka r) (h : Q (.bool (!(ka.length == kb.length && r))) s) :
    wpAny (model prog w) A (compareOp .NotEq (.ref a) (.ref b)) Q E s := by
  have slot : wpAny (model prog w) A.in1 (Builtin.Dict.dictSlotArgs "__ne__" ⟨[.ref a, .ref b], []⟩) (fun p s' => p = (Value.ref a, Value.ref b) ∧ s' = s) (fun _ _ => False) s := by
    unfold Builtin.Dict.dictSlotArgs
    exact wpAny_bind (wpAny_notOrdered_dict da.typeIs (wpAny_pure ⟨rfl, rfl⟩))
  refine wpAny_richCompare_same_room (op := .NotEq) da.typeIs db.typeIs PySem.F.slot_dict_ne (wpAny_call_entry PySem.F.slot_dict_ne da.typeIs PySem.F.entry_dict_ne (?_ : wpAny (model prog w) _ (Builtin.Dict.dictSlotArgs "__ne__" ⟨[.ref a, .ref b], []⟩ >>= _) _ _ s) (PySem.F.args_dict_ne_2 _ _)) hu
  refine wpAny_bind (wpAny_mono slot (fun p s' q => ?_) fun _ _ x => x.elim)
  obtain ⟨q1, q2⟩ := q
  subst q1
  subst q2
  refine wpAny_bind (wpAny_isInstance (T := "dict") db.typeIs PySem.F.sub_dict_dict ?_)
  simp only [Bool.not_true, Bool.false_eq_true, if_false]
  refine wpAny_bind (wpAny_pure (wpAny_bind (wpAny_pure (wpAny_bind (keq_samePairsIn ha hb da db hits (wpAny_pure ⟨_, rfl, (fun x => nomatch x), ?_⟩))))))
  simpa using h
end
end PySem.W
namespace L2
open PySem PySem.Spec PyProof.Rows
/-! ### two dicts that hold dicts -/
inductive HitsW (K : PySem.W.Frag) (H : Hp) (ls : List (Key × V)) : List (Key × V) → Bool → Prop
  | nil : HitsW K H ls [] true
  | miss {k : Key} {v : V} {r : List (Key × V)} : valV ls k = none → HitsW K H ls ((k, v) :: r) false
  | dat {k : Key} {v y : V} {r : List (Key × V)} {d e : PyData} {b : Bool} : valV ls k = some y → Dp K H v d → Dp K H y e → SeqAt.shaped d = true → SeqAt.shaped e = true → HitsW K H ls r b → HitsW K H ls ((k, v) :: r) (PyData.eqv d e && b)
  | same {k : Key} {a : Addr} {r : List (Key × V)} {b : Bool} : valV ls k = some (.ref a) → HitsW K H ls r b → HitsW K H ls ((k, .ref a) :: r) (true && b)
  | dct {k : Key} {a a' : Addr} {r ks' ls' : List (Key × V)} {c b : Bool} : valV ls k = some (.ref a') → a ≠ a' → H a = some (.dK ks') → H a' = some (.dK ls') → HitsV K H ls' ks' c → HitsW K H ls r b → HitsW K H ls ((k, .ref a) :: r) (((ks'.length == ls'.length) && c) && b)
def rDkW (K : PySem.W.Frag) (neg : Bool) : R2 := fun x y H Q => ∃ (a b : Addr) (ks ls : List (Key × V)) (r : Bool), x = .ref a ∧ y = .ref b ∧ H a = some (.dK ks) ∧ H b = some (.dK ls) ∧ HitsW K H ls ks r ∧ Q (.bl (if neg = true then !((ks.length == ls.length) && r) else ((ks.length == ls.length) && r))) H
section
variable {X : Cx} {pins : List (Addr × Obj)} {σ : St} {H : Hp} {s : Shared}
theorem hits_runW (I : Inv X pins σ H s) {A : Around} (hu : A.units + 66 < cLine) {ls : List (Key × V)} {vb : List (Key × Value)} (rb : KV ls vb) {ks : List (Key × V)} {r : Bool} (h : HitsW X.K H ls ks r) : ∀ {va : List (Key × Value)}, KV ks va → PySem.W.KeqHitsIn X.prog X.w A s vb va r := by
  have look : ∀ {k0 : Key} {y0 : V}, valV ls k0 = some y0 → ∃ u, valueAt vb k0 = some u ∧ RelV y0 u := fun {k0 y0} hy => by
    have rr : RelO (some y0) (valueAt vb k0) := by rw [← hy]; exact rb.val k0
    exact rr.some_of
  induction h with
  | nil => intro va k; cases k; exact .nil
  | @miss k0 v0 r0 hn =>
    intro va k
    cases k with
    | cons hq hr =>
      rename_i q _
      obtain ⟨q1, q2⟩ := q
      obtain ⟨e1, e2⟩ := hq
      cases e1
      have := rb.val k0
      rw [hn] at this
      refine .miss ?_
      cases hv : valueAt vb k0 with
      | none => rfl
      | some u => rw [hv] at this; cases this
  | @dat k0 v0 y0 r0 d0 e0 b0 hy hd he sd se _ ih =>
    intro va k
    cases k with
    | cons hq hr =>
      rename_i q _
      obtain ⟨q1, q2⟩ := q
      obtain ⟨e1, e2⟩ := hq
      cases e1
      obtain ⟨u, hv, ru⟩ := look hy
      obtain ⟨as, r1⟩ := Dp.reads I _ _ _ hd e2
      obtain ⟨bs, r2⟩ := Dp.reads I _ _ _ he ru
      exact .hit hv ((PySem.SeqAt.eqAt_reads _ _ A s _ _ as bs r1 r2 (shaped_of sd).1 (shaped_of se).1 (by have := (shaped_of sd).2; omega)).inModel _ _) (ih hr)
  | @same k0 a0 r0 b0 hy _ ih =>
    intro va k
    cases k with
    | cons hq hr =>
      rename_i q _
      obtain ⟨q1, q2⟩ := q
      obtain ⟨e1, e2⟩ := hq
      cases e1
      obtain ⟨u, hv, ru⟩ := look hy
      cases (show q2 = Value.ref a0 from e2)
      cases (show u = Value.ref a0 from ru)
      exact .hit hv ((SeqAt.EqAt.same _).inModel _ _) (ih hr)
  | @dct k0 a0 a1 r0 ks' ls' c0 b0 hy hne ha hb hc _ ih =>
    intro va k
    cases k with
    | cons hq hr =>
      rename_i q _
      obtain ⟨q1, q2⟩ := q
      obtain ⟨e1, e2⟩ := hq
      cases e1
      obtain ⟨u, hv, ru⟩ := look hy
      cases (show q2 = Value.ref a0 from e2)
      cases (show u = Value.ref a1 from ru)
      obtain ⟨_, ya, va', ra', da⟩ := dk_of I.hok ha
      obtain ⟨_, yb, vb', rb', db⟩ := dk_of I.hok hb
      refine .hit hv (SeqAt.EqIn.of_refs hne fun E Q hq => PySem.W.keq_eqIn (knd := mixKind X.prog X.w) ya yb da db (by omega) (fun _ => PySem.W.hitsIn_of (hits_run2 I (A := A.in1) (by show A.units + 1 + 64 < cLine; omega) rb' hc ra')) ?_) (ih hr)
      rw [← ra'.length, ← rb'.length]
      exact hq
end
theorem hu67 {A : Around} {k : Nat} (hr : Room k A) : A.units + 67 < cLine := by have := hr.un; omega
theorem op_eqDkW {X : Cx} (hu : X.A.units + 67 < cLine) : OpR X (compareOp .Eq) (rDkW X.K false) := by
  intro pins s σ H x y v u Q I rx ry h
  obtain ⟨a, b, ks, ls, r, rfl, rfl, ea, eb, hp, q⟩ := h
  cases rx
  cases ry
  obtain ⟨_, ya, va, ra, da⟩ := dk_of I.hok ea
  obtain ⟨_, yb, vb, rb, db⟩ := dk_of I.hok eb
  refine PySem.W.keq_eqIn (knd := mixKind X.prog X.w) (r := r) ya yb da db (by omega) (fun _ => hits_runW I (by show X.A.units + 1 + 66 < cLine; omega) rb hp ra) ?_
  rw [← ra.length, ← rb.length]
  exact ⟨.bl _, H, I, rfl, q⟩
theorem op_neDkW {X : Cx} (hu : X.A.units + 67 < cLine) : OpR X (compareOp .NotEq) (rDkW X.K true) := by
  intro pins s σ H x y v u Q I rx ry h
  obtain ⟨a, b, ks, ls, r, rfl, rfl, ea, eb, hp, q⟩ := h
  cases rx
  cases ry
  obtain ⟨_, ya, va, ra, da⟩ := dk_of I.hok ea
  obtain ⟨_, yb, vb, rb, db⟩ := dk_of I.hok eb
  refine PySem.W.neq_in (knd := mixKind X.prog X.w) (r := r) ya yb da db (by omega) (fun _ => hits_runW I (by show X.A.units + 1 + 66 < cLine; omega) rb hp ra) ?_
  rw [← ra.length, ← rb.length]
  exact ⟨.bl _, H, I, rfl, q⟩
end L2
namespace M
open PySem PySem.Spec PyProof.Rows L2
open Evl (Ex ex_rd ex_l ex_t rMax2)
open G (dpx dpax dpa_len dpa_get dpa_app dpa_set ex_none ti li)
section
variable {K : PySem.W.Frag} {w : Wd} {h : MH}
def refOf : MV → Option Nat
  | .ref n => some n
  | _ => none
theorem refOf_of {x : MV} {n : Nat} (e : refOf x = some n) : x = .ref n := by
  cases x with
  | ref m => cases e; rfl
  | d _ => cases e
  | tup _ => cases e
def eqR (h : MH) (x y : MV) : Option Bool := (reify 6 h x).bind fun d => (reify 6 h y).bind fun e => if SeqAt.shaped d = true ∧ SeqAt.shaped e = true then some (PyData.eqv d e) else none
/-- two values of a dict -/
def eqW (h : MH) (x y : MV) : Option Bool := match refOf x, refOf y with
  | some i, some j => if i = j then some true else match asK h x, asK h y with
    | some s, some t => (hitsM h t.2 s.2).map fun c => (s.2.length == t.2.length) && c
    | _, _ => eqR h x y
  | _, _ => eqR h x y
def hitsWM (h : MH) (ls : List (Key × MV)) : List (Key × MV) → Option Bool
  | [] => some true
  | (k, x) :: r => match valG ls k with
    | none => some false
    | some y => (eqW h x y).bind fun c => (hitsWM h ls r).map fun b => c && b
theorem hitsWM_ok (r : Rel K w h) {ls : List (Key × V)} {lw : List (Key × MV)} (hl : KRep K w.ι w.C ls lw) : ∀ {ks : List (Key × V)} {kw : List (Key × MV)} {b : Bool}, KRep K w.ι w.C ks kw → hitsWM h lw kw = some b → HitsW K w.H ls ks b
  | [], [], b, _, e => by cases e; exact .nil
  | [], _ :: _, _, hk, _ => by have := hk.len; cases this
  | _ :: _, [], _, hk, _ => by have := hk.len; cases this
  | (k, v) :: ks, (k', x) :: kw, b, hk, e => by
    obtain ⟨h1, h2, h3⟩ := hk.cases
    cases h1
    rw [hitsWM] at e
    cases hv : valG lw k with
    | none =>
      rw [hv] at e
      cases e
      exact .miss (hl.valN hv)
    | some y =>
      simp only [hv] at e
      obtain ⟨c, e1, e⟩ := bind_of e
      obtain ⟨b', e2, e⟩ := map_of e
      subst e
      obtain ⟨u, g1, g2⟩ := hl.valS hv
      have rest := hitsWM_ok r hl h3 e2
      have flat : eqR h x y = some c → HitsW K w.H ls ((k, v) :: ks) (c && b') := fun e => by
        obtain ⟨d, e3, e⟩ := bind_of e
        obtain ⟨d', e4, e⟩ := bind_of e
        split at e
        · rename_i hs
          cases e
          exact .dat g1 (dpx vis_ex (reify_ok r 6 h2 e3)) (dpx vis_ex (reify_ok r 6 g2 e4)) hs.1 hs.2 rest
        · cases e
      unfold eqW at e1
      split at e1
      · rename_i i j hi hj
        have ex := refOf_of hi
        have ey := refOf_of hj
        split at e1
        · rename_i hij
          cases e1
          subst ex ey hij
          cases h2 with
          | ref z1 =>
            cases g2 with
            | ref z2 =>
              rw [z1] at z2
              cases z2
              exact .same g1 rest
        · rename_i hij
          split at e1
          · rename_i s t hs ht
            obtain ⟨⟨n1, k1⟩, hs'⟩ : ∃ s', s' = s := ⟨_, rfl⟩
            obtain ⟨⟨n2, k2⟩, ht'⟩ : ∃ t', t' = t := ⟨_, rfl⟩
            subst hs' ht'
            obtain ⟨c', e5, e6⟩ := map_of e1
            obtain ⟨ad, kvs, rfl, q1, q2, q3⟩ := asK_ok r h2 hs
            obtain ⟨ad', kvs', rfl, q1', q2', q3'⟩ := asK_ok r g2 ht
            have en1 := (asK_of hs).1
            have en2 := (asK_of ht).1
            rw [ex] at en1
            rw [ey] at en2
            cases en1
            cases en2
            have hne : ad ≠ ad' := fun z => by
              subst z
              exact hij ((List.getElem?_inj (List.getElem?_eq_some_iff.mp q1).1 r.nd).mp (q1.trans q1'.symm))
            have := HitsW.dct g1 hne q2 q2' (hitsM_ok r q3' q3 e5) rest
            rw [q3.len, q3'.len] at this
            rw [← e6]
            exact this
          · exact flat e1
      · exact flat e1
def mDkW (neg : Bool) : MO2 := fun a b h => (asK h a).bind fun s => (asK h b).bind fun t => (hitsWM h t.2 s.2).map fun r => (.d (.bool (if neg = true then !((s.2.length == t.2.length) && r) else ((s.2.length == t.2.length) && r))), h)
theorem sr_dkW {neg : Bool} : SimR K (rDkW K neg) (mDkW neg) := fun w h x y a b v h' rl rx ry e Q q => by
  obtain ⟨⟨n1, k1⟩, e1, e⟩ := bind_of e
  obtain ⟨⟨n2, k2⟩, e2, e⟩ := bind_of e
  obtain ⟨r, e3, e⟩ := map_of e
  cases e
  obtain ⟨ad, kvs, rfl, g1, g2, g3⟩ := asK_ok rl rx e1
  obtain ⟨ad', kvs', rfl, g1', g2', g3'⟩ := asK_ok rl ry e2
  refine ⟨ad, ad', kvs, kvs', r, rfl, rfl, g2, g2', hitsWM_ok rl g3' g3 e3, ?_⟩
  rw [g3.len, g3'.len]
  exact q w _ (.refl _) rl (.d (.bl _))
end
end M
namespace M
open PySem PySem.Spec PyProof.Rows L2
open Evl (Ex ex_rd ex_l ex_t rMax2)
open G (dpx dpax dpa_len dpa_get dpa_app dpa_set ex_none ti li)
/-! ### a dict while it is walked -/
def asF (h : MH) : MV → Option (Nat × List (Key × MV))
  | .ref n => match h[n]? with
    | some (.dctF kws) => some (n, kws)
    | _ => none
  | _ => none
theorem asF_of {h : MH} {v : MV} {n : Nat} {kws : List (Key × MV)} (e : asF h v = some (n, kws)) : v = .ref n ∧ h[n]? = some (.dctF kws) := by
  cases v with
  | ref m =>
    unfold asF at e
    cases e1 : h[m]? with
    | none => simp only [e1] at e; cases e
    | some b =>
      cases b with
      | dctF ys => simp only [e1] at e; cases e; exact ⟨rfl, e1⟩
      | _ => simp only [e1] at e; cases e
  | d _ => cases e
  | tup _ => cases e
theorem asF_ref {h : MH} {n : Nat} : asF h (.ref n) = match h[n]? with | some (.dctF xs) => some (n, xs) | _ => none := by
  unfold asF; rfl
/-- a dict that is read: walked or not -/
def asR (h : MH) : MV → Option (Nat × List (Key × MV))
  | .ref n => match h[n]? with
    | some (.dct kws) => some (n, kws)
    | some (.dctF kws) => some (n, kws)
    | _ => none
  | _ => none
theorem asR_ref {h : MH} {n : Nat} : asR h (.ref n) = match h[n]? with | some (.dct xs) => some (n, xs) | some (.dctF xs) => some (n, xs) | _ => none := by
  unfold asR; rfl
section
variable {K : PySem.W.Frag} {w : Wd} {h : MH}
theorem asF_ok (r : Rel K w h) {v : V} {x : MV} {n : Nat} {kws : List (Key × MV)} (rx : Rep K w.ι w.C v x) (e : asF h x = some (n, kws)) : ∃ a o kvs, v = .ref a ∧ w.ι[n]? = some a ∧ w.H a = some (.frz o (.dK kvs)) ∧ KRep K w.ι w.C kvs kws := by
  obtain ⟨eo, ex⟩ := asF_of e
  subst eo
  obtain ⟨a, o, h1, h2, h3, h4⟩ := r.look rx ex
  cases h4 with
  | dctF h4 h5 => exact ⟨a, _, _, h1, h2, h3, h4, h5⟩
theorem asR_ok (r : Rel K w h) {v : V} {x : MV} {n : Nat} {kws : List (Key × MV)} (rx : Rep K w.ι w.C v x) (e : asR h x = some (n, kws)) : ∃ a kvs, v = .ref a ∧ w.ι[n]? = some a ∧ Rd w.H a (.dK kvs) ∧ KRep K w.ι w.C kvs kws := by
  cases x with
  | ref m =>
    unfold asR at e
    cases e1 : h[m]? with
    | none => simp only [e1] at e; cases e
    | some b =>
      obtain ⟨a, o, h1, h2, h3, h4⟩ := r.look rx e1
      cases b with
      | dct ys =>
        simp only [e1] at e
        cases e
        cases h4 with
        | dct h4 h5 => exact ⟨a, _, h1, h2, .inl h3, h4, h5⟩
      | dctF ys =>
        simp only [e1] at e
        cases e
        cases h4 with
        | dctF h4 h5 => exact ⟨a, _, h1, h2, .inr ⟨_, h3⟩, h4, h5⟩
      | _ => simp only [e1] at e; cases e
  | d _ => cases e
  | tup _ => cases e
def keyM : Key → MV
  | .inl i => .d (.int i)
  | .inr s => .d (.str s)
theorem keyM_rep {ι : List Addr} {C : Hp} : ∀ k : Key, Rep K ι C (kV k) (keyM k)
  | .inl i => .d (.int i)
  | .inr s => .d (.str s)
theorem krep_get {ι : List Addr} {C : Hp} : ∀ {kvs : List (Key × V)} {kws : List (Key × MV)} {i : Nat} {k : Key} {x : MV}, KRep K ι C kvs kws → kws[i]? = some (k, x) → ∃ v, kvs[i]? = some (k, v) ∧ Rep K ι C v x
  | [], [], i, k, x, _, e => by simp at e
  | [], _ :: _, _, _, _, h, _ => by have := h.len; cases this
  | _ :: _, [], _, _, _, h, _ => by have := h.len; cases this
  | (k', v) :: kvs, q :: kws, 0, k, x, h, e => by
    obtain ⟨h1, h2, _⟩ := h.cases
    simp at e
    subst e
    cases h1
    exact ⟨v, rfl, h2⟩
  | p :: kvs, q :: kws, i + 1, k, x, h, e => by
    obtain ⟨_, _, h3⟩ := h.cases
    obtain ⟨v, g1, g2⟩ := krep_get (i := i) (k := k) (x := x) h3 (by simpa using e)
    exact ⟨v, by simpa using g1, g2⟩
/-- what a walk over the keys gives -/
def mItK (md : ME) : MI := fun env h => (md env h).bind fun r => (asF r.2 r.1).map fun t => (([], t.2.map fun kv => keyM kv.1), r.2)
theorem si_keys {td : TE} {md : ME} (hd : SimE K td md) : SimI K (iKeys td) (mItK md) := fun w h0 σ env si h' rl re e R q => by
  obtain ⟨⟨x, h1⟩, e1, e⟩ := bind_of e
  obtain ⟨⟨n, kws⟩, e2, e⟩ := map_of e
  cases e
  refine hd w h0 σ env x _ rl re e1 _ fun w1 u s1 r1 rx => ?_
  obtain ⟨a, o, kvs, rfl, g1, g2, g3⟩ := asF_ok r1 rx e2
  refine ⟨a, o, rfl, .inl ⟨kvs, g2, q w1 _ s1 r1 fun w2 h2 s2 r2 _ => ?_⟩⟩
  have hz := s2.fz _ _ _ g2
  have kr : KRep K w2.ι w2.C kvs kws := ⟨g3.1, g3.2.up s2⟩
  refine ⟨⟨hz, by show _ ≤ _; rw [List.length_map, g3.len]; exact Nat.le_refl _⟩, fun i x ex => ?_⟩
  rw [List.getElem?_map] at ex
  obtain ⟨⟨k, y⟩, f1, rfl⟩ := Option.map_eq_some_iff.mp ex
  obtain ⟨v, f2, f3⟩ := krep_get kr f1
  refine ⟨⟨hz, (List.getElem?_eq_some_iff.mp f2).1⟩, fun u' H' y' => ?_⟩
  obtain ⟨rfl, k', v', f4, rfl⟩ := y'
  rw [f2] at f4
  cases f4
  exact same_step r2 (keyM_rep k)
/-- .. over the pairs -/
noncomputable def mItI (md : ME) : MI := fun env h => (md env h).bind fun r => (asF r.2 r.1).map fun t => (([], t.2.map fun kv => pairM (keyM kv.1) kv.2), r.2)
theorem si_items {td : TE} {md : ME} (hd : SimE K td md) : SimI K (iItems td) (mItI md) := fun w h0 σ env si h' rl re e R q => by
  obtain ⟨⟨x, h1⟩, e1, e⟩ := bind_of e
  obtain ⟨⟨n, kws⟩, e2, e⟩ := map_of e
  cases e
  refine hd w h0 σ env x _ rl re e1 _ fun w1 u s1 r1 rx => ?_
  obtain ⟨a, o, kvs, rfl, g1, g2, g3⟩ := asF_ok r1 rx e2
  refine ⟨a, o, kvs, rfl, g2, q w1 _ s1 r1 fun w2 h2 s2 r2 _ => ?_⟩
  have hz := s2.fz _ _ _ g2
  have kr : KRep K w2.ι w2.C kvs kws := ⟨g3.1, g3.2.up s2⟩
  refine ⟨⟨hz, by show _ ≤ _; rw [List.length_map, g3.len]; exact Nat.le_refl _⟩, fun i x ex => ?_⟩
  rw [List.getElem?_map] at ex
  obtain ⟨⟨k, y⟩, f1, rfl⟩ := Option.map_eq_some_iff.mp ex
  obtain ⟨v, f2, f3⟩ := krep_get kr f1
  refine ⟨⟨hz, (List.getElem?_eq_some_iff.mp f2).1⟩, fun u' H' y' => ?_⟩
  obtain ⟨T, k', v', f4, rfl, nT, rfl⟩ := y'
  rw [f2] at f4
  cases f4
  exact pair_know r2 (keyM_rep k) f3 nT
/-! ### locked -/
theorem unlock_ok {w w' : Wd} {h' : MH} {n : Nat} {a : Addr} {od : Obj} {kvs : List (Key × V)} {kws : List (Key × MV)} (hn : w.ι[n]? = some a) (hd : w.H a = some (.dK kvs)) (s : Step (w.write a (.frz od (.dK kvs))) w') (r : Rel K w' h') (hu : h'[n]? = some (.dctF kws)) :
    w'.H a = some (.frz od (.dK kvs)) ∧ Step w (w'.write a (.dK kvs)) ∧ Rel K (w'.write a (.dK kvs)) (h'.set n (.dct kws)) := by
  have hm : a ∈ w.ι := List.mem_of_getElem? hn
  have hz : w'.H a = some (.frz od (.dK kvs)) := s.fz a od _ (show upd w.H a _ a = _ from upd_same)
  have hn' : w'.ι[n]? = some a := pre_get s.pre hn
  have w1H : ∀ b, b ≠ a → (w.write a (.frz od (.dK kvs))).H b = w.H b := fun b z => upd_ne z
  obtain ⟨o, q1, q2⟩ := r.ob n a _ hn' hu
  rw [hz] at q1
  cases q1
  cases q2 with
  | dctF k1 k2 =>
    refine ⟨hz, ⟨s.pre, s.ex, fun b o q nm => ?_, fun b m => ?_, fun b q c => ?_, fun b q => ?_, fun b o u q => ?_⟩, write_rel r hn' (.dct k1 k2)⟩
    · have nb : b ≠ a := fun z => nm (by rw [z]; exact hm)
      show upd w'.H a _ b = _
      rw [upd_ne nb]
      exact s.fr b o (by rw [w1H b nb]; exact q) nm
    · rcases s.nw b m with z | z
      · exact .inl z
      · refine .inr ?_
        by_cases y : b = a
        · subst y
          have z' : upd w.H b (.frz od (.dK kvs)) b = none := z
          rw [upd_same] at z'; cases z'
        · rw [w1H b y] at z; exact z
    · refine s.nc b ?_ c
      by_cases y : b = a
      · subst y
        show upd w.H b _ b ≠ none
        rw [upd_same]; exact fun z => nomatch z
      · rw [w1H b y]; exact q
    · show upd w'.H a _ b ≠ none
      by_cases y : b = a
      · rw [y, upd_same]; exact fun z => nomatch z
      · rw [upd_ne y]
        exact s.kp b (by rw [w1H b y]; exact q)
    · have nb : b ≠ a := fun z => by rw [z, hd] at q; cases q
      show upd w'.H a _ b = _
      rw [upd_ne nb]
      exact s.fz b o u (by rw [w1H b nb]; exact q)
open Classical in
noncomputable def unl (n : Nat) (kws : List (Key × MV)) : MRes → Option MRes
  | .nx e h => if h[n]? = some (.dctF kws) then some (.nx e (h.set n (.dct kws))) else none
  | .rt v h => if h[n]? = some (.dctF kws) then some (.rt v (h.set n (.dct kws))) else none
  | .bk e h => if h[n]? = some (.dctF kws) then some (.bk e (h.set n (.dct kws))) else none
  | .ct e h => if h[n]? = some (.dctF kws) then some (.ct e (h.set n (.dct kws))) else none
/-- a statement while the dict that md tells is locked -/
noncomputable def mLock (md : ME) (ms : MS) : MS := fun env h => (md env h).bind fun r => (asK h r.1).bind fun t => (ms env (h.set t.1 (.dctF t.2))).bind (unl t.1 t.2)
open Classical in
theorem ss_lock {t : TS} {ms : MS} {md : ME} (hs : SimS K t ms) : SimS K (tLock t) (mLock md ms) := fun D w h σ env r rl re e p => by
  obtain ⟨⟨x, hx⟩, e1, e⟩ := bind_of e
  obtain ⟨⟨n, kws⟩, e2, e⟩ := bind_of e
  obtain ⟨r', e3, e⟩ := bind_of e
  obtain ⟨ex, en⟩ := asK_of e2
  replace en : h[n]? = some (.dct kws) := en
  have hl : n < w.ι.length := by rw [rl.len]; exact (List.getElem?_eq_some_iff.mp en).1
  obtain ⟨a, hn⟩ : ∃ a, w.ι[n]? = some a := ⟨_, List.getElem?_eq_getElem hl⟩
  obtain ⟨o, q1, q2⟩ := rl.ob n a _ hn en
  cases q2 with
  | dct k1 k2 =>
    rename_i kvs
    refine ⟨a, .dK kvs, q1, trivial, fun od => ?_⟩
    obtain ⟨s1, r1⟩ := write_ok (o := .frz od (.dK kvs)) rl hn (.dctF k1 k2) (by rw [q1]; exact fun _ _ z => nomatch z)
    refine hs _ _ _ σ env r' r1 (re.up s1) e3 ?_
    cases r' with
    | nx e' h' =>
      replace e : (if h'[n]? = some (.dctF kws) then some (MRes.nx e' (h'.set n (.dct kws))) else none) = some r := e
      split at e
      · rename_i hu
        cases e
        exact fun w' σ' s r2 re2 => by
          obtain ⟨z1, z2, z3⟩ := unlock_ok hn q1 s r2 hu
          exact ⟨z1, p _ σ' z2 z3 ⟨re2.len, re2.at_⟩⟩
      · cases e
    | rt v h' =>
      replace e : (if h'[n]? = some (.dctF kws) then some (MRes.rt v (h'.set n (.dct kws))) else none) = some r := e
      split at e
      · rename_i hu
        cases e
        exact fun w' u s r2 rx => by
          obtain ⟨z1, z2, z3⟩ := unlock_ok hn q1 s r2 hu
          exact ⟨z1, p _ u z2 z3 rx⟩
      · cases e
    | bk e' h' =>
      replace e : (if h'[n]? = some (.dctF kws) then some (MRes.bk e' (h'.set n (.dct kws))) else none) = some r := e
      split at e
      · rename_i hu
        cases e
        exact fun w' σ' s r2 re2 => by
          obtain ⟨z1, z2, z3⟩ := unlock_ok hn q1 s r2 hu
          exact ⟨z1, p _ σ' z2 z3 ⟨re2.len, re2.at_⟩⟩
      · cases e
    | ct e' h' =>
      replace e : (if h'[n]? = some (.dctF kws) then some (MRes.ct e' (h'.set n (.dct kws))) else none) = some r := e
      split at e
      · rename_i hu
        cases e
        exact fun w' σ' s r2 re2 => by
          obtain ⟨z1, z2, z3⟩ := unlock_ok hn q1 s r2 hu
          exact ⟨z1, p _ σ' z2 z3 ⟨re2.len, re2.at_⟩⟩
      · cases e
/-- d[k], walked or not -/
def mDGetR (md mk : ME) : ME := fun env h => (md env h).bind fun d => (mk env d.2).bind fun k => (asR k.2 d.1).bind fun t => (keyOf k.1).bind fun y => (valG t.2 y).map fun v => (v, k.2)
theorem sm_dgetR {td ty : TE} {md mk : ME} (hd : SimE K td md) (hk : SimE K ty mk) : SimE K (tDGet td ty) (mDGetR md mk) := fun w h σ env v h' rl re e Q q => by
  obtain ⟨⟨a, h1⟩, e1, e⟩ := bind_of e
  obtain ⟨⟨b, h2⟩, e2, e⟩ := bind_of e
  obtain ⟨⟨n, kws⟩, e3, e⟩ := bind_of e
  obtain ⟨y, e4, e⟩ := bind_of e
  obtain ⟨x, e5, e⟩ := map_of e
  cases e
  refine hd w h σ env a h1 rl re e1 _ fun w1 u1 s1 r1 x1 => hk w1 h1 σ env b _ r1 (re.up s1) e2 _ fun w2 u2 s2 r2 x2 => ?_
  obtain ⟨ad, kvs, rfl, g1, g2, g3⟩ := asR_ok r2 (x1.up s2) e3
  have := keyOf_ok x2 e4
  subst this
  obtain ⟨u, f1, f2⟩ := g3.valS e5
  exact ⟨ad, u, rfl, .inl ⟨kvs, y, g2, rfl, f1.symm⟩, q w2 u (s1.trans s2) r2 f2⟩
end
/-! ### loops over a list of one's own -/
theorem mLoop_invS {α : Type} {g : MG} {mb : MS} {src : List (Nat × List MV)} (φ : α → MV) (ks : List α) (Inv : Nat → Env → MH → Prop) (hs : ∀ i e h, Inv i e h → ∀ s ∈ src, h[s.1]? = some (.lst s.2)) (step : ∀ i k env h, ks[i]? = some k → Inv i env h → ∃ env1 env2 h2, g (φ k) env = some env1 ∧ mb env1 h = some (.nx env2 h2) ∧ Inv (i + 1) env2 h2) :
    ∀ (i : Nat) (env : Env) (h : MH), i ≤ ks.length → Inv i env h → ∃ env' h', mLoop g mb src ((ks.drop i).map φ) env h = some (.nx env' h') ∧ Inv ks.length env' h' := by
  intro i
  generalize hn : ks.length - i = n
  induction n generalizing i with
  | zero =>
    intro env h hi inv
    have : i = ks.length := by omega
    subst this
    rw [List.drop_length, List.map_nil, mLoop, srcIf_ok (hs _ _ _ inv)]
    exact ⟨env, h, rfl, inv⟩
  | succ n ih =>
    intro env h hi inv
    have hlt : i < ks.length := by omega
    rw [List.drop_eq_getElem_cons hlt, List.map_cons, mLoop, srcIf_ok (hs _ _ _ inv)]
    obtain ⟨e1, e2, h2, g1, g2, g3⟩ := step i ks[i] env h (by simp [hlt]) inv
    rw [g1, Option.bind_some, g2, Option.bind_some]
    exact ih (i + 1) (by omega) e2 h2 hlt g3
theorem mFor_invS {α : Type} {mi : MI} {g : MG} {mb : MS} {env : Env} {h h1 : MH} {src : List (Nat × List MV)} (ks : List α) (φ : α → MV) (hi : mi env h = some ((src, ks.map φ), h1)) (Inv : Nat → Env → MH → Prop) (hs : ∀ i e h, Inv i e h → ∀ s ∈ src, h[s.1]? = some (.lst s.2)) (h0 : Inv 0 env h1)
    (step : ∀ i k env h, ks[i]? = some k → Inv i env h → ∃ env1 env2 h2, g (φ k) env = some env1 ∧ mb env1 h = some (.nx env2 h2) ∧ Inv (i + 1) env2 h2) : ∃ env' h', mFor mi g mb env h = some (.nx env' h') ∧ Inv ks.length env' h' := by
  unfold mFor
  rw [hi, Option.bind_some]
  exact mLoop_invS φ ks Inv hs step 0 env h1 (Nat.zero_le _) h0
/-! ### values that are read -/
end M
namespace M
open PySem PySem.Spec PyProof.Rows L2
open Evl (Ex ex_rd ex_l ex_t rMax2)
open G (rMin2 rInt1 rAbs rTupOf rListOf cr_len cr_max2 cr_min2 cr_int1 cr_abs cr_tup cr_list op_repA op_mulA op_catS pi_enumA pe_soSet ti li)
/-! ### the text -/
def topS (i : Nat) : Stmt := PySem.Challenge.pw_commonage_k09_whole_fresh_copies_have_wh.main.body.getD i (.Pass ⟨0, 0, 0, 0⟩)
abbrev s_zero_clock : Stmt := topS 1
abbrev N_zero_clock : List Str := ["machines"]
theorem sc_zero_clock : FnScope N_zero_clock ["machines"] (defScope s_zero_clock) := ⟨rfl, rfl, rfl, by decide +kernel, rfl, by decide +kernel, by decide +kernel⟩
abbrev s_merged : Stmt := topS 2
abbrev N_merged : List Str := ["one", "other", "first", "second"]
theorem sc_merged : FnScope N_merged ["one", "other"] (defScope s_merged) := ⟨rfl, rfl, rfl, by decide +kernel, rfl, by decide +kernel, by decide +kernel⟩
abbrev s_with_count : Stmt := topS 3
abbrev N_with_count : List Str := ["clock", "machine", "count", "at", "old"]
theorem sc_with_count : FnScope N_with_count ["clock", "machine", "count"] (defScope s_with_count) := ⟨rfl, rfl, rfl, by decide +kernel, rfl, by decide +kernel, by decide +kernel⟩
abbrev s_is_within : Stmt := topS 4
abbrev N_is_within : List Str := ["one", "other", "first", "second"]
theorem sc_is_within : FnScope N_is_within ["one", "other"] (defScope s_is_within) := ⟨rfl, rfl, rfl, by decide +kernel, rfl, by decide +kernel, by decide +kernel⟩
abbrev s_new_page : Stmt := topS 8
abbrev N_new_page : List Str := []
theorem sc_new_page : FnScope N_new_page [] (defScope s_new_page) := ⟨rfl, rfl, rfl, by decide +kernel, rfl, by decide +kernel, by decide +kernel⟩
abbrev s_has_place : Stmt := topS 9
abbrev N_has_place : List Str := ["page", "place"]
theorem sc_has_place : FnScope N_has_place ["page", "place"] (defScope s_has_place) := ⟨rfl, rfl, rfl, by decide +kernel, rfl, by decide +kernel, by decide +kernel⟩
abbrev s_cell_at : Stmt := topS 10
abbrev N_cell_at : List Str := ["page", "place"]
theorem sc_cell_at : FnScope N_cell_at ["page", "place"] (defScope s_cell_at) := ⟨rfl, rfl, rfl, by decide +kernel, rfl, by decide +kernel, by decide +kernel⟩
abbrev s_put_cell : Stmt := topS 11
abbrev N_put_cell : List Str := ["page", "place", "cell"]
theorem sc_put_cell : FnScope N_put_cell ["page", "place", "cell"] (defScope s_put_cell) := ⟨rfl, rfl, rfl, by decide +kernel, rfl, by decide +kernel, by decide +kernel⟩
abbrev s_store : Stmt := topS 12
abbrev N_store : List Str := ["page", "place", "value", "machine", "version", "_", "key"]
theorem sc_store : FnScope N_store ["page", "place", "value", "machine"] (defScope s_store) := ⟨rfl, rfl, rfl, by decide +kernel, rfl, by decide +kernel, by decide +kernel⟩
abbrev s_merge : Stmt := topS 13
abbrev N_merge : List Str := ["page", "rows", "place", "value", "key"]
theorem sc_merge : FnScope N_merge ["page", "rows"] (defScope s_merge) := ⟨rfl, rfl, rfl, by decide +kernel, rfl, by decide +kernel, by decide +kernel⟩
abbrev s_rows_of : Stmt := topS 14
abbrev N_rows_of : List Str := ["page", "place", "value", "key"]
theorem sc_rows_of : FnScope N_rows_of ["page"] (defScope s_rows_of) := ⟨rfl, rfl, rfl, by decide +kernel, rfl, by decide +kernel, by decide +kernel⟩
abbrev s_difference : Stmt := topS 15
abbrev N_difference : List Str := ["stored", "place"]
theorem sc_difference : FnScope N_difference ["stored"] (defScope s_difference) := ⟨rfl, rfl, rfl, by decide +kernel, rfl, by decide +kernel, by decide +kernel⟩
abbrev s_new_held : Stmt := topS 17
abbrev N_new_held : List Str := ["machines"]
theorem sc_new_held : FnScope N_new_held ["machines"] (defScope s_new_held) := ⟨rfl, rfl, rfl, by decide +kernel, rfl, by decide +kernel, by decide +kernel⟩
abbrev s_raised : Stmt := topS 18
abbrev N_raised : List Str := ["clock", "machine", "number", "at", "count"]
theorem sc_raised : FnScope N_raised ["clock", "machine", "number"] (defScope s_raised) := ⟨rfl, rfl, rfl, by decide +kernel, rfl, by decide +kernel, by decide +kernel⟩
abbrev s_needs : Stmt := topS 19
abbrev N_needs : List Str := ["held", "machine", "number"]
theorem sc_needs : FnScope N_needs ["held", "machine", "number"] (defScope s_needs) := ⟨rfl, rfl, rfl, by decide +kernel, rfl, by decide +kernel, by decide +kernel⟩
abbrev s_arrived : Stmt := topS 20
abbrev N_arrived : List Str := ["held", "machine", "number"]
theorem sc_arrived : FnScope N_arrived ["held", "machine", "number"] (defScope s_arrived) := ⟨rfl, rfl, rfl, by decide +kernel, rfl, by decide +kernel, by decide +kernel⟩
abbrev s_had : Stmt := topS 21
abbrev N_had : List Str := ["held", "clock"]
theorem sc_had : FnScope N_had ["held", "clock"] (defScope s_had) := ⟨rfl, rfl, rfl, by decide +kernel, rfl, by decide +kernel, by decide +kernel⟩
abbrev s_is_fresh : Stmt := topS 22
abbrev N_is_fresh : List Str := ["held", "needed", "owner"]
theorem sc_is_fresh : FnScope N_is_fresh ["held", "needed", "owner"] (defScope s_is_fresh) := ⟨rfl, rfl, rfl, by decide +kernel, rfl, by decide +kernel, by decide +kernel⟩
abbrev s__law_cell : Stmt := topS 24
abbrev N__law_cell : List Str := ["script", "k"]
theorem sc__law_cell : FnScope N__law_cell ["script", "k"] (defScope s__law_cell) := ⟨rfl, rfl, rfl, by decide +kernel, rfl, by decide +kernel, by decide +kernel⟩
abbrev s__law_digits : Stmt := topS 25
abbrev N__law_digits : List Str := ["cell", "bases", "digits", "rest", "base", "mixed"]
theorem sc__law_digits : FnScope N__law_digits ["cell", "bases"] (defScope s__law_digits) := ⟨rfl, rfl, rfl, by decide +kernel, rfl, by decide +kernel, by decide +kernel⟩
abbrev s__law_many : Stmt := topS 26
abbrev N__law_many : List Str := ["script", "few", "many"]
theorem sc__law_many : FnScope N__law_many ["script", "few", "many"] (defScope s__law_many) := ⟨rfl, rfl, rfl, by decide +kernel, rfl, by decide +kernel, by decide +kernel⟩
abbrev s__law_machine : Stmt := topS 27
abbrev N__law_machine : List Str := ["machines", "machine"]
theorem sc__law_machine : FnScope N__law_machine ["machines", "machine"] (defScope s__law_machine) := ⟨rfl, rfl, rfl, by decide +kernel, rfl, by decide +kernel, by decide +kernel⟩
abbrev s__law_right : Stmt := topS 28
abbrev N__law_right : List Str := ["team", "one", "other", "number", "place", "key"]
theorem sc__law_right : FnScope N__law_right ["team", "one"] (defScope s__law_right) := ⟨rfl, rfl, rfl, by decide +kernel, rfl, by decide +kernel, by decide +kernel⟩
abbrev s__law_store : Stmt := topS 29
abbrev N__law_store : List Str := ["team", "one", "place", "value", "key", "cells", "other", "number", "there", "elder"]
theorem sc__law_store : FnScope N__law_store ["team", "one", "place", "value"] (defScope s__law_store) := ⟨rfl, rfl, rfl, by decide +kernel, rfl, by decide +kernel, by decide +kernel⟩
abbrev s__law_end : Stmt := topS 30
abbrev N__law_end : List Str := ["team", "one", "home", "machine", "number", "place", "done", "letters"]
theorem sc__law_end : FnScope N__law_end ["team", "one", "home"] (defScope s__law_end) := ⟨rfl, rfl, rfl, by decide +kernel, rfl, by decide +kernel, by decide +kernel⟩
abbrev s__law_take_over : Stmt := topS 31
abbrev N__law_take_over : List Str := ["team", "one", "other", "own", "third", "numbers", "row"]
theorem sc__law_take_over : FnScope N__law_take_over ["team", "one", "other"] (defScope s__law_take_over) := ⟨rfl, rfl, rfl, by decide +kernel, rfl, by decide +kernel, by decide +kernel⟩
abbrev s__law_arrive : Stmt := topS 32
abbrev N__law_arrive : List Str := ["team", "one", "home", "letters", "number", "rows"]
theorem sc__law_arrive : FnScope N__law_arrive ["team", "one", "home"] (defScope s__law_arrive) := ⟨rfl, rfl, rfl, by decide +kernel, rfl, by decide +kernel, by decide +kernel⟩
abbrev s__law_asked : Stmt := topS 33
abbrev N__law_asked : List Str := ["team", "one", "home", "there"]
theorem sc__law_asked : FnScope N__law_asked ["team", "one", "home"] (defScope s__law_asked) := ⟨rfl, rfl, rfl, by decide +kernel, rfl, by decide +kernel, by decide +kernel⟩
abbrev s_law : Stmt := topS 34
abbrev N_law : List Str := ["script", "machines", "home", "team", "k", "digits", "one", "machine"]
theorem sc_law : FnScope N_law ["script"] (defScope s_law) := ⟨rfl, rfl, rfl, by decide +kernel, rfl, by decide +kernel, by decide +kernel⟩
noncomputable def ml_zero_clock_1 : MS :=
(mRet (mOp mRepA (mTup (mCons (mK (.int 0)) mNil)) (mVar 0)))
noncomputable def m_zero_clock : MS :=
ml_zero_clock_1
noncomputable def pf_zero_clock : List PyData → Option PyData := toPure 1 1 m_zero_clock
noncomputable def tr_zero_clock (K : PySem.W.Frag) : TS :=
(tRet (tOp (G.rRepA K) (tTup (tCons (tC (.int 0)) tNil)) (tVar 0)))
theorem sim_zero_clock (K : PySem.W.Frag) : SimS K (tr_zero_clock K) m_zero_clock :=
(ss_ret (sm_op (sm_tup (sm_cons sm_int sm_nil)) sm_var sr_repA))
noncomputable def ml_merged_1 : MS :=
(mRet (mCB mTupOf (mCons (mDat (mLc (mZip (mCons (mVar 0) (mCons (mVar 1) mNil))) (mgTup 2 (mgCons (mgName 2) (mgCons (mgName 3) mgNil))) mYes (mCB (liftD fMax2) (mCons (mVar 2) (mCons (mVar 3) mNil))) [2, 3])) mNil)))
noncomputable def m_merged : MS :=
ml_merged_1
noncomputable def pf_merged : List PyData → Option PyData := toPure 2 4 m_merged
noncomputable def tr_merged (K : PySem.W.Frag) : TS :=
(tRet (tCB (rTupOf K) (tCons (tLc (RZ.iZipA K (tCons (tVar 0) (tCons (tVar 1) tNil))) (gTup K 2 (gCons (gName 2) (gCons (gName 3) gNil))) tYes (tCB rMax2 (tCons (tVar 2) (tCons (tVar 3) tNil))) [2, 3]) tNil)))
theorem sim_merged (K : PySem.W.Frag) : SimS K (tr_merged K) m_merged :=
(ss_ret (sm_cb (sm_cons (sm_dat (sm_lc (si_zip (sm_cons sm_var (sm_cons sm_var sm_nil))) (sg_tup (sg_cons (sg_name (js := [2, 3]) (by decide)) (sg_cons (sg_name (js := [2, 3]) (by decide)) sg_nil))) sm_yes (sm_cb (sm_cons sm_var (sm_cons sm_var sm_nil)) sc_max2))) sm_nil) sc_tup))
noncomputable def ml_with_count_1 : MS :=
(mRet (mCB mTupOf (mCons (mDat (mLc (mEnum (mCons (mVar 0) mNil)) (mgTup 2 (mgCons (mgName 3) (mgCons (mgName 4) mgNil))) mYes (mIf (mTest (mOp (mEqD false) (mVar 3) (mVar 1))) (mVar 2) (mVar 4)) [3, 4])) mNil)))
noncomputable def m_with_count : MS :=
ml_with_count_1
noncomputable def pf_with_count : List PyData → Option PyData := toPure 3 5 m_with_count
noncomputable def tr_with_count (K : PySem.W.Frag) : TS :=
(tRet (tCB (rTupOf K) (tCons (tLc (G.iEnumA K (tCons (tVar 0) tNil)) (gTup K 2 (gCons (gName 3) (gCons (gName 4) gNil))) tYes (tIf (tTest (tOp (rEqD K) (tVar 3) (tVar 1))) (tVar 2) (tVar 4)) [3, 4]) tNil)))
theorem sim_with_count (K : PySem.W.Frag) : SimS K (tr_with_count K) m_with_count :=
(ss_ret (sm_cb (sm_cons (sm_dat (sm_lc (si_enum (sm_cons sm_var sm_nil)) (sg_tup (sg_cons (sg_name (js := [3, 4]) (by decide)) (sg_cons (sg_name (js := [3, 4]) (by decide)) sg_nil))) sm_yes (sm_if (sm_test (sm_op sm_var sm_var sr_eq)) sm_var sm_var))) sm_nil) sc_tup))
noncomputable def ml_is_within_1 : MS :=
(mRet (mCB (liftD fAll) (mCons (mDat (mLc (mZip (mCons (mVar 0) (mCons (mVar 1) mNil))) (mgTup 2 (mgCons (mgName 2) (mgCons (mgName 3) mgNil))) mYes (mOp (mIB fun i j => decide (i ≤ j)) (mVar 2) (mVar 3)) [2, 3])) mNil)))
noncomputable def m_is_within : MS :=
ml_is_within_1
noncomputable def pf_is_within : List PyData → Option PyData := toPure 2 4 m_is_within
noncomputable def tr_is_within (K : PySem.W.Frag) : TS :=
(tRet (tCB (rAll K) (tCons (tLc (RZ.iZipA K (tCons (tVar 0) (tCons (tVar 1) tNil))) (gTup K 2 (gCons (gName 2) (gCons (gName 3) gNil))) tYes (tOp (rI0 fun i j => .bl (decide (i ≤ j))) (tVar 2) (tVar 3)) [2, 3]) tNil)))
theorem sim_is_within (K : PySem.W.Frag) : SimS K (tr_is_within K) m_is_within :=
(ss_ret (sm_cb (sm_cons (sm_dat (sm_lc (si_zip (sm_cons sm_var (sm_cons sm_var sm_nil))) (sg_tup (sg_cons (sg_name (js := [2, 3]) (by decide)) (sg_cons (sg_name (js := [2, 3]) (by decide)) sg_nil))) sm_yes (sm_op sm_var sm_var sr_bl))) sm_nil) sc_all))
noncomputable def ml_new_page_1 : MS :=
(mRet (mNew (mRepF (mLst (mCons (mK (.tuple [(.int 0), (.tuple [(.int 0), (.int 0)])])) mNil)) (mK (.int 4)))))
noncomputable def m_new_page : MS :=
ml_new_page_1
noncomputable def fn_new_page : MCa := toHeap 0 0 m_new_page
noncomputable def tr_new_page (K : PySem.W.Frag) : TS :=
(tRet (tOp rRep (tLst (tCons (tGlD K (.tuple [(.int 0), (.tuple [(.int 0), (.int 0)])])) tNil)) (tGlD K (.int 4))))
theorem sim_new_page (K : PySem.W.Frag) : SimS K (tr_new_page K) m_new_page :=
(ss_ret (sm_new (sm_rep (sm_lst (sm_cons sm_glD sm_nil)) sm_glD)))
noncomputable def ml_has_place_1 : MS :=
(mRet (mChain (mIB fun i j => decide (i ≤ j)) (mIB fun i j => decide (i < j)) (mK (.int 0)) (mVar 1) (mCB mLen (mCons (mVar 0) mNil))))
noncomputable def m_has_place : MS :=
ml_has_place_1
noncomputable def pf_has_place : List PyData → Option PyData := toPure 2 2 m_has_place
noncomputable def tr_has_place (K : PySem.W.Frag) : TS :=
(tRet (tChain (rI0 fun i j => .bl (decide (i ≤ j))) (rI0 fun i j => .bl (decide (i < j))) (tC (.int 0)) (tVar 1) (tCB (G.rLen K) (tCons (tVar 0) tNil))))
theorem sim_has_place (K : PySem.W.Frag) : SimS K (tr_has_place K) m_has_place :=
(ss_ret (sm_chain sm_int sm_var (sm_cb (sm_cons sm_var sm_nil) sc_len) sr_bl sr_bl))
noncomputable def ml_cell_at_1 : MS :=
(mRet (mIf (mTest (mCB (liftD pf_has_place) (mCons (mVar 0) (mCons (mVar 1) mNil)))) (mOp mIx (mVar 0) (mVar 1)) (mK (.tuple [(.int 0), (.tuple [(.int 0), (.int 0)])]))))
noncomputable def m_cell_at : MS :=
ml_cell_at_1
noncomputable def pf_cell_at : List PyData → Option PyData := toPure 2 2 m_cell_at
noncomputable def tr_cell_at (K : PySem.W.Frag) : TS :=
(tRet (tIf (tB (tCall (spQ K pf_has_place) [] E0 (tCons (tVar 0) (tCons (tVar 1) tNil)))) (tOp (rIx K) (tVar 0) (tVar 1)) (tGlD K (.tuple [(.int 0), (.tuple [(.int 0), (.int 0)])]))))
theorem sim_cell_at (K : PySem.W.Frag) : SimS K (tr_cell_at K) m_cell_at :=
(ss_ret (sm_if (sm_B (sm_callQ (sm_cons sm_var (sm_cons sm_var sm_nil)))) (sm_op sm_var sm_var sr_ix) sm_glD))
noncomputable def mc_put_cell_1 : MT :=
(mTest (mCB (liftD pf_has_place) (mCons (mVar 0) (mCons (mVar 1) mNil))))
noncomputable def ml_put_cell_2 : MS :=
(mSetL (mVar 2) (mVar 0) (mVar 1))
noncomputable def ml_put_cell_1 : MS :=
(mIfS mc_put_cell_1
ml_put_cell_2
mNext)
noncomputable def m_put_cell : MS :=
ml_put_cell_1
noncomputable def fn_put_cell : MCa := toHeap 3 3 m_put_cell
noncomputable def tr_put_cell (K : PySem.W.Frag) : TS :=
(tIfS (tB (tCall (spQ K pf_has_place) [] E0 (tCons (tVar 0) (tCons (tVar 1) tNil))))
(tAsg (tVar 2) (gSub (tVar 0) (tVar 1) rSetL))
tNext)
theorem sim_put_cell (K : PySem.W.Frag) : SimS K (tr_put_cell K) m_put_cell :=
(ss_if (sm_B (sm_callQ (sm_cons sm_var (sm_cons sm_var sm_nil))))
(ss_setL sm_var sm_var sm_var)
ss_next)
noncomputable def ml_store_4 : MS :=
(mRet (mVar 6))
noncomputable def ml_store_3 : MS :=
(mDrop (mCB fn_put_cell (mCons (mVar 0) (mCons (mVar 1) (mCons (mTup (mCons (mVar 2) (mCons (mVar 6) mNil))) mNil)))))
noncomputable def ml_store_2 : MS :=
(mAsg (mTup (mCons (mOp (mI fun i j => i + j) (mVar 4) (mK (.int 1))) (mCons (mVar 3) mNil))) (mgName 6))
noncomputable def ml_store_1 : MS :=
(mAsg (mOp mIx (mCB (liftD pf_cell_at) (mCons (mVar 0) (mCons (mVar 1) mNil))) (mK (.int 1))) (mgTup 2 (mgCons (mgName 4) (mgCons (mgName 5) mgNil))))
noncomputable def m_store : MS :=
(mSeq ml_store_1
(mSeq ml_store_2
(mSeq ml_store_3
ml_store_4)))
noncomputable def fn_store : MCa := toHeap 4 7 m_store
noncomputable def tr_store (K : PySem.W.Frag) : TS :=
(tSeq (tAsg (tOp (rIx K) (tCall (spQ K pf_cell_at) [] E0 (tCons (tVar 0) (tCons (tVar 1) tNil))) (tC (.int 1))) (gTup K 2 (gCons (gName 4) (gCons (gName 5) gNil))))
(tSeq (tAsg (tTup (tCons (tOp (rI0 fun i j => .int (i + j)) (tVar 4) (tC (.int 1))) (tCons (tVar 3) tNil))) (gName 6))
(tSeq (tDrop (tCall (spH K fn_put_cell) [] E0 (tCons (tVar 0) (tCons (tVar 1) (tCons (tTup (tCons (tVar 2) (tCons (tVar 6) tNil))) tNil)))))
(tRet (tVar 6)))))
theorem sim_store (K : PySem.W.Frag) : SimS K (tr_store K) m_store :=
(ss_seq (ss_asg (sm_op (sm_callQ (sm_cons sm_var (sm_cons sm_var sm_nil))) sm_int sr_ix) (sg_tup (sg_cons (sg_name (js := [4, 5]) (by decide)) (sg_cons (sg_name (js := [4, 5]) (by decide)) sg_nil))))
(ss_seq (ss_asg (sm_tup (sm_cons (sm_op sm_var sm_int sr_int) (sm_cons sm_var sm_nil))) (sg_name (js := [6]) (by decide)))
(ss_seq (ss_drop (sm_callH (sm_cons sm_var (sm_cons sm_var (sm_cons (sm_tup (sm_cons sm_var (sm_cons sm_var sm_nil))) sm_nil)))))
(ss_ret sm_var))))
noncomputable def mc_merge_2 : MT :=
(mTest (mOp (mCmp fGt) (mVar 4) (mOp mIx (mCB (liftD pf_cell_at) (mCons (mVar 0) (mCons (mVar 2) mNil))) (mK (.int 1)))))
noncomputable def ml_merge_3 : MS :=
(mDrop (mCB fn_put_cell (mCons (mVar 0) (mCons (mVar 2) (mCons (mTup (mCons (mVar 3) (mCons (mVar 4) mNil))) mNil)))))
noncomputable def ml_merge_2 : MS :=
(mIfS mc_merge_2
ml_merge_3
mNext)
noncomputable def mb_merge_1 : MS :=
ml_merge_2
noncomputable def ml_merge_1 : MS :=
(mFor (mItT (mVar 1)) (mgTup 3 (mgCons (mgName 2) (mgCons (mgName 3) (mgCons (mgName 4) mgNil)))) mb_merge_1)
noncomputable def m_merge : MS :=
ml_merge_1
noncomputable def fn_merge : MCa := toHeap 2 5 m_merge
noncomputable def tr_merge (K : PySem.W.Frag) : TS :=
(tFor (iTup K (tVar 1)) (gTup K 3 (gCons (gName 2) (gCons (gName 3) (gCons (gName 4) gNil))))
(tIfS (tTest (tOp (rCmpD K fGt) (tVar 4) (tOp (rIx K) (tCall (spQ K pf_cell_at) [] E0 (tCons (tVar 0) (tCons (tVar 2) tNil))) (tC (.int 1)))))
(tDrop (tCall (spH K fn_put_cell) [] E0 (tCons (tVar 0) (tCons (tVar 2) (tCons (tTup (tCons (tVar 3) (tCons (tVar 4) tNil))) tNil)))))
tNext))
theorem sim_merge (K : PySem.W.Frag) : SimS K (tr_merge K) m_merge :=
(ss_for (si_tup sm_var) (sg_tup (sg_cons (sg_name (js := [2, 3, 4]) (by decide)) (sg_cons (sg_name (js := [2, 3, 4]) (by decide)) (sg_cons (sg_name (js := [2, 3, 4]) (by decide)) sg_nil))))
(ss_if (sm_test (sm_op sm_var (sm_op (sm_callQ (sm_cons sm_var (sm_cons sm_var sm_nil))) sm_int sr_ix) sr_cmp))
(ss_drop (sm_callH (sm_cons sm_var (sm_cons sm_var (sm_cons (sm_tup (sm_cons sm_var (sm_cons sm_var sm_nil))) sm_nil)))))
ss_next))
noncomputable def ml_rows_of_1 : MS :=
(mRet (mCB mTupOf (mCons (mDat (mLc (mEnum (mCons (mVar 0) mNil)) (mgTup 2 (mgCons (mgName 1) (mgCons (mgTup 2 (mgCons (mgName 2) (mgCons (mgName 3) mgNil))) mgNil))) mYes (mTup (mCons (mVar 1) (mCons (mVar 2) (mCons (mVar 3) mNil)))) [1, 2, 3])) mNil)))
noncomputable def m_rows_of : MS :=
ml_rows_of_1
noncomputable def pf_rows_of : List PyData → Option PyData := toPure 1 4 m_rows_of
noncomputable def tr_rows_of (K : PySem.W.Frag) : TS :=
(tRet (tCB (rTupOf K) (tCons (tLc (G.iEnumA K (tCons (tVar 0) tNil)) (gTup K 2 (gCons (gName 1) (gCons (gTup K 2 (gCons (gName 2) (gCons (gName 3) gNil))) gNil))) tYes (tTup (tCons (tVar 1) (tCons (tVar 2) (tCons (tVar 3) tNil)))) [1, 2, 3]) tNil)))
theorem sim_rows_of (K : PySem.W.Frag) : SimS K (tr_rows_of K) m_rows_of :=
(ss_ret (sm_cb (sm_cons (sm_dat (sm_lc (si_enum (sm_cons sm_var sm_nil)) (sg_tup (sg_cons (sg_name (js := [1, 2, 3]) (by decide)) (sg_cons (sg_tup (sg_cons (sg_name (js := [1, 2, 3]) (by decide)) (sg_cons (sg_name (js := [1, 2, 3]) (by decide)) sg_nil))) sg_nil))) sm_yes (sm_tup (sm_cons sm_var (sm_cons sm_var (sm_cons sm_var sm_nil)))))) sm_nil) sc_tup))
noncomputable def ml_difference_1 : MS :=
(mRet (mCB mTupOf (mCons (mDat (mLc (mItL (mDat (mCBF mSortDI (mCons (mVar 0) mNil)))) (mgName 1) mYes (mTup (mCons (mVar 1) (mCons (mOp mIx (mDGet (mVar 0) (mVar 1)) (mK (.int 0))) (mCons (mOp mIx (mDGet (mVar 0) (mVar 1)) (mK (.int 1))) mNil)))) [1])) mNil)))
noncomputable def m_difference : MS :=
ml_difference_1
noncomputable def fn_difference : MCa := toHeap 1 2 m_difference
noncomputable def tr_difference (K : PySem.W.Frag) : TS :=
(tRet (tCB (rTupOf K) (tCons (tLc (iList K (tCB rSortDI (tCons (tVar 0) tNil))) (gName 1) tYes (tTup (tCons (tVar 1) (tCons (tOp (rIx K) (tDGet (tVar 0) (tVar 1)) (tC (.int 0))) (tCons (tOp (rIx K) (tDGet (tVar 0) (tVar 1)) (tC (.int 1))) tNil)))) [1]) tNil)))
theorem sim_difference (K : PySem.W.Frag) : SimS K (tr_difference K) m_difference :=
(ss_ret (sm_cb (sm_cons (sm_dat (sm_lc (si_list (sm_dat (sm_cbF (sm_cons sm_var sm_nil) sf_sortDI))) (sg_name (js := [1]) (by decide)) sm_yes (sm_tup (sm_cons sm_var (sm_cons (sm_op (sm_dget sm_var sm_var) sm_int sr_ix) (sm_cons (sm_op (sm_dget sm_var sm_var) sm_int sr_ix) sm_nil)))))) sm_nil) sc_tup))
noncomputable def ml_new_held_1 : MS :=
(mRet (mDisp (((mK (.str "need")), (mCB (liftD pf_zero_clock) (mCons (mVar 0) mNil))) :: (((mK (.str "has")), (mCB (liftD pf_zero_clock) (mCons (mVar 0) mNil))) :: []))))
noncomputable def m_new_held : MS :=
ml_new_held_1
noncomputable def fn_new_held : MCa := toHeap 1 1 m_new_held
noncomputable def tr_new_held (K : PySem.W.Frag) : TS :=
(tRet (tDisp (((tC (.str "need")), (tCall (spQ K pf_zero_clock) [] E0 (tCons (tVar 0) tNil))) :: (((tC (.str "has")), (tCall (spQ K pf_zero_clock) [] E0 (tCons (tVar 0) tNil))) :: []))))
theorem sim_new_held (K : PySem.W.Frag) : SimS K (tr_new_held K) m_new_held :=
(ss_ret (sm_disp (.cons sm_str (sm_callQ (sm_cons sm_var sm_nil)) (.cons sm_str (sm_callQ (sm_cons sm_var sm_nil)) .nil))))
noncomputable def ml_raised_1 : MS :=
(mRet (mCB mTupOf (mCons (mDat (mLc (mEnum (mCons (mVar 0) mNil)) (mgTup 2 (mgCons (mgName 3) (mgCons (mgName 4) mgNil))) mYes (mIf (mTest (mOp (mEqD false) (mVar 3) (mVar 1))) (mCB (liftD fMax2) (mCons (mVar 4) (mCons (mVar 2) mNil))) (mVar 4)) [3, 4])) mNil)))
noncomputable def m_raised : MS :=
ml_raised_1
noncomputable def pf_raised : List PyData → Option PyData := toPure 3 5 m_raised
noncomputable def tr_raised (K : PySem.W.Frag) : TS :=
(tRet (tCB (rTupOf K) (tCons (tLc (G.iEnumA K (tCons (tVar 0) tNil)) (gTup K 2 (gCons (gName 3) (gCons (gName 4) gNil))) tYes (tIf (tTest (tOp (rEqD K) (tVar 3) (tVar 1))) (tCB rMax2 (tCons (tVar 4) (tCons (tVar 2) tNil))) (tVar 4)) [3, 4]) tNil)))
theorem sim_raised (K : PySem.W.Frag) : SimS K (tr_raised K) m_raised :=
(ss_ret (sm_cb (sm_cons (sm_dat (sm_lc (si_enum (sm_cons sm_var sm_nil)) (sg_tup (sg_cons (sg_name (js := [3, 4]) (by decide)) (sg_cons (sg_name (js := [3, 4]) (by decide)) sg_nil))) sm_yes (sm_if (sm_test (sm_op sm_var sm_var sr_eq)) (sm_cb (sm_cons sm_var (sm_cons sm_var sm_nil)) sc_max2) sm_var))) sm_nil) sc_tup))
noncomputable def ml_needs_1 : MS :=
(mDPut (mVar 0) (mK (.str "need")) (mCB (liftD pf_raised) (mCons (mDGet (mVar 0) (mK (.str "need"))) (mCons (mVar 1) (mCons (mVar 2) mNil)))))
noncomputable def m_needs : MS :=
ml_needs_1
noncomputable def fn_needs : MCa := toHeap 3 3 m_needs
noncomputable def tr_needs (K : PySem.W.Frag) : TS :=
(sDPut (tVar 0) (tC (.str "need")) (tCall (spQ K pf_raised) [] E0 (tCons (tDGet (tVar 0) (tC (.str "need"))) (tCons (tVar 1) (tCons (tVar 2) tNil)))))
theorem sim_needs (K : PySem.W.Frag) : SimS K (tr_needs K) m_needs :=
(ss_dput sm_var sm_str (sm_callQ (sm_cons (sm_dget sm_var sm_str) (sm_cons sm_var (sm_cons sm_var sm_nil)))))
noncomputable def ml_arrived_1 : MS :=
(mDPut (mVar 0) (mK (.str "has")) (mCB (liftD pf_raised) (mCons (mDGet (mVar 0) (mK (.str "has"))) (mCons (mVar 1) (mCons (mVar 2) mNil)))))
noncomputable def m_arrived : MS :=
ml_arrived_1
noncomputable def fn_arrived : MCa := toHeap 3 3 m_arrived
noncomputable def tr_arrived (K : PySem.W.Frag) : TS :=
(sDPut (tVar 0) (tC (.str "has")) (tCall (spQ K pf_raised) [] E0 (tCons (tDGet (tVar 0) (tC (.str "has"))) (tCons (tVar 1) (tCons (tVar 2) tNil)))))
theorem sim_arrived (K : PySem.W.Frag) : SimS K (tr_arrived K) m_arrived :=
(ss_dput sm_var sm_str (sm_callQ (sm_cons (sm_dget sm_var sm_str) (sm_cons sm_var (sm_cons sm_var sm_nil)))))
noncomputable def ml_had_1 : MS :=
(mDPut (mVar 0) (mK (.str "has")) (mCB (liftD pf_merged) (mCons (mDGet (mVar 0) (mK (.str "has"))) (mCons (mVar 1) mNil))))
noncomputable def m_had : MS :=
ml_had_1
noncomputable def fn_had : MCa := toHeap 2 2 m_had
noncomputable def tr_had (K : PySem.W.Frag) : TS :=
(sDPut (tVar 0) (tC (.str "has")) (tCall (spQ K pf_merged) [] E0 (tCons (tDGet (tVar 0) (tC (.str "has"))) (tCons (tVar 1) tNil))))
theorem sim_had (K : PySem.W.Frag) : SimS K (tr_had K) m_had :=
(ss_dput sm_var sm_str (sm_callQ (sm_cons (sm_dget sm_var sm_str) (sm_cons sm_var sm_nil))))
noncomputable def ml_is_fresh_1 : MS :=
(mRet (mCB (liftD pf_is_within) (mCons (mCB (liftD pf_with_count) (mCons (mVar 1) (mCons (mVar 2) (mCons (mK (.int 0)) mNil)))) (mCons (mDGet (mVar 0) (mK (.str "has"))) mNil))))
noncomputable def m_is_fresh : MS :=
ml_is_fresh_1
noncomputable def fn_is_fresh : MCa := toHeap 3 3 m_is_fresh
noncomputable def tr_is_fresh (K : PySem.W.Frag) : TS :=
(tRet (tCall (spQ K pf_is_within) [] E0 (tCons (tCall (spQ K pf_with_count) [] E0 (tCons (tVar 1) (tCons (tVar 2) (tCons (tC (.int 0)) tNil)))) (tCons (tDGet (tVar 0) (tC (.str "has"))) tNil))))
theorem sim_is_fresh (K : PySem.W.Frag) : SimS K (tr_is_fresh K) m_is_fresh :=
(ss_ret (sm_callQ (sm_cons (sm_callQ (sm_cons sm_var (sm_cons sm_var (sm_cons sm_int sm_nil)))) (sm_cons (sm_dget sm_var sm_str) sm_nil))))
noncomputable def m__law_cell : MS :=
(mSeq (mIfS (mTest (mOp (mIB fun i j => decide (i < j)) (mVar 1) (mCB mLen (mCons (mVar 0) mNil))))
(mRet (mCB (liftD fInt1) (mCons (mOp mIx (mVar 0) (mVar 1)) mNil)))
mNext)
(mRet (mK (.int 0))))
noncomputable def pf__law_cell : List PyData → Option PyData := toPure 2 2 m__law_cell
noncomputable def tr__law_cell (K : PySem.W.Frag) : TS :=
(tSeq (tIfS (tTest (tOp (rI0 fun i j => .bl (decide (i < j))) (tVar 1) (tCB (G.rLen K) (tCons (tVar 0) tNil))))
(tRet (tCB rInt1 (tCons (tOp (rIx K) (tVar 0) (tVar 1)) tNil)))
tNext)
(tRet (tC (.int 0))))
theorem sim__law_cell (K : PySem.W.Frag) : SimS K (tr__law_cell K) m__law_cell :=
(ss_seq (ss_if (sm_test (sm_op sm_var (sm_cb (sm_cons sm_var sm_nil) sc_len) sr_bl))
(ss_ret (sm_cb (sm_cons (sm_op sm_var sm_var sr_ix) sm_nil) sc_int1))
ss_next)
(ss_ret sm_int))
noncomputable def mb__law_digits_1 : MS :=
(mIfS (mTest (mOp (mIB fun i j => decide (j ≤ i)) (mVar 0) (mOp (mIC CPow fun i j => i ^ j.toNat) (mK (.int 10)) (mK (.int 18)))))
(mSeq (mApp (mVar 2) (mOp (mIC (fun _ j => 0 < j) fun i j => i % j) (mCB (liftD fInt1) (mCons (mVar 3) mNil)) (mVar 4)))
(mAsg (mOp (mIC CDivW fun i j => i / j) (mVar 3) (mVar 4)) (mgName 3)))
(mSeq (mAsg (mOp (mIC (fun _ j => 0 < j) fun i j => i % j) (mOp (mI fun i j => i + j) (mOp (mI fun i j => i + j) (mOp (mIC (fun i j => CMul i j ∨ CMulW i j) fun i j => i * j) (mCB (liftD fInt1) (mCons (mVar 3) mNil)) (mK (.int 48271))) (mOp (mIC (fun i j => CMul i j ∨ CMulW i j) fun i j => i * j) (mK (.int 1009)) (mCB mLen (mCons (mVar 2) mNil)))) (mK (.int 12345))) (mK (.int 2147483647))) (mgName 3))
(mSeq (mAsg (mOp (mIC (fun _ j => 0 < j) fun i j => i % j) (mOp (mIC (fun i j => CMul i j ∨ CMulW i j) fun i j => i * j) (mCB (liftD fInt1) (mCons (mVar 3) mNil)) (mCB (liftD fInt1) (mCons (mVar 3) mNil))) (mK (.int 2147483629))) (mgName 5))
(mApp (mVar 2) (mOp (mIC (fun _ j => 0 < j) fun i j => i % j) (mOp (mIC CDivW fun i j => i / j) (mCB (liftD fInt1) (mCons (mVar 5) mNil)) (mK (.int 13))) (mVar 4))))))
noncomputable def m__law_digits : MS :=
(mSeq (mAsg (mNew (mLst mNil)) (mgName 2))
(mSeq (mAsg (mCB (liftD fInt1) (mCons (mVar 0) mNil)) (mgName 3))
(mSeq (mFor (mItL (mVar 1)) (mgName 4) mb__law_digits_1)
(mRet (mVar 2)))))
noncomputable def pf__law_digits : List PyData → Option PyData := toPure 2 6 m__law_digits
noncomputable def tr__law_digits (K : PySem.W.Frag) : TS :=
(tSeq (tAsg (tLst tNil) (gName 2))
(tSeq (tAsg (tCB rInt1 (tCons (tVar 0) tNil)) (gName 3))
(tSeq (tFor (iList K (tVar 1)) (gName 4)
(tIfS (tTest (tOp (rI0 fun i j => .bl (decide (j ≤ i))) (tVar 0) (tOp (rI CPow fun i j => .int (i ^ j.toNat)) (tC (.int 10)) (tC (.int 18)))))
(tSeq (tDrop (tBM K "list" rAppend (tVar 2) (tCons (tOp (rI (fun _ j => 0 < j) fun i j => .int (i % j)) (tCB rInt1 (tCons (tVar 3) tNil)) (tVar 4)) tNil)))
(tAsg (tOp (rI CDivW fun i j => .int (i / j)) (tVar 3) (tVar 4)) (gName 3)))
(tSeq (tAsg (tOp (rI (fun _ j => 0 < j) fun i j => .int (i % j)) (tOp (rI0 fun i j => .int (i + j)) (tOp (rI0 fun i j => .int (i + j)) (tOp (rI (fun i j => CMul i j ∨ CMulW i j) fun i j => .int (i * j)) (tCB rInt1 (tCons (tVar 3) tNil)) (tC (.int 48271))) (tOp (rI (fun i j => CMul i j ∨ CMulW i j) fun i j => .int (i * j)) (tC (.int 1009)) (tCB (G.rLen K) (tCons (tVar 2) tNil)))) (tC (.int 12345))) (tC (.int 2147483647))) (gName 3))
(tSeq (tAsg (tOp (rI (fun _ j => 0 < j) fun i j => .int (i % j)) (tOp (rI (fun i j => CMul i j ∨ CMulW i j) fun i j => .int (i * j)) (tCB rInt1 (tCons (tVar 3) tNil)) (tCB rInt1 (tCons (tVar 3) tNil))) (tC (.int 2147483629))) (gName 5))
(tDrop (tBM K "list" rAppend (tVar 2) (tCons (tOp (rI (fun _ j => 0 < j) fun i j => .int (i % j)) (tOp (rI CDivW fun i j => .int (i / j)) (tCB rInt1 (tCons (tVar 5) tNil)) (tC (.int 13))) (tVar 4)) tNil)))))))
(tRet (tVar 2)))))
theorem sim__law_digits (K : PySem.W.Frag) : SimS K (tr__law_digits K) m__law_digits :=
(ss_seq (ss_asg (sm_new (sm_lst sm_nil)) (sg_name (js := [2]) (by decide)))
(ss_seq (ss_asg (sm_cb (sm_cons sm_var sm_nil) sc_int1) (sg_name (js := [3]) (by decide)))
(ss_seq (ss_for (si_list sm_var) (sg_name (js := [4]) (by decide))
(ss_if (sm_test (sm_op sm_var (sm_op sm_int sm_int sr_intC) sr_bl))
(ss_seq (ss_app sm_var (sm_op (sm_cb (sm_cons sm_var sm_nil) sc_int1) sm_var sr_intC))
(ss_asg (sm_op sm_var sm_var sr_intC) (sg_name (js := [3]) (by decide))))
(ss_seq (ss_asg (sm_op (sm_op (sm_op (sm_op (sm_cb (sm_cons sm_var sm_nil) sc_int1) sm_int sr_intC) (sm_op sm_int (sm_cb (sm_cons sm_var sm_nil) sc_len) sr_intC) sr_int) sm_int sr_int) sm_int sr_intC) (sg_name (js := [3]) (by decide)))
(ss_seq (ss_asg (sm_op (sm_op (sm_cb (sm_cons sm_var sm_nil) sc_int1) (sm_cb (sm_cons sm_var sm_nil) sc_int1) sr_intC) sm_int sr_intC) (sg_name (js := [5]) (by decide)))
(ss_app sm_var (sm_op (sm_op (sm_cb (sm_cons sm_var sm_nil) sc_int1) sm_int sr_intC) sm_var sr_intC))))))
(ss_ret sm_var))))
noncomputable def m__law_many : MS :=
(mSeq (mIfS (mAnd (mTest (mOp (mIB fun i j => decide (j < i)) (mCB mLen (mCons (mVar 0) mNil)) (mK (.int 0)))) (mTest (mOp (mEqD false) (mOp (mIC (fun _ j => 0 < j) fun i j => i % j) (mOp (mIC CDivW fun i j => i / j) (mCB (liftD fInt1) (mCons (mOp mIx (mVar 0) (mK (.int 0))) mNil)) (mK (.int 1009))) (mK (.int 5))) (mK (.int 1)))))
(mRet (mVar 2))
mNext)
(mRet (mVar 1)))
noncomputable def pf__law_many : List PyData → Option PyData := toPure 3 3 m__law_many
noncomputable def tr__law_many (K : PySem.W.Frag) : TS :=
(tSeq (tIfS (tAnd (tTest (tOp (rI0 fun i j => .bl (decide (j < i))) (tCB (G.rLen K) (tCons (tVar 0) tNil)) (tC (.int 0)))) (tTest (tOp (rEqD K) (tOp (rI (fun _ j => 0 < j) fun i j => .int (i % j)) (tOp (rI CDivW fun i j => .int (i / j)) (tCB rInt1 (tCons (tOp (rIx K) (tVar 0) (tC (.int 0))) tNil)) (tC (.int 1009))) (tC (.int 5))) (tC (.int 1)))))
(tRet (tVar 2))
tNext)
(tRet (tVar 1)))
theorem sim__law_many (K : PySem.W.Frag) : SimS K (tr__law_many K) m__law_many :=
(ss_seq (ss_if (sm_and (sm_test (sm_op (sm_cb (sm_cons sm_var sm_nil) sc_len) sm_int sr_bl)) (sm_test (sm_op (sm_op (sm_op (sm_cb (sm_cons (sm_op sm_var sm_int sr_ix) sm_nil) sc_int1) sm_int sr_intC) sm_int sr_intC) sm_int sr_eq)))
(ss_ret sm_var)
ss_next)
(ss_ret sm_var))
noncomputable def ml__law_machine_1 : MS :=
(mRet (mDisp (((mK (.str "machine")), (mVar 1)) :: (((mK (.str "page")), (mCB fn_new_page mNil)) :: (((mK (.str "held")), (mCB fn_new_held (mCons (mVar 0) mNil))) :: (((mK (.str "stored")), mDNew) :: (((mK (.str "clock")), (mCB (liftD pf_with_count) (mCons (mCB (liftD pf_zero_clock) (mCons (mVar 0) mNil)) (mCons (mVar 1) (mCons (mK (.int 1)) mNil))))) :: (((mK (.str "letters")), (mNew (mLst mNil))) :: (((mK (.str "done")), (mNew (mLst mNil))) :: [])))))))))
noncomputable def m__law_machine : MS :=
ml__law_machine_1
noncomputable def fn__law_machine : MCa := toHeap 2 2 m__law_machine
noncomputable def tr__law_machine (K : PySem.W.Frag) : TS :=
(tRet (tDisp (((tC (.str "machine")), (tVar 1)) :: (((tC (.str "page")), (tCall (spH K fn_new_page) [] E0 tNil)) :: (((tC (.str "held")), (tCall (spH K fn_new_held) [] E0 (tCons (tVar 0) tNil))) :: (((tC (.str "stored")), tDNewK) :: (((tC (.str "clock")), (tCall (spQ K pf_with_count) [] E0 (tCons (tCall (spQ K pf_zero_clock) [] E0 (tCons (tVar 0) tNil)) (tCons (tVar 1) (tCons (tC (.int 1)) tNil))))) :: (((tC (.str "letters")), (tLst tNil)) :: (((tC (.str "done")), (tLst tNil)) :: [])))))))))
theorem sim__law_machine (K : PySem.W.Frag) : SimS K (tr__law_machine K) m__law_machine :=
(ss_ret (sm_disp (.cons sm_str sm_var (.cons sm_str (sm_callH sm_nil) (.cons sm_str (sm_callH (sm_cons sm_var sm_nil)) (.cons sm_str sm_dnew (.cons sm_str (sm_callQ (sm_cons (sm_callQ (sm_cons sm_var sm_nil)) (sm_cons sm_var (sm_cons sm_int sm_nil)))) (.cons sm_str (sm_new (sm_lst sm_nil)) (.cons sm_str (sm_new (sm_lst sm_nil)) .nil)))))))))
noncomputable def ml__law_right_5 : MS :=
(mRet (mK (.bool true)))
noncomputable def mc__law_right_3 : MT :=
(mAnd (mTest (mOp (mIB fun i j => decide (j ≤ i)) (mOp mIx (mDGet (mVar 1) (mK (.str "clock"))) (mDGet (mVar 2) (mK (.str "machine")))) (mVar 3))) (mTest (mOp (mCmp fGt) (mVar 5) (mOp mIx (mOp mIx (mDGet (mVar 1) (mK (.str "page"))) (mVar 4)) (mK (.int 1))))))
noncomputable def ml__law_right_4 : MS :=
(mRet (mK (.bool false)))
noncomputable def ml__law_right_3 : MS :=
(mIfS mc__law_right_3
ml__law_right_4
mNext)
noncomputable def mb__law_right_2 : MS :=
ml__law_right_3
noncomputable def ml__law_right_2 : MS :=
(mFor (mItL (mDGet (mVar 2) (mK (.str "done")))) (mgTup 3 (mgCons (mgName 3) (mgCons (mgName 4) (mgCons (mgName 5) mgNil)))) mb__law_right_2)
noncomputable def mb__law_right_1 : MS :=
ml__law_right_2
noncomputable def ml__law_right_1 : MS :=
(mFor (mItL (mVar 0)) (mgName 2) mb__law_right_1)
noncomputable def m__law_right : MS :=
(mSeq ml__law_right_1
ml__law_right_5)
noncomputable def fn__law_right : MCa := toHeap 2 6 m__law_right
noncomputable def tr__law_right (K : PySem.W.Frag) : TS :=
(tSeq (tFor (iList K (tVar 0)) (gName 2)
(tFor (iList K (tDGet (tVar 2) (tC (.str "done")))) (gTup K 3 (gCons (gName 3) (gCons (gName 4) (gCons (gName 5) gNil))))
(tIfS (tAnd (tTest (tOp (rI0 fun i j => .bl (decide (j ≤ i))) (tOp (rIx K) (tDGet (tVar 1) (tC (.str "clock"))) (tDGet (tVar 2) (tC (.str "machine")))) (tVar 3))) (tTest (tOp (rCmpD K fGt) (tVar 5) (tOp (rIx K) (tOp (rIx K) (tDGet (tVar 1) (tC (.str "page"))) (tVar 4)) (tC (.int 1))))))
(tRet (tC (.bl false)))
tNext)))
(tRet (tC (.bl true))))
theorem sim__law_right (K : PySem.W.Frag) : SimS K (tr__law_right K) m__law_right :=
(ss_seq (ss_for (si_list sm_var) (sg_name (js := [2]) (by decide))
(ss_for (si_list (sm_dget sm_var sm_str)) (sg_tup (sg_cons (sg_name (js := [3, 4, 5]) (by decide)) (sg_cons (sg_name (js := [3, 4, 5]) (by decide)) (sg_cons (sg_name (js := [3, 4, 5]) (by decide)) sg_nil))))
(ss_if (sm_and (sm_test (sm_op (sm_op (sm_dget sm_var sm_str) (sm_dget sm_var sm_str) sr_ix) sm_var sr_bl)) (sm_test (sm_op sm_var (sm_op (sm_op (sm_dget sm_var sm_str) sm_var sr_ix) sm_int sr_ix) sr_cmp)))
(ss_ret sm_bl)
ss_next)))
(ss_ret sm_bl))
noncomputable def ml__law_store_11 : MS :=
(mRet (mK (.bool true)))
noncomputable def mc__law_store_1 : MT :=
(mTest (mCB fn_is_fresh (mCons (mDGet (mVar 1) (mK (.str "held"))) (mCons (mDGet (mDGet (mVar 1) (mK (.str "held"))) (mK (.str "need"))) (mCons (mDGet (mVar 1) (mK (.str "machine"))) mNil)))))
noncomputable def mc__law_store_9 : MT :=
(mAnd (mTest (mOp (mEqD false) (mVar 8) (mVar 2))) (mAnd (mTest (mOp (mIB fun i j => decide (j ≤ i)) (mOp mIx (mDGet (mVar 1) (mK (.str "clock"))) (mDGet (mVar 6) (mK (.str "machine")))) (mVar 7))) (mTest (mOp (mCmp fGe) (mVar 9) (mVar 4)))))
noncomputable def ml__law_store_10 : MS :=
(mRet (mK (.bool false)))
noncomputable def ml__law_store_9 : MS :=
(mIfS mc__law_store_9
ml__law_store_10
mNext)
noncomputable def mb__law_store_8 : MS :=
ml__law_store_9
noncomputable def ml__law_store_8 : MS :=
(mFor (mItL (mDGet (mVar 6) (mK (.str "done")))) (mgTup 3 (mgCons (mgName 7) (mgCons (mgName 8) (mgCons (mgName 9) mgNil)))) mb__law_store_8)
noncomputable def mb__law_store_7 : MS :=
ml__law_store_8
noncomputable def ml__law_store_7 : MS :=
(mFor (mItL (mVar 0)) (mgName 6) mb__law_store_7)
noncomputable def ml__law_store_6 : MS :=
(mDPut (mVar 5) (mVar 2) (mTup (mCons (mVar 3) (mCons (mVar 4) mNil))))
noncomputable def ml__law_store_5 : MS :=
(mAsg (mDGet (mVar 1) (mK (.str "stored"))) (mgName 5))
noncomputable def ml__law_store_4 : MS :=
(mAsg (mCB fn_store (mCons (mDGet (mVar 1) (mK (.str "page"))) (mCons (mVar 2) (mCons (mVar 3) (mCons (mDGet (mVar 1) (mK (.str "machine"))) mNil))))) (mgName 4))
noncomputable def mc__law_store_2 : MT :=
(mNot (mTest (mCB fn__law_right (mCons (mVar 0) (mCons (mVar 1) mNil)))))
noncomputable def ml__law_store_3 : MS :=
(mRet (mK (.bool false)))
noncomputable def ml__law_store_2 : MS :=
(mIfS mc__law_store_2
ml__law_store_3
mNext)
noncomputable def ml__law_store_1 : MS :=
(mIfS mc__law_store_1
(mSeq ml__law_store_2
(mSeq ml__law_store_4
(mSeq ml__law_store_5
(mSeq ml__law_store_6
ml__law_store_7))))
mNext)
noncomputable def m__law_store : MS :=
(mSeq ml__law_store_1
ml__law_store_11)
noncomputable def fn__law_store : MCa := toHeap 4 10 m__law_store
noncomputable def tr__law_store (K : PySem.W.Frag) : TS :=
(tSeq (tIfS (tB (tCall (spH K fn_is_fresh) [] E0 (tCons (tDGet (tVar 1) (tC (.str "held"))) (tCons (tDGet (tDGet (tVar 1) (tC (.str "held"))) (tC (.str "need"))) (tCons (tDGet (tVar 1) (tC (.str "machine"))) tNil)))))
(tSeq (tIfS (tNot (tB (tCall (spH K fn__law_right) [] E0 (tCons (tVar 0) (tCons (tVar 1) tNil)))))
(tRet (tC (.bl false)))
tNext)
(tSeq (tAsg (tCall (spH K fn_store) [] E0 (tCons (tDGet (tVar 1) (tC (.str "page"))) (tCons (tVar 2) (tCons (tVar 3) (tCons (tDGet (tVar 1) (tC (.str "machine"))) tNil))))) (gName 4))
(tSeq (tAsg (tDGet (tVar 1) (tC (.str "stored"))) (gName 5))
(tSeq (sDPut (tVar 5) (tVar 2) (tTup (tCons (tVar 3) (tCons (tVar 4) tNil))))
(tFor (iList K (tVar 0)) (gName 6)
(tFor (iList K (tDGet (tVar 6) (tC (.str "done")))) (gTup K 3 (gCons (gName 7) (gCons (gName 8) (gCons (gName 9) gNil))))
(tIfS (tAnd (tTest (tOp (rEqD K) (tVar 8) (tVar 2))) (tAnd (tTest (tOp (rI0 fun i j => .bl (decide (j ≤ i))) (tOp (rIx K) (tDGet (tVar 1) (tC (.str "clock"))) (tDGet (tVar 6) (tC (.str "machine")))) (tVar 7))) (tTest (tOp (rCmpD K fGe) (tVar 9) (tVar 4)))))
(tRet (tC (.bl false)))
tNext)))))))
tNext)
(tRet (tC (.bl true))))
theorem sim__law_store (K : PySem.W.Frag) : SimS K (tr__law_store K) m__law_store :=
(ss_seq (ss_if (sm_B (sm_callH (sm_cons (sm_dget sm_var sm_str) (sm_cons (sm_dget (sm_dget sm_var sm_str) sm_str) (sm_cons (sm_dget sm_var sm_str) sm_nil)))))
(ss_seq (ss_if (sm_not (sm_B (sm_callH (sm_cons sm_var (sm_cons sm_var sm_nil)))))
(ss_ret sm_bl)
ss_next)
(ss_seq (ss_asg (sm_callH (sm_cons (sm_dget sm_var sm_str) (sm_cons sm_var (sm_cons sm_var (sm_cons (sm_dget sm_var sm_str) sm_nil))))) (sg_name (js := [4]) (by decide)))
(ss_seq (ss_asg (sm_dget sm_var sm_str) (sg_name (js := [5]) (by decide)))
(ss_seq (ss_dput sm_var sm_var (sm_tup (sm_cons sm_var (sm_cons sm_var sm_nil))))
(ss_for (si_list sm_var) (sg_name (js := [6]) (by decide))
(ss_for (si_list (sm_dget sm_var sm_str)) (sg_tup (sg_cons (sg_name (js := [7, 8, 9]) (by decide)) (sg_cons (sg_name (js := [7, 8, 9]) (by decide)) (sg_cons (sg_name (js := [7, 8, 9]) (by decide)) sg_nil))))
(ss_if (sm_and (sm_test (sm_op sm_var sm_var sr_eq)) (sm_and (sm_test (sm_op (sm_op (sm_dget sm_var sm_str) (sm_dget sm_var sm_str) sr_ix) sm_var sr_bl)) (sm_test (sm_op sm_var sm_var sr_cmp))))
(ss_ret sm_bl)
ss_next)))))))
ss_next)
(ss_ret sm_bl))
noncomputable def ml__law_end_13 : MS :=
(mDPut (mVar 1) (mK (.str "clock")) (mCB (liftD pf_with_count) (mCons (mDGet (mVar 1) (mK (.str "clock"))) (mCons (mVar 3) (mCons (mOp (mI fun i j => i + j) (mVar 4) (mK (.int 1))) mNil)))))
noncomputable def ml__law_end_12 : MS :=
(mDPut (mVar 1) (mK (.str "ended")) (mDGet (mVar 1) (mK (.str "clock"))))
noncomputable def ml__law_end_11 : MS :=
(mDPut (mVar 1) (mK (.str "stored")) mDNew)
noncomputable def mc__law_end_3 : MT :=
(mTest (mOp (mDk true) (mDGet (mVar 1) (mK (.str "stored"))) mDNew))
noncomputable def mc__law_end_8 : MT :=
(mTest (mOp (mEqD true) (mVar 3) (mVar 2)))
noncomputable def ml__law_end_10 : MS :=
(mApp (mVar 7) (mTup (mCons (mVar 4) (mCons (mCB fn_difference (mCons (mDGet (mVar 1) (mK (.str "stored"))) mNil)) mNil))))
noncomputable def ml__law_end_9 : MS :=
(mAsg (mDGet (mVar 1) (mK (.str "letters"))) (mgName 7))
noncomputable def ml__law_end_8 : MS :=
(mIfS mc__law_end_8
(mSeq ml__law_end_9
ml__law_end_10)
mNext)
noncomputable def ml__law_end_7 : MS :=
(mDrop (mCB fn_arrived (mCons (mDGet (mVar 1) (mK (.str "held"))) (mCons (mVar 3) (mCons (mVar 4) mNil)))))
noncomputable def ml__law_end_6 : MS :=
(mApp (mVar 6) (mTup (mCons (mVar 4) (mCons (mVar 5) (mCons (mOp mIx (mDGetR (mDGet (mVar 1) (mK (.str "stored"))) (mVar 5)) (mK (.int 1))) mNil)))))
noncomputable def ml__law_end_5 : MS :=
(mAsg (mDGet (mVar 1) (mK (.str "done"))) (mgName 6))
noncomputable def mb__law_end_4 : MS :=
(mSeq ml__law_end_5
ml__law_end_6)
noncomputable def ml__law_end_4 : MS :=
(mLock (mDGet (mVar 1) (mK (.str "stored"))) (mFor (mItK (mDGet (mVar 1) (mK (.str "stored")))) (mgName 5) mb__law_end_4))
noncomputable def ml__law_end_3 : MS :=
(mIfS mc__law_end_3
(mSeq ml__law_end_4
(mSeq ml__law_end_7
ml__law_end_8))
mNext)
noncomputable def ml__law_end_2 : MS :=
(mAsg (mOp mIx (mDGet (mVar 1) (mK (.str "clock"))) (mVar 3)) (mgName 4))
noncomputable def ml__law_end_1 : MS :=
(mAsg (mDGet (mVar 1) (mK (.str "machine"))) (mgName 3))
noncomputable def m__law_end : MS :=
(mSeq ml__law_end_1
(mSeq ml__law_end_2
(mSeq ml__law_end_3
(mSeq ml__law_end_11
(mSeq ml__law_end_12
ml__law_end_13)))))
noncomputable def fn__law_end : MCa := toHeap 3 8 m__law_end
noncomputable def tr__law_end (K : PySem.W.Frag) : TS :=
(tSeq (tAsg (tDGet (tVar 1) (tC (.str "machine"))) (gName 3))
(tSeq (tAsg (tOp (rIx K) (tDGet (tVar 1) (tC (.str "clock"))) (tVar 3)) (gName 4))
(tSeq (tIfS (tTest (tOp (rDk K true) (tDGet (tVar 1) (tC (.str "stored"))) tDNewK))
(tSeq (tLock (tFor (iKeys (tDGet (tVar 1) (tC (.str "stored")))) (gName 5)
(tSeq (tAsg (tDGet (tVar 1) (tC (.str "done"))) (gName 6))
(tDrop (tBM K "list" rAppend (tVar 6) (tCons (tTup (tCons (tVar 4) (tCons (tVar 5) (tCons (tOp (rIx K) (tDGet (tDGet (tVar 1) (tC (.str "stored"))) (tVar 5)) (tC (.int 1))) tNil)))) tNil))))))
(tSeq (tDrop (tCall (spH K fn_arrived) [] E0 (tCons (tDGet (tVar 1) (tC (.str "held"))) (tCons (tVar 3) (tCons (tVar 4) tNil)))))
(tIfS (tTest (tOp (rNeD K) (tVar 3) (tVar 2)))
(tSeq (tAsg (tDGet (tVar 1) (tC (.str "letters"))) (gName 7))
(tDrop (tBM K "list" rAppend (tVar 7) (tCons (tTup (tCons (tVar 4) (tCons (tCall (spH K fn_difference) [] E0 (tCons (tDGet (tVar 1) (tC (.str "stored"))) tNil)) tNil))) tNil))))
tNext)))
tNext)
(tSeq (sDPut (tVar 1) (tC (.str "stored")) tDNewK)
(tSeq (sDPut (tVar 1) (tC (.str "ended")) (tDGet (tVar 1) (tC (.str "clock"))))
(sDPut (tVar 1) (tC (.str "clock")) (tCall (spQ K pf_with_count) [] E0 (tCons (tDGet (tVar 1) (tC (.str "clock"))) (tCons (tVar 3) (tCons (tOp (rI0 fun i j => .int (i + j)) (tVar 4) (tC (.int 1))) tNil))))))))))
theorem sim__law_end (K : PySem.W.Frag) : SimS K (tr__law_end K) m__law_end :=
(ss_seq (ss_asg (sm_dget sm_var sm_str) (sg_name (js := [3]) (by decide)))
(ss_seq (ss_asg (sm_op (sm_dget sm_var sm_str) sm_var sr_ix) (sg_name (js := [4]) (by decide)))
(ss_seq (ss_if (sm_test (sm_op (sm_dget sm_var sm_str) sm_dnew sr_dk))
(ss_seq (ss_lock (ss_for (si_keys (sm_dget sm_var sm_str)) (sg_name (js := [5]) (by decide))
(ss_seq (ss_asg (sm_dget sm_var sm_str) (sg_name (js := [6]) (by decide)))
(ss_app sm_var (sm_tup (sm_cons sm_var (sm_cons sm_var (sm_cons (sm_op (sm_dgetR (sm_dget sm_var sm_str) sm_var) sm_int sr_ix) sm_nil))))))))
(ss_seq (ss_drop (sm_callH (sm_cons (sm_dget sm_var sm_str) (sm_cons sm_var (sm_cons sm_var sm_nil)))))
(ss_if (sm_test (sm_op sm_var sm_var sr_ne))
(ss_seq (ss_asg (sm_dget sm_var sm_str) (sg_name (js := [7]) (by decide)))
(ss_app sm_var (sm_tup (sm_cons sm_var (sm_cons (sm_callH (sm_cons (sm_dget sm_var sm_str) sm_nil)) sm_nil)))))
ss_next)))
ss_next)
(ss_seq (ss_dput sm_var sm_str sm_dnew)
(ss_seq (ss_dput sm_var sm_str (sm_dget sm_var sm_str))
(ss_dput sm_var sm_str (sm_callQ (sm_cons (sm_dget sm_var sm_str) (sm_cons sm_var (sm_cons (sm_op sm_var sm_int sr_int) sm_nil))))))))))
noncomputable def mc__law_take_over_1 : MT :=
(mAnd (mTest (mDIn false (mK (.str "ended")) (mVar 2))) (mTest (mOp (mDkW true) (mVar 1) (mVar 2))))
noncomputable def mc__law_take_over_5 : MT :=
(mTest (mOp (mEqD true) (mDGet (mVar 4) (mK (.str "machine"))) (mDGet (mVar 1) (mK (.str "machine")))))
noncomputable def ml__law_take_over_7 : MS :=
(mDrop (mCB fn_needs (mCons (mDGet (mVar 1) (mK (.str "held"))) (mCons (mDGet (mVar 4) (mK (.str "machine"))) (mCons (mCB mMaxL (mCons (mDat (mCatE (mDat (mLst (mCons (mK (.int 0)) mNil))) (mVar 5))) mNil)) mNil)))))
noncomputable def ml__law_take_over_6 : MS :=
(mAsg (mDat (mLc (mItL (mDGet (mVar 4) (mK (.str "done")))) (mgName 6) (mTest (mOp (mIB fun i j => decide (i ≤ j)) (mOp mIx (mVar 6) (mK (.int 0))) (mOp mIx (mDGet (mVar 1) (mK (.str "clock"))) (mDGet (mVar 4) (mK (.str "machine")))))) (mOp mIx (mVar 6) (mK (.int 0))) [6])) (mgName 5))
noncomputable def ml__law_take_over_5 : MS :=
(mIfS mc__law_take_over_5
(mSeq ml__law_take_over_6
ml__law_take_over_7)
mNext)
noncomputable def mb__law_take_over_4 : MS :=
ml__law_take_over_5
noncomputable def ml__law_take_over_4 : MS :=
(mFor (mItL (mVar 0)) (mgName 4) mb__law_take_over_4)
noncomputable def ml__law_take_over_3 : MS :=
(mDPut (mVar 1) (mK (.str "clock")) (mCB (liftD pf_with_count) (mCons (mCB (liftD pf_merged) (mCons (mDGet (mVar 1) (mK (.str "clock"))) (mCons (mDGet (mVar 2) (mK (.str "ended"))) mNil))) (mCons (mDGet (mVar 1) (mK (.str "machine"))) (mCons (mVar 3) mNil)))))
noncomputable def ml__law_take_over_2 : MS :=
(mAsg (mOp mIx (mDGet (mVar 1) (mK (.str "clock"))) (mDGet (mVar 1) (mK (.str "machine")))) (mgName 3))
noncomputable def ml__law_take_over_1 : MS :=
(mIfS mc__law_take_over_1
(mSeq ml__law_take_over_2
(mSeq ml__law_take_over_3
ml__law_take_over_4))
mNext)
noncomputable def m__law_take_over : MS :=
ml__law_take_over_1
noncomputable def fn__law_take_over : MCa := toHeap 3 7 m__law_take_over
noncomputable def tr__law_take_over (K : PySem.W.Frag) : TS :=
(tIfS (tAnd (tB (tDIn (tC (.str "ended")) (tVar 2))) (tTest (tOp (rDkW K true) (tVar 1) (tVar 2))))
(tSeq (tAsg (tOp (rIx K) (tDGet (tVar 1) (tC (.str "clock"))) (tDGet (tVar 1) (tC (.str "machine")))) (gName 3))
(tSeq (sDPut (tVar 1) (tC (.str "clock")) (tCall (spQ K pf_with_count) [] E0 (tCons (tCall (spQ K pf_merged) [] E0 (tCons (tDGet (tVar 1) (tC (.str "clock"))) (tCons (tDGet (tVar 2) (tC (.str "ended"))) tNil))) (tCons (tDGet (tVar 1) (tC (.str "machine"))) (tCons (tVar 3) tNil)))))
(tFor (iList K (tVar 0)) (gName 4)
(tIfS (tTest (tOp (rNeD K) (tDGet (tVar 4) (tC (.str "machine"))) (tDGet (tVar 1) (tC (.str "machine")))))
(tSeq (tAsg (tLc (iList K (tDGet (tVar 4) (tC (.str "done")))) (gName 6) (tTest (tOp (rI0 fun i j => .bl (decide (i ≤ j))) (tOp (rIx K) (tVar 6) (tC (.int 0))) (tOp (rIx K) (tDGet (tVar 1) (tC (.str "clock"))) (tDGet (tVar 4) (tC (.str "machine")))))) (tOp (rIx K) (tVar 6) (tC (.int 0))) [6]) (gName 5))
(tDrop (tCall (spH K fn_needs) [] E0 (tCons (tDGet (tVar 1) (tC (.str "held"))) (tCons (tDGet (tVar 4) (tC (.str "machine"))) (tCons (tCB (rMax K) (tCons (tOp (G.rCatS K) (tLst (tCons (tC (.int 0)) tNil)) (tVar 5)) tNil)) tNil))))))
tNext))))
tNext)
theorem sim__law_take_over (K : PySem.W.Frag) : SimS K (tr__law_take_over K) m__law_take_over :=
(ss_if (sm_and (sm_B (sm_din sm_str sm_var)) (sm_test (sm_op sm_var sm_var sr_dkW)))
(ss_seq (ss_asg (sm_op (sm_dget sm_var sm_str) (sm_dget sm_var sm_str) sr_ix) (sg_name (js := [3]) (by decide)))
(ss_seq (ss_dput sm_var sm_str (sm_callQ (sm_cons (sm_callQ (sm_cons (sm_dget sm_var sm_str) (sm_cons (sm_dget sm_var sm_str) sm_nil))) (sm_cons (sm_dget sm_var sm_str) (sm_cons sm_var sm_nil)))))
(ss_for (si_list sm_var) (sg_name (js := [4]) (by decide))
(ss_if (sm_test (sm_op (sm_dget sm_var sm_str) (sm_dget sm_var sm_str) sr_ne))
(ss_seq (ss_asg (sm_dat (sm_lc (si_list (sm_dget sm_var sm_str)) (sg_name (js := [6]) (by decide)) (sm_test (sm_op (sm_op sm_var sm_int sr_ix) (sm_op (sm_dget sm_var sm_str) (sm_dget sm_var sm_str) sr_ix) sr_bl)) (sm_op sm_var sm_int sr_ix))) (sg_name (js := [5]) (by decide)))
(ss_drop (sm_callH (sm_cons (sm_dget sm_var sm_str) (sm_cons (sm_dget sm_var sm_str) (sm_cons (sm_cb (sm_cons (sm_dat (sm_catS (sm_dat (sm_lst (sm_cons sm_int sm_nil))) sm_var)) sm_nil) sc_maxL) sm_nil))))))
ss_next))))
ss_next)
noncomputable def mc__law_arrive_1 : MT :=
(mTest (mOp (mEqD true) (mDGet (mVar 1) (mK (.str "letters"))) (mDat (mLst mNil))))
noncomputable def ml__law_arrive_6 : MS :=
(mDrop (mCB fn_arrived (mCons (mDGet (mOp mIx (mVar 0) (mVar 2)) (mK (.str "held"))) (mCons (mDGet (mVar 1) (mK (.str "machine"))) (mCons (mVar 4) mNil)))))
noncomputable def ml__law_arrive_5 : MS :=
(mDrop (mCB fn_merge (mCons (mDGet (mOp mIx (mVar 0) (mVar 2)) (mK (.str "page"))) (mCons (mVar 5) mNil))))
noncomputable def ml__law_arrive_4 : MS :=
(mPop0 (mVar 3))
noncomputable def ml__law_arrive_3 : MS :=
(mAsg (mOp mIx (mVar 3) (mK (.int 0))) (mgTup 2 (mgCons (mgName 4) (mgCons (mgName 5) mgNil))))
noncomputable def ml__law_arrive_2 : MS :=
(mAsg (mDGet (mVar 1) (mK (.str "letters"))) (mgName 3))
noncomputable def ml__law_arrive_1 : MS :=
(mIfS mc__law_arrive_1
(mSeq ml__law_arrive_2
(mSeq ml__law_arrive_3
(mSeq ml__law_arrive_4
(mSeq ml__law_arrive_5
ml__law_arrive_6))))
mNext)
noncomputable def m__law_arrive : MS :=
ml__law_arrive_1
noncomputable def fn__law_arrive : MCa := toHeap 3 6 m__law_arrive
noncomputable def tr__law_arrive (K : PySem.W.Frag) : TS :=
(tIfS (tTest (tOp (rNeD K) (tDGet (tVar 1) (tC (.str "letters"))) (tLst tNil)))
(tSeq (tAsg (tDGet (tVar 1) (tC (.str "letters"))) (gName 3))
(tSeq (tAsg (tOp (rIx K) (tVar 3) (tC (.int 0))) (gTup K 2 (gCons (gName 4) (gCons (gName 5) gNil))))
(tSeq (tDrop (tBM K "list" rPopAt (tVar 3) (tCons (tC (.int 0)) tNil)))
(tSeq (tDrop (tCall (spH K fn_merge) [] E0 (tCons (tDGet (tOp (rIx K) (tVar 0) (tVar 2)) (tC (.str "page"))) (tCons (tVar 5) tNil))))
(tDrop (tCall (spH K fn_arrived) [] E0 (tCons (tDGet (tOp (rIx K) (tVar 0) (tVar 2)) (tC (.str "held"))) (tCons (tDGet (tVar 1) (tC (.str "machine"))) (tCons (tVar 4) tNil)))))))))
tNext)
theorem sim__law_arrive (K : PySem.W.Frag) : SimS K (tr__law_arrive K) m__law_arrive :=
(ss_if (sm_test (sm_op (sm_dget sm_var sm_str) (sm_dat (sm_lst sm_nil)) sr_ne))
(ss_seq (ss_asg (sm_dget sm_var sm_str) (sg_name (js := [3]) (by decide)))
(ss_seq (ss_asg (sm_op sm_var sm_int sr_ix) (sg_tup (sg_cons (sg_name (js := [4, 5]) (by decide)) (sg_cons (sg_name (js := [4, 5]) (by decide)) sg_nil))))
(ss_seq (ss_pop0 sm_var)
(ss_seq (ss_drop (sm_callH (sm_cons (sm_dget (sm_op sm_var sm_var sr_ix) sm_str) (sm_cons sm_var sm_nil))))
(ss_drop (sm_callH (sm_cons (sm_dget (sm_op sm_var sm_var sr_ix) sm_str) (sm_cons (sm_dget sm_var sm_str) (sm_cons sm_var sm_nil)))))))))
ss_next)
noncomputable def ml__law_asked_6 : MS :=
(mRet (mAndV (mCB fn_is_fresh (mCons (mDGet (mVar 1) (mK (.str "held"))) (mCons (mDGet (mDGet (mVar 1) (mK (.str "held"))) (mK (.str "need"))) (mCons (mDGet (mVar 1) (mK (.str "machine"))) mNil)))) (mCB fn__law_right (mCons (mVar 0) (mCons (mVar 1) mNil)))))
noncomputable def ml__law_asked_5 : MS :=
(mDrop (mCB fn_had (mCons (mDGet (mVar 1) (mK (.str "held"))) (mCons (mDGet (mDGet (mVar 3) (mK (.str "held"))) (mK (.str "has"))) mNil))))
noncomputable def ml__law_asked_4 : MS :=
(mDrop (mCB fn_merge (mCons (mDGet (mVar 1) (mK (.str "page"))) (mCons (mCB (liftD pf_rows_of) (mCons (mDGet (mVar 3) (mK (.str "page"))) mNil)) mNil))))
noncomputable def mc__law_asked_2 : MT :=
(mOr (mTest (mOp (mDkW false) (mVar 1) (mVar 3))) (mNot (mTest (mCB fn_is_fresh (mCons (mDGet (mVar 3) (mK (.str "held"))) (mCons (mDGet (mDGet (mVar 1) (mK (.str "held"))) (mK (.str "need"))) (mCons (mVar 2) mNil)))))))
noncomputable def ml__law_asked_3 : MS :=
(mRet (mK (.bool true)))
noncomputable def ml__law_asked_2 : MS :=
(mIfS mc__law_asked_2
ml__law_asked_3
mNext)
noncomputable def ml__law_asked_1 : MS :=
(mAsg (mOp mIx (mVar 0) (mVar 2)) (mgName 3))
noncomputable def m__law_asked : MS :=
(mSeq ml__law_asked_1
(mSeq ml__law_asked_2
(mSeq ml__law_asked_4
(mSeq ml__law_asked_5
ml__law_asked_6))))
noncomputable def fn__law_asked : MCa := toHeap 3 4 m__law_asked
noncomputable def tr__law_asked (K : PySem.W.Frag) : TS :=
(tSeq (tAsg (tOp (rIx K) (tVar 0) (tVar 2)) (gName 3))
(tSeq (tIfS (tOr (tTest (tOp (rDkW K false) (tVar 1) (tVar 3))) (tNot (tB (tCall (spH K fn_is_fresh) [] E0 (tCons (tDGet (tVar 3) (tC (.str "held"))) (tCons (tDGet (tDGet (tVar 1) (tC (.str "held"))) (tC (.str "need"))) (tCons (tVar 2) tNil)))))))
(tRet (tC (.bl true)))
tNext)
(tSeq (tDrop (tCall (spH K fn_merge) [] E0 (tCons (tDGet (tVar 1) (tC (.str "page"))) (tCons (tCall (spQ K pf_rows_of) [] E0 (tCons (tDGet (tVar 3) (tC (.str "page"))) tNil)) tNil))))
(tSeq (tDrop (tCall (spH K fn_had) [] E0 (tCons (tDGet (tVar 1) (tC (.str "held"))) (tCons (tDGet (tDGet (tVar 3) (tC (.str "held"))) (tC (.str "has"))) tNil))))
(tRet (tAndV (tCall (spH K fn_is_fresh) [] E0 (tCons (tDGet (tVar 1) (tC (.str "held"))) (tCons (tDGet (tDGet (tVar 1) (tC (.str "held"))) (tC (.str "need"))) (tCons (tDGet (tVar 1) (tC (.str "machine"))) tNil)))) (tCall (spH K fn__law_right) [] E0 (tCons (tVar 0) (tCons (tVar 1) tNil)))))))))
theorem sim__law_asked (K : PySem.W.Frag) : SimS K (tr__law_asked K) m__law_asked :=
(ss_seq (ss_asg (sm_op sm_var sm_var sr_ix) (sg_name (js := [3]) (by decide)))
(ss_seq (ss_if (sm_or (sm_test (sm_op sm_var sm_var sr_dkW)) (sm_not (sm_B (sm_callH (sm_cons (sm_dget sm_var sm_str) (sm_cons (sm_dget (sm_dget sm_var sm_str) sm_str) (sm_cons sm_var sm_nil)))))))
(ss_ret sm_bl)
ss_next)
(ss_seq (ss_drop (sm_callH (sm_cons (sm_dget sm_var sm_str) (sm_cons (sm_callQ (sm_cons (sm_dget sm_var sm_str) sm_nil)) sm_nil))))
(ss_seq (ss_drop (sm_callH (sm_cons (sm_dget sm_var sm_str) (sm_cons (sm_dget (sm_dget sm_var sm_str) sm_str) sm_nil))))
(ss_ret (sm_andV (sm_callH (sm_cons (sm_dget sm_var sm_str) (sm_cons (sm_dget (sm_dget sm_var sm_str) sm_str) (sm_cons (sm_dget sm_var sm_str) sm_nil)))) (sm_callH (sm_cons sm_var (sm_cons sm_var sm_nil)))))))))
noncomputable def ml_law_25 : MS :=
(mRet (mK (.bool true)))
noncomputable def mc_law_23 : MT :=
(mOr (mNot (mTest (mCB fn_is_fresh (mCons (mDGet (mVar 6) (mK (.str "held"))) (mCons (mDGet (mDGet (mVar 6) (mK (.str "held"))) (mK (.str "need"))) (mCons (mDGet (mVar 6) (mK (.str "machine"))) mNil)))))) (mNot (mTest (mCB fn__law_right (mCons (mVar 3) (mCons (mVar 6) mNil))))))
noncomputable def ml_law_24 : MS :=
(mRet (mK (.bool false)))
noncomputable def ml_law_23 : MS :=
(mIfS mc_law_23
ml_law_24
mNext)
noncomputable def mc_law_21 : MT :=
(mNot (mTest (mCB fn__law_asked (mCons (mVar 3) (mCons (mVar 6) (mCons (mVar 2) mNil))))))
noncomputable def ml_law_22 : MS :=
(mRet (mK (.bool false)))
noncomputable def ml_law_21 : MS :=
(mIfS mc_law_21
ml_law_22
mNext)
noncomputable def mb_law_20 : MS :=
(mSeq ml_law_21
ml_law_23)
noncomputable def ml_law_20 : MS :=
(mFor (mItL (mVar 3)) (mgName 6) mb_law_20)
noncomputable def ml_law_19 : MS :=
(mDrop (mCB fn__law_arrive (mCons (mVar 3) (mCons (mVar 6) (mCons (mVar 2) mNil)))))
noncomputable def mb_law_18 : MS :=
ml_law_19
noncomputable def ml_law_18 : MS :=
(mFor (mRng1 (mCons (mCB mLen (mCons (mDGet (mVar 6) (mK (.str "letters"))) mNil)) mNil)) (mgName 4) mb_law_18)
noncomputable def mb_law_17 : MS :=
ml_law_18
noncomputable def ml_law_17 : MS :=
(mFor (mItL (mVar 3)) (mgName 6) mb_law_17)
noncomputable def mc_law_15 : MT :=
(mAnd (mTest (mOp (mIB fun i j => decide (j < i)) (mOp mIx (mVar 5) (mK (.int 0))) (mK (.int 6)))) (mNot (mTest (mCB fn__law_asked (mCons (mVar 3) (mCons (mVar 6) (mCons (mVar 2) mNil)))))))
noncomputable def ml_law_16 : MS :=
(mRet (mK (.bool false)))
noncomputable def ml_law_15 : MS :=
(mIfS mc_law_15
ml_law_16
mNext)
noncomputable def mc_law_13 : MT :=
(mOr (mTest (mOp (mEqD false) (mOp mIx (mVar 5) (mK (.int 0))) (mK (.int 5)))) (mTest (mOp (mEqD false) (mOp mIx (mVar 5) (mK (.int 0))) (mK (.int 6)))))
noncomputable def ml_law_14 : MS :=
(mDrop (mCB fn__law_arrive (mCons (mVar 3) (mCons (mVar 6) (mCons (mVar 2) mNil)))))
noncomputable def ml_law_13 : MS :=
(mIfS mc_law_13
ml_law_14
mNext)
noncomputable def mc_law_9 : MT :=
(mOr (mTest (mOp (mEqD false) (mOp mIx (mVar 5) (mK (.int 0))) (mK (.int 3)))) (mTest (mOp (mEqD false) (mOp mIx (mVar 5) (mK (.int 0))) (mK (.int 4)))))
noncomputable def mc_law_11 : MT :=
(mTest (mOp (mEqD false) (mOp mIx (mVar 5) (mK (.int 0))) (mK (.int 4))))
noncomputable def ml_law_12 : MS :=
(mDrop (mCB fn__law_take_over (mCons (mVar 3) (mCons (mVar 6) (mCons (mOp mIx (mVar 3) (mOp mIx (mVar 5) (mK (.int 2)))) mNil)))))
noncomputable def ml_law_11 : MS :=
(mIfS mc_law_11
ml_law_12
mNext)
noncomputable def ml_law_10 : MS :=
(mDrop (mCB fn__law_end (mCons (mVar 3) (mCons (mVar 6) (mCons (mVar 2) mNil)))))
noncomputable def ml_law_9 : MS :=
(mIfS mc_law_9
(mSeq ml_law_10
ml_law_11)
mNext)
noncomputable def mc_law_7 : MT :=
(mAnd (mTest (mOp (mIB fun i j => decide (i < j)) (mOp mIx (mVar 5) (mK (.int 0))) (mK (.int 3)))) (mNot (mTest (mCB fn__law_store (mCons (mVar 3) (mCons (mVar 6) (mCons (mOp mIx (mVar 5) (mK (.int 3))) (mCons (mOp mIx (mVar 5) (mK (.int 4))) mNil))))))))
noncomputable def ml_law_8 : MS :=
(mRet (mK (.bool false)))
noncomputable def ml_law_7 : MS :=
(mIfS mc_law_7
ml_law_8
mNext)
noncomputable def ml_law_6 : MS :=
(mAsg (mOp mIx (mVar 3) (mOp mIx (mVar 5) (mK (.int 1)))) (mgName 6))
noncomputable def ml_law_5 : MS :=
(mAsg (mCB (liftD pf__law_digits) (mCons (mOp (mI fun i j => i + j) (mCB (liftD pf__law_cell) (mCons (mVar 0) (mCons (mVar 4) mNil))) (mOp (mIC (fun i j => CMul i j ∨ CMulW i j) fun i j => i * j) (mK (.int 3)) (mVar 4))) (mCons (mDat (mLst (mCons (mK (.int 9)) (mCons (mVar 1) (mCons (mVar 1) (mCons (mK (.int 4)) (mCons (mK (.int 50)) mNil))))))) mNil))) (mgName 5))
noncomputable def mb_law_4 : MS :=
(mSeq ml_law_5
(mSeq ml_law_6
(mSeq ml_law_7
(mSeq ml_law_9
(mSeq ml_law_13
ml_law_15)))))
noncomputable def ml_law_4 : MS :=
(mFor (mRng1 (mCons (mCB (liftD fMin2) (mCons (mCB mLen (mCons (mVar 0) mNil)) (mCons (mCB (liftD pf__law_many) (mCons (mVar 0) (mCons (mK (.int 20)) (mCons (mK (.int 60)) mNil)))) mNil))) mNil)) (mgName 4) mb_law_4)
noncomputable def ml_law_3 : MS :=
(mAsg (mNew (mLc (mRng1 (mCons (mVar 1) mNil)) (mgName 7) mYes (mCB fn__law_machine (mCons (mVar 1) (mCons (mVar 7) mNil))) [7])) (mgName 3))
noncomputable def ml_law_2 : MS :=
(mAsg (mOp (mIC (fun _ j => 0 < j) fun i j => i % j) (mOp (mIC CDivW fun i j => i / j) (mCB (liftD fInt1) (mCons (mCB (liftD pf__law_cell) (mCons (mVar 0) (mCons (mK (.int 0)) mNil))) mNil)) (mK (.int 2))) (mVar 1)) (mgName 2))
noncomputable def ml_law_1 : MS :=
(mAsg (mOp (mI fun i j => i + j) (mK (.int 3)) (mOp (mIC (fun _ j => 0 < j) fun i j => i % j) (mCB (liftD fInt1) (mCons (mCB (liftD pf__law_cell) (mCons (mVar 0) (mCons (mK (.int 0)) mNil))) mNil)) (mK (.int 2)))) (mgName 1))
noncomputable def m_law : MS :=
(mSeq ml_law_1
(mSeq ml_law_2
(mSeq ml_law_3
(mSeq ml_law_4
(mSeq ml_law_17
(mSeq ml_law_20
ml_law_25))))))
noncomputable def pf_law : List PyData → Option PyData := toPure 1 8 m_law
noncomputable def tr_law (K : PySem.W.Frag) : TS :=
(tSeq (tAsg (tOp (rI0 fun i j => .int (i + j)) (tC (.int 3)) (tOp (rI (fun _ j => 0 < j) fun i j => .int (i % j)) (tCB rInt1 (tCons (tCall (spQ K pf__law_cell) [] E0 (tCons (tVar 0) (tCons (tC (.int 0)) tNil))) tNil)) (tC (.int 2)))) (gName 1))
(tSeq (tAsg (tOp (rI (fun _ j => 0 < j) fun i j => .int (i % j)) (tOp (rI CDivW fun i j => .int (i / j)) (tCB rInt1 (tCons (tCall (spQ K pf__law_cell) [] E0 (tCons (tVar 0) (tCons (tC (.int 0)) tNil))) tNil)) (tC (.int 2))) (tVar 1)) (gName 2))
(tSeq (tAsg (tLc (iRng1 (tCons (tVar 1) tNil)) (gName 7) tYes (tCall (spH K fn__law_machine) [] E0 (tCons (tVar 1) (tCons (tVar 7) tNil))) [7]) (gName 3))
(tSeq (tFor (iRng1 (tCons (tCB rMin2 (tCons (tCB (G.rLen K) (tCons (tVar 0) tNil)) (tCons (tCall (spQ K pf__law_many) [] E0 (tCons (tVar 0) (tCons (tC (.int 20)) (tCons (tC (.int 60)) tNil)))) tNil))) tNil)) (gName 4)
(tSeq (tAsg (tCall (spQ K pf__law_digits) [] E0 (tCons (tOp (rI0 fun i j => .int (i + j)) (tCall (spQ K pf__law_cell) [] E0 (tCons (tVar 0) (tCons (tVar 4) tNil))) (tOp (rI (fun i j => CMul i j ∨ CMulW i j) fun i j => .int (i * j)) (tC (.int 3)) (tVar 4))) (tCons (tLst (tCons (tC (.int 9)) (tCons (tVar 1) (tCons (tVar 1) (tCons (tC (.int 4)) (tCons (tC (.int 50)) tNil)))))) tNil))) (gName 5))
(tSeq (tAsg (tOp (rIx K) (tVar 3) (tOp (rIx K) (tVar 5) (tC (.int 1)))) (gName 6))
(tSeq (tIfS (tAnd (tTest (tOp (rI0 fun i j => .bl (decide (i < j))) (tOp (rIx K) (tVar 5) (tC (.int 0))) (tC (.int 3)))) (tNot (tB (tCall (spH K fn__law_store) [] E0 (tCons (tVar 3) (tCons (tVar 6) (tCons (tOp (rIx K) (tVar 5) (tC (.int 3))) (tCons (tOp (rIx K) (tVar 5) (tC (.int 4))) tNil))))))))
(tRet (tC (.bl false)))
tNext)
(tSeq (tIfS (tOr (tTest (tOp (rEqD K) (tOp (rIx K) (tVar 5) (tC (.int 0))) (tC (.int 3)))) (tTest (tOp (rEqD K) (tOp (rIx K) (tVar 5) (tC (.int 0))) (tC (.int 4)))))
(tSeq (tDrop (tCall (spH K fn__law_end) [] E0 (tCons (tVar 3) (tCons (tVar 6) (tCons (tVar 2) tNil)))))
(tIfS (tTest (tOp (rEqD K) (tOp (rIx K) (tVar 5) (tC (.int 0))) (tC (.int 4))))
(tDrop (tCall (spH K fn__law_take_over) [] E0 (tCons (tVar 3) (tCons (tVar 6) (tCons (tOp (rIx K) (tVar 3) (tOp (rIx K) (tVar 5) (tC (.int 2)))) tNil)))))
tNext))
tNext)
(tSeq (tIfS (tOr (tTest (tOp (rEqD K) (tOp (rIx K) (tVar 5) (tC (.int 0))) (tC (.int 5)))) (tTest (tOp (rEqD K) (tOp (rIx K) (tVar 5) (tC (.int 0))) (tC (.int 6)))))
(tDrop (tCall (spH K fn__law_arrive) [] E0 (tCons (tVar 3) (tCons (tVar 6) (tCons (tVar 2) tNil)))))
tNext)
(tIfS (tAnd (tTest (tOp (rI0 fun i j => .bl (decide (j < i))) (tOp (rIx K) (tVar 5) (tC (.int 0))) (tC (.int 6)))) (tNot (tB (tCall (spH K fn__law_asked) [] E0 (tCons (tVar 3) (tCons (tVar 6) (tCons (tVar 2) tNil)))))))
(tRet (tC (.bl false)))
tNext)))))))
(tSeq (tFor (iList K (tVar 3)) (gName 6)
(tFor (iRng1 (tCons (tCB (G.rLen K) (tCons (tDGet (tVar 6) (tC (.str "letters"))) tNil)) tNil)) (gName 4)
(tDrop (tCall (spH K fn__law_arrive) [] E0 (tCons (tVar 3) (tCons (tVar 6) (tCons (tVar 2) tNil)))))))
(tSeq (tFor (iList K (tVar 3)) (gName 6)
(tSeq (tIfS (tNot (tB (tCall (spH K fn__law_asked) [] E0 (tCons (tVar 3) (tCons (tVar 6) (tCons (tVar 2) tNil))))))
(tRet (tC (.bl false)))
tNext)
(tIfS (tOr (tNot (tB (tCall (spH K fn_is_fresh) [] E0 (tCons (tDGet (tVar 6) (tC (.str "held"))) (tCons (tDGet (tDGet (tVar 6) (tC (.str "held"))) (tC (.str "need"))) (tCons (tDGet (tVar 6) (tC (.str "machine"))) tNil)))))) (tNot (tB (tCall (spH K fn__law_right) [] E0 (tCons (tVar 3) (tCons (tVar 6) tNil))))))
(tRet (tC (.bl false)))
tNext)))
(tRet (tC (.bl true)))))))))
theorem sim_law (K : PySem.W.Frag) : SimS K (tr_law K) m_law :=
(ss_seq (ss_asg (sm_op sm_int (sm_op (sm_cb (sm_cons (sm_callQ (sm_cons sm_var (sm_cons sm_int sm_nil))) sm_nil) sc_int1) sm_int sr_intC) sr_int) (sg_name (js := [1]) (by decide)))
(ss_seq (ss_asg (sm_op (sm_op (sm_cb (sm_cons (sm_callQ (sm_cons sm_var (sm_cons sm_int sm_nil))) sm_nil) sc_int1) sm_int sr_intC) sm_var sr_intC) (sg_name (js := [2]) (by decide)))
(ss_seq (ss_asg (sm_new (sm_lc (si_rng1 (sm_cons sm_var sm_nil)) (sg_name (js := [7]) (by decide)) sm_yes (sm_callH (sm_cons sm_var (sm_cons sm_var sm_nil))))) (sg_name (js := [3]) (by decide)))
(ss_seq (ss_for (si_rng1 (sm_cons (sm_cb (sm_cons (sm_cb (sm_cons sm_var sm_nil) sc_len) (sm_cons (sm_callQ (sm_cons sm_var (sm_cons sm_int (sm_cons sm_int sm_nil)))) sm_nil)) sc_min2) sm_nil)) (sg_name (js := [4]) (by decide))
(ss_seq (ss_asg (sm_callQ (sm_cons (sm_op (sm_callQ (sm_cons sm_var (sm_cons sm_var sm_nil))) (sm_op sm_int sm_var sr_intC) sr_int) (sm_cons (sm_dat (sm_lst (sm_cons sm_int (sm_cons sm_var (sm_cons sm_var (sm_cons sm_int (sm_cons sm_int sm_nil))))))) sm_nil))) (sg_name (js := [5]) (by decide)))
(ss_seq (ss_asg (sm_op sm_var (sm_op sm_var sm_int sr_ix) sr_ix) (sg_name (js := [6]) (by decide)))
(ss_seq (ss_if (sm_and (sm_test (sm_op (sm_op sm_var sm_int sr_ix) sm_int sr_bl)) (sm_not (sm_B (sm_callH (sm_cons sm_var (sm_cons sm_var (sm_cons (sm_op sm_var sm_int sr_ix) (sm_cons (sm_op sm_var sm_int sr_ix) sm_nil))))))))
(ss_ret sm_bl)
ss_next)
(ss_seq (ss_if (sm_or (sm_test (sm_op (sm_op sm_var sm_int sr_ix) sm_int sr_eq)) (sm_test (sm_op (sm_op sm_var sm_int sr_ix) sm_int sr_eq)))
(ss_seq (ss_drop (sm_callH (sm_cons sm_var (sm_cons sm_var (sm_cons sm_var sm_nil)))))
(ss_if (sm_test (sm_op (sm_op sm_var sm_int sr_ix) sm_int sr_eq))
(ss_drop (sm_callH (sm_cons sm_var (sm_cons sm_var (sm_cons (sm_op sm_var (sm_op sm_var sm_int sr_ix) sr_ix) sm_nil)))))
ss_next))
ss_next)
(ss_seq (ss_if (sm_or (sm_test (sm_op (sm_op sm_var sm_int sr_ix) sm_int sr_eq)) (sm_test (sm_op (sm_op sm_var sm_int sr_ix) sm_int sr_eq)))
(ss_drop (sm_callH (sm_cons sm_var (sm_cons sm_var (sm_cons sm_var sm_nil)))))
ss_next)
(ss_if (sm_and (sm_test (sm_op (sm_op sm_var sm_int sr_ix) sm_int sr_bl)) (sm_not (sm_B (sm_callH (sm_cons sm_var (sm_cons sm_var (sm_cons sm_var sm_nil)))))))
(ss_ret sm_bl)
ss_next)))))))
(ss_seq (ss_for (si_list sm_var) (sg_name (js := [6]) (by decide))
(ss_for (si_rng1 (sm_cons (sm_cb (sm_cons (sm_dget sm_var sm_str) sm_nil) sc_len) sm_nil)) (sg_name (js := [4]) (by decide))
(ss_drop (sm_callH (sm_cons sm_var (sm_cons sm_var (sm_cons sm_var sm_nil)))))))
(ss_seq (ss_for (si_list sm_var) (sg_name (js := [6]) (by decide))
(ss_seq (ss_if (sm_not (sm_B (sm_callH (sm_cons sm_var (sm_cons sm_var (sm_cons sm_var sm_nil))))))
(ss_ret sm_bl)
ss_next)
(ss_if (sm_or (sm_not (sm_B (sm_callH (sm_cons (sm_dget sm_var sm_str) (sm_cons (sm_dget (sm_dget sm_var sm_str) sm_str) (sm_cons (sm_dget sm_var sm_str) sm_nil)))))) (sm_not (sm_B (sm_callH (sm_cons sm_var (sm_cons sm_var sm_nil))))))
(ss_ret sm_bl)
ss_next)))
(ss_ret sm_bl)))))))
/-! ### what the top has left -/
structure Fx (K : PySem.W.Frag) (mg : Str → Option Value) where
  a_zero_clock : Addr
  d_zero_clock : FuncData
  F_zero_clock : Fun K "zero_clock" "zero_clock" s_zero_clock a_zero_clock d_zero_clock
  b_zero_clock : Binds K d_zero_clock ["machines"] []
  g_zero_clock : mg "zero_clock" = some (.ref a_zero_clock)
  a_merged : Addr
  d_merged : FuncData
  F_merged : Fun K "merged" "merged" s_merged a_merged d_merged
  b_merged : Binds K d_merged ["one", "other"] []
  g_merged : mg "merged" = some (.ref a_merged)
  a_with_count : Addr
  d_with_count : FuncData
  F_with_count : Fun K "with_count" "with_count" s_with_count a_with_count d_with_count
  b_with_count : Binds K d_with_count ["clock", "machine", "count"] []
  g_with_count : mg "with_count" = some (.ref a_with_count)
  a_is_within : Addr
  d_is_within : FuncData
  F_is_within : Fun K "is_within" "is_within" s_is_within a_is_within d_is_within
  b_is_within : Binds K d_is_within ["one", "other"] []
  g_is_within : mg "is_within" = some (.ref a_is_within)
  a_new_page : Addr
  d_new_page : FuncData
  F_new_page : Fun K "new_page" "new_page" s_new_page a_new_page d_new_page
  b_new_page : Binds K d_new_page [] []
  g_new_page : mg "new_page" = some (.ref a_new_page)
  a_has_place : Addr
  d_has_place : FuncData
  F_has_place : Fun K "has_place" "has_place" s_has_place a_has_place d_has_place
  b_has_place : Binds K d_has_place ["page", "place"] []
  g_has_place : mg "has_place" = some (.ref a_has_place)
  a_cell_at : Addr
  d_cell_at : FuncData
  F_cell_at : Fun K "cell_at" "cell_at" s_cell_at a_cell_at d_cell_at
  b_cell_at : Binds K d_cell_at ["page", "place"] []
  g_cell_at : mg "cell_at" = some (.ref a_cell_at)
  a_put_cell : Addr
  d_put_cell : FuncData
  F_put_cell : Fun K "put_cell" "put_cell" s_put_cell a_put_cell d_put_cell
  b_put_cell : Binds K d_put_cell ["page", "place", "cell"] []
  g_put_cell : mg "put_cell" = some (.ref a_put_cell)
  a_store : Addr
  d_store : FuncData
  F_store : Fun K "store" "store" s_store a_store d_store
  b_store : Binds K d_store ["page", "place", "value", "machine"] []
  g_store : mg "store" = some (.ref a_store)
  a_merge : Addr
  d_merge : FuncData
  F_merge : Fun K "merge" "merge" s_merge a_merge d_merge
  b_merge : Binds K d_merge ["page", "rows"] []
  g_merge : mg "merge" = some (.ref a_merge)
  a_rows_of : Addr
  d_rows_of : FuncData
  F_rows_of : Fun K "rows_of" "rows_of" s_rows_of a_rows_of d_rows_of
  b_rows_of : Binds K d_rows_of ["page"] []
  g_rows_of : mg "rows_of" = some (.ref a_rows_of)
  a_difference : Addr
  d_difference : FuncData
  F_difference : Fun K "difference" "difference" s_difference a_difference d_difference
  b_difference : Binds K d_difference ["stored"] []
  g_difference : mg "difference" = some (.ref a_difference)
  a_new_held : Addr
  d_new_held : FuncData
  F_new_held : Fun K "new_held" "new_held" s_new_held a_new_held d_new_held
  b_new_held : Binds K d_new_held ["machines"] []
  g_new_held : mg "new_held" = some (.ref a_new_held)
  a_raised : Addr
  d_raised : FuncData
  F_raised : Fun K "raised" "raised" s_raised a_raised d_raised
  b_raised : Binds K d_raised ["clock", "machine", "number"] []
  g_raised : mg "raised" = some (.ref a_raised)
  a_needs : Addr
  d_needs : FuncData
  F_needs : Fun K "needs" "needs" s_needs a_needs d_needs
  b_needs : Binds K d_needs ["held", "machine", "number"] []
  g_needs : mg "needs" = some (.ref a_needs)
  a_arrived : Addr
  d_arrived : FuncData
  F_arrived : Fun K "arrived" "arrived" s_arrived a_arrived d_arrived
  b_arrived : Binds K d_arrived ["held", "machine", "number"] []
  g_arrived : mg "arrived" = some (.ref a_arrived)
  a_had : Addr
  d_had : FuncData
  F_had : Fun K "had" "had" s_had a_had d_had
  b_had : Binds K d_had ["held", "clock"] []
  g_had : mg "had" = some (.ref a_had)
  a_is_fresh : Addr
  d_is_fresh : FuncData
  F_is_fresh : Fun K "is_fresh" "is_fresh" s_is_fresh a_is_fresh d_is_fresh
  b_is_fresh : Binds K d_is_fresh ["held", "needed", "owner"] []
  g_is_fresh : mg "is_fresh" = some (.ref a_is_fresh)
  a__law_cell : Addr
  d__law_cell : FuncData
  F__law_cell : Fun K "_law_cell" "_law_cell" s__law_cell a__law_cell d__law_cell
  b__law_cell : Binds K d__law_cell ["script", "k"] []
  g__law_cell : mg "_law_cell" = some (.ref a__law_cell)
  a__law_digits : Addr
  d__law_digits : FuncData
  F__law_digits : Fun K "_law_digits" "_law_digits" s__law_digits a__law_digits d__law_digits
  b__law_digits : Binds K d__law_digits ["cell", "bases"] []
  g__law_digits : mg "_law_digits" = some (.ref a__law_digits)
  a__law_many : Addr
  d__law_many : FuncData
  F__law_many : Fun K "_law_many" "_law_many" s__law_many a__law_many d__law_many
  b__law_many : Binds K d__law_many ["script", "few", "many"] []
  g__law_many : mg "_law_many" = some (.ref a__law_many)
  a__law_machine : Addr
  d__law_machine : FuncData
  F__law_machine : Fun K "_law_machine" "_law_machine" s__law_machine a__law_machine d__law_machine
  b__law_machine : Binds K d__law_machine ["machines", "machine"] []
  g__law_machine : mg "_law_machine" = some (.ref a__law_machine)
  a__law_right : Addr
  d__law_right : FuncData
  F__law_right : Fun K "_law_right" "_law_right" s__law_right a__law_right d__law_right
  b__law_right : Binds K d__law_right ["team", "one"] []
  g__law_right : mg "_law_right" = some (.ref a__law_right)
  a__law_store : Addr
  d__law_store : FuncData
  F__law_store : Fun K "_law_store" "_law_store" s__law_store a__law_store d__law_store
  b__law_store : Binds K d__law_store ["team", "one", "place", "value"] []
  g__law_store : mg "_law_store" = some (.ref a__law_store)
  a__law_end : Addr
  d__law_end : FuncData
  F__law_end : Fun K "_law_end" "_law_end" s__law_end a__law_end d__law_end
  b__law_end : Binds K d__law_end ["team", "one", "home"] []
  g__law_end : mg "_law_end" = some (.ref a__law_end)
  a__law_take_over : Addr
  d__law_take_over : FuncData
  F__law_take_over : Fun K "_law_take_over" "_law_take_over" s__law_take_over a__law_take_over d__law_take_over
  b__law_take_over : Binds K d__law_take_over ["team", "one", "other"] []
  g__law_take_over : mg "_law_take_over" = some (.ref a__law_take_over)
  a__law_arrive : Addr
  d__law_arrive : FuncData
  F__law_arrive : Fun K "_law_arrive" "_law_arrive" s__law_arrive a__law_arrive d__law_arrive
  b__law_arrive : Binds K d__law_arrive ["team", "one", "home"] []
  g__law_arrive : mg "_law_arrive" = some (.ref a__law_arrive)
  a__law_asked : Addr
  d__law_asked : FuncData
  F__law_asked : Fun K "_law_asked" "_law_asked" s__law_asked a__law_asked d__law_asked
  b__law_asked : Binds K d__law_asked ["team", "one", "home"] []
  g__law_asked : mg "_law_asked" = some (.ref a__law_asked)
  a_law : Addr
  d_law : FuncData
  F_law : Fun K "law" "law" s_law a_law d_law
  b_law : Binds K d_law ["script"] []
  g_law : mg "law" = some (.ref a_law)
  m_all : mg "all" = none
  m_enumerate : mg "enumerate" = none
  m_int : mg "int" = none
  m_len : mg "len" = none
  m_max : mg "max" = none
  m_min : mg "min" = none
  m_range : mg "range" = none
  m_sorted : mg "sorted" = none
  m_tuple : mg "tuple" = none
  m_zip : mg "zip" = none
  c_PAGE_WORDS : GlD K mg "PAGE_WORDS" (.int 4)
  c_FIRST_CELL : GlD K mg "FIRST_CELL" (.tuple [(.int 0), (.tuple [(.int 0), (.int 0)])])
section
variable {P : Program} {w : World} {K : PySem.W.Frag} {mg : Str → Option Value} {base : Heap}
theorem ps_zero_clock (Z : Fx K mg)   {cdv : Value} {A : Around} {outer : List PySem.Env} {s : Shared} {H : Hp} {E : XK} (hr : Room 0 (A.deeper (envOfC "zero_clock" (defScope s_zero_clock) s.heap.objs.size Z.a_zero_clock cdv))) :
    PSs (cxOf CX0 P w K mg base N_zero_clock "zero_clock" (defScope s_zero_clock) Z.a_zero_clock cdv A outer s H E).nox (defBody s_zero_clock) (tr_zero_clock K) :=
  (pss_one (ps_ret (pe_op op_repA (pe_tup (pa_cons pe_int pa_nil)) (pv 0))))
theorem ps_merged (Z : Fx K mg)   {cdv : Value} {A : Around} {outer : List PySem.Env} {s : Shared} {H : Hp} {E : XK} (hr : Room 0 (A.deeper (envOfC "merged" (defScope s_merged) s.heap.objs.size Z.a_merged cdv))) :
    PSs (cxOf CX0 P w K mg base N_merged "merged" (defScope s_merged) Z.a_merged cdv A outer s H E).nox (defBody s_merged) (tr_merged K) :=
  (pss_one (ps_ret (pe_callTy cr_tup (by rfl) Z.m_tuple (by decide +kernel) (pa_cons (pe_lc (own := [("first", 2), ("second", 3)]) (g := (gTup K 2 (gCons (gName 2) (gCons (gName 3) gNil)))) (tt := tYes) (te := (tCB rMax2 (tCons (tVar 2) (tCons (tVar 3) tNil)))) rfl sc_merged.nd (RZ.pi_zipA (by rfl) Z.m_zip (pa_cons (pv 0) (pa_cons (pv 1) pa_nil))) (blkOk_by (N := N_merged) (sc := defScope s_merged) (by decide +kernel)) (fun _ _ _ _ _ => pg_tup (by rfl) (pgs_cons (pg_name (i := 2) sc_merged.nd rfl (by first | exact Or.inl rfl | exact Or.inr rfl)) (pgs_cons (pg_name (i := 3) sc_merged.nd rfl (by first | exact Or.inl rfl | exact Or.inr rfl)) pgs_nil))) (fun _ _ _ _ _ => pts_nil) (fun _ _ _ _ _ => (pe_callB (cr_max2 rfl) (by rfl) Z.m_max (by decide +kernel) (pa_cons (pv 2) (pa_cons (pv 3) pa_nil))))) pa_nil))))
theorem ps_with_count (Z : Fx K mg)   {cdv : Value} {A : Around} {outer : List PySem.Env} {s : Shared} {H : Hp} {E : XK} (hr : Room 0 (A.deeper (envOfC "with_count" (defScope s_with_count) s.heap.objs.size Z.a_with_count cdv))) :
    PSs (cxOf CX0 P w K mg base N_with_count "with_count" (defScope s_with_count) Z.a_with_count cdv A outer s H E).nox (defBody s_with_count) (tr_with_count K) :=
  (pss_one (ps_ret (pe_callTy cr_tup (by rfl) Z.m_tuple (by decide +kernel) (pa_cons (pe_lc (own := [("at", 3), ("old", 4)]) (g := (gTup K 2 (gCons (gName 3) (gCons (gName 4) gNil)))) (tt := tYes) (te := (tIf (tTest (tOp (rEqD K) (tVar 3) (tVar 1))) (tVar 2) (tVar 4))) rfl sc_with_count.nd (pi_enumA (by rfl) Z.m_enumerate (pa_cons (pv 0) pa_nil)) (blkOk_by (N := N_with_count) (sc := defScope s_with_count) (by decide +kernel)) (fun _ _ _ _ _ => pg_tup (by rfl) (pgs_cons (pg_name (i := 3) sc_with_count.nd rfl (by first | exact Or.inl rfl | exact Or.inr rfl)) (pgs_cons (pg_name (i := 4) sc_with_count.nd rfl (by first | exact Or.inl rfl | exact Or.inr rfl)) pgs_nil))) (fun _ _ _ _ _ => pts_nil) (fun _ _ _ _ _ => (pe_ifExp (pt_cmpR (op_eqD hr.units) (pv 3) (pv 1) (nomark _)) (pv 2) (pv 4)))) pa_nil))))
theorem ps_is_within (Z : Fx K mg)   {cdv : Value} {A : Around} {outer : List PySem.Env} {s : Shared} {H : Hp} {E : XK} (hr : Room 0 (A.deeper (envOfC "is_within" (defScope s_is_within) s.heap.objs.size Z.a_is_within cdv))) :
    PSs (cxOf CX0 P w K mg base N_is_within "is_within" (defScope s_is_within) Z.a_is_within cdv A outer s H E).nox (defBody s_is_within) (tr_is_within K) :=
  (pss_one (ps_ret (pe_callB (cr_all rfl) (by rfl) Z.m_all (by decide +kernel) (pa_cons (pe_lc (own := [("first", 2), ("second", 3)]) (g := (gTup K 2 (gCons (gName 2) (gCons (gName 3) gNil)))) (tt := tYes) (te := (tOp (rI0 fun i j => .bl (decide (i ≤ j))) (tVar 2) (tVar 3))) rfl sc_is_within.nd (RZ.pi_zipA (by rfl) Z.m_zip (pa_cons (pv 0) (pa_cons (pv 1) pa_nil))) (blkOk_by (N := N_is_within) (sc := defScope s_is_within) (by decide +kernel)) (fun _ _ _ _ _ => pg_tup (by rfl) (pgs_cons (pg_name (i := 2) sc_is_within.nd rfl (by first | exact Or.inl rfl | exact Or.inr rfl)) (pgs_cons (pg_name (i := 3) sc_is_within.nd rfl (by first | exact Or.inl rfl | exact Or.inr rfl)) pgs_nil))) (fun _ _ _ _ _ => pts_nil) (fun _ _ _ _ _ => (pe_cmpR op_le (pv 2) (pv 3) (nomark _)))) pa_nil))))
theorem ps_new_page (Z : Fx K mg)   {cdv : Value} {A : Around} {outer : List PySem.Env} {s : Shared} {H : Hp} {E : XK} (hr : Room 0 (A.deeper (envOfC "new_page" (defScope s_new_page) s.heap.objs.size Z.a_new_page cdv))) :
    PSs (cxOf CX0 P w K mg base N_new_page "new_page" (defScope s_new_page) Z.a_new_page cdv A outer s H E).nox (defBody s_new_page) (tr_new_page K) :=
  (pss_one (ps_ret (pe_op op_rep (pe_lst (pa_cons (pe_glD rfl Z.c_FIRST_CELL) pa_nil)) (pe_glD rfl Z.c_PAGE_WORDS))))
theorem ps_has_place (Z : Fx K mg)   {cdv : Value} {A : Around} {outer : List PySem.Env} {s : Shared} {H : Hp} {E : XK} (hr : Room 0 (A.deeper (envOfC "has_place" (defScope s_has_place) s.heap.objs.size Z.a_has_place cdv))) :
    PSs (cxOf CX0 P w K mg base N_has_place "has_place" (defScope s_has_place) Z.a_has_place cdv A outer s H E).nox (defBody s_has_place) (tr_has_place K) :=
  (pss_one (ps_ret (pe_chain op_le op_lt pe_int (pv 1) (pe_callB cr_len (by rfl) Z.m_len (by decide +kernel) (pa_cons (pv 0) pa_nil)))))
theorem ps_cell_at (Z : Fx K mg)  (G_has_place : FnOk P w K mg base CX0 1 Z.a_has_place Z.d_has_place ["page", "place"] (spQ K pf_has_place)) {cdv : Value} {A : Around} {outer : List PySem.Env} {s : Shared} {H : Hp} {E : XK} (hr : Room 1 (A.deeper (envOfC "cell_at" (defScope s_cell_at) s.heap.objs.size Z.a_cell_at cdv))) :
    PSs (cxOf CX0 P w K mg base N_cell_at "cell_at" (defScope s_cell_at) Z.a_cell_at cdv A outer s H E).nox (defBody s_cell_at) (tr_cell_at K) :=
  (pss_one (ps_ret (pe_ifExp (pt_val (pe_call (G_has_place) (hr.mono (by decide)) (by rfl) Z.g_has_place Z.F_has_place.kp Z.b_has_place .nil pass0 (pa_cons (pv 0) (pa_cons (pv 1) pa_nil)))) (pe_ix ix_seq (pv 0) (pv 1) (fun _ _ => rfl)) (pe_glD rfl Z.c_FIRST_CELL))))
theorem ps_put_cell (Z : Fx K mg)  (G_has_place : FnOk P w K mg base CX0 1 Z.a_has_place Z.d_has_place ["page", "place"] (spQ K pf_has_place)) {cdv : Value} {A : Around} {outer : List PySem.Env} {s : Shared} {H : Hp} {E : XK} (hr : Room 1 (A.deeper (envOfC "put_cell" (defScope s_put_cell) s.heap.objs.size Z.a_put_cell cdv))) :
    PSs (cxOf CX0 P w K mg base N_put_cell "put_cell" (defScope s_put_cell) Z.a_put_cell cdv A outer s H E).nox (defBody s_put_cell) (tr_put_cell K) :=
  (pss_one (ps_if (pt_val (pe_call (G_has_place) (hr.mono (by decide)) (by rfl) Z.g_has_place Z.F_has_place.kp Z.b_has_place .nil pass0 (pa_cons (pv 0) (pa_cons (pv 1) pa_nil))))
(pss_one (ps_asg (pv 2) (pg_sub (pv 0) (pv 1) set_list)))
pss_nil))
theorem ps_store (Z : Fx K mg)  (G_put_cell : FnOk P w K mg base CX0 2 Z.a_put_cell Z.d_put_cell ["page", "place", "cell"] (spH K fn_put_cell)) (G_cell_at : FnOk P w K mg base CX0 2 Z.a_cell_at Z.d_cell_at ["page", "place"] (spQ K pf_cell_at)) {cdv : Value} {A : Around} {outer : List PySem.Env} {s : Shared} {H : Hp} {E : XK} (hr : Room 2 (A.deeper (envOfC "store" (defScope s_store) s.heap.objs.size Z.a_store cdv))) :
    PSs (cxOf CX0 P w K mg base N_store "store" (defScope s_store) Z.a_store cdv A outer s H E).nox (defBody s_store) (tr_store K) :=
  (pss_cons (ps_asg (pe_ix ix_seq (pe_call (G_cell_at) (hr.mono (by decide)) (by rfl) Z.g_cell_at Z.F_cell_at.kp Z.b_cell_at .nil pass0 (pa_cons (pv 0) (pa_cons (pv 1) pa_nil))) pe_int (fun _ _ => rfl)) (pg_tup (by rfl) (pgs_cons (pg_name (i := 4) sc_store.nd rfl (.inl rfl)) (pgs_cons (pg_name (i := 5) sc_store.nd rfl (.inl rfl)) pgs_nil))))
(pss_cons (ps_set (i := 6) sc_store.nd rfl (.inl rfl) (pe_tup (pa_cons (pe_op op_add (pv 4) pe_int) (pa_cons (pv 3) pa_nil))))
(pss_cons (ps_expr (pe_call (G_put_cell) (hr.mono (by decide)) (by rfl) Z.g_put_cell Z.F_put_cell.kp Z.b_put_cell .nil pass0 (pa_cons (pv 0) (pa_cons (pv 1) (pa_cons (pe_tup (pa_cons (pv 2) (pa_cons (pv 6) pa_nil))) pa_nil)))))
(pss_one (ps_ret (pv 6))))))
theorem ps_merge (Z : Fx K mg)  (G_put_cell : FnOk P w K mg base CX0 2 Z.a_put_cell Z.d_put_cell ["page", "place", "cell"] (spH K fn_put_cell)) (G_cell_at : FnOk P w K mg base CX0 2 Z.a_cell_at Z.d_cell_at ["page", "place"] (spQ K pf_cell_at)) {cdv : Value} {A : Around} {outer : List PySem.Env} {s : Shared} {H : Hp} {E : XK} (hr : Room 2 (A.deeper (envOfC "merge" (defScope s_merge) s.heap.objs.size Z.a_merge cdv))) :
    PSs (cxOf CX0 P w K mg base N_merge "merge" (defScope s_merge) Z.a_merge cdv A outer s H E).nox (defBody s_merge) (tr_merge K) :=
  (pss_one (ps_for PassesOwn.never rfl (pi_tup (pv 1)) (pg_tup (by rfl) (pgs_cons (pg_name (i := 2) sc_merge.nd rfl (.inl rfl)) (pgs_cons (pg_name (i := 3) sc_merge.nd rfl (.inl rfl)) (pgs_cons (pg_name (i := 4) sc_merge.nd rfl (.inl rfl)) pgs_nil))))
(pss_one (ps_if (pt_cmpR (op_gtDa hr.units) (pv 4) (pe_ix ix_seq (pe_call (G_cell_at) (hr.mono (by decide)) (by rfl) Z.g_cell_at Z.F_cell_at.kp Z.b_cell_at .nil pass0 (pa_cons (pv 0) (pa_cons (pv 2) pa_nil))) pe_int (fun _ _ => rfl)) (nomark _))
(pss_one (ps_expr (pe_call (G_put_cell) (hr.mono (by decide)) (by rfl) Z.g_put_cell Z.F_put_cell.kp Z.b_put_cell .nil pass0 (pa_cons (pv 0) (pa_cons (pv 2) (pa_cons (pe_tup (pa_cons (pv 3) (pa_cons (pv 4) pa_nil))) pa_nil))))))
pss_nil))))
theorem ps_rows_of (Z : Fx K mg)   {cdv : Value} {A : Around} {outer : List PySem.Env} {s : Shared} {H : Hp} {E : XK} (hr : Room 0 (A.deeper (envOfC "rows_of" (defScope s_rows_of) s.heap.objs.size Z.a_rows_of cdv))) :
    PSs (cxOf CX0 P w K mg base N_rows_of "rows_of" (defScope s_rows_of) Z.a_rows_of cdv A outer s H E).nox (defBody s_rows_of) (tr_rows_of K) :=
  (pss_one (ps_ret (pe_callTy cr_tup (by rfl) Z.m_tuple (by decide +kernel) (pa_cons (pe_lc (own := [("place", 1), ("value", 2), ("key", 3)]) (g := (gTup K 2 (gCons (gName 1) (gCons (gTup K 2 (gCons (gName 2) (gCons (gName 3) gNil))) gNil)))) (tt := tYes) (te := (tTup (tCons (tVar 1) (tCons (tVar 2) (tCons (tVar 3) tNil))))) rfl sc_rows_of.nd (pi_enumA (by rfl) Z.m_enumerate (pa_cons (pv 0) pa_nil)) (blkOk_by (N := N_rows_of) (sc := defScope s_rows_of) (by decide +kernel)) (fun _ _ _ _ _ => pg_tup (by rfl) (pgs_cons (pg_name (i := 1) sc_rows_of.nd rfl (by first | exact Or.inl rfl | exact Or.inr rfl)) (pgs_cons (pg_tup (by rfl) (pgs_cons (pg_name (i := 2) sc_rows_of.nd rfl (by first | exact Or.inl rfl | exact Or.inr rfl)) (pgs_cons (pg_name (i := 3) sc_rows_of.nd rfl (by first | exact Or.inl rfl | exact Or.inr rfl)) pgs_nil))) pgs_nil))) (fun _ _ _ _ _ => pts_nil) (fun _ _ _ _ _ => (pe_tup (pa_cons (pv 1) (pa_cons (pv 2) (pa_cons (pv 3) pa_nil)))))) pa_nil))))
theorem ps_difference (Z : Fx K mg)   {cdv : Value} {A : Around} {outer : List PySem.Env} {s : Shared} {H : Hp} {E : XK} (hr : Room 0 (A.deeper (envOfC "difference" (defScope s_difference) s.heap.objs.size Z.a_difference cdv))) :
    PSs (cxOf CX0 P w K mg base N_difference "difference" (defScope s_difference) Z.a_difference cdv A outer s H E).nox (defBody s_difference) (tr_difference K) :=
  (pss_one (ps_ret (pe_callTy cr_tup (by rfl) Z.m_tuple (by decide +kernel) (pa_cons (pe_lc (own := [("place", 1)]) (g := (gName 1)) (tt := tYes) (te := (tTup (tCons (tVar 1) (tCons (tOp (rIx K) (tDGet (tVar 0) (tVar 1)) (tC (.int 0))) (tCons (tOp (rIx K) (tDGet (tVar 0) (tVar 1)) (tC (.int 1))) tNil))))) rfl sc_difference.nd (pi_list (pe_callB (call_sortedDI rfl) (by rfl) Z.m_sorted (by decide +kernel) (pa_cons (pv 0) pa_nil))) (blkOk_by (N := N_difference) (sc := defScope s_difference) (by decide +kernel)) (fun _ _ _ _ _ => pg_name (i := 1) sc_difference.nd rfl (by first | exact Or.inl rfl | exact Or.inr rfl)) (fun _ _ _ _ _ => pts_nil) (fun _ _ _ _ _ => (pe_tup (pa_cons (pv 1) (pa_cons (pe_ix ix_seq (pe_dget (hu_of hr) (pv 0) (pv 1) (fun _ _ => rfl)) pe_int (fun _ _ => rfl)) (pa_cons (pe_ix ix_seq (pe_dget (hu_of hr) (pv 0) (pv 1) (fun _ _ => rfl)) pe_int (fun _ _ => rfl)) pa_nil)))))) pa_nil))))
theorem ps_new_held (Z : Fx K mg)  (G_zero_clock : FnOk P w K mg base CX0 1 Z.a_zero_clock Z.d_zero_clock ["machines"] (spQ K pf_zero_clock)) {cdv : Value} {A : Around} {outer : List PySem.Env} {s : Shared} {H : Hp} {E : XK} (hr : Room 1 (A.deeper (envOfC "new_held" (defScope s_new_held) s.heap.objs.size Z.a_new_held cdv))) :
    PSs (cxOf CX0 P w K mg base N_new_held "new_held" (defScope s_new_held) Z.a_new_held cdv A outer s H E).nox (defBody s_new_held) (tr_new_held K) :=
  (pss_one (ps_ret (pe_disp (pps_cons pe_str (pe_call (G_zero_clock) (hr.mono (by decide)) (by rfl) Z.g_zero_clock Z.F_zero_clock.kp Z.b_zero_clock .nil pass0 (pa_cons (pv 0) pa_nil)) (pps_cons pe_str (pe_call (G_zero_clock) (hr.mono (by decide)) (by rfl) Z.g_zero_clock Z.F_zero_clock.kp Z.b_zero_clock .nil pass0 (pa_cons (pv 0) pa_nil)) pps_nil)) (by rfl) (by rfl) (by simp) (by decide))))
theorem ps_raised (Z : Fx K mg)   {cdv : Value} {A : Around} {outer : List PySem.Env} {s : Shared} {H : Hp} {E : XK} (hr : Room 0 (A.deeper (envOfC "raised" (defScope s_raised) s.heap.objs.size Z.a_raised cdv))) :
    PSs (cxOf CX0 P w K mg base N_raised "raised" (defScope s_raised) Z.a_raised cdv A outer s H E).nox (defBody s_raised) (tr_raised K) :=
  (pss_one (ps_ret (pe_callTy cr_tup (by rfl) Z.m_tuple (by decide +kernel) (pa_cons (pe_lc (own := [("at", 3), ("count", 4)]) (g := (gTup K 2 (gCons (gName 3) (gCons (gName 4) gNil)))) (tt := tYes) (te := (tIf (tTest (tOp (rEqD K) (tVar 3) (tVar 1))) (tCB rMax2 (tCons (tVar 4) (tCons (tVar 2) tNil))) (tVar 4))) rfl sc_raised.nd (pi_enumA (by rfl) Z.m_enumerate (pa_cons (pv 0) pa_nil)) (blkOk_by (N := N_raised) (sc := defScope s_raised) (by decide +kernel)) (fun _ _ _ _ _ => pg_tup (by rfl) (pgs_cons (pg_name (i := 3) sc_raised.nd rfl (by first | exact Or.inl rfl | exact Or.inr rfl)) (pgs_cons (pg_name (i := 4) sc_raised.nd rfl (by first | exact Or.inl rfl | exact Or.inr rfl)) pgs_nil))) (fun _ _ _ _ _ => pts_nil) (fun _ _ _ _ _ => (pe_ifExp (pt_cmpR (op_eqD hr.units) (pv 3) (pv 1) (nomark _)) (pe_callB (cr_max2 rfl) (by rfl) Z.m_max (by decide +kernel) (pa_cons (pv 4) (pa_cons (pv 2) pa_nil))) (pv 4)))) pa_nil))))
theorem ps_needs (Z : Fx K mg)  (G_raised : FnOk P w K mg base CX0 1 Z.a_raised Z.d_raised ["clock", "machine", "number"] (spQ K pf_raised)) {cdv : Value} {A : Around} {outer : List PySem.Env} {s : Shared} {H : Hp} {E : XK} (hr : Room 1 (A.deeper (envOfC "needs" (defScope s_needs) s.heap.objs.size Z.a_needs cdv))) :
    PSs (cxOf CX0 P w K mg base N_needs "needs" (defScope s_needs) Z.a_needs cdv A outer s H E).nox (defBody s_needs) (tr_needs K) :=
  (pss_one (ps_dput (hu_of hr) (pv 0) pe_str (pe_call (G_raised) (hr.mono (by decide)) (by rfl) Z.g_raised Z.F_raised.kp Z.b_raised .nil pass0 (pa_cons (pe_dget (hu_of hr) (pv 0) pe_str (fun _ _ => rfl)) (pa_cons (pv 1) (pa_cons (pv 2) pa_nil)))) (by rfl)))
theorem ps_arrived (Z : Fx K mg)  (G_raised : FnOk P w K mg base CX0 1 Z.a_raised Z.d_raised ["clock", "machine", "number"] (spQ K pf_raised)) {cdv : Value} {A : Around} {outer : List PySem.Env} {s : Shared} {H : Hp} {E : XK} (hr : Room 1 (A.deeper (envOfC "arrived" (defScope s_arrived) s.heap.objs.size Z.a_arrived cdv))) :
    PSs (cxOf CX0 P w K mg base N_arrived "arrived" (defScope s_arrived) Z.a_arrived cdv A outer s H E).nox (defBody s_arrived) (tr_arrived K) :=
  (pss_one (ps_dput (hu_of hr) (pv 0) pe_str (pe_call (G_raised) (hr.mono (by decide)) (by rfl) Z.g_raised Z.F_raised.kp Z.b_raised .nil pass0 (pa_cons (pe_dget (hu_of hr) (pv 0) pe_str (fun _ _ => rfl)) (pa_cons (pv 1) (pa_cons (pv 2) pa_nil)))) (by rfl)))
theorem ps_had (Z : Fx K mg)  (G_merged : FnOk P w K mg base CX0 1 Z.a_merged Z.d_merged ["one", "other"] (spQ K pf_merged)) {cdv : Value} {A : Around} {outer : List PySem.Env} {s : Shared} {H : Hp} {E : XK} (hr : Room 1 (A.deeper (envOfC "had" (defScope s_had) s.heap.objs.size Z.a_had cdv))) :
    PSs (cxOf CX0 P w K mg base N_had "had" (defScope s_had) Z.a_had cdv A outer s H E).nox (defBody s_had) (tr_had K) :=
  (pss_one (ps_dput (hu_of hr) (pv 0) pe_str (pe_call (G_merged) (hr.mono (by decide)) (by rfl) Z.g_merged Z.F_merged.kp Z.b_merged .nil pass0 (pa_cons (pe_dget (hu_of hr) (pv 0) pe_str (fun _ _ => rfl)) (pa_cons (pv 1) pa_nil))) (by rfl)))
theorem ps_is_fresh (Z : Fx K mg)  (G_is_within : FnOk P w K mg base CX0 1 Z.a_is_within Z.d_is_within ["one", "other"] (spQ K pf_is_within)) (G_with_count : FnOk P w K mg base CX0 1 Z.a_with_count Z.d_with_count ["clock", "machine", "count"] (spQ K pf_with_count)) {cdv : Value} {A : Around} {outer : List PySem.Env} {s : Shared} {H : Hp} {E : XK} (hr : Room 1 (A.deeper (envOfC "is_fresh" (defScope s_is_fresh) s.heap.objs.size Z.a_is_fresh cdv))) :
    PSs (cxOf CX0 P w K mg base N_is_fresh "is_fresh" (defScope s_is_fresh) Z.a_is_fresh cdv A outer s H E).nox (defBody s_is_fresh) (tr_is_fresh K) :=
  (pss_one (ps_ret (pe_call (G_is_within) (hr.mono (by decide)) (by rfl) Z.g_is_within Z.F_is_within.kp Z.b_is_within .nil pass0 (pa_cons (pe_call (G_with_count) (hr.mono (by decide)) (by rfl) Z.g_with_count Z.F_with_count.kp Z.b_with_count .nil pass0 (pa_cons (pv 1) (pa_cons (pv 2) (pa_cons pe_int pa_nil)))) (pa_cons (pe_dget (hu_of hr) (pv 0) pe_str (fun _ _ => rfl)) pa_nil)))))
theorem ps__law_cell (Z : Fx K mg)   {cdv : Value} {A : Around} {outer : List PySem.Env} {s : Shared} {H : Hp} {E : XK} (hr : Room 0 (A.deeper (envOfC "_law_cell" (defScope s__law_cell) s.heap.objs.size Z.a__law_cell cdv))) :
    PSs (cxOf CX0 P w K mg base N__law_cell "_law_cell" (defScope s__law_cell) Z.a__law_cell cdv A outer s H E).nox (defBody s__law_cell) (tr__law_cell K) :=
  (pss_cons (ps_if (pt_cmpR op_lt (pv 1) (pe_callB cr_len (by rfl) Z.m_len (by decide +kernel) (pa_cons (pv 0) pa_nil)) (nomark _))
(pss_one (ps_ret (pe_callTy cr_int1 (by rfl) Z.m_int (by decide +kernel) (pa_cons (pe_ix ix_seq (pv 0) (pv 1) (fun _ _ => rfl)) pa_nil))))
pss_nil)
(pss_one (ps_ret pe_int)))
theorem ps__law_digits (Z : Fx K mg)   {cdv : Value} {A : Around} {outer : List PySem.Env} {s : Shared} {H : Hp} {E : XK} (hr : Room 0 (A.deeper (envOfC "_law_digits" (defScope s__law_digits) s.heap.objs.size Z.a__law_digits cdv))) :
    PSs (cxOf CX0 P w K mg base N__law_digits "_law_digits" (defScope s__law_digits) Z.a__law_digits cdv A outer s H E).nox (defBody s__law_digits) (tr__law_digits K) :=
  (pss_cons (ps_set (i := 2) sc__law_digits.nd rfl (.inl rfl) (pe_lst pa_nil))
(pss_cons (ps_set (i := 3) sc__law_digits.nd rfl (.inl rfl) (pe_callTy cr_int1 (by rfl) Z.m_int (by decide +kernel) (pa_cons (pv 0) pa_nil)))
(pss_cons (ps_for PassesOwn.never rfl (pi_list (pv 1)) (pg_name (i := 4) sc__law_digits.nd rfl (.inl rfl))
(pss_one (ps_if (pt_cmpR op_ge (pv 0) (pe_op op_pow pe_int pe_int) (nomark _))
(pss_cons (ps_expr (pe_bm PySem.F.plainAttrs_list PySem.F.slot_list_append PySem.F.type_list_append mt_append (pv 2) (pa_cons (pe_op op_mod (pe_callTy cr_int1 (by rfl) Z.m_int (by decide +kernel) (pa_cons (pv 3) pa_nil)) (pv 4)) pa_nil)))
(pss_one (ps_set (i := 3) sc__law_digits.nd rfl (.inl rfl) (pe_op op_fdivW (pv 3) (pv 4)))))
(pss_cons (ps_set (i := 3) sc__law_digits.nd rfl (.inl rfl) (pe_op op_mod (pe_op op_add (pe_op op_add (pe_op op_mulA (pe_callTy cr_int1 (by rfl) Z.m_int (by decide +kernel) (pa_cons (pv 3) pa_nil)) pe_int) (pe_op op_mulA pe_int (pe_callB cr_len (by rfl) Z.m_len (by decide +kernel) (pa_cons (pv 2) pa_nil)))) pe_int) pe_int))
(pss_cons (ps_set (i := 5) sc__law_digits.nd rfl (.inl rfl) (pe_op op_mod (pe_op op_mulA (pe_callTy cr_int1 (by rfl) Z.m_int (by decide +kernel) (pa_cons (pv 3) pa_nil)) (pe_callTy cr_int1 (by rfl) Z.m_int (by decide +kernel) (pa_cons (pv 3) pa_nil))) pe_int))
(pss_one (ps_expr (pe_bm PySem.F.plainAttrs_list PySem.F.slot_list_append PySem.F.type_list_append mt_append (pv 2) (pa_cons (pe_op op_mod (pe_op op_fdivW (pe_callTy cr_int1 (by rfl) Z.m_int (by decide +kernel) (pa_cons (pv 5) pa_nil)) pe_int) (pv 4)) pa_nil)))))))))
(pss_one (ps_ret (pv 2))))))
theorem ps__law_many (Z : Fx K mg)   {cdv : Value} {A : Around} {outer : List PySem.Env} {s : Shared} {H : Hp} {E : XK} (hr : Room 0 (A.deeper (envOfC "_law_many" (defScope s__law_many) s.heap.objs.size Z.a__law_many cdv))) :
    PSs (cxOf CX0 P w K mg base N__law_many "_law_many" (defScope s__law_many) Z.a__law_many cdv A outer s H E).nox (defBody s__law_many) (tr__law_many K) :=
  (pss_cons (ps_if (PW.pt (pw_and (pt_cmpR op_gt (pe_callB cr_len (by rfl) Z.m_len (by decide +kernel) (pa_cons (pv 0) pa_nil)) pe_int (nomark _)) (pw_and1 (pt_cmpR (op_eqD hr.units) (pe_op op_mod (pe_op op_fdivW (pe_callTy cr_int1 (by rfl) Z.m_int (by decide +kernel) (pa_cons (pe_ix ix_seq (pv 0) pe_int (fun _ _ => rfl)) pa_nil)) pe_int) pe_int) pe_int (nomark _)))))
(pss_one (ps_ret (pv 2)))
pss_nil)
(pss_one (ps_ret (pv 1))))
theorem ps__law_machine (Z : Fx K mg)  (G_new_page : FnOk P w K mg base CX0 1 Z.a_new_page Z.d_new_page [] (spH K fn_new_page)) (G_new_held : FnOk P w K mg base CX0 2 Z.a_new_held Z.d_new_held ["machines"] (spH K fn_new_held)) (G_with_count : FnOk P w K mg base CX0 1 Z.a_with_count Z.d_with_count ["clock", "machine", "count"] (spQ K pf_with_count)) (G_zero_clock : FnOk P w K mg base CX0 1 Z.a_zero_clock Z.d_zero_clock ["machines"] (spQ K pf_zero_clock)) {cdv : Value} {A : Around} {outer : List PySem.Env} {s : Shared} {H : Hp} {E : XK} (hr : Room 2 (A.deeper (envOfC "_law_machine" (defScope s__law_machine) s.heap.objs.size Z.a__law_machine cdv))) :
    PSs (cxOf CX0 P w K mg base N__law_machine "_law_machine" (defScope s__law_machine) Z.a__law_machine cdv A outer s H E).nox (defBody s__law_machine) (tr__law_machine K) :=
  (pss_one (ps_ret (pe_disp (pps_cons pe_str (pv 1) (pps_cons pe_str (pe_call0 (G_new_page) (hr.mono (by decide)) (by rfl) Z.g_new_page Z.F_new_page.kp Z.b_new_page .nil pass0) (pps_cons pe_str (pe_call (G_new_held) (hr.mono (by decide)) (by rfl) Z.g_new_held Z.F_new_held.kp Z.b_new_held .nil pass0 (pa_cons (pv 0) pa_nil)) (pps_cons pe_str pe_dnewK (pps_cons pe_str (pe_call (G_with_count) (hr.mono (by decide)) (by rfl) Z.g_with_count Z.F_with_count.kp Z.b_with_count .nil pass0 (pa_cons (pe_call (G_zero_clock) (hr.mono (by decide)) (by rfl) Z.g_zero_clock Z.F_zero_clock.kp Z.b_zero_clock .nil pass0 (pa_cons (pv 0) pa_nil)) (pa_cons (pv 1) (pa_cons pe_int pa_nil)))) (pps_cons pe_str (pe_lst pa_nil) (pps_cons pe_str (pe_lst pa_nil) pps_nil))))))) (by rfl) (by rfl) (by simp) (by decide))))
theorem ps__law_right (Z : Fx K mg)   {cdv : Value} {A : Around} {outer : List PySem.Env} {s : Shared} {H : Hp} {E : XK} (hr : Room 0 (A.deeper (envOfC "_law_right" (defScope s__law_right) s.heap.objs.size Z.a__law_right cdv))) :
    PSs (cxOf CX0 P w K mg base N__law_right "_law_right" (defScope s__law_right) Z.a__law_right cdv A outer s H E).nox (defBody s__law_right) (tr__law_right K) :=
  (pss_cons (ps_for PassesOwn.never rfl (pi_list (pv 0)) (pg_name (i := 2) sc__law_right.nd rfl (.inl rfl))
(pss_one (ps_for PassesOwn.never rfl (pi_list (pe_dget (hu_of hr) (pv 2) pe_str (fun _ _ => rfl))) (pg_tup (by rfl) (pgs_cons (pg_name (i := 3) sc__law_right.nd rfl (.inl rfl)) (pgs_cons (pg_name (i := 4) sc__law_right.nd rfl (.inl rfl)) (pgs_cons (pg_name (i := 5) sc__law_right.nd rfl (.inl rfl)) pgs_nil))))
(pss_one (ps_if (PW.pt (pw_and (pt_cmpR op_ge (pe_ix ix_seq (pe_dget (hu_of hr) (pv 1) pe_str (fun _ _ => rfl)) (pe_dget (hu_of hr) (pv 2) pe_str (fun _ _ => rfl)) (fun _ _ => rfl)) (pv 3) (nomark _)) (pw_and1 (pt_cmpR (op_gtDa hr.units) (pv 5) (pe_ix ix_seq (pe_ix ix_seq (pe_dget (hu_of hr) (pv 1) pe_str (fun _ _ => rfl)) (pv 4) (fun _ _ => rfl)) pe_int (fun _ _ => rfl)) (nomark _)))))
(pss_one (ps_ret pe_bl))
pss_nil)))))
(pss_one (ps_ret pe_bl)))
theorem ps__law_store (Z : Fx K mg)  (G_is_fresh : FnOk P w K mg base CX0 2 Z.a_is_fresh Z.d_is_fresh ["held", "needed", "owner"] (spH K fn_is_fresh)) (G_store : FnOk P w K mg base CX0 3 Z.a_store Z.d_store ["page", "place", "value", "machine"] (spH K fn_store)) (G__law_right : FnOk P w K mg base CX0 1 Z.a__law_right Z.d__law_right ["team", "one"] (spH K fn__law_right)) {cdv : Value} {A : Around} {outer : List PySem.Env} {s : Shared} {H : Hp} {E : XK} (hr : Room 3 (A.deeper (envOfC "_law_store" (defScope s__law_store) s.heap.objs.size Z.a__law_store cdv))) :
    PSs (cxOf CX0 P w K mg base N__law_store "_law_store" (defScope s__law_store) Z.a__law_store cdv A outer s H E).nox (defBody s__law_store) (tr__law_store K) :=
  (pss_cons (ps_if (pt_val (pe_call (G_is_fresh) (hr.mono (by decide)) (by rfl) Z.g_is_fresh Z.F_is_fresh.kp Z.b_is_fresh .nil pass0 (pa_cons (pe_dget (hu_of hr) (pv 1) pe_str (fun _ _ => rfl)) (pa_cons (pe_dget (hu_of hr) (pe_dget (hu_of hr) (pv 1) pe_str (fun _ _ => rfl)) pe_str (fun _ _ => rfl)) (pa_cons (pe_dget (hu_of hr) (pv 1) pe_str (fun _ _ => rfl)) pa_nil)))))
(pss_cons (ps_if (pt_not (pt_val (pe_call (G__law_right) (hr.mono (by decide)) (by rfl) Z.g__law_right Z.F__law_right.kp Z.b__law_right .nil pass0 (pa_cons (pv 0) (pa_cons (pv 1) pa_nil)))))
(pss_one (ps_ret pe_bl))
pss_nil)
(pss_cons (ps_set (i := 4) sc__law_store.nd rfl (.inl rfl) (pe_call (G_store) (hr.mono (by decide)) (by rfl) Z.g_store Z.F_store.kp Z.b_store .nil pass0 (pa_cons (pe_dget (hu_of hr) (pv 1) pe_str (fun _ _ => rfl)) (pa_cons (pv 2) (pa_cons (pv 3) (pa_cons (pe_dget (hu_of hr) (pv 1) pe_str (fun _ _ => rfl)) pa_nil))))))
(pss_cons (ps_set (i := 5) sc__law_store.nd rfl (.inl rfl) (pe_dget (hu_of hr) (pv 1) pe_str (fun _ _ => rfl)))
(pss_cons (ps_dput (hu_of hr) (pv 5) (pv 2) (pe_tup (pa_cons (pv 3) (pa_cons (pv 4) pa_nil))) (by rfl))
(pss_one (ps_for PassesOwn.never rfl (pi_list (pv 0)) (pg_name (i := 6) sc__law_store.nd rfl (.inl rfl))
(pss_one (ps_for PassesOwn.never rfl (pi_list (pe_dget (hu_of hr) (pv 6) pe_str (fun _ _ => rfl))) (pg_tup (by rfl) (pgs_cons (pg_name (i := 7) sc__law_store.nd rfl (.inl rfl)) (pgs_cons (pg_name (i := 8) sc__law_store.nd rfl (.inl rfl)) (pgs_cons (pg_name (i := 9) sc__law_store.nd rfl (.inl rfl)) pgs_nil))))
(pss_one (ps_if (PW.pt (pw_and (pt_cmpR (op_eqD hr.units) (pv 8) (pv 2) (nomark _)) (pw_and (pt_cmpR op_ge (pe_ix ix_seq (pe_dget (hu_of hr) (pv 1) pe_str (fun _ _ => rfl)) (pe_dget (hu_of hr) (pv 6) pe_str (fun _ _ => rfl)) (fun _ _ => rfl)) (pv 7) (nomark _)) (pw_and1 (pt_cmpR (op_geDa hr.units) (pv 9) (pv 4) (nomark _))))))
(pss_one (ps_ret pe_bl))
pss_nil))))))))))
pss_nil)
(pss_one (ps_ret pe_bl)))
theorem ps__law_end (Z : Fx K mg)  (G_with_count : FnOk P w K mg base CX0 1 Z.a_with_count Z.d_with_count ["clock", "machine", "count"] (spQ K pf_with_count)) (G_arrived : FnOk P w K mg base CX0 2 Z.a_arrived Z.d_arrived ["held", "machine", "number"] (spH K fn_arrived)) (G_difference : FnOk P w K mg base CX0 1 Z.a_difference Z.d_difference ["stored"] (spH K fn_difference)) {cdv : Value} {A : Around} {outer : List PySem.Env} {s : Shared} {H : Hp} {E : XK} (hr : Room 2 (A.deeper (envOfC "_law_end" (defScope s__law_end) s.heap.objs.size Z.a__law_end cdv))) :
    PSs (cxOf CX0 P w K mg base N__law_end "_law_end" (defScope s__law_end) Z.a__law_end cdv A outer s H E).nox (defBody s__law_end) (tr__law_end K) :=
  (pss_cons (ps_set (i := 3) sc__law_end.nd rfl (.inl rfl) (pe_dget (hu_of hr) (pv 1) pe_str (fun _ _ => rfl)))
(pss_cons (ps_set (i := 4) sc__law_end.nd rfl (.inl rfl) (pe_ix ix_seq (pe_dget (hu_of hr) (pv 1) pe_str (fun _ _ => rfl)) (pv 3) (fun _ _ => rfl)))
(pss_cons (ps_if (pt_cmpR (op_neDk (hu65 hr)) (pe_dget (hu_of hr) (pv 1) pe_str (fun _ _ => rfl)) pe_dnewK (nomark _))
(pss_cons (ps_lock (ps_for PassesOwn.never rfl (pi_keys (pe_dget (hu_of hr) (pv 1) pe_str (fun _ _ => rfl))) (pg_name (i := 5) sc__law_end.nd rfl (.inl rfl))
(pss_cons (ps_set (i := 6) sc__law_end.nd rfl (.inl rfl) (pe_dget (hu_of hr) (pv 1) pe_str (fun _ _ => rfl)))
(pss_one (ps_expr (pe_bm PySem.F.plainAttrs_list PySem.F.slot_list_append PySem.F.type_list_append mt_append (pv 6) (pa_cons (pe_tup (pa_cons (pv 4) (pa_cons (pv 5) (pa_cons (pe_ix ix_seq (pe_dget (hu_of hr) (pe_dget (hu_of hr) (pv 1) pe_str (fun _ _ => rfl)) (pv 5) (fun _ _ => rfl)) pe_int (fun _ _ => rfl)) pa_nil)))) pa_nil)))))))
(pss_cons (ps_expr (pe_call (G_arrived) (hr.mono (by decide)) (by rfl) Z.g_arrived Z.F_arrived.kp Z.b_arrived .nil pass0 (pa_cons (pe_dget (hu_of hr) (pv 1) pe_str (fun _ _ => rfl)) (pa_cons (pv 3) (pa_cons (pv 4) pa_nil)))))
(pss_one (ps_if (pt_cmpR (op_neD hr.units) (pv 3) (pv 2) (nomark _))
(pss_cons (ps_set (i := 7) sc__law_end.nd rfl (.inl rfl) (pe_dget (hu_of hr) (pv 1) pe_str (fun _ _ => rfl)))
(pss_one (ps_expr (pe_bm PySem.F.plainAttrs_list PySem.F.slot_list_append PySem.F.type_list_append mt_append (pv 7) (pa_cons (pe_tup (pa_cons (pv 4) (pa_cons (pe_call (G_difference) (hr.mono (by decide)) (by rfl) Z.g_difference Z.F_difference.kp Z.b_difference .nil pass0 (pa_cons (pe_dget (hu_of hr) (pv 1) pe_str (fun _ _ => rfl)) pa_nil)) pa_nil))) pa_nil)))))
pss_nil))))
pss_nil)
(pss_cons (ps_dput (hu_of hr) (pv 1) pe_str pe_dnewK (by rfl))
(pss_cons (ps_dput (hu_of hr) (pv 1) pe_str (pe_dget (hu_of hr) (pv 1) pe_str (fun _ _ => rfl)) (by rfl))
(pss_one (ps_dput (hu_of hr) (pv 1) pe_str (pe_call (G_with_count) (hr.mono (by decide)) (by rfl) Z.g_with_count Z.F_with_count.kp Z.b_with_count .nil pass0 (pa_cons (pe_dget (hu_of hr) (pv 1) pe_str (fun _ _ => rfl)) (pa_cons (pv 3) (pa_cons (pe_op op_add (pv 4) pe_int) pa_nil)))) (by rfl))))))))
theorem ps__law_take_over (Z : Fx K mg)  (G_with_count : FnOk P w K mg base CX0 1 Z.a_with_count Z.d_with_count ["clock", "machine", "count"] (spQ K pf_with_count)) (G_merged : FnOk P w K mg base CX0 1 Z.a_merged Z.d_merged ["one", "other"] (spQ K pf_merged)) (G_needs : FnOk P w K mg base CX0 2 Z.a_needs Z.d_needs ["held", "machine", "number"] (spH K fn_needs)) {cdv : Value} {A : Around} {outer : List PySem.Env} {s : Shared} {H : Hp} {E : XK} (hr : Room 2 (A.deeper (envOfC "_law_take_over" (defScope s__law_take_over) s.heap.objs.size Z.a__law_take_over cdv))) :
    PSs (cxOf CX0 P w K mg base N__law_take_over "_law_take_over" (defScope s__law_take_over) Z.a__law_take_over cdv A outer s H E).nox (defBody s__law_take_over) (tr__law_take_over K) :=
  (pss_one (ps_if (PW.pt (pw_and (pt_cmp (pc_din (hu_of hr) pe_str (pv 2)) (by rfl)) (pw_and1 (pt_cmpR (op_neDkW (hu67 hr)) (pv 1) (pv 2) (nomark _)))))
(pss_cons (ps_set (i := 3) sc__law_take_over.nd rfl (.inl rfl) (pe_ix ix_seq (pe_dget (hu_of hr) (pv 1) pe_str (fun _ _ => rfl)) (pe_dget (hu_of hr) (pv 1) pe_str (fun _ _ => rfl)) (fun _ _ => rfl)))
(pss_cons (ps_dput (hu_of hr) (pv 1) pe_str (pe_call (G_with_count) (hr.mono (by decide)) (by rfl) Z.g_with_count Z.F_with_count.kp Z.b_with_count .nil pass0 (pa_cons (pe_call (G_merged) (hr.mono (by decide)) (by rfl) Z.g_merged Z.F_merged.kp Z.b_merged .nil pass0 (pa_cons (pe_dget (hu_of hr) (pv 1) pe_str (fun _ _ => rfl)) (pa_cons (pe_dget (hu_of hr) (pv 2) pe_str (fun _ _ => rfl)) pa_nil))) (pa_cons (pe_dget (hu_of hr) (pv 1) pe_str (fun _ _ => rfl)) (pa_cons (pv 3) pa_nil)))) (by rfl))
(pss_one (ps_for PassesOwn.never rfl (pi_list (pv 0)) (pg_name (i := 4) sc__law_take_over.nd rfl (.inr rfl))
(pss_one (ps_if (pt_cmpR (op_neD hr.units) (pe_dget (hu_of hr) (pv 4) pe_str (fun _ _ => rfl)) (pe_dget (hu_of hr) (pv 1) pe_str (fun _ _ => rfl)) (nomark _))
(pss_cons (ps_setLc (i := 5) (own := [("row", 6)]) (g := (gName 6)) (tt := (tTest (tOp (rI0 fun i j => .bl (decide (i ≤ j))) (tOp (rIx K) (tVar 6) (tC (.int 0))) (tOp (rIx K) (tDGet (tVar 1) (tC (.str "clock"))) (tDGet (tVar 4) (tC (.str "machine"))))))) (te := (tOp (rIx K) (tVar 6) (tC (.int 0)))) rfl sc__law_take_over.nd rfl rfl (sw_true rfl rfl rfl (by decide +kernel)) (pi_list (pe_dget (hu_of hr) (pv 4) pe_str (fun _ _ => rfl))) (blkOk_by (N := N__law_take_over) (sc := defScope s__law_take_over) (by decide +kernel)) (fun _ _ _ _ _ => pg_name (i := 6) sc__law_take_over.nd rfl (by first | exact Or.inl rfl | exact Or.inr rfl)) (fun _ _ _ _ _ => pts_one (pt_cmpR op_le (pe_ix ix_seq (pv 6) pe_int (fun _ _ => rfl)) (pe_ix ix_seq (pe_dget (hu_of hr) (pv 1) pe_str (fun _ _ => rfl)) (pe_dget (hu_of hr) (pv 4) pe_str (fun _ _ => rfl)) (fun _ _ => rfl)) (nomark _))) (fun _ _ _ _ _ => (pe_ix ix_seq (pv 6) pe_int (fun _ _ => rfl))))
(pss_one (ps_expr (pe_call (G_needs) (hr.mono (by decide)) (by rfl) Z.g_needs Z.F_needs.kp Z.b_needs .nil pass0 (pa_cons (pe_dget (hu_of hr) (pv 1) pe_str (fun _ _ => rfl)) (pa_cons (pe_dget (hu_of hr) (pv 4) pe_str (fun _ _ => rfl)) (pa_cons (pe_callB (cr_max rfl) (by rfl) Z.m_max (by decide +kernel) (pa_cons (pe_op op_catS (pe_lst (pa_cons pe_int pa_nil)) (pv 5)) pa_nil)) pa_nil)))))))
pss_nil))))))
pss_nil))
theorem ps__law_arrive (Z : Fx K mg)  (G_merge : FnOk P w K mg base CX0 3 Z.a_merge Z.d_merge ["page", "rows"] (spH K fn_merge)) (G_arrived : FnOk P w K mg base CX0 2 Z.a_arrived Z.d_arrived ["held", "machine", "number"] (spH K fn_arrived)) {cdv : Value} {A : Around} {outer : List PySem.Env} {s : Shared} {H : Hp} {E : XK} (hr : Room 3 (A.deeper (envOfC "_law_arrive" (defScope s__law_arrive) s.heap.objs.size Z.a__law_arrive cdv))) :
    PSs (cxOf CX0 P w K mg base N__law_arrive "_law_arrive" (defScope s__law_arrive) Z.a__law_arrive cdv A outer s H E).nox (defBody s__law_arrive) (tr__law_arrive K) :=
  (pss_one (ps_if (pt_cmpR (op_neD hr.units) (pe_dget (hu_of hr) (pv 1) pe_str (fun _ _ => rfl)) (pe_lst pa_nil) (nomark _))
(pss_cons (ps_set (i := 3) sc__law_arrive.nd rfl (.inl rfl) (pe_dget (hu_of hr) (pv 1) pe_str (fun _ _ => rfl)))
(pss_cons (ps_asg (pe_ix ix_seq (pv 3) pe_int (fun _ _ => rfl)) (pg_tup (by rfl) (pgs_cons (pg_name (i := 4) sc__law_arrive.nd rfl (.inl rfl)) (pgs_cons (pg_name (i := 5) sc__law_arrive.nd rfl (.inl rfl)) pgs_nil))))
(pss_cons (ps_expr (pe_bm PySem.F.plainAttrs_list PySem.F.slot_list_pop PySem.F.type_list_pop mt_popAt (pv 3) (pa_cons pe_int pa_nil)))
(pss_cons (ps_expr (pe_call (G_merge) (hr.mono (by decide)) (by rfl) Z.g_merge Z.F_merge.kp Z.b_merge .nil pass0 (pa_cons (pe_dget (hu_of hr) (pe_ix ix_seq (pv 0) (pv 2) (fun _ _ => rfl)) pe_str (fun _ _ => rfl)) (pa_cons (pv 5) pa_nil))))
(pss_one (ps_expr (pe_call (G_arrived) (hr.mono (by decide)) (by rfl) Z.g_arrived Z.F_arrived.kp Z.b_arrived .nil pass0 (pa_cons (pe_dget (hu_of hr) (pe_ix ix_seq (pv 0) (pv 2) (fun _ _ => rfl)) pe_str (fun _ _ => rfl)) (pa_cons (pe_dget (hu_of hr) (pv 1) pe_str (fun _ _ => rfl)) (pa_cons (pv 4) pa_nil))))))))))
pss_nil))
theorem ps__law_asked (Z : Fx K mg)  (G_merge : FnOk P w K mg base CX0 3 Z.a_merge Z.d_merge ["page", "rows"] (spH K fn_merge)) (G_had : FnOk P w K mg base CX0 2 Z.a_had Z.d_had ["held", "clock"] (spH K fn_had)) (G_rows_of : FnOk P w K mg base CX0 1 Z.a_rows_of Z.d_rows_of ["page"] (spQ K pf_rows_of)) (G_is_fresh : FnOk P w K mg base CX0 2 Z.a_is_fresh Z.d_is_fresh ["held", "needed", "owner"] (spH K fn_is_fresh)) (G__law_right : FnOk P w K mg base CX0 1 Z.a__law_right Z.d__law_right ["team", "one"] (spH K fn__law_right)) {cdv : Value} {A : Around} {outer : List PySem.Env} {s : Shared} {H : Hp} {E : XK} (hr : Room 3 (A.deeper (envOfC "_law_asked" (defScope s__law_asked) s.heap.objs.size Z.a__law_asked cdv))) :
    PSs (cxOf CX0 P w K mg base N__law_asked "_law_asked" (defScope s__law_asked) Z.a__law_asked cdv A outer s H E).nox (defBody s__law_asked) (tr__law_asked K) :=
  (pss_cons (ps_set (i := 3) sc__law_asked.nd rfl (.inl rfl) (pe_ix ix_seq (pv 0) (pv 2) (fun _ _ => rfl)))
(pss_cons (ps_if (PW.pt (pw_or (pt_cmpR (op_eqDkW (hu67 hr)) (pv 1) (pv 3) (nomark _)) (pw_or1 (pt_not (pt_val (pe_call (G_is_fresh) (hr.mono (by decide)) (by rfl) Z.g_is_fresh Z.F_is_fresh.kp Z.b_is_fresh .nil pass0 (pa_cons (pe_dget (hu_of hr) (pv 3) pe_str (fun _ _ => rfl)) (pa_cons (pe_dget (hu_of hr) (pe_dget (hu_of hr) (pv 1) pe_str (fun _ _ => rfl)) pe_str (fun _ _ => rfl)) (pa_cons (pv 2) pa_nil)))))))))
(pss_one (ps_ret pe_bl))
pss_nil)
(pss_cons (ps_expr (pe_call (G_merge) (hr.mono (by decide)) (by rfl) Z.g_merge Z.F_merge.kp Z.b_merge .nil pass0 (pa_cons (pe_dget (hu_of hr) (pv 1) pe_str (fun _ _ => rfl)) (pa_cons (pe_call (G_rows_of) (hr.mono (by decide)) (by rfl) Z.g_rows_of Z.F_rows_of.kp Z.b_rows_of .nil pass0 (pa_cons (pe_dget (hu_of hr) (pv 3) pe_str (fun _ _ => rfl)) pa_nil)) pa_nil))))
(pss_cons (ps_expr (pe_call (G_had) (hr.mono (by decide)) (by rfl) Z.g_had Z.F_had.kp Z.b_had .nil pass0 (pa_cons (pe_dget (hu_of hr) (pv 1) pe_str (fun _ _ => rfl)) (pa_cons (pe_dget (hu_of hr) (pe_dget (hu_of hr) (pv 3) pe_str (fun _ _ => rfl)) pe_str (fun _ _ => rfl)) pa_nil))))
(pss_one (ps_ret (pe_and (pe_call (G_is_fresh) (hr.mono (by decide)) (by rfl) Z.g_is_fresh Z.F_is_fresh.kp Z.b_is_fresh .nil pass0 (pa_cons (pe_dget (hu_of hr) (pv 1) pe_str (fun _ _ => rfl)) (pa_cons (pe_dget (hu_of hr) (pe_dget (hu_of hr) (pv 1) pe_str (fun _ _ => rfl)) pe_str (fun _ _ => rfl)) (pa_cons (pe_dget (hu_of hr) (pv 1) pe_str (fun _ _ => rfl)) pa_nil)))) (pe_one (pe_call (G__law_right) (hr.mono (by decide)) (by rfl) Z.g__law_right Z.F__law_right.kp Z.b__law_right .nil pass0 (pa_cons (pv 0) (pa_cons (pv 1) pa_nil)))))))))))
theorem ps_law (Z : Fx K mg)  (G__law_machine : FnOk P w K mg base CX0 3 Z.a__law_machine Z.d__law_machine ["machines", "machine"] (spH K fn__law_machine)) (G__law_digits : FnOk P w K mg base CX0 1 Z.a__law_digits Z.d__law_digits ["cell", "bases"] (spQ K pf__law_digits)) (G__law_many : FnOk P w K mg base CX0 1 Z.a__law_many Z.d__law_many ["script", "few", "many"] (spQ K pf__law_many)) (G__law_end : FnOk P w K mg base CX0 3 Z.a__law_end Z.d__law_end ["team", "one", "home"] (spH K fn__law_end)) (G__law_arrive : FnOk P w K mg base CX0 4 Z.a__law_arrive Z.d__law_arrive ["team", "one", "home"] (spH K fn__law_arrive)) (G__law_asked : FnOk P w K mg base CX0 4 Z.a__law_asked Z.d__law_asked ["team", "one", "home"] (spH K fn__law_asked)) (G__law_cell : FnOk P w K mg base CX0 1 Z.a__law_cell Z.d__law_cell ["script", "k"] (spQ K pf__law_cell)) (G__law_store : FnOk P w K mg base CX0 4 Z.a__law_store Z.d__law_store ["team", "one", "place", "value"] (spH K fn__law_store)) (G__law_take_over : FnOk P w K mg base CX0 3 Z.a__law_take_over Z.d__law_take_over ["team", "one", "other"] (spH K fn__law_take_over)) (G_is_fresh : FnOk P w K mg base CX0 2 Z.a_is_fresh Z.d_is_fresh ["held", "needed", "owner"] (spH K fn_is_fresh)) (G__law_right : FnOk P w K mg base CX0 1 Z.a__law_right Z.d__law_right ["team", "one"] (spH K fn__law_right)) {cdv : Value} {A : Around} {outer : List PySem.Env} {s : Shared} {H : Hp} {E : XK} (hr : Room 4 (A.deeper (envOfC "law" (defScope s_law) s.heap.objs.size Z.a_law cdv))) :
    PSs (cxOf CX0 P w K mg base N_law "law" (defScope s_law) Z.a_law cdv A outer s H E).nox (defBody s_law) (tr_law K) :=
  (pss_cons (ps_set (i := 1) sc_law.nd rfl (.inr rfl) (pe_op op_add pe_int (pe_op op_mod (pe_callTy cr_int1 (by rfl) Z.m_int (by decide +kernel) (pa_cons (pe_call (G__law_cell) (hr.mono (by decide)) (by rfl) Z.g__law_cell Z.F__law_cell.kp Z.b__law_cell .nil pass0 (pa_cons (pv 0) (pa_cons pe_int pa_nil))) pa_nil)) pe_int)))
(pss_cons (ps_set (i := 2) sc_law.nd rfl (.inl rfl) (pe_op op_mod (pe_op op_fdivW (pe_callTy cr_int1 (by rfl) Z.m_int (by decide +kernel) (pa_cons (pe_call (G__law_cell) (hr.mono (by decide)) (by rfl) Z.g__law_cell Z.F__law_cell.kp Z.b__law_cell .nil pass0 (pa_cons (pv 0) (pa_cons pe_int pa_nil))) pa_nil)) pe_int) (pv 1)))
(pss_cons (ps_setLc (i := 3) (own := [("machine", 7)]) (g := (gName 7)) (tt := tYes) (te := (tCall (spH K fn__law_machine) [] E0 (tCons (tVar 1) (tCons (tVar 7) tNil)))) rfl sc_law.nd rfl rfl (sw_true rfl rfl rfl (by decide +kernel)) (pi_range1 rfl Z.m_range (pa_cons (pv 1) pa_nil)) (blkOk_by (N := N_law) (sc := defScope s_law) (by decide +kernel)) (fun _ _ _ _ _ => pg_name (i := 7) sc_law.nd rfl (by first | exact Or.inl rfl | exact Or.inr rfl)) (fun _ _ _ _ _ => pts_nil) (fun _ _ _ _ _ => (pe_call (G__law_machine) (hr.mono (by decide)) (by rfl) Z.g__law_machine Z.F__law_machine.kp Z.b__law_machine .nil pass0 (pa_cons (pv 1) (pa_cons (pv 7) pa_nil)))))
(pss_cons (ps_for PassesOwn.never rfl (pi_range1 rfl Z.m_range (pa_cons (pe_callB (cr_min2 rfl) (by rfl) Z.m_min (by decide +kernel) (pa_cons (pe_callB cr_len (by rfl) Z.m_len (by decide +kernel) (pa_cons (pv 0) pa_nil)) (pa_cons (pe_call (G__law_many) (hr.mono (by decide)) (by rfl) Z.g__law_many Z.F__law_many.kp Z.b__law_many .nil pass0 (pa_cons (pv 0) (pa_cons pe_int (pa_cons pe_int pa_nil)))) pa_nil))) pa_nil)) (pg_name (i := 4) sc_law.nd rfl (.inl rfl))
(pss_cons (ps_set (i := 5) sc_law.nd rfl (.inl rfl) (pe_call (G__law_digits) (hr.mono (by decide)) (by rfl) Z.g__law_digits Z.F__law_digits.kp Z.b__law_digits .nil pass0 (pa_cons (pe_op op_add (pe_call (G__law_cell) (hr.mono (by decide)) (by rfl) Z.g__law_cell Z.F__law_cell.kp Z.b__law_cell .nil pass0 (pa_cons (pv 0) (pa_cons (pv 4) pa_nil))) (pe_op op_mulA pe_int (pv 4))) (pa_cons (pe_lst (pa_cons pe_int (pa_cons (pv 1) (pa_cons (pv 1) (pa_cons pe_int (pa_cons pe_int pa_nil)))))) pa_nil))))
(pss_cons (ps_set (i := 6) sc_law.nd rfl (.inl rfl) (pe_ix ix_seq (pv 3) (pe_ix ix_seq (pv 5) pe_int (fun _ _ => rfl)) (fun _ _ => rfl)))
(pss_cons (ps_if (PW.pt (pw_and (pt_cmpR op_lt (pe_ix ix_seq (pv 5) pe_int (fun _ _ => rfl)) pe_int (nomark _)) (pw_and1 (pt_not (pt_val (pe_call (G__law_store) (hr.mono (by decide)) (by rfl) Z.g__law_store Z.F__law_store.kp Z.b__law_store .nil pass0 (pa_cons (pv 3) (pa_cons (pv 6) (pa_cons (pe_ix ix_seq (pv 5) pe_int (fun _ _ => rfl)) (pa_cons (pe_ix ix_seq (pv 5) pe_int (fun _ _ => rfl)) pa_nil))))))))))
(pss_one (ps_ret pe_bl))
pss_nil)
(pss_cons (ps_if (PW.pt (pw_or (pt_cmpR (op_eqD hr.units) (pe_ix ix_seq (pv 5) pe_int (fun _ _ => rfl)) pe_int (nomark _)) (pw_or1 (pt_cmpR (op_eqD hr.units) (pe_ix ix_seq (pv 5) pe_int (fun _ _ => rfl)) pe_int (nomark _)))))
(pss_cons (ps_expr (pe_call (G__law_end) (hr.mono (by decide)) (by rfl) Z.g__law_end Z.F__law_end.kp Z.b__law_end .nil pass0 (pa_cons (pv 3) (pa_cons (pv 6) (pa_cons (pv 2) pa_nil)))))
(pss_one (ps_if (pt_cmpR (op_eqD hr.units) (pe_ix ix_seq (pv 5) pe_int (fun _ _ => rfl)) pe_int (nomark _))
(pss_one (ps_expr (pe_call (G__law_take_over) (hr.mono (by decide)) (by rfl) Z.g__law_take_over Z.F__law_take_over.kp Z.b__law_take_over .nil pass0 (pa_cons (pv 3) (pa_cons (pv 6) (pa_cons (pe_ix ix_seq (pv 3) (pe_ix ix_seq (pv 5) pe_int (fun _ _ => rfl)) (fun _ _ => rfl)) pa_nil))))))
pss_nil)))
pss_nil)
(pss_cons (ps_if (PW.pt (pw_or (pt_cmpR (op_eqD hr.units) (pe_ix ix_seq (pv 5) pe_int (fun _ _ => rfl)) pe_int (nomark _)) (pw_or1 (pt_cmpR (op_eqD hr.units) (pe_ix ix_seq (pv 5) pe_int (fun _ _ => rfl)) pe_int (nomark _)))))
(pss_one (ps_expr (pe_call (G__law_arrive) (hr.mono (by decide)) (by rfl) Z.g__law_arrive Z.F__law_arrive.kp Z.b__law_arrive .nil pass0 (pa_cons (pv 3) (pa_cons (pv 6) (pa_cons (pv 2) pa_nil))))))
pss_nil)
(pss_one (ps_if (PW.pt (pw_and (pt_cmpR op_gt (pe_ix ix_seq (pv 5) pe_int (fun _ _ => rfl)) pe_int (nomark _)) (pw_and1 (pt_not (pt_val (pe_call (G__law_asked) (hr.mono (by decide)) (by rfl) Z.g__law_asked Z.F__law_asked.kp Z.b__law_asked .nil pass0 (pa_cons (pv 3) (pa_cons (pv 6) (pa_cons (pv 2) pa_nil)))))))))
(pss_one (ps_ret pe_bl))
pss_nil))))))))
(pss_cons (ps_for PassesOwn.never rfl (pi_list (pv 3)) (pg_name (i := 6) sc_law.nd rfl (.inl rfl))
(pss_one (ps_for PassesOwn.never rfl (pi_range1 rfl Z.m_range (pa_cons (pe_callB cr_len (by rfl) Z.m_len (by decide +kernel) (pa_cons (pe_dget (hu_of hr) (pv 6) pe_str (fun _ _ => rfl)) pa_nil)) pa_nil)) (pg_name (i := 4) sc_law.nd rfl (.inl rfl))
(pss_one (ps_expr (pe_call (G__law_arrive) (hr.mono (by decide)) (by rfl) Z.g__law_arrive Z.F__law_arrive.kp Z.b__law_arrive .nil pass0 (pa_cons (pv 3) (pa_cons (pv 6) (pa_cons (pv 2) pa_nil)))))))))
(pss_cons (ps_for PassesOwn.never rfl (pi_list (pv 3)) (pg_name (i := 6) sc_law.nd rfl (.inl rfl))
(pss_cons (ps_if (pt_not (pt_val (pe_call (G__law_asked) (hr.mono (by decide)) (by rfl) Z.g__law_asked Z.F__law_asked.kp Z.b__law_asked .nil pass0 (pa_cons (pv 3) (pa_cons (pv 6) (pa_cons (pv 2) pa_nil))))))
(pss_one (ps_ret pe_bl))
pss_nil)
(pss_one (ps_if (PW.pt (pw_or (pt_not (pt_val (pe_call (G_is_fresh) (hr.mono (by decide)) (by rfl) Z.g_is_fresh Z.F_is_fresh.kp Z.b_is_fresh .nil pass0 (pa_cons (pe_dget (hu_of hr) (pv 6) pe_str (fun _ _ => rfl)) (pa_cons (pe_dget (hu_of hr) (pe_dget (hu_of hr) (pv 6) pe_str (fun _ _ => rfl)) pe_str (fun _ _ => rfl)) (pa_cons (pe_dget (hu_of hr) (pv 6) pe_str (fun _ _ => rfl)) pa_nil)))))) (pw_or1 (pt_not (pt_val (pe_call (G__law_right) (hr.mono (by decide)) (by rfl) Z.g__law_right Z.F__law_right.kp Z.b__law_right .nil pass0 (pa_cons (pv 3) (pa_cons (pv 6) pa_nil))))))))
(pss_one (ps_ret pe_bl))
pss_nil))))
(pss_one (ps_ret pe_bl))))))))
theorem ok_zero_clock (Z : Fx K mg)  : FnOk P w K mg base CX0 1 Z.a_zero_clock Z.d_zero_clock ["machines"] (spQ K pf_zero_clock) :=
  fn_okQ Z.F_zero_clock sc_zero_clock rfl rfl (fun _ _ _ _ _ _ hr => ps_zero_clock Z  hr) (sim_zero_clock K)
theorem ok_merged (Z : Fx K mg)  : FnOk P w K mg base CX0 1 Z.a_merged Z.d_merged ["one", "other"] (spQ K pf_merged) :=
  fn_okQ Z.F_merged sc_merged rfl rfl (fun _ _ _ _ _ _ hr => ps_merged Z  hr) (sim_merged K)
theorem ok_with_count (Z : Fx K mg)  : FnOk P w K mg base CX0 1 Z.a_with_count Z.d_with_count ["clock", "machine", "count"] (spQ K pf_with_count) :=
  fn_okQ Z.F_with_count sc_with_count rfl rfl (fun _ _ _ _ _ _ hr => ps_with_count Z  hr) (sim_with_count K)
theorem ok_is_within (Z : Fx K mg)  : FnOk P w K mg base CX0 1 Z.a_is_within Z.d_is_within ["one", "other"] (spQ K pf_is_within) :=
  fn_okQ Z.F_is_within sc_is_within rfl rfl (fun _ _ _ _ _ _ hr => ps_is_within Z  hr) (sim_is_within K)
theorem ok_new_page (Z : Fx K mg)  : FnOk P w K mg base CX0 1 Z.a_new_page Z.d_new_page [] (spH K fn_new_page) :=
  fn_okH Z.F_new_page sc_new_page rfl rfl (fun _ _ _ _ _ _ hr => ps_new_page Z  hr) (sim_new_page K)
theorem ok_has_place (Z : Fx K mg)  : FnOk P w K mg base CX0 1 Z.a_has_place Z.d_has_place ["page", "place"] (spQ K pf_has_place) :=
  fn_okQ Z.F_has_place sc_has_place rfl rfl (fun _ _ _ _ _ _ hr => ps_has_place Z  hr) (sim_has_place K)
theorem ok_cell_at (Z : Fx K mg)  : FnOk P w K mg base CX0 2 Z.a_cell_at Z.d_cell_at ["page", "place"] (spQ K pf_cell_at) :=
  fn_okQ Z.F_cell_at sc_cell_at rfl rfl (fun _ _ _ _ _ _ hr => ps_cell_at Z (ok_has_place Z) hr) (sim_cell_at K)
theorem ok_put_cell (Z : Fx K mg)  : FnOk P w K mg base CX0 2 Z.a_put_cell Z.d_put_cell ["page", "place", "cell"] (spH K fn_put_cell) :=
  fn_okH Z.F_put_cell sc_put_cell rfl rfl (fun _ _ _ _ _ _ hr => ps_put_cell Z (ok_has_place Z) hr) (sim_put_cell K)
theorem ok_store (Z : Fx K mg)  : FnOk P w K mg base CX0 3 Z.a_store Z.d_store ["page", "place", "value", "machine"] (spH K fn_store) :=
  fn_okH Z.F_store sc_store rfl rfl (fun _ _ _ _ _ _ hr => ps_store Z (ok_put_cell Z) (ok_cell_at Z) hr) (sim_store K)
theorem ok_merge (Z : Fx K mg)  : FnOk P w K mg base CX0 3 Z.a_merge Z.d_merge ["page", "rows"] (spH K fn_merge) :=
  fn_okH Z.F_merge sc_merge rfl rfl (fun _ _ _ _ _ _ hr => ps_merge Z (ok_put_cell Z) (ok_cell_at Z) hr) (sim_merge K)
theorem ok_rows_of (Z : Fx K mg)  : FnOk P w K mg base CX0 1 Z.a_rows_of Z.d_rows_of ["page"] (spQ K pf_rows_of) :=
  fn_okQ Z.F_rows_of sc_rows_of rfl rfl (fun _ _ _ _ _ _ hr => ps_rows_of Z  hr) (sim_rows_of K)
theorem ok_difference (Z : Fx K mg)  : FnOk P w K mg base CX0 1 Z.a_difference Z.d_difference ["stored"] (spH K fn_difference) :=
  fn_okH Z.F_difference sc_difference rfl rfl (fun _ _ _ _ _ _ hr => ps_difference Z  hr) (sim_difference K)
theorem ok_new_held (Z : Fx K mg)  : FnOk P w K mg base CX0 2 Z.a_new_held Z.d_new_held ["machines"] (spH K fn_new_held) :=
  fn_okH Z.F_new_held sc_new_held rfl rfl (fun _ _ _ _ _ _ hr => ps_new_held Z (ok_zero_clock Z) hr) (sim_new_held K)
theorem ok_raised (Z : Fx K mg)  : FnOk P w K mg base CX0 1 Z.a_raised Z.d_raised ["clock", "machine", "number"] (spQ K pf_raised) :=
  fn_okQ Z.F_raised sc_raised rfl rfl (fun _ _ _ _ _ _ hr => ps_raised Z  hr) (sim_raised K)
theorem ok_needs (Z : Fx K mg)  : FnOk P w K mg base CX0 2 Z.a_needs Z.d_needs ["held", "machine", "number"] (spH K fn_needs) :=
  fn_okH Z.F_needs sc_needs rfl rfl (fun _ _ _ _ _ _ hr => ps_needs Z (ok_raised Z) hr) (sim_needs K)
theorem ok_arrived (Z : Fx K mg)  : FnOk P w K mg base CX0 2 Z.a_arrived Z.d_arrived ["held", "machine", "number"] (spH K fn_arrived) :=
  fn_okH Z.F_arrived sc_arrived rfl rfl (fun _ _ _ _ _ _ hr => ps_arrived Z (ok_raised Z) hr) (sim_arrived K)
theorem ok_had (Z : Fx K mg)  : FnOk P w K mg base CX0 2 Z.a_had Z.d_had ["held", "clock"] (spH K fn_had) :=
  fn_okH Z.F_had sc_had rfl rfl (fun _ _ _ _ _ _ hr => ps_had Z (ok_merged Z) hr) (sim_had K)
theorem ok_is_fresh (Z : Fx K mg)  : FnOk P w K mg base CX0 2 Z.a_is_fresh Z.d_is_fresh ["held", "needed", "owner"] (spH K fn_is_fresh) :=
  fn_okH Z.F_is_fresh sc_is_fresh rfl rfl (fun _ _ _ _ _ _ hr => ps_is_fresh Z (ok_is_within Z) (ok_with_count Z) hr) (sim_is_fresh K)
theorem ok__law_cell (Z : Fx K mg)  : FnOk P w K mg base CX0 1 Z.a__law_cell Z.d__law_cell ["script", "k"] (spQ K pf__law_cell) :=
  fn_okQ Z.F__law_cell sc__law_cell rfl rfl (fun _ _ _ _ _ _ hr => ps__law_cell Z  hr) (sim__law_cell K)
theorem ok__law_digits (Z : Fx K mg)  : FnOk P w K mg base CX0 1 Z.a__law_digits Z.d__law_digits ["cell", "bases"] (spQ K pf__law_digits) :=
  fn_okQ Z.F__law_digits sc__law_digits rfl rfl (fun _ _ _ _ _ _ hr => ps__law_digits Z  hr) (sim__law_digits K)
theorem ok__law_many (Z : Fx K mg)  : FnOk P w K mg base CX0 1 Z.a__law_many Z.d__law_many ["script", "few", "many"] (spQ K pf__law_many) :=
  fn_okQ Z.F__law_many sc__law_many rfl rfl (fun _ _ _ _ _ _ hr => ps__law_many Z  hr) (sim__law_many K)
theorem ok__law_machine (Z : Fx K mg)  : FnOk P w K mg base CX0 3 Z.a__law_machine Z.d__law_machine ["machines", "machine"] (spH K fn__law_machine) :=
  fn_okH Z.F__law_machine sc__law_machine rfl rfl (fun _ _ _ _ _ _ hr => ps__law_machine Z (ok_new_page Z) (ok_new_held Z) (ok_with_count Z) (ok_zero_clock Z) hr) (sim__law_machine K)
theorem ok__law_right (Z : Fx K mg)  : FnOk P w K mg base CX0 1 Z.a__law_right Z.d__law_right ["team", "one"] (spH K fn__law_right) :=
  fn_okH Z.F__law_right sc__law_right rfl rfl (fun _ _ _ _ _ _ hr => ps__law_right Z  hr) (sim__law_right K)
theorem ok__law_store (Z : Fx K mg)  : FnOk P w K mg base CX0 4 Z.a__law_store Z.d__law_store ["team", "one", "place", "value"] (spH K fn__law_store) :=
  fn_okH Z.F__law_store sc__law_store rfl rfl (fun _ _ _ _ _ _ hr => ps__law_store Z (ok_is_fresh Z) (ok_store Z) (ok__law_right Z) hr) (sim__law_store K)
theorem ok__law_end (Z : Fx K mg)  : FnOk P w K mg base CX0 3 Z.a__law_end Z.d__law_end ["team", "one", "home"] (spH K fn__law_end) :=
  fn_okH Z.F__law_end sc__law_end rfl rfl (fun _ _ _ _ _ _ hr => ps__law_end Z (ok_with_count Z) (ok_arrived Z) (ok_difference Z) hr) (sim__law_end K)
theorem ok__law_take_over (Z : Fx K mg)  : FnOk P w K mg base CX0 3 Z.a__law_take_over Z.d__law_take_over ["team", "one", "other"] (spH K fn__law_take_over) :=
  fn_okH Z.F__law_take_over sc__law_take_over rfl rfl (fun _ _ _ _ _ _ hr => ps__law_take_over Z (ok_with_count Z) (ok_merged Z) (ok_needs Z) hr) (sim__law_take_over K)
theorem ok__law_arrive (Z : Fx K mg)  : FnOk P w K mg base CX0 4 Z.a__law_arrive Z.d__law_arrive ["team", "one", "home"] (spH K fn__law_arrive) :=
  fn_okH Z.F__law_arrive sc__law_arrive rfl rfl (fun _ _ _ _ _ _ hr => ps__law_arrive Z (ok_merge Z) (ok_arrived Z) hr) (sim__law_arrive K)
theorem ok__law_asked (Z : Fx K mg)  : FnOk P w K mg base CX0 4 Z.a__law_asked Z.d__law_asked ["team", "one", "home"] (spH K fn__law_asked) :=
  fn_okH Z.F__law_asked sc__law_asked rfl rfl (fun _ _ _ _ _ _ hr => ps__law_asked Z (ok_merge Z) (ok_had Z) (ok_rows_of Z) (ok_is_fresh Z) (ok__law_right Z) hr) (sim__law_asked K)
theorem ok_law (Z : Fx K mg)  : FnOk P w K mg base CX0 5 Z.a_law Z.d_law ["script"] (spQ K pf_law) :=
  fn_okQ Z.F_law sc_law rfl rfl (fun _ _ _ _ _ _ hr => ps_law Z (ok__law_machine Z) (ok__law_digits Z) (ok__law_many Z) (ok__law_end Z) (ok__law_arrive Z) (ok__law_asked Z) (ok__law_cell Z) (ok__law_store Z) (ok__law_take_over Z) (ok_is_fresh Z) (ok__law_right Z) hr) (sim_law K)
end
local macro_rules | `(tactic| walk_at "ev") => `(tactic| try simp only [mRet, mRetN, mCB, mCBF, mCons, mNil, e_mVar, mK, mOp, mUn, mIf, mTest, mNot, mAnd, mOr, mYes, mOfT, mAndV, mOrV, mNotV, mChain, mSeq, mAsg, mAug, mDrop, mNext, mBreak, mCont, mIfS, mTup, mLst, mDat, mNew, mPar, mIsi, mLen, mTupOf, mListOf, mSetL, mApp, mDGet, mDPut, mDIn, mDGet2, mDNew, mLenD, mDictCp, toHeap, toPure, List.set_cons_zero, List.set_cons_succ, List.getElem?_cons_zero, List.getElem?_cons_succ, Option.bind_some, Option.map_some, List.map_cons, List.map_nil, List.length_cons, List.length_nil, wipeM, reify_d, List.cons_append, List.nil_append, List.append_nil, List.replicate_succ, List.replicate_zero, if_true, if_false, Bool.not_true, Bool.not_false, reduceIte, Nat.reduceAdd, Nat.reduceSub, Nat.reduceLeDiff, Nat.reduceLT, Int.reduceLT, Int.reduceLE, Bool.false_eq_true, Option.bind_none, Option.map_none, decide_true, decide_false, e_arg1, e_args1, e_args2, e_argsTT, e_asI, e_asB, e_itL, e_itT, e_itM, e_isTL, e_isTT, e_isTM, e_isTR, e_rowL, e_rowT, e_rowM, e_allD0, e_allD1, e_allDm, e_lift1, e_lift2, e_lift3, e_lift4, e_lift5, e_mkTup1, e_mkTup2, e_mkTup3, e_mkTup4, e_mkTup5, e_mkTupm, e_mgTupT, e_mgTupM, e_mgCons, e_mgNil, e_mgName, e_seqN, e_seqR, e_seqB, e_seqC, e_resR, e_resN, e_int1, e_int1b, e_max2, e_min2, e_abs, e_allB, e_anyB, e_eqI, e_neI, e_eqB, e_neB, e_I, e_IB, e_neg, e_mod, e_keyI, e_keyS, e_asL0, e_asL1, e_asL2, e_it0, e_it1, e_it2, e_ixL_0, e_ixL_1, e_ixL_2, e_ixL_3, e_ixL_4, e_ixL_5, e_ixL_6, e_ixL_7, e_ixL_8, e_ixT_0, e_ixT_1, e_ixT_2, e_ixT_3, e_ixT_4, e_ixT_5, e_ixT_6, e_ixT_7, e_ixT_8])
local macro_rules | `(tactic| walk_at "eh") => `(tactic| simp only [mRet, mRetN, mCB, mCBF, mCons, mNil, mVar, mK, mOp, mUn, mIf, mTest, mNot, mAnd, mOr, mYes, mOfT, mAndV, mOrV, mNotV, mChain, mSeq, mAsg, mAug, mDrop, mNext, mBreak, mCont, mIfS, mTup, mTupK, mLst, mDat, mNew, mPar, mIsi, mLen, mTupOf, mListOf, mSetL, mApp, mDGet, mDPut, mDIn, mDGet2, mDNew, mLenD, mDictCp, mCatE, mPop0E, mSlL, mPart, mNoPart, mTGet, mTGet2, mTIn, mTPut, mTNew, mLenT, mIx, at_l0, at_l1, at_l2, at_l3, at_l4, keyT_ii, asL_ref, asK_ref, asKT_ref, it_ref, List.getElem?_set_self, List.getElem?_set_ne, ne_eq, not_false_eq_true, not_true_eq_false, Nat.reduceEqDiff, Nat.succ_ne_self, List.length_set, toHeap, toPure, List.set_cons_zero, List.set_cons_succ, List.getElem?_cons_zero, List.getElem?_cons_succ, Option.bind_some, Option.map_some, List.map_cons, List.map_nil, List.length_cons, List.length_nil, wipeM, reify_d, List.cons_append, List.nil_append, List.append_nil, List.replicate_succ, List.replicate_zero, if_true, if_false, Bool.not_true, Bool.not_false, reduceIte, Nat.reduceAdd, Nat.reduceSub, Nat.reduceLeDiff, Nat.reduceLT, Int.reduceLT, Int.reduceLE, Bool.false_eq_true, Option.bind_none, Option.map_none, decide_true, decide_false, e_arg1, e_args1, e_args2, e_argsTT, e_asI, e_asB, e_itL, e_itT, e_itM, e_isTL, e_isTT, e_isTM, e_isTR, e_rowL, e_rowT, e_rowM, e_allD0, e_allD1, e_allDm, e_lift1, e_lift2, e_lift3, e_lift4, e_lift5, e_mkTup1, e_mkTup2, e_mkTup3, e_mkTup4, e_mkTup5, e_mkTupm, e_mgTupT, e_mgTupM, e_mgCons, e_mgNil, e_mgName, e_seqN, e_seqR, e_seqB, e_seqC, e_resR, e_resN, e_int1, e_int1b, e_max2, e_min2, e_abs, e_allB, e_anyB, e_eqI, e_neI, e_eqB, e_neB, e_I, e_IB, e_neg, e_keyI, e_keyS, *])
local macro_rules | `(tactic| walk_at "at") => `(tactic| first | assumption | exact at_eq (by (try simp only [List.length_set]); omega) | (refine at_ne ?_ (by decide); walk_at "at"))
theorem q__law_cell (ns : List Int) (k : Int) (hk : 0 ≤ k) : pf__law_cell [li ns, .int k] = some (.int (ns.getD k.toNat 0)) := by
  unfold pf__law_cell m__law_cell
  walk_at "ev"
  simp only [List.length_map]
  by_cases h : k < (ns.length : Int)
  · simp only [h]
    rw [e_ixLi hk h]
    walk_at "ev"
  · simp only [h]
    walk_at "ev"
    rw [List.getD_eq_getElem?_getD, List.getElem?_eq_none (by omega)]
    rfl
theorem getD_app (ds : List Int) (x : Int) : (ds ++ [x]).getD ds.length 0 = x := by simp [List.getD_eq_getElem?_getD]
theorem getD_app_lt (ds : List Int) (x : Int) {j : Nat} (h : j < ds.length) : (ds ++ [x]).getD j 0 = ds.getD j 0 := by
  simp only [List.getD_eq_getElem?_getD, List.getElem?_append_left h]
def dgOk (bs ds : List Int) : Prop := ∀ j, j < ds.length → 0 ≤ ds.getD j 0 ∧ ds.getD j 0 < bs.getD j 0
theorem dgOk_snoc {bs ds : List Int} {x b : Int} (h : dgOk bs ds) (hb : bs[ds.length]? = some b) (h0 : 0 ≤ x) (h1 : x < b) : dgOk bs (ds ++ [x]) := fun j hj => by
  rw [List.length_append, List.length_singleton] at hj
  by_cases e : j = ds.length
  · subst e
    rw [getD_app, List.getD_eq_getElem?_getD, hb]
    exact ⟨h0, h1⟩
  · rw [getD_app_lt ds x (by omega)]
    exact h j (by omega)
theorem q__law_digits (c : Int) (bs : List Int) (hb : ∀ b ∈ bs, 0 < b ∧ b < 2 ^ 62) (hl : bs.length ≤ 1000) : ∃ ds : List Int, pf__law_digits [.int c, li bs] = some (li ds) ∧ ds.length = bs.length ∧ dgOk bs ds := by
  unfold pf__law_digits m__law_digits
  walk_at "ev"
  obtain ⟨env', h', e, ds, r, x4, x5, rfl, rfl, hn, ok⟩ := mFor_inv (mi := mItL (mVar 1)) (g := mgName 4)
    (mb := mb__law_digits_1)
    (env := [some (dI c), some (.d (li bs)), some (.ref 0), some (dI c), none, none]) (h := [.lst []]) bs dI (by rw [e_lst (ds := bs.map .int) (h1 := [.lst []]) rfl, ii_map]; rfl)
    (fun i env h => ∃ (ds : List Int) (r : Int) (x4 x5 : Option MV), env = [some (dI c), some (.d (li bs)), some (.ref 0), some (dI r), x4, x5] ∧ h = [.lst (ds.map dI)] ∧ ds.length = i ∧ dgOk bs ds)
    ⟨[], c, none, none, rfl, rfl, rfl, fun j hj => by cases hj⟩ (by
      rintro i b env h hi ⟨ds, r, x4, x5, rfl, rfl, hn, ok⟩
      have hib : i < bs.length := (List.getElem?_eq_some_iff.mp hi).1
      obtain ⟨b0, b1⟩ := hb b (List.mem_of_getElem? hi)
      subst hn
      have hl2 : (ds.map dI).length < 100000 := by rw [List.length_map]; omega
      unfold mb__law_digits_1
      by_cases hc : 1000000000000000000 ≤ c
      · refine ⟨_, _, _, rfl, ?_, ds ++ [r % b], r / b, some (dI b), x5, rfl, rfl, by simp, dgOk_snoc ok hi (Int.emod_nonneg _ (by omega)) (Int.emod_lt_of_pos _ b0)⟩
        walk_at "ev"
        rw [e_pow1018]
        walk_at "ev"
        simp only [hc]
        walk_at "ev"
        rw [e_mod b0]
        walk_at "ev"
        simp only [hl2]
        walk_at "ev"
        rw [e_IC (cdiv_ok b0 b1)]
        walk_at "ev"
        rw [List.map_append]; rfl
      · generalize hr : (r * 48271 + 1009 * (ds.length : Int) + 12345) % 2147483647 = r2
        have r20 : 0 ≤ r2 := by rw [← hr]; exact Int.emod_nonneg _ (by decide)
        have r21 : r2 < 2147483647 := by rw [← hr]; exact Int.emod_lt_of_pos _ (by decide)
        refine ⟨_, _, _, rfl, ?_, ds ++ [r2 * r2 % 2147483629 / 13 % b], r2, some (dI b), some (dI (r2 * r2 % 2147483629)), rfl, rfl, by simp, dgOk_snoc ok hi (Int.emod_nonneg _ (by omega)) (Int.emod_lt_of_pos _ b0)⟩
        walk_at "ev"
        rw [e_pow1018]
        walk_at "ev"
        simp only [hc]
        walk_at "ev"
        rw [e_IC (cmul_r (by decide))]
        walk_at "ev"
        rw [e_IC (cmul_l (by decide))]
        walk_at "ev"
        simp only [List.length_map, hr]
        rw [e_IC (cmul_r (by omega))]
        walk_at "ev"
        rw [e_IC (cdiv_ok (by decide) (by decide))]
        walk_at "ev"
        rw [e_mod b0]
        walk_at "ev"
        simp only [hl2]
        walk_at "ev"
        rw [List.map_append]; rfl)
  rw [e]
  walk_at "ev"
  rw [re_li (xs := ds) rfl]
  exact ⟨ds, rfl, hn, ok⟩
theorem q__law_many (ns : List Int) (few many : Int) : pf__law_many [li ns, .int few, .int many] = some (.int few) ∨ pf__law_many [li ns, .int few, .int many] = some (.int many) := by
  unfold pf__law_many m__law_many
  walk_at "ev"
  simp only [List.length_map]
  by_cases h : (0 : Int) < (ns.length : Int)
  · simp only [h]
    walk_at "ev"
    rw [e_ixLi (by decide) h]
    walk_at "ev"
    rw [e_IC (cdiv_ok (by decide) (by decide))]
    walk_at "ev"
    by_cases h2 : ns.getD (Int.toNat 0) 0 / 1009 % 5 = 1
    · simp only [h2]
      walk_at "ev"
      simp
    · simp only [h2]
      walk_at "ev"
      simp
  · simp only [h]
    walk_at "ev"
    simp
/-! ### pages -/
abbrev Cl := Int × Int × Int
abbrev c0 : Cl := (0, 0, 0)
abbrev cD (c : Cl) : PyData := .tuple [.int c.1, kD c.2]
theorem Enc.c : Enc cD 2 := (Enc.int.pair Enc.k).mono (by decide)
abbrev pgD (cs : List Cl) : PyData := .list (cs.map cD)
abbrev pgM (cs : List Cl) : Ob := .lst (cs.map fun c => .d (cD c))
abbrev rwD (r : Int × Cl) : PyData := .tuple [.int r.1, .int r.2.1, kD r.2.2]
def hasP (cs : List Cl) (p : Int) : Bool := decide (0 ≤ p) && decide (p < cs.length)
def cellAt (cs : List Cl) (p : Int) : Cl := if hasP cs p = true then cs.getD p.toNat c0 else c0
theorem set_same {α : Type} {xs : List α} {n : Nat} {x : α} (h : xs[n]? = some x) : xs.set n x = xs := by
  refine List.ext_getElem? fun k => ?_
  by_cases e : n = k
  · subst e
    rw [List.getElem?_set_self (List.getElem?_eq_some_iff.mp h).1, h]
  · rw [List.getElem?_set_ne e]
theorem get_set {α : Type} {xs : List α} {n : Nat} {x y : α} (h : xs[n]? = some x) : (xs.set n y)[n]? = some y := List.getElem?_set_self (List.getElem?_eq_some_iff.mp h).1
theorem set_set {α : Type} (xs : List α) (n : Nat) (x y : α) : (xs.set n x).set n y = xs.set n y := List.set_set ..
theorem q_new_page (h : MH) : fn_new_page [] h = some (.ref h.length, h ++ [pgM (List.replicate 4 c0)]) := by
  unfold fn_new_page m_new_page ml_new_page_1
  walk_at "ev"
  rw [show mRepF (mLst (mCons (mK (.tuple [.int 0, .tuple [.int 0, .int 0]])) mNil)) (mK (.int 4)) [] h = some (List.replicate 4 (.d (.tuple [.int 0, .tuple [.int 0, .int 0]])), h) from rfl]
  rfl
theorem q_has_place (cs : List Cl) (p : Int) : pf_has_place [pgD cs, .int p] = some (.bool (hasP cs p)) := by
  unfold pf_has_place m_has_place ml_has_place_1
  walk_at "ev"
  unfold hasP
  by_cases h0 : 0 ≤ p
  · simp only [h0]
    walk_at "ev"
    simp only [List.length_map]
    walk_at "ev"
    simp
  · simp only [h0]
    walk_at "ev"
    simp
theorem has_bound {cs : List Cl} {p : Int} (h : hasP cs p = true) : 0 ≤ p ∧ p < cs.length := by
  unfold hasP at h
  simpa using h
theorem has_of {cs : List Cl} {p : Int} (h0 : 0 ≤ p) (h1 : p < cs.length) : hasP cs p = true := by
  unfold hasP
  simp [h0, h1]
theorem ix_map {α : Type} (f : α → PyData) {xs : List α} {i : Int} (z : α) (h0 : 0 ≤ i) (h1 : i < xs.length) : atI (xs.map f) i = some (f (xs.getD i.toNat z)) := by
  rw [atI_map, atI_get h0 h1 z]; rfl
theorem q_cell_at (cs : List Cl) (p : Int) : pf_cell_at [pgD cs, .int p] = some (cD (cellAt cs p)) := by
  unfold pf_cell_at m_cell_at ml_cell_at_1
  walk_at "ev"
  rw [q_has_place]
  walk_at "ev"
  unfold cellAt
  by_cases hh : hasP cs p = true
  · obtain ⟨b0, b1⟩ := has_bound hh
    simp only [hh]
    walk_at "ev"
    rw [e_ixL (ix_map cD c0 b0 b1)]
    walk_at "ev"
  · simp only [hh]
    walk_at "ev"
theorem re_pg {k n : Nat} {h : MH} {cs : List Cl} (hn : h[n]? = some (pgM cs)) : reify (k + 1) h (.ref n) = some (pgD cs) := re_lst cD hn
theorem q_put_cell (n : Nat) (h : MH) (cs : List Cl) (p : Int) (c : Cl) (hn : h[n]? = some (pgM cs)) : fn_put_cell [.ref n, .d (.int p), .d (cD c)] h = some (.d .none, if hasP cs p = true then h.set n (pgM (cs.set p.toNat c)) else h) := by
  unfold fn_put_cell m_put_cell ml_put_cell_1 mc_put_cell_1 ml_put_cell_2
  walk_at "ev"
  rw [e_liftR (ds := [pgD cs, .int p]) (r := .bool (hasP cs p)) rfl (by simp only [mapO, reify_d, re_pg hn]; rfl) (q_has_place cs p) rfl]
  walk_at "ev"
  by_cases hh : hasP cs p = true
  · obtain ⟨b0, b1⟩ := has_bound hh
    simp only [hh]
    walk_at "ev"
    rw [e_asL hn]
    walk_at "ev"
    rw [G.ixN_ok b0 (by simp; omega)]
    walk_at "ev"
    simp only [pgM, List.map_set]
  · simp only [hh]
    walk_at "ev"
/-- a row is taken in -/
def mgOne (cs : List Cl) (r : Int × Cl) : List Cl := if kLt (cellAt cs r.1).2 r.2.2 = true ∧ hasP cs r.1 = true then cs.set r.1.toNat r.2 else cs
def mgAll (cs : List Cl) (rs : List (Int × Cl)) : List Cl := rs.foldl mgOne cs
theorem mgOne_len (cs : List Cl) (r : Int × Cl) : (mgOne cs r).length = cs.length := by
  unfold mgOne
  split
  · exact List.length_set ..
  · rfl
theorem mgAll_len (rs : List (Int × Cl)) : ∀ cs : List Cl, (mgAll cs rs).length = cs.length := by
  induction rs with
  | nil => intro cs; rfl
  | cons r rs ih => intro cs; exact (ih (mgOne cs r)).trans (mgOne_len cs r)
theorem mgAll_snoc (cs : List Cl) (rs : List (Int × Cl)) (r : Int × Cl) : mgAll cs (rs ++ [r]) = mgOne (mgAll cs rs) r := by
  unfold mgAll
  rw [List.foldl_append]; rfl
theorem take_succ_of {α : Type} {xs : List α} {i : Nat} {x : α} (h : xs[i]? = some x) : xs.take (i + 1) = xs.take i ++ [x] := by
  rw [List.take_succ, h]; rfl
theorem merge_body (n : Nat) (h : MH) (cs : List Cl) (r : Int × Cl) (x1 : Option MV) (hn : h[n]? = some (pgM cs)) :
    mb_merge_1 [some (.ref n), x1, some (.d (.int r.1)), some (.d (.int r.2.1)), some (.d (kD r.2.2))] h = some (.nx [some (.ref n), x1, some (.d (.int r.1)), some (.d (.int r.2.1)), some (.d (kD r.2.2))] (h.set n (pgM (mgOne cs r)))) := by
  unfold mb_merge_1 ml_merge_2 mc_merge_2 ml_merge_3
  walk_at "ev"
  rw [e_liftR (ds := [pgD cs, .int r.1]) (r := cD (cellAt cs r.1)) rfl (by simp only [mapO, reify_d, re_pg hn]; rfl) (q_cell_at cs r.1) (by simp [noL, noLA])]
  walk_at "ev"
  rw [e_gtK]
  walk_at "ev"
  by_cases hk : kLt (cellAt cs r.1).2 r.2.2 = true
  · simp only [hk]
    walk_at "ev"
    rw [q_put_cell n h cs r.1 r.2 hn]
    walk_at "ev"
    unfold mgOne
    by_cases hp : hasP cs r.1 = true
    · rw [if_pos hp, if_pos ⟨hk, hp⟩]
    · rw [if_neg hp, if_neg (fun z => hp z.2), set_same hn]
  · simp only [hk]
    walk_at "ev"
    unfold mgOne
    rw [if_neg (fun z => hk z.1), set_same hn]
theorem q_merge (n : Nat) (h : MH) (cs : List Cl) (rs : List (Int × Cl)) (hn : h[n]? = some (pgM cs)) : fn_merge [.ref n, .d (.tuple (rs.map rwD))] h = some (.d .none, h.set n (pgM (mgAll cs rs))) := by
  unfold fn_merge m_merge ml_merge_1
  walk_at "ev"
  obtain ⟨env', h', e, ⟨x2, x3, x4, rfl⟩, rfl⟩ := mFor_inv (mi := mItT (mVar 1)) (g := mgTup 3 (mgCons (mgName 2) (mgCons (mgName 3) (mgCons (mgName 4) mgNil)))) (mb := mb_merge_1)
    (env := [some (.ref n), some (.d (.tuple (rs.map rwD))), none, none, none]) (h := h) rs (fun r => .d (rwD r)) (h1 := h)
    (by rw [e_tup (ds := rs.map rwD) (h1 := h) rfl, List.map_map]; rfl)
    (fun i env h' => (∃ x2 x3 x4 : Option MV, env = [some (.ref n), some (.d (.tuple (rs.map rwD))), x2, x3, x4]) ∧ h' = h.set n (pgM (mgAll cs (rs.take i))))
    ⟨⟨_, _, _, rfl⟩, by rw [List.take_zero]; exact (set_same hn).symm⟩
    (by
      rintro i r env h' hi ⟨⟨x2, x3, x4, rfl⟩, rfl⟩
      refine ⟨_, _, _, rfl, merge_body n _ (mgAll cs (rs.take i)) r _ (get_set hn), ⟨_, _, _, rfl⟩, ?_⟩
      rw [set_set, take_succ_of hi, mgAll_snoc])
  rw [e]
  walk_at "ev"
  rw [List.take_length]
def rwsF (cs : List Cl) : List (Int × Cl) := cs.zipIdx.map fun z => ((z.2 : Int), z.1)
theorem q_rows_of (cs : List Cl) (hz : cs.length ≤ 1000) : pf_rows_of [pgD cs] = some (.tuple ((rwsF cs).map rwD)) := by
  unfold pf_rows_of m_rows_of ml_rows_of_1
  walk_at "ev"
  rw [mLc_map (rwsF cs) (fun r => .d (.tuple [.int r.1, cD r.2])) (fun r => .d (rwD r))]
  · walk_at "ev"
    rw [e_allDf]
    walk_at "ev"
  · rw [e_enumL (xs := cs.map cD) rfl, rwsF, List.map_map, List.zipIdx_map, List.map_map]; rfl
  · intro k hk
    walk_at "ev"
  · simp [rwsF]; omega
/-- the key of a store into the copy -/
def newK (cs : List Cl) (p m : Int) : Int × Int := ((cs.getD p.toNat c0).2.1 + 1, m)
theorem q_store (n : Nat) (h : MH) (cs : List Cl) (p v m : Int) (hn : h[n]? = some (pgM cs)) (h0 : 0 ≤ p) (h1 : p < cs.length) : fn_store [.ref n, .d (.int p), .d (.int v), .d (.int m)] h = some (.d (kD (newK cs p m)), h.set n (pgM (cs.set p.toNat (v, newK cs p m)))) := by
  have hh := has_of h0 h1
  unfold fn_store m_store ml_store_1 ml_store_2 ml_store_3 ml_store_4
  walk_at "ev"
  rw [e_liftR (ds := [pgD cs, .int p]) (r := cD (cellAt cs p)) rfl (by simp only [mapO, reify_d, re_pg hn]; rfl) (q_cell_at cs p) (by simp [noL, noLA])]
  walk_at "ev"
  have := q_put_cell n h cs p (v, newK cs p m) hn
  unfold cellAt newK at *
  rw [if_pos hh] at this ⊢
  simp only [cD, kD] at this
  rw [this]
  walk_at "ev"
/-! ### more of pages -/
theorem get_app {α : Type} {xs ys : List α} {n : Nat} {x : α} (h : xs[n]? = some x) : (xs ++ ys)[n]? = some x := by
  rw [List.getElem?_append_left (List.getElem?_eq_some_iff.mp h).1]; exact h
theorem get_ne {α : Type} {xs : List α} {n k : Nat} {x y : α} (h : xs[k]? = some x) (e : n ≠ k) : (xs.set n y)[k]? = some x := by
  rw [List.getElem?_set_ne e]; exact h
theorem lt_of_get {α : Type} {xs : List α} {n : Nat} {x : α} (h : xs[n]? = some x) : n < xs.length := (List.getElem?_eq_some_iff.mp h).1
theorem get_set_cases {α : Type} {xs : List α} {n i : Nat} {x y : α} (h : (xs.set n y)[i]? = some x) : (n = i ∧ x = y) ∨ (n ≠ i ∧ xs[i]? = some x) := by
  by_cases e : n = i
  · subst e
    have := lt_of_get h
    rw [List.length_set] at this
    rw [List.getElem?_set_self this] at h
    exact .inl ⟨rfl, (Option.some.inj h).symm⟩
  · rw [List.getElem?_set_ne e] at h
    exact .inr ⟨e, h⟩
theorem Enc.rw : Enc rwD 2 := (Enc.int.trip Enc.int Enc.k).mono (by decide)
theorem atI_range {α : Type} (f : Nat → α) {m : Nat} {i : Int} (h0 : 0 ≤ i) (h1 : i < m) : atI ((List.range m).map f) i = some (f i.toNat) := by
  rw [atI_map, atI_get h0 (by rw [List.length_range]; exact h1) 0, Option.map_some]
  congr 2
  rw [List.getD_eq_getElem?_getD, List.getElem?_range (by omega)]; rfl
theorem ixR_map {α : Type} (f : α → PyData) {h : MH} {n : Nat} {xs : List α} {i : Int} (z : α) (hn : h[n]? = some (.lst (xs.map fun x => .d (f x)))) (h0 : 0 ≤ i) (h1 : i < xs.length) : mIx (.ref n) (.d (.int i)) h = some (.d (f (xs.getD i.toNat z)), h) := e_ixR hn (by rw [atI_map, atI_get h0 h1 z]; rfl)
theorem mg_ver (cs : List Cl) (r : Int × Cl) (j : Nat) : (cs.getD j c0).2.1 ≤ ((mgOne cs r).getD j c0).2.1 := by
  unfold mgOne
  split
  · rename_i hh
    obtain ⟨h0, h1⟩ := has_bound hh.2
    rw [List.getD_eq_getElem?_getD, List.getD_eq_getElem?_getD, List.getElem?_set]
    by_cases e : r.1.toNat = j
    · subst e
      rw [if_pos rfl, if_pos (by omega)]
      have hk := hh.1
      rw [cellAt, if_pos hh.2, List.getD_eq_getElem?_getD] at hk
      unfold kLt at hk
      simp only [Bool.or_eq_true, Bool.and_eq_true, decide_eq_true_iff] at hk
      show _ ≤ r.2.2.1
      omega
    · rw [if_neg e]; exact Int.le_refl _
  · exact Int.le_refl _
theorem mgA_ver (rs : List (Int × Cl)) (j : Nat) : ∀ cs : List Cl, (cs.getD j c0).2.1 ≤ ((mgAll cs rs).getD j c0).2.1 := by
  induction rs with
  | nil => intro cs; exact Int.le_refl _
  | cons r rs ih => intro cs; exact Int.le_trans (mg_ver cs r j) (ih (mgOne cs r))
theorem getD_of {α : Type} {xs : List α} {n : Nat} {x : α} (h : xs[n]? = some x) (z : α) : xs.getD n z = x := by rw [List.getD_eq_getElem?_getD, h]; rfl
theorem noL_rw : ∀ rs : List (Int × Cl), noLA (rs.map rwD) = true
  | [] => rfl
  | r :: rs => by rw [List.map_cons, noLA, noL_rw rs]; rfl
theorem rws_eq (cs : List Cl) (h : cs.length = 4) : rwsF cs = (List.range 4).map fun (n : Nat) => ((n : Int), cs.getD n c0) := by
  match cs, h with
  | [a, b, c, d], _ => rfl
theorem mem_rws {cs : List Cl} (h : cs.length = 4) {r : Int × Cl} (hr : r ∈ rwsF cs) : 0 ≤ r.1 ∧ r.1 < 4 := by
  rw [rws_eq cs h] at hr
  obtain ⟨n, hn, rfl⟩ := List.mem_map.mp hr
  have := List.mem_range.mp hn
  simp only
  omega
theorem e_ifT {mt : MT} {a b : MS} {env : Env} {h h1 : MH} {r : Option MRes} (e : mt env h = some (true, h1)) (ea : a env h1 = r) : mIfS mt a b env h = r := by
  rw [e_mIfS e]; exact ea
theorem e_ifF {mt : MT} {a b : MS} {env : Env} {h h1 : MH} {r : Option MRes} (e : mt env h = some (false, h1)) (eb : b env h1 = r) : mIfS mt a b env h = r := by
  rw [e_mIfS e]; exact eb
theorem Enc.pg : Enc pgD 3 := Enc.c.list
def mxF (xs ys : List Int) : List Int := (xs.zip ys).map fun p => max p.1 p.2
def wcF (xs : List Int) (m c : Int) : List Int := xs.zipIdx.map fun z => if (z.2 : Int) = m then c else z.1
def raF (xs : List Int) (m n : Int) : List Int := xs.zipIdx.map fun z => if (z.2 : Int) = m then max z.1 n else z.1
def wiF (xs ys : List Int) : Bool := (xs.zip ys).all fun p => decide (p.1 ≤ p.2)
theorem zip_ints (xs ys : List Int) : (xs.map PyData.int).zip (ys.map PyData.int) = (xs.zip ys).map fun p => (PyData.int p.1, PyData.int p.2) := by rw [List.zip_map]; rfl
theorem zi_ints (xs : List Int) : (xs.map PyData.int).zipIdx = xs.zipIdx.map fun z => (PyData.int z.1, z.2) := by rw [List.zipIdx_map]; rfl
theorem q_zero_clock (m : Int) (h1 : 1 ≤ m) (h2 : m ≤ 1000) : pf_zero_clock [.int m] = some (ti (List.replicate m.toNat 0)) := by
  unfold pf_zero_clock m_zero_clock ml_zero_clock_1
  walk_at "ev"
  rw [e_repA (by simp) (by simp) h1 h2, flat_rep]
  walk_at "ev"
  simp
theorem q_merged (xs ys : List Int) (hz : xs.length ≤ 1000) : pf_merged [ti xs, ti ys] = some (ti (mxF xs ys)) := by
  unfold pf_merged m_merged ml_merged_1
  walk_at "ev"
  rw [mLc_map (xs.zip ys) (fun p => .d (.tuple [.int p.1, .int p.2])) (fun p => .d (.int (max p.1 p.2)))]
  · walk_at "ev"
    rw [e_allDf]
    walk_at "ev"
    rw [tup_ti]; rfl
  · rw [e_zipT (xs := xs.map .int) (ys := ys.map .int) rfl, zip_ints, List.map_map]; rfl
  · intro k hk
    walk_at "ev"
  · simp; omega
theorem q_with_count (xs : List Int) (m c : Int) (hz : xs.length ≤ 1000) : pf_with_count [ti xs, .int m, .int c] = some (ti (wcF xs m c)) := by
  unfold pf_with_count m_with_count ml_with_count_1
  walk_at "ev"
  rw [mLc_map xs.zipIdx (fun z => .d (.tuple [.int (z.2 : Int), .int z.1])) (fun z => .d (.int (if (z.2 : Int) = m then c else z.1)))]
  · walk_at "ev"
    rw [e_allDf]
    walk_at "ev"
    rw [tup_ti]; rfl
  · rw [e_enumT (xs := xs.map .int) rfl, zi_ints, List.map_map]; rfl
  · intro k hk
    walk_at "ev"
    by_cases h : (k.2 : Int) = m
    · simp only [h]
      walk_at "ev"
    · simp only [h]
      walk_at "ev"
  · simp; omega
theorem q_raised (xs : List Int) (m n : Int) (hz : xs.length ≤ 1000) : pf_raised [ti xs, .int m, .int n] = some (ti (raF xs m n)) := by
  unfold pf_raised m_raised ml_raised_1
  walk_at "ev"
  rw [mLc_map xs.zipIdx (fun z => .d (.tuple [.int (z.2 : Int), .int z.1])) (fun z => .d (.int (if (z.2 : Int) = m then max z.1 n else z.1)))]
  · walk_at "ev"
    rw [e_allDf]
    walk_at "ev"
    rw [tup_ti]; rfl
  · rw [e_enumT (xs := xs.map .int) rfl, zi_ints, List.map_map]; rfl
  · intro k hk
    walk_at "ev"
    by_cases h : (k.2 : Int) = m
    · simp only [h]
      walk_at "ev"
    · simp only [h]
      walk_at "ev"
  · simp; omega
theorem q_is_within (xs ys : List Int) (hz : xs.length ≤ 1000) : pf_is_within [ti xs, ti ys] = some (.bool (wiF xs ys)) := by
  unfold pf_is_within m_is_within ml_is_within_1
  walk_at "ev"
  rw [mLc_map (xs.zip ys) (fun p => .d (.tuple [.int p.1, .int p.2])) (fun p => .d (.bool (decide (p.1 ≤ p.2))))]
  · walk_at "ev"
    rw [e_allDf]
    walk_at "ev"
    rw [e_allF]
    walk_at "ev"
    rfl
  · rw [e_zipT (xs := xs.map .int) (ys := ys.map .int) rfl, zip_ints, List.map_map]; rfl
  · intro k hk
    walk_at "ev"
  · simp; omega
/-! ### what is held -/
theorem k_nh : (("need" : Str) = ("has" : Str)) = False := str_ne (by decide +kernel)
theorem k_hn : (("has" : Str) = ("need" : Str)) = False := str_ne (by decide +kernel)
abbrev hd (a b : List Int) : Ob := .dct [(.inr "need", .d (ti a)), (.inr "has", .d (ti b))]
theorem v_need {a b : MV} : valG [((.inr "need" : Key), a), (.inr "has", b)] (.inr "need") = some a := by simp [valG]
theorem v_has {a b : MV} : valG [((.inr "need" : Key), a), (.inr "has", b)] (.inr "has") = some b := by simp [valG, k_nh]
theorem p_need {a b c : MV} : putG [((.inr "need" : Key), a), (.inr "has", b)] (.inr "need") c = [(.inr "need", c), (.inr "has", b)] := by simp [putG, hasG, valG, replG, k_hn]
theorem p_has {a b c : MV} : putG [((.inr "need" : Key), a), (.inr "has", b)] (.inr "has") c = [(.inr "need", a), (.inr "has", c)] := by simp [putG, hasG, valG, replG, k_nh, k_hn]
theorem q_new_held (m : Int) (h : MH) (h1 : 1 ≤ m) (h2 : m ≤ 1000) : fn_new_held [.d (.int m)] h = some (.ref h.length, h ++ [hd (List.replicate m.toNat 0) (List.replicate m.toNat 0)]) := by
  unfold fn_new_held m_new_held ml_new_held_1
  walk_at "ev"
  simp only [mDisp, mPairs, mCB, mCons, mNil, e_mVar, mK]
  walk_at "ev"
  rw [q_zero_clock m h1 h2]
  walk_at "ev"
  have : ∀ x y : MV, mergeG [] [((.inr "need" : Key), x), (.inr "has", y)] = [(.inr "need", x), (.inr "has", y)] := fun x y => by
    simp [mergeG, putG, hasG, valG, replG, k_nh, k_hn]
  rw [this]
theorem q_needs (n : Nat) (h : MH) (a b : List Int) (m x : Int) (hn : h[n]? = some (hd a b)) (hz : a.length ≤ 1000) : fn_needs [.ref n, .d (.int m), .d (.int x)] h = some (.d .none, h.set n (hd (raF a m x) b)) := by
  unfold fn_needs m_needs ml_needs_1
  walk_at "ev"
  simp only [e_asK hn]
  walk_at "ev"
  rw [v_need]
  walk_at "ev"
  rw [q_raised a m x hz]
  walk_at "ev"
  simp only [e_asK hn]
  walk_at "ev"
  rw [p_need]
theorem q_arrived (n : Nat) (h : MH) (a b : List Int) (m x : Int) (hn : h[n]? = some (hd a b)) (hz : b.length ≤ 1000) : fn_arrived [.ref n, .d (.int m), .d (.int x)] h = some (.d .none, h.set n (hd a (raF b m x))) := by
  unfold fn_arrived m_arrived ml_arrived_1
  walk_at "ev"
  simp only [e_asK hn]
  walk_at "ev"
  rw [v_has]
  walk_at "ev"
  rw [q_raised b m x hz]
  walk_at "ev"
  simp only [e_asK hn]
  walk_at "ev"
  rw [p_has]
theorem q_had (n : Nat) (h : MH) (a b c : List Int) (hn : h[n]? = some (hd a b)) (hz : b.length ≤ 1000) : fn_had [.ref n, .d (ti c)] h = some (.d .none, h.set n (hd a (mxF b c))) := by
  unfold fn_had m_had ml_had_1
  walk_at "ev"
  simp only [e_asK hn]
  walk_at "ev"
  rw [v_has]
  walk_at "ev"
  rw [q_merged b c hz]
  walk_at "ev"
  simp only [e_asK hn]
  walk_at "ev"
  rw [p_has]
theorem q_is_fresh (n : Nat) (h : MH) (a b c : List Int) (ow : Int) (hn : h[n]? = some (hd a b)) (hz : c.length ≤ 1000) : fn_is_fresh [.ref n, .d (ti c), .d (.int ow)] h = some (.d (.bool (wiF (wcF c ow 0) b)), h) := by
  unfold fn_is_fresh m_is_fresh ml_is_fresh_1
  walk_at "ev"
  rw [q_with_count c ow 0 hz]
  walk_at "ev"
  simp only [e_asK hn]
  walk_at "ev"
  rw [v_has]
  walk_at "ev"
  rw [q_is_within _ _ (by simp [wcF]; omega)]
  walk_at "ev"
theorem wi_iff (xs ys : List Int) (hl : xs.length = ys.length) : wiF xs ys = true ↔ ∀ k, k < ys.length → xs.getD k 0 ≤ ys.getD k 0 := by
  unfold wiF
  rw [List.all_eq_true]
  constructor
  · intro h k hk
    have := h (xs[k], ys[k]) (List.mem_iff_getElem.mpr ⟨k, by simp; omega, by simp⟩)
    simpa [List.getD_eq_getElem?_getD, hk, hl] using this
  · intro h p hp
    obtain ⟨k, hk, e⟩ := List.mem_iff_getElem.mp hp
    have hk' : k < ys.length := by simp at hk; omega
    have := h k hk'
    rw [← e]
    simp [List.getD_eq_getElem?_getD, hk', hl] at this ⊢
    exact this
theorem wc_len (xs : List Int) (m c : Int) : (wcF xs m c).length = xs.length := by simp [wcF]
theorem wc_get (xs : List Int) (m c : Int) {k : Nat} (hk : k < xs.length) : (wcF xs m c).getD k 0 = if (k : Int) = m then c else xs.getD k 0 := by
  simp [wcF, List.getD_eq_getElem?_getD, List.getElem?_map, hk]
theorem ra_set (xs : List Int) (j n : Int) (h0 : 0 ≤ j) (h1 : j < xs.length) : raF xs j n = xs.set j.toNat (max (xs.getD j.toNat 0) n) := by
  refine List.ext_getElem? fun k => ?_
  rw [raF, List.getElem?_map, List.getElem?_zipIdx, List.getElem?_set]
  by_cases hk : k < xs.length
  · by_cases e : j.toNat = k
    · subst e
      have : ((j.toNat : Nat) : Int) = j := Int.toNat_of_nonneg h0
      simp [hk, this, List.getD_eq_getElem?_getD]
    · have : ¬ ((k : Int) = j) := by omega
      simp [hk, this, e]
  · rw [List.getElem?_eq_none (by omega)]
    have : ¬ (j.toNat = k) := by omega
    simp [this]
theorem n_mc_0_1 : ((.inr "machine" : Key) = .inr "page") = False := key_ne (by decide +kernel)
theorem n_mc_0_2 : ((.inr "machine" : Key) = .inr "held") = False := key_ne (by decide +kernel)
theorem n_mc_0_3 : ((.inr "machine" : Key) = .inr "stored") = False := key_ne (by decide +kernel)
theorem n_mc_0_4 : ((.inr "machine" : Key) = .inr "clock") = False := key_ne (by decide +kernel)
theorem n_mc_0_5 : ((.inr "machine" : Key) = .inr "letters") = False := key_ne (by decide +kernel)
theorem n_mc_0_6 : ((.inr "machine" : Key) = .inr "done") = False := key_ne (by decide +kernel)
theorem n_mc_0_7 : ((.inr "machine" : Key) = .inr "ended") = False := key_ne (by decide +kernel)
theorem n_mc_1_0 : ((.inr "page" : Key) = .inr "machine") = False := key_ne (by decide +kernel)
theorem n_mc_1_2 : ((.inr "page" : Key) = .inr "held") = False := key_ne (by decide +kernel)
theorem n_mc_1_3 : ((.inr "page" : Key) = .inr "stored") = False := key_ne (by decide +kernel)
theorem n_mc_1_4 : ((.inr "page" : Key) = .inr "clock") = False := key_ne (by decide +kernel)
theorem n_mc_1_5 : ((.inr "page" : Key) = .inr "letters") = False := key_ne (by decide +kernel)
theorem n_mc_1_6 : ((.inr "page" : Key) = .inr "done") = False := key_ne (by decide +kernel)
theorem n_mc_1_7 : ((.inr "page" : Key) = .inr "ended") = False := key_ne (by decide +kernel)
theorem n_mc_2_0 : ((.inr "held" : Key) = .inr "machine") = False := key_ne (by decide +kernel)
theorem n_mc_2_1 : ((.inr "held" : Key) = .inr "page") = False := key_ne (by decide +kernel)
theorem n_mc_2_3 : ((.inr "held" : Key) = .inr "stored") = False := key_ne (by decide +kernel)
theorem n_mc_2_4 : ((.inr "held" : Key) = .inr "clock") = False := key_ne (by decide +kernel)
theorem n_mc_2_5 : ((.inr "held" : Key) = .inr "letters") = False := key_ne (by decide +kernel)
theorem n_mc_2_6 : ((.inr "held" : Key) = .inr "done") = False := key_ne (by decide +kernel)
theorem n_mc_2_7 : ((.inr "held" : Key) = .inr "ended") = False := key_ne (by decide +kernel)
theorem n_mc_3_0 : ((.inr "stored" : Key) = .inr "machine") = False := key_ne (by decide +kernel)
theorem n_mc_3_1 : ((.inr "stored" : Key) = .inr "page") = False := key_ne (by decide +kernel)
theorem n_mc_3_2 : ((.inr "stored" : Key) = .inr "held") = False := key_ne (by decide +kernel)
theorem n_mc_3_4 : ((.inr "stored" : Key) = .inr "clock") = False := key_ne (by decide +kernel)
theorem n_mc_3_5 : ((.inr "stored" : Key) = .inr "letters") = False := key_ne (by decide +kernel)
theorem n_mc_3_6 : ((.inr "stored" : Key) = .inr "done") = False := key_ne (by decide +kernel)
theorem n_mc_3_7 : ((.inr "stored" : Key) = .inr "ended") = False := key_ne (by decide +kernel)
theorem n_mc_4_0 : ((.inr "clock" : Key) = .inr "machine") = False := key_ne (by decide +kernel)
theorem n_mc_4_1 : ((.inr "clock" : Key) = .inr "page") = False := key_ne (by decide +kernel)
theorem n_mc_4_2 : ((.inr "clock" : Key) = .inr "held") = False := key_ne (by decide +kernel)
theorem n_mc_4_3 : ((.inr "clock" : Key) = .inr "stored") = False := key_ne (by decide +kernel)
theorem n_mc_4_5 : ((.inr "clock" : Key) = .inr "letters") = False := key_ne (by decide +kernel)
theorem n_mc_4_6 : ((.inr "clock" : Key) = .inr "done") = False := key_ne (by decide +kernel)
theorem n_mc_4_7 : ((.inr "clock" : Key) = .inr "ended") = False := key_ne (by decide +kernel)
theorem n_mc_5_0 : ((.inr "letters" : Key) = .inr "machine") = False := key_ne (by decide +kernel)
theorem n_mc_5_1 : ((.inr "letters" : Key) = .inr "page") = False := key_ne (by decide +kernel)
theorem n_mc_5_2 : ((.inr "letters" : Key) = .inr "held") = False := key_ne (by decide +kernel)
theorem n_mc_5_3 : ((.inr "letters" : Key) = .inr "stored") = False := key_ne (by decide +kernel)
theorem n_mc_5_4 : ((.inr "letters" : Key) = .inr "clock") = False := key_ne (by decide +kernel)
theorem n_mc_5_6 : ((.inr "letters" : Key) = .inr "done") = False := key_ne (by decide +kernel)
theorem n_mc_5_7 : ((.inr "letters" : Key) = .inr "ended") = False := key_ne (by decide +kernel)
theorem n_mc_6_0 : ((.inr "done" : Key) = .inr "machine") = False := key_ne (by decide +kernel)
theorem n_mc_6_1 : ((.inr "done" : Key) = .inr "page") = False := key_ne (by decide +kernel)
theorem n_mc_6_2 : ((.inr "done" : Key) = .inr "held") = False := key_ne (by decide +kernel)
theorem n_mc_6_3 : ((.inr "done" : Key) = .inr "stored") = False := key_ne (by decide +kernel)
theorem n_mc_6_4 : ((.inr "done" : Key) = .inr "clock") = False := key_ne (by decide +kernel)
theorem n_mc_6_5 : ((.inr "done" : Key) = .inr "letters") = False := key_ne (by decide +kernel)
theorem n_mc_6_7 : ((.inr "done" : Key) = .inr "ended") = False := key_ne (by decide +kernel)
theorem n_mc_7_0 : ((.inr "ended" : Key) = .inr "machine") = False := key_ne (by decide +kernel)
theorem n_mc_7_1 : ((.inr "ended" : Key) = .inr "page") = False := key_ne (by decide +kernel)
theorem n_mc_7_2 : ((.inr "ended" : Key) = .inr "held") = False := key_ne (by decide +kernel)
theorem n_mc_7_3 : ((.inr "ended" : Key) = .inr "stored") = False := key_ne (by decide +kernel)
theorem n_mc_7_4 : ((.inr "ended" : Key) = .inr "clock") = False := key_ne (by decide +kernel)
theorem n_mc_7_5 : ((.inr "ended" : Key) = .inr "letters") = False := key_ne (by decide +kernel)
theorem n_mc_7_6 : ((.inr "ended" : Key) = .inr "done") = False := key_ne (by decide +kernel)
/-! ### a machine -/
def enT : Option (List Int) → List (Key × MV)
  | none => []
  | some e => [(.inr "ended", .d (ti e))]
abbrev mcL (a0 a1 a2 a3 a4 a5 a6 : MV) (en : Option (List Int)) : List (Key × MV) := (.inr "machine", a0) :: (.inr "page", a1) :: (.inr "held", a2) :: (.inr "stored", a3) :: (.inr "clock", a4) :: (.inr "letters", a5) :: (.inr "done", a6) :: enT en
section
variable {a0 a1 a2 a3 a4 a5 a6 b : MV} {en : Option (List Int)} {e : List Int}
theorem g_mc_machine : valG (mcL a0 a1 a2 a3 a4 a5 a6 en) (.inr "machine") = some a0 := by rw [valG_cons, if_pos rfl]
theorem g_mc_page : valG (mcL a0 a1 a2 a3 a4 a5 a6 en) (.inr "page") = some a1 := by rw [valG_cons, if_neg (of_eq_false n_mc_0_1), valG_cons, if_pos rfl]
theorem g_mc_held : valG (mcL a0 a1 a2 a3 a4 a5 a6 en) (.inr "held") = some a2 := by rw [valG_cons, if_neg (of_eq_false n_mc_0_2), valG_cons, if_neg (of_eq_false n_mc_1_2), valG_cons, if_pos rfl]
theorem g_mc_stored : valG (mcL a0 a1 a2 a3 a4 a5 a6 en) (.inr "stored") = some a3 := by rw [valG_cons, if_neg (of_eq_false n_mc_0_3), valG_cons, if_neg (of_eq_false n_mc_1_3), valG_cons, if_neg (of_eq_false n_mc_2_3), valG_cons, if_pos rfl]
theorem g_mc_clock : valG (mcL a0 a1 a2 a3 a4 a5 a6 en) (.inr "clock") = some a4 := by rw [valG_cons, if_neg (of_eq_false n_mc_0_4), valG_cons, if_neg (of_eq_false n_mc_1_4), valG_cons, if_neg (of_eq_false n_mc_2_4), valG_cons, if_neg (of_eq_false n_mc_3_4), valG_cons, if_pos rfl]
theorem g_mc_letters : valG (mcL a0 a1 a2 a3 a4 a5 a6 en) (.inr "letters") = some a5 := by rw [valG_cons, if_neg (of_eq_false n_mc_0_5), valG_cons, if_neg (of_eq_false n_mc_1_5), valG_cons, if_neg (of_eq_false n_mc_2_5), valG_cons, if_neg (of_eq_false n_mc_3_5), valG_cons, if_neg (of_eq_false n_mc_4_5), valG_cons, if_pos rfl]
theorem g_mc_done : valG (mcL a0 a1 a2 a3 a4 a5 a6 en) (.inr "done") = some a6 := by rw [valG_cons, if_neg (of_eq_false n_mc_0_6), valG_cons, if_neg (of_eq_false n_mc_1_6), valG_cons, if_neg (of_eq_false n_mc_2_6), valG_cons, if_neg (of_eq_false n_mc_3_6), valG_cons, if_neg (of_eq_false n_mc_4_6), valG_cons, if_neg (of_eq_false n_mc_5_6), valG_cons, if_pos rfl]
theorem g_mc_ended : valG (mcL a0 a1 a2 a3 a4 a5 a6 en) (.inr "ended") = en.map fun e => .d (ti e) := by
  rw [valG_cons, if_neg (of_eq_false n_mc_0_7), valG_cons, if_neg (of_eq_false n_mc_1_7), valG_cons, if_neg (of_eq_false n_mc_2_7), valG_cons, if_neg (of_eq_false n_mc_3_7), valG_cons, if_neg (of_eq_false n_mc_4_7), valG_cons, if_neg (of_eq_false n_mc_5_7), valG_cons, if_neg (of_eq_false n_mc_6_7)]
  cases en with
  | none => rfl
  | some e => exact (valG_cons _ _ _).trans (if_pos rfl)
theorem p_mc_machine : putG (mcL a0 a1 a2 a3 a4 a5 a6 en) (.inr "machine") b = mcL b a1 a2 a3 a4 a5 a6 en := by
  unfold putG hasG
  rw [g_mc_machine]
  cases en <;> simp only [enT, Option.isSome_some, if_true, replG, List.map_cons, List.map_nil, n_mc_1_0, n_mc_2_0, n_mc_3_0, n_mc_4_0, n_mc_5_0, n_mc_6_0, n_mc_7_0, if_false] <;> rfl
theorem p_mc_page : putG (mcL a0 a1 a2 a3 a4 a5 a6 en) (.inr "page") b = mcL a0 b a2 a3 a4 a5 a6 en := by
  unfold putG hasG
  rw [g_mc_page]
  cases en <;> simp only [enT, Option.isSome_some, if_true, replG, List.map_cons, List.map_nil, n_mc_0_1, n_mc_2_1, n_mc_3_1, n_mc_4_1, n_mc_5_1, n_mc_6_1, n_mc_7_1, if_false] <;> rfl
theorem p_mc_held : putG (mcL a0 a1 a2 a3 a4 a5 a6 en) (.inr "held") b = mcL a0 a1 b a3 a4 a5 a6 en := by
  unfold putG hasG
  rw [g_mc_held]
  cases en <;> simp only [enT, Option.isSome_some, if_true, replG, List.map_cons, List.map_nil, n_mc_0_2, n_mc_1_2, n_mc_3_2, n_mc_4_2, n_mc_5_2, n_mc_6_2, n_mc_7_2, if_false] <;> rfl
theorem p_mc_stored : putG (mcL a0 a1 a2 a3 a4 a5 a6 en) (.inr "stored") b = mcL a0 a1 a2 b a4 a5 a6 en := by
  unfold putG hasG
  rw [g_mc_stored]
  cases en <;> simp only [enT, Option.isSome_some, if_true, replG, List.map_cons, List.map_nil, n_mc_0_3, n_mc_1_3, n_mc_2_3, n_mc_4_3, n_mc_5_3, n_mc_6_3, n_mc_7_3, if_false] <;> rfl
theorem p_mc_clock : putG (mcL a0 a1 a2 a3 a4 a5 a6 en) (.inr "clock") b = mcL a0 a1 a2 a3 b a5 a6 en := by
  unfold putG hasG
  rw [g_mc_clock]
  cases en <;> simp only [enT, Option.isSome_some, if_true, replG, List.map_cons, List.map_nil, n_mc_0_4, n_mc_1_4, n_mc_2_4, n_mc_3_4, n_mc_5_4, n_mc_6_4, n_mc_7_4, if_false] <;> rfl
theorem p_mc_letters : putG (mcL a0 a1 a2 a3 a4 a5 a6 en) (.inr "letters") b = mcL a0 a1 a2 a3 a4 b a6 en := by
  unfold putG hasG
  rw [g_mc_letters]
  cases en <;> simp only [enT, Option.isSome_some, if_true, replG, List.map_cons, List.map_nil, n_mc_0_5, n_mc_1_5, n_mc_2_5, n_mc_3_5, n_mc_4_5, n_mc_6_5, n_mc_7_5, if_false] <;> rfl
theorem p_mc_done : putG (mcL a0 a1 a2 a3 a4 a5 a6 en) (.inr "done") b = mcL a0 a1 a2 a3 a4 a5 b en := by
  unfold putG hasG
  rw [g_mc_done]
  cases en <;> simp only [enT, Option.isSome_some, if_true, replG, List.map_cons, List.map_nil, n_mc_0_6, n_mc_1_6, n_mc_2_6, n_mc_3_6, n_mc_4_6, n_mc_5_6, n_mc_7_6, if_false] <;> rfl
theorem p_mc_ended : putG (mcL a0 a1 a2 a3 a4 a5 a6 en) (.inr "ended") (.d (ti e)) = mcL a0 a1 a2 a3 a4 a5 a6 (some e) := by
  unfold putG hasG
  rw [g_mc_ended]
  cases en with
  | none => simp only [enT, Option.map_none, Option.isSome_none, Bool.false_eq_true, if_false, List.cons_append, List.nil_append]; rfl
  | some e => simp only [enT, Option.map_some, Option.isSome_some, if_true, replG, List.map_cons, List.map_nil, n_mc_0_7, n_mc_1_7, n_mc_2_7, n_mc_3_7, n_mc_4_7, n_mc_5_7, n_mc_6_7, if_false]; rfl
end
/-! ### keys, never less -/
def kle (a b : Int × Int) : Prop := kLt b a = false
theorem kle_iff (a b : Int × Int) : kle a b ↔ a.1 < b.1 ∨ (a.1 = b.1 ∧ a.2 ≤ b.2) := by
  unfold kle kLt
  simp only [Bool.or_eq_false_iff, Bool.and_eq_false_iff, decide_eq_false_iff_not]
  omega
theorem kle_refl (a : Int × Int) : kle a a := by rw [kle_iff]; omega
theorem kle_trans {a b c : Int × Int} (h1 : kle a b) (h2 : kle b c) : kle a c := by
  rw [kle_iff] at *; omega
theorem kle_lt {a b : Int × Int} (h : kLt a b = true) : kle a b := by
  rw [kle_iff]
  unfold kLt at h
  simp only [Bool.or_eq_true, Bool.and_eq_true, decide_eq_true_iff] at h
  omega
abbrev kAt (cs : List Cl) (p : Nat) : Int × Int := (cs.getD p c0).2
theorem getD_set {α : Type} (xs : List α) (n : Nat) (x z : α) (k : Nat) (hn : n < xs.length) : (xs.set n x).getD k z = if k = n then x else xs.getD k z := by
  rw [List.getD_eq_getElem?_getD, List.getElem?_set, List.getD_eq_getElem?_getD]
  by_cases e : n = k
  · subst e; simp [hn]
  · have e' : ¬ k = n := fun z => e z.symm
    simp [e, e']
theorem mgOne_up (cs : List Cl) (r : Int × Cl) (p : Nat) : kle (kAt cs p) (kAt (mgOne cs r) p) := by
  unfold mgOne
  split
  · rename_i hh
    obtain ⟨h0, h1⟩ := has_bound hh.2
    unfold kAt
    rw [getD_set _ _ _ _ _ (by omega)]
    by_cases e : p = r.1.toNat
    · rw [if_pos e, e]
      have hk := hh.1
      rw [cellAt, if_pos hh.2] at hk
      exact kle_lt hk
    · rw [if_neg e]; exact kle_refl _
  · exact kle_refl _
theorem mgAll_up (rs : List (Int × Cl)) (p : Nat) : ∀ cs : List Cl, kle (kAt cs p) (kAt (mgAll cs rs) p) := by
  induction rs with
  | nil => intro cs; exact kle_refl _
  | cons r rs ih => intro cs; exact kle_trans (mgOne_up cs r p) (ih (mgOne cs r))
theorem mgOne_has (cs : List Cl) (r : Int × Cl) (h0 : 0 ≤ r.1) (h1 : r.1 < cs.length) : kle r.2.2 (kAt (mgOne cs r) r.1.toNat) := by
  have hh := has_of h0 h1
  unfold mgOne
  by_cases hk : kLt (cellAt cs r.1).2 r.2.2 = true
  · rw [if_pos ⟨hk, hh⟩]
    unfold kAt
    rw [getD_set _ _ _ _ _ (by omega), if_pos rfl]
    exact kle_refl _
  · rw [if_neg (fun z => hk z.1)]
    rw [cellAt, if_pos hh] at hk
    exact eq_false_of_ne_true hk
theorem mgAll_has (rs : List (Int × Cl)) : ∀ cs : List Cl, ∀ r ∈ rs, 0 ≤ r.1 → r.1 < cs.length → kle r.2.2 (kAt (mgAll cs rs) r.1.toNat) := by
  induction rs with
  | nil => intro cs r hr; cases hr
  | cons q rs ih =>
    intro cs r hr h0 h1
    rcases List.mem_cons.mp hr with e | hr
    · rw [← e]
      exact kle_trans (mgOne_has cs r h0 h1) (mgAll_up rs _ _)
    · exact ih (mgOne cs q) r hr h0 (by rw [mgOne_len]; exact h1)
/-! ### machines -/
structure Mc where
  pg : List Cl
  nd : List Int
  hs : List Int
  st : List (Int × Cl)
  ck : List Int
  lt : List (Int × List (Int × Cl))
  dn : List (Int × Int × (Int × Int))
  en : Option (List Int)
abbrev g0 (xs : List Int) (j : Nat) : Int := xs.getD j 0
def up (S : Nat → Mc) (i : Nat) (x : Mc) : Nat → Mc := fun j => if j = i then x else S j
theorem up_eq (S : Nat → Mc) (i : Nat) (x : Mc) : up S i x i = x := by unfold up; rw [if_pos rfl]
theorem up_ne (S : Nat → Mc) {i j : Nat} (x : Mc) (h : j ≠ i) : up S i x j = S j := by unfold up; rw [if_neg h]
/-- what is asked of one machine alone -/
structure Ok1 (m t i : Nat) (x : Mc) : Prop where
  pl : x.pg.length = 4
  nl : x.nd.length = m
  hl : x.hs.length = m
  cl : x.ck.length = m
  el : ∀ e, x.en = some e → e.length = m
  s0 : (x.st.map (·.1)).Nodup
  s1 : ∀ p ∈ x.st, 0 ≤ p.1 ∧ p.1 < 4 ∧ kle p.2.2 (kAt x.pg p.1.toNat)
  d0 : ∀ r ∈ x.dn, 0 ≤ r.2.1 ∧ r.2.1 < 4 ∧ r.1 < g0 x.ck i ∧ kle r.2.2 (kAt x.pg r.2.1.toNat)
  h0 : ∀ j, 0 ≤ g0 x.hs j
  la : x.lt.Pairwise (fun a b => a.1 < b.1)
  lb : ∀ l ∈ x.lt, l.1 < g0 x.ck i ∧ (∀ q ∈ l.2, 0 ≤ q.1 ∧ q.1 < 4)
  c1 : 0 < g0 x.ck i
  z1 : x.dn.length ≤ 4 * t
  z2 : x.lt.length ≤ t
  nn : g0 x.nd i = 0
/-- what holds between the machines; ho is the home -/
structure Inv9 (m ho t : Nat) (S : Nat → Mc) : Prop where
  o : ∀ i, i < m → Ok1 m t i (S i)
  c3 : ∀ i j, i < m → j < m → i ≠ j → g0 (S i).ck j < g0 (S j).ck j
  e3 : ∀ i j e, i < m → j < m → (S i).en = some e → g0 e j < g0 (S j).ck j
  a : ∀ i j, i < m → j < m → i ≠ j → ∀ r ∈ (S j).dn, r.1 ≤ g0 (S i).ck j → r.1 ≤ g0 (S i).nd j
  h5 : ∀ i j, i < m → j < m → g0 (S i).hs j < g0 (S j).ck j
  c : ∀ i j, i < m → j < m → i ≠ j → ∀ r ∈ (S j).dn, r.1 ≤ g0 (S i).hs j → kle r.2.2 (kAt (S i).pg r.2.1.toNat)
  l4 : ∀ j, j < m → j ≠ ho → ∀ r ∈ (S j).dn, r.1 ≤ g0 (S ho).hs j ∨ ∃ l ∈ (S j).lt, l.1 = r.1 ∧ ∃ v, (r.2.1, v, r.2.2) ∈ l.2
  lh : (S ho).lt = []
  n0 : ∀ i j, i < m → j < m → i ≠ j → g0 (S i).nd j = 0 ∨ ∃ r ∈ (S j).dn, r.1 = g0 (S i).nd j
  hh : ∀ r ∈ (S ho).dn, r.1 ≤ g0 (S ho).hs ho
/-- fresh for a needed clock -/
def Fr (m : Nat) (nd hs : List Int) (i : Nat) : Prop := ∀ j, j < m → j ≠ i → g0 nd j ≤ g0 hs j
/-- all that the clock covers is in the copy -/
def Rt (m : Nat) (S : Nat → Mc) (i : Nat) : Prop := ∀ j, j < m → ∀ r ∈ (S j).dn, r.1 ≤ g0 (S i).ck j → kle r.2.2 (kAt (S i).pg r.2.1.toNat)
section
variable {m ho t i : Nat} {S : Nat → Mc}
theorem Inv9.rt (I : Inv9 m ho t S) (hi : i < m) (f : Fr m (S i).nd (S i).hs i) : Rt m S i := fun j hj r hr hc => by
  by_cases e : j = i
  · subst e
    exact ((I.o j hj).d0 r hr).2.2.2
  · exact I.c i j hi hj (Ne.symm e) r hr (Int.le_trans (I.a i j hi hj (Ne.symm e) r hr hc) (f j hj e))
theorem Ok1.mono {x : Mc} (h : Ok1 m t i x) {t' : Nat} (e : t ≤ t') : Ok1 m t' i x := ⟨h.pl, h.nl, h.hl, h.cl, h.el, h.s0, h.s1, h.d0, h.h0, h.la, h.lb, h.c1, by have := h.z1; omega, by have := h.z2; omega, h.nn⟩
theorem Inv9.mono (I : Inv9 m ho t S) {t' : Nat} (e : t ≤ t') : Inv9 m ho t' S := ⟨fun i hi => (I.o i hi).mono e, I.c3, I.e3, I.a, I.h5, I.c, I.l4, I.lh, I.n0, I.hh⟩
/-- a copy grows -/
theorem Inv9.pgs (I : Inv9 m ho t S) (hi : i < m) {cs : List Cl} (l : cs.length = 4) (g : ∀ p, kle (kAt (S i).pg p) (kAt cs p)) : Inv9 m ho t (up S i { S i with pg := cs }) := by
  have eq : ∀ j, (up S i { S i with pg := cs } j).nd = (S j).nd ∧ (up S i { S i with pg := cs } j).hs = (S j).hs ∧ (up S i { S i with pg := cs } j).st = (S j).st ∧ (up S i { S i with pg := cs } j).ck = (S j).ck ∧ (up S i { S i with pg := cs } j).lt = (S j).lt ∧ (up S i { S i with pg := cs } j).dn = (S j).dn ∧ (up S i { S i with pg := cs } j).en = (S j).en := fun j => by
    unfold up
    by_cases e : j = i
    · rw [if_pos e, e]; exact ⟨rfl, rfl, rfl, rfl, rfl, rfl, rfl⟩
    · rw [if_neg e]; exact ⟨rfl, rfl, rfl, rfl, rfl, rfl, rfl⟩
  have pg : ∀ j p, kle (kAt (S j).pg p) (kAt (up S i { S i with pg := cs } j).pg p) := fun j p => by
    unfold up
    by_cases e : j = i
    · rw [if_pos e, e]; exact g p
    · rw [if_neg e]; exact kle_refl _
  refine ⟨fun j hj => ?_, ?_, ?_, ?_, ?_, ?_, ?_, ?_, ?_, ?_⟩
  · have O := I.o j hj
    have e := eq j
    refine ⟨?_, by rw [e.1]; exact O.nl, by rw [e.2.1]; exact O.hl, by rw [e.2.2.2.1]; exact O.cl, by rw [e.2.2.2.2.2.2]; exact O.el, by rw [e.2.2.1]; exact O.s0, ?_, ?_, by rw [e.2.1]; exact O.h0, by rw [e.2.2.2.2.1]; exact O.la, by rw [e.2.2.2.2.1, e.2.2.2.1]; exact O.lb, by rw [e.2.2.2.1]; exact O.c1, by rw [e.2.2.2.2.2.1]; exact O.z1, by rw [e.2.2.2.2.1]; exact O.z2, by rw [e.1]; exact O.nn⟩
    · unfold up
      by_cases z : j = i
      · rw [if_pos z]; exact l
      · rw [if_neg z]; exact O.pl
    · rw [e.2.2.1]
      intro p hp
      obtain ⟨a1, a2, a3⟩ := O.s1 p hp
      exact ⟨a1, a2, kle_trans a3 (pg j _)⟩
    · rw [e.2.2.2.2.2.1, e.2.2.2.1]
      intro r hr
      obtain ⟨a1, a2, a3, a4⟩ := O.d0 r hr
      exact ⟨a1, a2, a3, kle_trans a4 (pg j _)⟩
  · intro a b; rw [(eq a).2.2.2.1, (eq b).2.2.2.1]; exact I.c3 a b
  · intro a b; rw [(eq a).2.2.2.2.2.2, (eq b).2.2.2.1]; exact I.e3 a b
  · intro a b; rw [(eq a).2.2.2.1, (eq a).1, (eq b).2.2.2.2.2.1]; exact I.a a b
  · intro a b; rw [(eq a).2.1, (eq b).2.2.2.1]; exact I.h5 a b
  · intro a b; rw [(eq a).2.1, (eq b).2.2.2.2.2.1]
    exact fun ha hb n r hr hc => kle_trans (I.c a b ha hb n r hr hc) (pg a _)
  · intro j; rw [(eq j).2.2.2.2.2.1, (eq j).2.2.2.2.1, (eq ho).2.1]; exact I.l4 j
  · rw [(eq ho).2.2.2.2.1]; exact I.lh
  · intro a b; rw [(eq a).1, (eq b).2.2.2.2.2.1]; exact I.n0 a b
  · rw [(eq ho).2.2.2.2.2.1, (eq ho).2.1]; exact I.hh
end
/-! ### how the machines change -/
theorem ra_len (xs : List Int) (j n : Int) : (raF xs j n).length = xs.length := by simp [raF]
theorem mx_len (xs ys : List Int) (h : xs.length = ys.length) : (mxF xs ys).length = xs.length := by simp [mxF]; omega
theorem ra_get (xs : List Int) (j : Nat) (n : Int) (hj : j < xs.length) (k : Nat) : g0 (raF xs (j : Int) n) k = if k = j then max (g0 xs j) n else g0 xs k := by
  rw [ra_set xs j n (by omega) (by omega)]
  unfold g0
  rw [getD_set _ _ _ _ _ (by omega), Int.toNat_natCast]
theorem wc_get' (xs : List Int) (j : Nat) (n : Int) (hj : j < xs.length) (k : Nat) : g0 (wcF xs (j : Int) n) k = if k = j then n else g0 xs k := by
  unfold g0
  by_cases hk : k < xs.length
  · rw [wc_get xs _ _ hk]
    by_cases e : k = j
    · rw [if_pos (by omega), if_pos e]
    · rw [if_neg (by omega), if_neg e]
  · rw [if_neg (by omega), List.getD_eq_getElem?_getD, List.getD_eq_getElem?_getD, List.getElem?_eq_none (by rw [wc_len]; omega), List.getElem?_eq_none (by omega)]
theorem mx_get (xs ys : List Int) (h : xs.length = ys.length) (k : Nat) : g0 (mxF xs ys) k = max (g0 xs k) (g0 ys k) := by
  unfold g0 mxF
  by_cases hk : k < xs.length
  · have hk2 : k < ys.length := by omega
    simp [List.getD_eq_getElem?_getD, List.getElem?_map, List.getElem?_zip_eq_some, hk, hk2, List.zip, List.getElem?_zipWith]
  · have hk2 : ¬ k < ys.length := by omega
    rw [List.getD_eq_getElem?_getD, List.getD_eq_getElem?_getD, List.getD_eq_getElem?_getD, List.getElem?_eq_none (by simp; omega), List.getElem?_eq_none (by omega), List.getElem?_eq_none (by omega)]; rfl
theorem g0_out (xs : List Int) {k : Nat} (h : xs.length ≤ k) : g0 xs k = 0 := by
  unfold g0
  rw [List.getD_eq_getElem?_getD, List.getElem?_eq_none h]; rfl
theorem fr_iff {m : Nat} {nd hs : List Int} {i : Nat} (h1 : nd.length = m) (h2 : hs.length = m) (h0 : ∀ j, 0 ≤ g0 hs j) : wiF (wcF nd (i : Int) 0) hs = true ↔ Fr m nd hs i := by
  rw [wi_iff _ _ (by rw [wc_len, h1, h2])]
  unfold Fr
  rw [h2]
  constructor
  · intro h j hj ne
    have := h j hj
    rw [wc_get _ _ _ (by omega), if_neg (by omega)] at this
    exact this
  · intro h j hj
    rw [wc_get _ _ _ (by omega)]
    by_cases e : (j : Int) = i
    · rw [if_pos e]; exact h0 j
    · rw [if_neg e]; exact h j hj (by omega)
section
variable {m ho t i : Nat} {S : Nat → Mc}
theorem Inv9.sts (I : Inv9 m ho t S) (hi : i < m) {s : List (Int × Cl)} (s0 : (s.map (·.1)).Nodup) (s1 : ∀ p ∈ s, 0 ≤ p.1 ∧ p.1 < 4 ∧ kle p.2.2 (kAt (S i).pg p.1.toNat)) : Inv9 m ho t (up S i { S i with st := s }) := by
  have eq : ∀ j, (up S i { S i with st := s } j).nd = (S j).nd ∧ (up S i { S i with st := s } j).hs = (S j).hs ∧ (up S i { S i with st := s } j).pg = (S j).pg ∧ (up S i { S i with st := s } j).ck = (S j).ck ∧ (up S i { S i with st := s } j).lt = (S j).lt ∧ (up S i { S i with st := s } j).dn = (S j).dn ∧ (up S i { S i with st := s } j).en = (S j).en := fun j => by
    unfold up
    by_cases e : j = i
    · rw [if_pos e, e]; exact ⟨rfl, rfl, rfl, rfl, rfl, rfl, rfl⟩
    · rw [if_neg e]; exact ⟨rfl, rfl, rfl, rfl, rfl, rfl, rfl⟩
  refine ⟨fun j hj => ?_, ?_, ?_, ?_, ?_, ?_, ?_, ?_, ?_, ?_⟩
  · have O := I.o j hj
    have e := eq j
    refine ⟨by rw [e.2.2.1]; exact O.pl, by rw [e.1]; exact O.nl, by rw [e.2.1]; exact O.hl, by rw [e.2.2.2.1]; exact O.cl, by rw [e.2.2.2.2.2.2]; exact O.el, ?_, ?_, by rw [e.2.2.2.2.2.1, e.2.2.2.1, e.2.2.1]; exact O.d0, by rw [e.2.1]; exact O.h0, by rw [e.2.2.2.2.1]; exact O.la, by rw [e.2.2.2.2.1, e.2.2.2.1]; exact O.lb, by rw [e.2.2.2.1]; exact O.c1, by rw [e.2.2.2.2.2.1]; exact O.z1, by rw [e.2.2.2.2.1]; exact O.z2, by rw [e.1]; exact O.nn⟩
    · by_cases z : j = i
      · rw [z, up_eq]; exact s0
      · rw [up_ne _ _ z]; exact O.s0
    · rw [e.2.2.1]
      by_cases z : j = i
      · rw [z, up_eq]; exact s1
      · rw [up_ne _ _ z]; exact O.s1
  · intro a b; rw [(eq a).2.2.2.1, (eq b).2.2.2.1]; exact I.c3 a b
  · intro a b; rw [(eq a).2.2.2.2.2.2, (eq b).2.2.2.1]; exact I.e3 a b
  · intro a b; rw [(eq a).2.2.2.1, (eq a).1, (eq b).2.2.2.2.2.1]; exact I.a a b
  · intro a b; rw [(eq a).2.1, (eq b).2.2.2.1]; exact I.h5 a b
  · intro a b; rw [(eq a).2.1, (eq b).2.2.2.2.2.1, (eq a).2.2.1]; exact I.c a b
  · intro j; rw [(eq j).2.2.2.2.2.1, (eq j).2.2.2.2.1, (eq ho).2.1]; exact I.l4 j
  · rw [(eq ho).2.2.2.2.1]; exact I.lh
  · intro a b; rw [(eq a).1, (eq b).2.2.2.2.2.1]; exact I.n0 a b
  · rw [(eq ho).2.2.2.2.2.1, (eq ho).2.1]; exact I.hh
/-- a store -/
theorem putG_mem {kvs : List (Int × Cl)} {p : Int} {c : Cl} {q : Int × Cl} (h : q ∈ putG kvs p c) : q = (p, c) ∨ (q ∈ kvs ∧ q.1 ≠ p) := by
  unfold putG at h
  split at h
  · unfold replG at h
    obtain ⟨x, hx, e⟩ := List.mem_map.mp h
    by_cases z : x.1 = p
    · rw [if_pos z] at e; exact .inl (by rw [← e, z])
    · rw [if_neg z] at e; exact .inr ⟨by rw [← e]; exact hx, by rw [← e]; exact z⟩
  · rename_i hn
    rcases List.mem_append.mp h with h | h
    · refine .inr ⟨h, fun z => hn ?_⟩
      unfold hasG
      cases e : valG kvs p with
      | some v => rfl
      | none =>
        exfalso
        have : ∀ l : List (Int × Cl), q ∈ l → valG l p ≠ none := by
          intro l
          induction l with
          | nil => intro h; cases h
          | cons a l ih =>
            intro hm
            rw [valG_cons]
            by_cases y : a.1 = p
            · rw [if_pos y]; exact fun z => nomatch z
            · rw [if_neg y]
              rcases List.mem_cons.mp hm with hm | hm
              · rw [← hm] at y; exact absurd z y
              · exact ih hm
        exact this kvs h e
    · exact .inl (List.mem_singleton.mp h)
theorem putG_nd {kvs : List (Int × Cl)} {p : Int} {c : Cl} (h : (kvs.map (·.1)).Nodup) : ((putG kvs p c).map (·.1)).Nodup := by
  unfold putG
  split
  · have : (replG kvs p c).map (·.1) = kvs.map (·.1) := by
      unfold replG
      rw [List.map_map]
      refine List.map_congr_left fun x _ => ?_
      show (if x.1 = p then (x.1, c) else x).1 = x.1
      split <;> rfl
    rw [this]; exact h
  · rename_i hn
    rw [List.map_append, List.nodup_append]
    refine ⟨h, by simp, fun a ha b hb e => ?_⟩
    simp at hb
    subst hb
    subst e
    apply hn
    unfold hasG
    obtain ⟨x, hx, hxe⟩ := List.mem_map.mp ha
    cases e : valG kvs a with
    | some v => rfl
    | none =>
      exfalso
      have : ∀ l : List (Int × Cl), x ∈ l → valG l a ≠ none := by
        intro l
        induction l with
        | nil => intro h; cases h
        | cons q l ih =>
          intro hm
          rw [valG_cons]
          by_cases y : q.1 = a
          · rw [if_pos y]; exact fun z => nomatch z
          · rw [if_neg y]
            rcases List.mem_cons.mp hm with hm | hm
            · rw [← hm] at y; exact absurd hxe y
            · exact ih hm
      exact this kvs hx e
theorem Inv9.store (I : Inv9 m ho t S) (hi : i < m) {p v : Int} (p0 : 0 ≤ p) (p1 : p < 4) : Inv9 m ho t (up S i { S i with pg := (S i).pg.set p.toNat (v, newK (S i).pg p (i : Int)), st := putG (S i).st p (v, newK (S i).pg p (i : Int)) }) := by
  have O := I.o i hi
  have gr : ∀ q, kle (kAt (S i).pg q) (kAt ((S i).pg.set p.toNat (v, newK (S i).pg p (i : Int))) q) := fun q => by
    unfold kAt
    rw [getD_set _ _ _ _ _ (by rw [O.pl]; omega)]
    by_cases e : q = p.toNat
    · rw [if_pos e, e, kle_iff]
      exact .inl (by unfold newK; simp only; omega)
    · rw [if_neg e]; exact kle_refl _
  have I1 := I.pgs hi (cs := (S i).pg.set p.toNat (v, newK (S i).pg p (i : Int))) (by rw [List.length_set]; exact O.pl) gr
  have I2 := I1.sts hi (s := putG (S i).st p (v, newK (S i).pg p (i : Int))) (putG_nd O.s0) (fun q hq => by
    rw [up_eq]
    rcases putG_mem hq with e | ⟨hq, _⟩
    · rw [e]
      refine ⟨p0, p1, ?_⟩
      show kle _ (kAt ((S i).pg.set p.toNat (v, newK (S i).pg p (i : Int))) p.toNat)
      unfold kAt
      rw [getD_set _ _ _ _ _ (by rw [O.pl]; omega), if_pos rfl]
      exact kle_refl _
    · obtain ⟨a1, a2, a3⟩ := O.s1 q hq
      exact ⟨a1, a2, kle_trans a3 (gr _)⟩)
  have e : up (up S i { S i with pg := (S i).pg.set p.toNat (v, newK (S i).pg p (i : Int)) }) i { up S i { S i with pg := (S i).pg.set p.toNat (v, newK (S i).pg p (i : Int)) } i with st := putG (S i).st p (v, newK (S i).pg p (i : Int)) } = up S i { S i with pg := (S i).pg.set p.toNat (v, newK (S i).pg p (i : Int)), st := putG (S i).st p (v, newK (S i).pg p (i : Int)) } := by
    funext j
    rw [up_eq]
    unfold up
    by_cases z : j = i
    · rw [if_pos z, if_pos z]
    · rw [if_neg z, if_neg z, if_neg z]
  rw [e] at I2
  exact I2
/-- the key of a store is greater than all that the clock covers -/
theorem Rt.new (R : Rt m S i) (hp : (S i).pg.length = 4) {j : Nat} (hj : j < m) {r : Int × Int × (Int × Int)} (hr : r ∈ (S j).dn) (hc : r.1 ≤ g0 (S i).ck j) : kLt r.2.2 (newK (S i).pg r.2.1 (i : Int)) = true := by
  have := R j hj r hr hc
  rw [kle_iff] at this
  unfold kAt at this
  unfold kLt newK
  simp only [Bool.or_eq_true, Bool.and_eq_true, decide_eq_true_iff]
  omega
end
section
variable {m ho t i : Nat} {S : Nat → Mc}
/-- an interval ends -/
def endM (ho i : Nat) (rows : List (Int × Cl)) (x : Mc) : Mc :=
  { x with st := [], en := some x.ck, ck := wcF x.ck (i : Int) (g0 x.ck i + 1),
           dn := x.dn ++ x.st.map (fun p => (g0 x.ck i, p.1, p.2.2)),
           hs := if x.st = [] then x.hs else raF x.hs (i : Int) (g0 x.ck i),
           lt := if x.st = [] ∨ i = ho then x.lt else x.lt ++ [(g0 x.ck i, rows)] }
theorem nd4 {xs : List Int} (h : xs.Nodup) (b : ∀ x ∈ xs, 0 ≤ x ∧ x < 4) : xs.length ≤ 4 := by
  have sub : ∀ (ys zs : List Int), ys.Nodup → (∀ y ∈ ys, y ∈ zs) → ys.length ≤ zs.length := by
    intro ys
    induction ys with
    | nil => intro zs _ _; exact Nat.zero_le _
    | cons y ys ih =>
      intro zs hn hs
      rw [List.nodup_cons] at hn
      have hy := hs y List.mem_cons_self
      have := ih (zs.erase y) hn.2 (fun z hz => (List.mem_erase_of_ne (fun e => hn.1 (by rw [← e]; exact hz))).mpr (hs z (List.mem_cons_of_mem _ hz)))
      rw [List.length_erase_of_mem hy] at this
      have := List.length_pos_of_mem hy
      rw [List.length_cons]; omega
  exact sub xs [0, 1, 2, 3] h fun y hy => by
    have := b y hy
    simp only [List.mem_cons, List.not_mem_nil, or_false]
    omega
theorem Inv9.fin (I : Inv9 m ho t S) (hi : i < m) {rows : List (Int × Cl)} (hr : ∀ q, q ∈ rows ↔ q ∈ (S i).st) : Inv9 m ho (t + 1) (up S i (endM ho i rows (S i))) := by
  have O := I.o i hi
  obtain ⟨n, hn⟩ : ∃ n, g0 (S i).ck i = n := ⟨_, rfl⟩
  have ck' : ∀ k, g0 (endM ho i rows (S i)).ck k = if k = i then n + 1 else g0 (S i).ck k := fun k => by
    show g0 (wcF (S i).ck (i : Int) (g0 (S i).ck i + 1)) k = _
    rw [wc_get' _ _ _ (by rw [O.cl]; exact hi), hn]
  have hs' : ∀ k, g0 (endM ho i rows (S i)).hs k = if k = i ∧ (S i).st ≠ [] then max (g0 (S i).hs i) n else g0 (S i).hs k := fun k => by
    show g0 (if (S i).st = [] then (S i).hs else raF (S i).hs (i : Int) (g0 (S i).ck i)) k = _
    by_cases e : (S i).st = []
    · rw [if_pos e, if_neg (fun z => z.2 e)]
    · rw [if_neg e, ra_get _ _ _ (by rw [O.hl]; exact hi), hn]
      by_cases z : k = i
      · rw [if_pos z, if_pos ⟨z, e⟩]
      · rw [if_neg z, if_neg (fun y => z y.1)]
  have nwd : ∀ r ∈ (endM ho i rows (S i)).dn, r ∈ (S i).dn ∨ ∃ p ∈ (S i).st, r = (n, p.1, p.2.2) := fun r hr => by
    rcases List.mem_append.mp (show r ∈ (S i).dn ++ (S i).st.map (fun p => (g0 (S i).ck i, p.1, p.2.2)) from hr) with h | h
    · exact .inl h
    · obtain ⟨p, hp, e⟩ := List.mem_map.mp h
      exact .inr ⟨p, hp, by rw [← e, hn]⟩
  have nwl : ∀ l ∈ (endM ho i rows (S i)).lt, l ∈ (S i).lt ∨ (l = (n, rows) ∧ i ≠ ho) := fun l hl => by
    replace hl : l ∈ (if (S i).st = [] ∨ i = ho then (S i).lt else (S i).lt ++ [(g0 (S i).ck i, rows)]) := hl
    split at hl
    · exact .inl hl
    · rename_i z
      rcases List.mem_append.mp hl with h | h
      · exact .inl h
      · exact .inr ⟨by rw [List.mem_singleton.mp h, hn], fun e => z (.inr e)⟩
  have old : ∀ r, r ∈ (S i).dn → r ∈ (endM ho i rows (S i)).dn := fun r hr => List.mem_append.mpr (.inl hr)
  have ckA : ∀ j k, g0 (up S i (endM ho i rows (S i)) j).ck k = if j = i ∧ k = i then n + 1 else g0 (S j).ck k := fun j k => by
    by_cases e : j = i
    · rw [e, up_eq, ck']
      by_cases z : k = i
      · rw [if_pos z, if_pos ⟨rfl, z⟩]
      · rw [if_neg z, if_neg (fun y => z y.2)]
    · rw [up_ne _ _ e, if_neg (fun y => e y.1)]
  have ndA : ∀ j, (up S i (endM ho i rows (S i)) j).nd = (S j).nd := fun j => by
    by_cases e : j = i
    · rw [e, up_eq]; rfl
    · rw [up_ne _ _ e]
  have pgA : ∀ j, (up S i (endM ho i rows (S i)) j).pg = (S j).pg := fun j => by
    by_cases e : j = i
    · rw [e, up_eq]; rfl
    · rw [up_ne _ _ e]
  have hsA : ∀ j k, k ≠ i ∨ j ≠ i → g0 (up S i (endM ho i rows (S i)) j).hs k = g0 (S j).hs k := fun j k h => by
    by_cases e : j = i
    · rw [e, up_eq, hs', if_neg (fun z => by rcases h with h | h; exact h z.1; exact h e)]
    · rw [up_ne _ _ e]
  have stn : (S i).st.length ≤ 4 := by
    have := nd4 O.s0 (fun x hx => by
      obtain ⟨p, hp, rfl⟩ := List.mem_map.mp hx
      exact ⟨(O.s1 p hp).1, (O.s1 p hp).2.1⟩)
    rwa [List.length_map] at this
  refine ⟨fun j hj => ?_, ?_, ?_, ?_, ?_, ?_, ?_, ?_, ?_, ?_⟩
  · by_cases e : j = i
    · rw [e, up_eq]
      refine ⟨O.pl, O.nl, ?_, ?_, ?_, List.nodup_nil, (fun p hp => nomatch hp), ?_, ?_, ?_, ?_, ?_, ?_, ?_, O.nn⟩
      · show (if (S i).st = [] then (S i).hs else raF (S i).hs (i : Int) (g0 (S i).ck i)).length = m
        split
        · exact O.hl
        · rw [ra_len]; exact O.hl
      · show (wcF (S i).ck (i : Int) (g0 (S i).ck i + 1)).length = m
        rw [wc_len]; exact O.cl
      · intro e' he
        cases he
        exact O.cl
      · intro r hr'
        rw [ck', if_pos rfl]
        rcases nwd r hr' with h | ⟨p, hp, rfl⟩
        · obtain ⟨b1, b2, b3, b4⟩ := O.d0 r h
          rw [hn] at b3
          exact ⟨b1, b2, by omega, b4⟩
        · obtain ⟨b1, b2, b3⟩ := O.s1 p hp
          exact ⟨b1, b2, by simp only; omega, b3⟩
      · intro k
        rw [hs']
        split
        · have := O.h0 i; omega
        · exact O.h0 k
      · show (if (S i).st = [] ∨ i = ho then (S i).lt else (S i).lt ++ [(g0 (S i).ck i, rows)]).Pairwise _
        split
        · exact O.la
        · refine List.pairwise_append.mpr ⟨O.la, List.pairwise_singleton _ _, fun a ha b hb => ?_⟩
          rw [List.mem_singleton.mp hb]
          exact (O.lb a ha).1
      · intro l hl
        rw [ck', if_pos rfl]
        rcases nwl l hl with h | ⟨rfl, _⟩
        · obtain ⟨b1, b2⟩ := O.lb l h
          rw [hn] at b1
          exact ⟨by omega, b2⟩
        · refine ⟨by simp only; omega, fun q hq => ?_⟩
          obtain ⟨b1, b2, _⟩ := O.s1 q ((hr q).mp hq)
          exact ⟨b1, b2⟩
      · rw [ck', if_pos rfl]
        have := O.c1
        rw [hn] at this
        omega
      · show ((S i).dn ++ (S i).st.map _).length ≤ _
        rw [List.length_append, List.length_map]
        have := O.z1
        omega
      · show (if (S i).st = [] ∨ i = ho then (S i).lt else (S i).lt ++ [(g0 (S i).ck i, rows)]).length ≤ _
        have := O.z2
        split
        · omega
        · rw [List.length_append, List.length_singleton]; omega
    · rw [up_ne _ _ e]; exact (I.o j hj).mono (Nat.le_succ _)
  · intro a b ha hb hne
    rw [ckA, ckA]
    have := I.c3 a b ha hb hne
    by_cases eb : b = i
    · rw [if_neg (fun z => hne (z.1.trans eb.symm)), if_pos ⟨eb, eb⟩]
      rw [eb, hn] at this
      rw [eb]; omega
    · rw [if_neg (fun z => eb z.2), if_neg (fun z => eb z.1)]; exact this
  · intro a b e ha hb he
    rw [ckA]
    by_cases ea : a = i
    · rw [ea, up_eq] at he
      cases he
      by_cases eb : b = i
      · rw [if_pos ⟨eb, eb⟩, eb, hn]; omega
      · rw [if_neg (fun z => eb z.1)]
        exact I.c3 i b hi hb (Ne.symm eb)
    · rw [up_ne _ _ ea] at he
      have := I.e3 a b e ha hb he
      by_cases eb : b = i
      · rw [if_pos ⟨eb, eb⟩]
        rw [eb, hn] at this
        rw [eb]; omega
      · rw [if_neg (fun z => eb z.1)]; exact this
  · intro a b ha hb hne r hr' hc
    rw [ndA]
    rw [ckA] at hc
    by_cases eb : b = i
    · rw [eb, up_eq] at hr'
      rw [if_neg (fun z => hne (z.1.trans eb.symm))] at hc
      rw [eb] at hc hne ⊢
      rcases nwd r hr' with h | ⟨p, hp, rfl⟩
      · exact I.a a i ha hi hne r h hc
      · have := I.c3 a i ha hi hne
        rw [hn] at this
        simp only at hc
        omega
    · rw [up_ne _ _ eb] at hr'
      rw [if_neg (fun z => eb z.2)] at hc
      exact I.a a b ha hb hne r hr' hc
  · intro a b ha hb
    have := I.h5 a b ha hb
    rw [ckA]
    by_cases eb : b = i
    · rw [if_pos ⟨eb, eb⟩]
      by_cases ea : a = i
      · rw [ea, eb, up_eq, hs']
        rw [ea, eb, hn] at this
        split <;> omega
      · rw [hsA a b (.inr ea)]
        rw [eb, hn] at this
        rw [eb]; omega
    · rw [hsA a b (.inl eb), if_neg (fun z => eb z.1)]; exact this
  · intro a b ha hb hne r hr' hc
    rw [pgA]
    by_cases eb : b = i
    · rw [hsA a b (.inr (fun z => hne (z.trans eb.symm)))] at hc
      rw [eb, up_eq] at hr'
      rw [eb] at hc hne
      rcases nwd r hr' with h | ⟨p, hp, rfl⟩
      · exact I.c a i ha hi hne r h hc
      · have := I.h5 a i ha hi
        rw [hn] at this
        simp only at hc
        omega
    · rw [up_ne _ _ eb] at hr'
      rw [hsA a b (.inl eb)] at hc
      exact I.c a b ha hb hne r hr' hc
  · intro j hj hne r hr'
    by_cases ej : j = i
    · rw [ej, up_eq] at hr' ⊢
      rw [ej] at hne
      rw [hsA ho i (.inr (Ne.symm hne))]
      rcases nwd r hr' with h | ⟨p, hp, rfl⟩
      · rcases I.l4 i hi hne r h with z | ⟨l, hl, z⟩
        · exact .inl z
        · refine .inr ⟨l, ?_, z⟩
          show l ∈ (if (S i).st = [] ∨ i = ho then (S i).lt else (S i).lt ++ [(g0 (S i).ck i, rows)])
          split
          · exact hl
          · exact List.mem_append.mpr (.inl hl)
      · refine .inr ⟨(n, rows), ?_, rfl, p.2.1, ?_⟩
        · show _ ∈ (if (S i).st = [] ∨ i = ho then (S i).lt else (S i).lt ++ [(g0 (S i).ck i, rows)])
          rw [if_neg (fun z => by
            rcases z with z | z
            · rw [z] at hp; cases hp
            · exact hne z), hn]
          exact List.mem_append.mpr (.inr (List.mem_singleton.mpr rfl))
        · exact (hr p).mpr hp
    · rw [up_ne _ _ ej] at hr' ⊢
      rw [hsA ho j (.inl ej)]
      exact I.l4 j hj hne r hr'
  · by_cases e : ho = i
    · subst e
      rw [up_eq]
      show (if (S ho).st = [] ∨ ho = ho then (S ho).lt else _) = []
      rw [if_pos (.inr rfl)]
      exact I.lh
    · rw [up_ne _ _ e]; exact I.lh
  · intro a b ha hb hne
    rw [ndA]
    rcases I.n0 a b ha hb hne with z | ⟨r, hr', z⟩
    · exact .inl z
    · refine .inr ⟨r, ?_, z⟩
      by_cases eb : b = i
      · rw [eb, up_eq]
        rw [eb] at hr'
        exact old r hr'
      · rw [up_ne _ _ eb]; exact hr'
  · intro r hr'
    by_cases e : ho = i
    · subst e
      rw [up_eq] at hr' ⊢
      rw [hs']
      rcases nwd r hr' with h | ⟨p, hp, rfl⟩
      · have := I.hh r h
        split <;> omega
      · rw [if_pos ⟨rfl, fun z => by rw [z] at hp; cases hp⟩]
        simp only; omega
    · rw [up_ne _ _ e] at hr' ⊢
      exact I.hh r hr'
/-- a clock is taken over, the needs follow -/
theorem Inv9.take (I : Inv9 m ho t S) (hi : i < m) {ck nd : List Int} (l1 : ck.length = m) (l2 : nd.length = m) (c1 : g0 ck i = g0 (S i).ck i) (c2 : ∀ j, j < m → j ≠ i → g0 ck j < g0 (S j).ck j)
    (n3 : g0 nd i = 0) (n1 : ∀ j, j < m → j ≠ i → ∀ r ∈ (S j).dn, r.1 ≤ g0 ck j → r.1 ≤ g0 nd j) (n2 : ∀ j, j < m → j ≠ i → g0 nd j = 0 ∨ ∃ r ∈ (S j).dn, r.1 = g0 nd j) : Inv9 m ho t (up S i { S i with ck := ck, nd := nd }) := by
  have O := I.o i hi
  have eq : ∀ j, (up S i { S i with ck := ck, nd := nd } j).pg = (S j).pg ∧ (up S i { S i with ck := ck, nd := nd } j).hs = (S j).hs ∧ (up S i { S i with ck := ck, nd := nd } j).st = (S j).st ∧ (up S i { S i with ck := ck, nd := nd } j).lt = (S j).lt ∧ (up S i { S i with ck := ck, nd := nd } j).dn = (S j).dn ∧ (up S i { S i with ck := ck, nd := nd } j).en = (S j).en := fun j => by
    unfold up
    by_cases e : j = i
    · rw [if_pos e, e]; exact ⟨rfl, rfl, rfl, rfl, rfl, rfl⟩
    · rw [if_neg e]; exact ⟨rfl, rfl, rfl, rfl, rfl, rfl⟩
  have own : ∀ j, g0 (up S i { S i with ck := ck, nd := nd } j).ck j = g0 (S j).ck j := fun j => by
    by_cases e : j = i
    · rw [e, up_eq]; exact c1
    · rw [up_ne _ _ e]
  refine ⟨fun j hj => ?_, ?_, ?_, ?_, ?_, ?_, ?_, ?_, ?_, ?_⟩
  · by_cases e : j = i
    · rw [e, up_eq]
      exact ⟨O.pl, l2, O.hl, l1, O.el, O.s0, O.s1, fun r hr => by rw [show g0 ({ S i with ck := ck, nd := nd } : Mc).ck i = g0 (S i).ck i from c1]; exact O.d0 r hr, O.h0, O.la, fun l hl => by rw [show g0 ({ S i with ck := ck, nd := nd } : Mc).ck i = g0 (S i).ck i from c1]; exact O.lb l hl, by rw [show g0 ({ S i with ck := ck, nd := nd } : Mc).ck i = g0 (S i).ck i from c1]; exact O.c1, O.z1, O.z2, n3⟩
    · rw [up_ne _ _ e]; exact I.o j hj
  · intro a b ha hb hne
    rw [own]
    by_cases e : a = i
    · rw [e, up_eq]
      exact c2 b hb (fun z => hne (e.trans z.symm))
    · rw [up_ne _ _ e]; exact I.c3 a b ha hb hne
  · intro a b e ha hb he
    rw [own]
    rw [(eq a).2.2.2.2.2] at he
    exact I.e3 a b e ha hb he
  · intro a b ha hb hne r hr hc
    rw [(eq b).2.2.2.2.1] at hr
    by_cases e : a = i
    · rw [e, up_eq] at hc ⊢
      exact n1 b hb (fun z => hne (e.trans z.symm)) r hr hc
    · rw [up_ne _ _ e] at hc ⊢
      exact I.a a b ha hb hne r hr hc
  · intro a b ha hb
    rw [(eq a).2.1, own]
    exact I.h5 a b ha hb
  · intro a b; rw [(eq a).2.1, (eq b).2.2.2.2.1, (eq a).1]; exact I.c a b
  · intro j; rw [(eq j).2.2.2.2.1, (eq j).2.2.2.1, (eq ho).2.1]; exact I.l4 j
  · rw [(eq ho).2.2.2.1]; exact I.lh
  · intro a b ha hb hne
    rw [(eq b).2.2.2.2.1]
    by_cases e : a = i
    · rw [e, up_eq]
      exact n2 b hb (fun z => hne (e.trans z.symm))
    · rw [up_ne _ _ e]; exact I.n0 a b ha hb hne
  · rw [(eq ho).2.2.2.2.1, (eq ho).2.1]; exact I.hh
/-- what a machine has grows, and its copy -/
theorem Inv9.get (I : Inv9 m ho t S) (hi : i < m) {cs : List Cl} {hs : List Int} (l1 : cs.length = 4) (l2 : hs.length = m) (g : ∀ p, kle (kAt (S i).pg p) (kAt cs p)) (h0 : ∀ k, g0 (S i).hs k ≤ g0 hs k) (h1 : ∀ k, k < m → g0 hs k < g0 (S k).ck k)
    (h2 : ∀ j, j < m → j ≠ i → ∀ r ∈ (S j).dn, r.1 ≤ g0 hs j → kle r.2.2 (kAt cs r.2.1.toNat)) : Inv9 m ho t (up S i { S i with pg := cs, hs := hs }) := by
  have I1 := I.pgs hi l1 g
  have O := I1.o i hi
  rw [up_eq] at O
  have eS : up S i { S i with pg := cs, hs := hs } = up (up S i { S i with pg := cs }) i { up S i { S i with pg := cs } i with hs := hs } := by
    funext j
    rw [up_eq]
    unfold up
    by_cases z : j = i
    · rw [if_pos z, if_pos z]
    · rw [if_neg z, if_neg z, if_neg z]
  have pgi : (up S i { S i with pg := cs } i).pg = cs := by rw [up_eq]
  have hsi : (up S i { S i with pg := cs } i).hs = (S i).hs := by rw [up_eq]
  have dn1 : ∀ j, (up S i { S i with pg := cs } j).dn = (S j).dn ∧ (up S i { S i with pg := cs } j).ck = (S j).ck := fun j => by
    unfold up
    by_cases e : j = i
    · rw [if_pos e, e]; exact ⟨rfl, rfl⟩
    · rw [if_neg e]; exact ⟨rfl, rfl⟩
  rw [eS]
  clear eS
  generalize hT : up S i { S i with pg := cs } = T at *
  have eq : ∀ j, (up T i { T i with hs := hs } j).pg = (T j).pg ∧ (up T i { T i with hs := hs } j).nd = (T j).nd ∧ (up T i { T i with hs := hs } j).st = (T j).st ∧ (up T i { T i with hs := hs } j).lt = (T j).lt ∧ (up T i { T i with hs := hs } j).dn = (T j).dn ∧ (up T i { T i with hs := hs } j).en = (T j).en ∧ (up T i { T i with hs := hs } j).ck = (T j).ck := fun j => by
    unfold up
    by_cases e : j = i
    · rw [if_pos e, e]; exact ⟨rfl, rfl, rfl, rfl, rfl, rfl, rfl⟩
    · rw [if_neg e]; exact ⟨rfl, rfl, rfl, rfl, rfl, rfl, rfl⟩
  have hm : ∀ j k, g0 (T j).hs k ≤ g0 (up T i { T i with hs := hs } j).hs k := fun j k => by
    by_cases e : j = i
    · rw [e, up_eq, hsi]; exact h0 k
    · rw [up_ne _ _ e]; exact Int.le_refl _
  refine ⟨fun j hj => ?_, ?_, ?_, ?_, ?_, ?_, ?_, ?_, ?_, ?_⟩
  · have Oj := I1.o j hj
    by_cases e : j = i
    · rw [e, up_eq]
      rw [e] at Oj
      exact ⟨Oj.pl, Oj.nl, l2, Oj.cl, Oj.el, Oj.s0, Oj.s1, Oj.d0, fun k => Int.le_trans (Oj.h0 k) (by rw [hsi]; exact h0 k), Oj.la, Oj.lb, Oj.c1, Oj.z1, Oj.z2, Oj.nn⟩
    · rw [up_ne _ _ e]; exact Oj
  · intro a b; rw [(eq a).2.2.2.2.2.2, (eq b).2.2.2.2.2.2]; exact I1.c3 a b
  · intro a b; rw [(eq a).2.2.2.2.2.1, (eq b).2.2.2.2.2.2]; exact I1.e3 a b
  · intro a b; rw [(eq a).2.2.2.2.2.2, (eq a).2.1, (eq b).2.2.2.2.1]; exact I1.a a b
  · intro a b ha hb
    rw [(eq b).2.2.2.2.2.2]
    by_cases e : a = i
    · rw [e, up_eq, (dn1 b).2]; exact h1 b hb
    · rw [up_ne _ _ e]; exact I1.h5 a b ha hb
  · intro a b ha hb hne r hr hc
    rw [(eq a).1]
    rw [(eq b).2.2.2.2.1] at hr
    by_cases e : a = i
    · rw [e, up_eq] at hc
      rw [(dn1 b).1] at hr
      rw [e, pgi]
      exact h2 b hb (fun z => hne (e.trans z.symm)) r hr hc
    · rw [up_ne _ _ e] at hc
      exact I1.c a b ha hb hne r hr hc
  · intro j hj hne r hr
    rw [(eq j).2.2.2.2.1] at hr
    rw [(eq j).2.2.2.1]
    rcases I1.l4 j hj hne r hr with z | z
    · exact .inl (Int.le_trans z (hm ho j))
    · exact .inr z
  · rw [(eq ho).2.2.2.1]; exact I1.lh
  · intro a b; rw [(eq a).2.1, (eq b).2.2.2.2.1]; exact I1.n0 a b
  · intro r hr
    rw [(eq ho).2.2.2.2.1] at hr
    exact Int.le_trans (I1.hh r hr) (hm ho ho)
/-- letters are taken away -/
theorem Inv9.lts (I : Inv9 m ho t S) (hi : i < m) {ls : List (Int × List (Int × Cl))} (s : ls.Sublist (S i).lt) (h4 : i ≠ ho → ∀ r ∈ (S i).dn, r.1 ≤ g0 (S ho).hs i ∨ ∃ l ∈ ls, l.1 = r.1 ∧ ∃ v, (r.2.1, v, r.2.2) ∈ l.2) : Inv9 m ho t (up S i { S i with lt := ls }) := by
  have eq : ∀ j, (up S i { S i with lt := ls } j).pg = (S j).pg ∧ (up S i { S i with lt := ls } j).nd = (S j).nd ∧ (up S i { S i with lt := ls } j).hs = (S j).hs ∧ (up S i { S i with lt := ls } j).st = (S j).st ∧ (up S i { S i with lt := ls } j).dn = (S j).dn ∧ (up S i { S i with lt := ls } j).en = (S j).en ∧ (up S i { S i with lt := ls } j).ck = (S j).ck := fun j => by
    unfold up
    by_cases e : j = i
    · rw [if_pos e, e]; exact ⟨rfl, rfl, rfl, rfl, rfl, rfl, rfl⟩
    · rw [if_neg e]; exact ⟨rfl, rfl, rfl, rfl, rfl, rfl, rfl⟩
  refine ⟨fun j hj => ?_, ?_, ?_, ?_, ?_, ?_, ?_, ?_, ?_, ?_⟩
  · have O := I.o j hj
    by_cases e : j = i
    · rw [e, up_eq]
      rw [e] at O
      exact ⟨O.pl, O.nl, O.hl, O.cl, O.el, O.s0, O.s1, O.d0, O.h0, O.la.sublist s, fun l hl => O.lb l (s.subset hl), O.c1, O.z1, Nat.le_trans s.length_le O.z2, O.nn⟩
    · rw [up_ne _ _ e]; exact O
  · intro a b; rw [(eq a).2.2.2.2.2.2, (eq b).2.2.2.2.2.2]; exact I.c3 a b
  · intro a b; rw [(eq a).2.2.2.2.2.1, (eq b).2.2.2.2.2.2]; exact I.e3 a b
  · intro a b; rw [(eq a).2.2.2.2.2.2, (eq a).2.1, (eq b).2.2.2.2.1]; exact I.a a b
  · intro a b; rw [(eq a).2.2.1, (eq b).2.2.2.2.2.2]; exact I.h5 a b
  · intro a b; rw [(eq a).2.2.1, (eq b).2.2.2.2.1, (eq a).1]; exact I.c a b
  · intro j hj hne r hr
    rw [(eq j).2.2.2.2.1] at hr
    rw [(eq ho).2.2.1]
    by_cases e : j = i
    · rw [e, up_eq]
      rw [e] at hr hne
      exact h4 hne r hr
    · rw [up_ne _ _ e]; exact I.l4 j hj hne r hr
  · by_cases e : ho = i
    · subst e
      rw [up_eq]
      have := s
      rw [I.lh] at this
      exact List.sublist_nil.mp this
    · rw [up_ne _ _ e]; exact I.lh
  · intro a b; rw [(eq a).2.1, (eq b).2.2.2.2.1]; exact I.n0 a b
  · rw [(eq ho).2.2.2.2.1, (eq ho).2.2.1]; exact I.hh
/-- a letter comes to the home -/
theorem Inv9.arr (I : Inv9 m ho t S) (hi : i < m) (hh : ho < m) {n : Int} {rows : List (Int × Cl)} {ls : List (Int × List (Int × Cl))} (e : (S i).lt = (n, rows) :: ls) :
    Inv9 m ho t (up (up S ho { S ho with pg := mgAll (S ho).pg rows, hs := raF (S ho).hs (i : Int) n }) i { up S ho { S ho with pg := mgAll (S ho).pg rows, hs := raF (S ho).hs (i : Int) n } i with lt := ls }) := by
  have ne : i ≠ ho := fun z => by rw [z, I.lh] at e; cases e
  have O := I.o i hi
  have Oh := I.o ho hh
  have hla := O.la
  rw [e, List.pairwise_cons] at hla
  have hlb := O.lb (n, rows) (by rw [e]; exact List.mem_cons_self)
  have rg : ∀ k, g0 (raF (S ho).hs (i : Int) n) k = if k = i then max (g0 (S ho).hs i) n else g0 (S ho).hs k := fun k => ra_get _ _ _ (by rw [Oh.hl]; exact hi) k
  have I1 := I.get hh (cs := mgAll (S ho).pg rows) (hs := raF (S ho).hs (i : Int) n) (by rw [mgAll_len]; exact Oh.pl) (by rw [ra_len]; exact Oh.hl) (fun p => mgAll_up rows p _) (fun k => by
      rw [rg]
      split
      · rename_i z; rw [z]; omega
      · exact Int.le_refl _) (fun k hk => by
      rw [rg]
      split
      · rename_i z
        have := I.h5 ho i hh hi
        rw [z]
        have := hlb.1
        simp only at this
        omega
      · exact I.h5 ho k hh hk) (fun j hj hne r hr hc => by
      rw [rg] at hc
      have oldc : r.1 ≤ g0 (S ho).hs j → kle r.2.2 (kAt (mgAll (S ho).pg rows) r.2.1.toNat) := fun z => kle_trans (I.c ho j hh hj (Ne.symm hne) r hr z) (mgAll_up rows _ _)
      by_cases z : j = i
      · rw [if_pos z] at hc
        rw [z] at hr hne oldc
        rcases I.l4 i hi hne r hr with y | ⟨l, hl, el, v, hv⟩
        · exact oldc y
        · rw [e] at hl
          rcases List.mem_cons.mp hl with y | y
          · rw [y] at hv
            obtain ⟨b1, b2, _, _⟩ := O.d0 r hr
            exact mgAll_has rows _ _ hv b1 (by rw [Oh.pl]; exact b2)
          · by_cases w : r.1 ≤ g0 (S ho).hs i
            · exact oldc w
            · have := hla.1 l y
              simp only at this
              omega
      · rw [if_neg z] at hc
        exact oldc hc)
  refine I1.lts hi (ls := ls) (by rw [up_ne _ _ ne, e]; exact List.sublist_cons_self _ _) (fun _ r hr => ?_)
  rw [up_eq]
  rw [up_ne _ _ ne] at hr
  show r.1 ≤ g0 (raF (S ho).hs (i : Int) n) i ∨ _
  rw [rg, if_pos rfl]
  rcases I.l4 i hi ne r hr with y | ⟨l, hl, el, hv⟩
  · exact .inl (by omega)
  · rw [e] at hl
    rcases List.mem_cons.mp hl with y | y
    · rw [y] at el
      simp only at el
      exact .inl (by omega)
    · exact .inr ⟨l, y, el, hv⟩
/-- an ask is answered -/
theorem Inv9.ask (I : Inv9 m ho t S) (hi : i < m) (hh : ho < m) (ne : i ≠ ho) (f : Fr m (S i).nd (S ho).hs ho) :
    Inv9 m ho t (up S i { S i with pg := mgAll (S i).pg (rwsF (S ho).pg), hs := mxF (S i).hs (S ho).hs }) ∧ Fr m (S i).nd (mxF (S i).hs (S ho).hs) i := by
  have O := I.o i hi
  have Oh := I.o ho hh
  have mg : ∀ k, g0 (mxF (S i).hs (S ho).hs) k = max (g0 (S i).hs k) (g0 (S ho).hs k) := fun k => mx_get _ _ (by rw [O.hl, Oh.hl]) k
  refine ⟨I.get hi (by rw [mgAll_len]; exact O.pl) (by rw [mx_len _ _ (by rw [O.hl, Oh.hl])]; exact O.hl) (fun p => mgAll_up _ p _) (fun k => by rw [mg]; omega) (fun k hk => by
      rw [mg]
      have h1 := I.h5 i k hi hk
      have h2 := I.h5 ho k hh hk
      omega) (fun j hj hne r hr hc => ?_), fun j hj hne => ?_⟩
  · rw [mg] at hc
    obtain ⟨b1, b2, _, b4⟩ := (I.o j hj).d0 r hr
    by_cases w : r.1 ≤ g0 (S i).hs j
    · exact kle_trans (I.c i j hi hj (Ne.symm hne) r hr w) (mgAll_up _ _ _)
    · have hc' : r.1 ≤ g0 (S ho).hs j := by omega
      have kh : kle r.2.2 (kAt (S ho).pg r.2.1.toNat) := by
        by_cases z : j = ho
        · rw [z] at b4; exact b4
        · exact I.c ho j hh hj (Ne.symm z) r hr hc'
      have hm : (r.2.1, (S ho).pg.getD r.2.1.toNat c0) ∈ rwsF (S ho).pg := by
        rw [rws_eq _ Oh.pl]
        exact List.mem_map.mpr ⟨r.2.1.toNat, List.mem_range.mpr (by omega), by rw [Int.toNat_of_nonneg b1]⟩
      exact kle_trans kh (mgAll_has _ (S i).pg _ hm b1 (by rw [O.pl]; exact b2))
  · rw [mg]
    by_cases z : j = ho
    · rw [z]
      rcases I.n0 i ho hi hh ne with y | ⟨r, hr, y⟩
      · have := Oh.h0 ho; omega
      · have := I.hh r hr; omega
    · have := f j hj z; omega
end
/-! ### the machines on the heap -/
inductive Rl where
  | tm
  | mc (i : Nat)
  | pg (i : Nat)
  | hl (i : Nat)
  | st (i : Nat)
  | lt (i : Nat)
  | dn (i : Nat)
  deriving DecidableEq
def dom (m : Nat) : Rl → Prop
  | .tm => True
  | .mc i => i < m
  | .pg i => i < m
  | .hl i => i < m
  | .st i => i < m
  | .lt i => i < m
  | .dn i => i < m
abbrev dnD (r : Int × Int × (Int × Int)) : PyData := .tuple [.int r.1, .int r.2.1, kD r.2.2]
abbrev ltD (l : Int × List (Int × Cl)) : PyData := .tuple [.int l.1, .tuple (l.2.map rwD)]
abbrev stL (s : List (Int × Cl)) : List (Key × MV) := s.map fun p => (.inl p.1, .d (cD p.2))
def cont (m : Nat) (loc : Rl → Nat) (S : Nat → Mc) : Rl → Ob
  | .tm => .lst ((List.range m).map fun i => .ref (loc (.mc i)))
  | .mc i => .dct (mcL (dI (i : Nat)) (.ref (loc (.pg i))) (.ref (loc (.hl i))) (.ref (loc (.st i))) (.d (ti (S i).ck)) (.ref (loc (.lt i))) (.ref (loc (.dn i))) (S i).en)
  | .pg i => pgM (S i).pg
  | .hl i => hd (S i).nd (S i).hs
  | .st i => .dct (stL (S i).st)
  | .lt i => .lst ((S i).lt.map fun l => .d (ltD l))
  | .dn i => .lst ((S i).dn.map fun r => .d (dnD r))
abbrev LL (m : Nat) (loc : Rl → Nat) (S : Nat → Mc) (h : MH) : Prop := Lay (dom m) loc (cont m loc S) h
section
variable {m i : Nat} {loc : Rl → Nat} {S : Nat → Mc} {h : MH}
theorem LL.a_mc (L : LL m loc S h) (hi : i < m) : h[loc (.mc i)]? = some (.dct (mcL (dI (i : Nat)) (.ref (loc (.pg i))) (.ref (loc (.hl i))) (.ref (loc (.st i))) (.d (ti (S i).ck)) (.ref (loc (.lt i))) (.ref (loc (.dn i))) (S i).en)) := L.at_ (.mc i) hi
theorem LL.a_pg (L : LL m loc S h) (hi : i < m) : h[loc (.pg i)]? = some (pgM (S i).pg) := L.at_ (.pg i) hi
theorem LL.a_hl (L : LL m loc S h) (hi : i < m) : h[loc (.hl i)]? = some (hd (S i).nd (S i).hs) := L.at_ (.hl i) hi
theorem LL.a_st (L : LL m loc S h) (hi : i < m) : h[loc (.st i)]? = some (.dct (stL (S i).st)) := L.at_ (.st i) hi
theorem LL.a_lt (L : LL m loc S h) (hi : i < m) : h[loc (.lt i)]? = some (.lst ((S i).lt.map fun l => .d (ltD l))) := L.at_ (.lt i) hi
theorem LL.a_dn (L : LL m loc S h) (hi : i < m) : h[loc (.dn i)]? = some (.lst ((S i).dn.map fun r => .d (dnD r))) := L.at_ (.dn i) hi
theorem LL.a_tm (L : LL m loc S h) : h[loc .tm]? = some (.lst ((List.range m).map fun i => .ref (loc (.mc i)))) := L.at_ .tm trivial
/-- one part is changed -/
theorem LL.pgs (L : LL m loc S h) (hi : i < m) (cs : List Cl) : LL m loc (up S i { S i with pg := cs }) (h.set (loc (.pg i)) (pgM cs)) :=
  L.set (r := .pg i) hi (by simp only [cont, up_eq]) fun s _ hn => by
    cases s with
    | tm => rfl
    | pg j => have : j ≠ i := fun e => hn (by rw [e]); simp only [cont, up_ne _ _ this]
    | mc j => by_cases e : j = i <;> first | (subst e; simp only [cont, up_eq]; done) | simp only [cont, up_ne _ _ e]
    | hl j => by_cases e : j = i <;> first | (subst e; simp only [cont, up_eq]; done) | simp only [cont, up_ne _ _ e]
    | st j => by_cases e : j = i <;> first | (subst e; simp only [cont, up_eq]; done) | simp only [cont, up_ne _ _ e]
    | lt j => by_cases e : j = i <;> first | (subst e; simp only [cont, up_eq]; done) | simp only [cont, up_ne _ _ e]
    | dn j => by_cases e : j = i <;> first | (subst e; simp only [cont, up_eq]; done) | simp only [cont, up_ne _ _ e]
theorem LL.hls (L : LL m loc S h) (hi : i < m) (nd hs : List Int) : LL m loc (up S i { S i with nd := nd, hs := hs }) (h.set (loc (.hl i)) (hd nd hs)) :=
  L.set (r := .hl i) hi (by simp only [cont, up_eq]) fun s _ hn => by
    cases s with
    | tm => rfl
    | hl j => have : j ≠ i := fun e => hn (by rw [e]); simp only [cont, up_ne _ _ this]
    | mc j => by_cases e : j = i <;> first | (subst e; simp only [cont, up_eq]; done) | simp only [cont, up_ne _ _ e]
    | pg j => by_cases e : j = i <;> first | (subst e; simp only [cont, up_eq]; done) | simp only [cont, up_ne _ _ e]
    | st j => by_cases e : j = i <;> first | (subst e; simp only [cont, up_eq]; done) | simp only [cont, up_ne _ _ e]
    | lt j => by_cases e : j = i <;> first | (subst e; simp only [cont, up_eq]; done) | simp only [cont, up_ne _ _ e]
    | dn j => by_cases e : j = i <;> first | (subst e; simp only [cont, up_eq]; done) | simp only [cont, up_ne _ _ e]
theorem LL.sts (L : LL m loc S h) (hi : i < m) (x : List (Int × Cl)) : LL m loc (up S i { S i with st := x }) (h.set (loc (.st i)) (.dct (stL x))) :=
  L.set (r := .st i) hi (by simp only [cont, up_eq]) fun s _ hn => by
    cases s with
    | tm => rfl
    | st j => have : j ≠ i := fun e => hn (by rw [e]); simp only [cont, up_ne _ _ this]
    | mc j => by_cases e : j = i <;> first | (subst e; simp only [cont, up_eq]; done) | simp only [cont, up_ne _ _ e]
    | pg j => by_cases e : j = i <;> first | (subst e; simp only [cont, up_eq]; done) | simp only [cont, up_ne _ _ e]
    | hl j => by_cases e : j = i <;> first | (subst e; simp only [cont, up_eq]; done) | simp only [cont, up_ne _ _ e]
    | lt j => by_cases e : j = i <;> first | (subst e; simp only [cont, up_eq]; done) | simp only [cont, up_ne _ _ e]
    | dn j => by_cases e : j = i <;> first | (subst e; simp only [cont, up_eq]; done) | simp only [cont, up_ne _ _ e]
theorem LL.lts (L : LL m loc S h) (hi : i < m) (x : List (Int × List (Int × Cl))) : LL m loc (up S i { S i with lt := x }) (h.set (loc (.lt i)) (.lst (x.map fun l => .d (ltD l)))) :=
  L.set (r := .lt i) hi (by simp only [cont, up_eq]) fun s _ hn => by
    cases s with
    | tm => rfl
    | lt j => have : j ≠ i := fun e => hn (by rw [e]); simp only [cont, up_ne _ _ this]
    | mc j => by_cases e : j = i <;> first | (subst e; simp only [cont, up_eq]; done) | simp only [cont, up_ne _ _ e]
    | pg j => by_cases e : j = i <;> first | (subst e; simp only [cont, up_eq]; done) | simp only [cont, up_ne _ _ e]
    | hl j => by_cases e : j = i <;> first | (subst e; simp only [cont, up_eq]; done) | simp only [cont, up_ne _ _ e]
    | st j => by_cases e : j = i <;> first | (subst e; simp only [cont, up_eq]; done) | simp only [cont, up_ne _ _ e]
    | dn j => by_cases e : j = i <;> first | (subst e; simp only [cont, up_eq]; done) | simp only [cont, up_ne _ _ e]
theorem LL.dns (L : LL m loc S h) (hi : i < m) (x : List (Int × Int × (Int × Int))) : LL m loc (up S i { S i with dn := x }) (h.set (loc (.dn i)) (.lst (x.map fun r => .d (dnD r)))) :=
  L.set (r := .dn i) hi (by simp only [cont, up_eq]) fun s _ hn => by
    cases s with
    | tm => rfl
    | dn j => have : j ≠ i := fun e => hn (by rw [e]); simp only [cont, up_ne _ _ this]
    | mc j => by_cases e : j = i <;> first | (subst e; simp only [cont, up_eq]; done) | simp only [cont, up_ne _ _ e]
    | pg j => by_cases e : j = i <;> first | (subst e; simp only [cont, up_eq]; done) | simp only [cont, up_ne _ _ e]
    | hl j => by_cases e : j = i <;> first | (subst e; simp only [cont, up_eq]; done) | simp only [cont, up_ne _ _ e]
    | st j => by_cases e : j = i <;> first | (subst e; simp only [cont, up_eq]; done) | simp only [cont, up_ne _ _ e]
    | lt j => by_cases e : j = i <;> first | (subst e; simp only [cont, up_eq]; done) | simp only [cont, up_ne _ _ e]
theorem LL.cks (L : LL m loc S h) (hi : i < m) (ck : List Int) (en : Option (List Int)) : LL m loc (up S i { S i with ck := ck, en := en }) (h.set (loc (.mc i)) (.dct (mcL (dI (i : Nat)) (.ref (loc (.pg i))) (.ref (loc (.hl i))) (.ref (loc (.st i))) (.d (ti ck)) (.ref (loc (.lt i))) (.ref (loc (.dn i))) en))) :=
  L.set (r := .mc i) hi (by simp only [cont, up_eq]) fun s _ hn => by
    cases s with
    | tm => rfl
    | mc j => have : j ≠ i := fun e => hn (by rw [e]); simp only [cont, up_ne _ _ this]
    | dn j => by_cases e : j = i <;> first | (subst e; simp only [cont, up_eq]; done) | simp only [cont, up_ne _ _ e]
    | pg j => by_cases e : j = i <;> first | (subst e; simp only [cont, up_eq]; done) | simp only [cont, up_ne _ _ e]
    | hl j => by_cases e : j = i <;> first | (subst e; simp only [cont, up_eq]; done) | simp only [cont, up_ne _ _ e]
    | st j => by_cases e : j = i <;> first | (subst e; simp only [cont, up_eq]; done) | simp only [cont, up_ne _ _ e]
    | lt j => by_cases e : j = i <;> first | (subst e; simp only [cont, up_eq]; done) | simp only [cont, up_ne _ _ e]
/-- a new dict of what is stored -/
def newSt (loc : Rl → Nat) (i n : Nat) : Rl → Nat := fun r => if r = .st i then n else loc r
theorem LL.news (L : LL m loc S h) (hi : i < m) : LL m (newSt loc i h.length) (up S i { S i with st := [] }) ((h ++ [Ob.dct []]).set (loc (.mc i)) (.dct (mcL (dI (i : Nat)) (.ref (loc (.pg i))) (.ref (loc (.hl i))) (.ref h.length) (.d (ti (S i).ck)) (.ref (loc (.lt i))) (.ref (loc (.dn i))) (S i).en))) := by
  have ls : newSt loc i h.length (.st i) = h.length := by unfold newSt; rw [if_pos rfl]
  have lo : ∀ r, r ≠ .st i → newSt loc i h.length r = loc r := fun r z => by unfold newSt; rw [if_neg z]
  refine ⟨fun r s hr hs e => ?_, fun r hr => ?_⟩
  · by_cases a : r = .st i
    · by_cases b : s = .st i
      · rw [a, b]
      · rw [a, ls, lo s b] at e
        have := L.lt hs
        omega
    · by_cases b : s = .st i
      · rw [b, ls, lo r a] at e
        have := L.lt hr
        omega
      · rw [lo r a, lo s b] at e
        exact L.inj r s hr hs e
  · have hl := L.lt (r := .mc i) hi
    by_cases a : r = .st i
    · rw [a, ls, List.getElem?_set_ne (by omega), List.getElem?_append_right (Nat.le_refl _), Nat.sub_self]
      simp only [cont, up_eq]; rfl
    · rw [lo r a]
      by_cases b : r = .mc i
      · rw [b, List.getElem?_set_self (by rw [List.length_append]; omega)]
        simp only [cont, up_eq, ls, lo (.pg i) (by simp), lo (.hl i) (by simp), lo (.lt i) (by simp), lo (.dn i) (by simp)]
      · rw [List.getElem?_set_ne (fun e => b (L.inj (.mc i) r hi hr e).symm), List.getElem?_append_left (L.lt hr), L.at_ r hr]
        cases r with
        | tm => simp only [cont, lo (.mc _) (by simp)]
        | st j => have : j ≠ i := fun e => a (by rw [e]); simp only [cont, up_ne _ _ this]
        | mc j =>
          have : j ≠ i := fun e => b (by rw [e])
          have nst : (Rl.st j : Rl) ≠ .st i := fun e => this (by cases e; rfl)
          simp only [cont, up_ne _ _ this, lo (.pg j) (by simp), lo (.hl j) (by simp), lo (.lt j) (by simp), lo (.dn j) (by simp), lo _ nst]
        | pg j => by_cases e : j = i <;> first | (subst e; simp only [cont, up_eq]; done) | simp only [cont, up_ne _ _ e]
        | hl j => by_cases e : j = i <;> first | (subst e; simp only [cont, up_eq]; done) | simp only [cont, up_ne _ _ e]
        | lt j => by_cases e : j = i <;> first | (subst e; simp only [cont, up_eq]; done) | simp only [cont, up_ne _ _ e]
        | dn j => by_cases e : j = i <;> first | (subst e; simp only [cont, up_eq]; done) | simp only [cont, up_ne _ _ e]
theorem newSt_mc (j : Nat) (n : Nat) : newSt loc i n (.mc j) = loc (.mc j) := by unfold newSt; rw [if_neg (by simp)]
theorem newSt_tm (n : Nat) : newSt loc i n .tm = loc .tm := by unfold newSt; rw [if_neg (by simp)]
end
section
variable {m i ho t : Nat} {loc : Rl → Nat} {S : Nat → Mc} {h : MH}
theorem kAt_eq {cs : List Cl} {p : Int} (h0 : 0 ≤ p) : (cs.getD p.toNat c0).2 = kAt cs p.toNat := rfl
theorem e_kgt {a b : Int × Int} {h : MH} : mCmp fGt (.d (kD a)) (.d (kD b)) h = some (.d (.bool (kLt b a)), h) := e_gtK
theorem ixck {ck : List Int} {j : Nat} {h : MH} (hj : j < ck.length) : mIx (.d (ti ck)) (.d (.int (j : Int))) h = some (dI (g0 ck j), h) := by
  rw [e_ixTi (by omega) (by omega), Int.toNat_natCast]
/-- one row of what is done is looked at -/
theorem right_row (L : LL m loc S h) (hi : i < m) {j : Nat} (hj : j < m) (O : (S i).ck.length = m) (P : (S i).pg.length = 4) {r : Int × Int × (Int × Int)} (p0 : 0 ≤ r.2.1) (p1 : r.2.1 < 4) (ok : r.1 ≤ g0 (S i).ck j → kle r.2.2 (kAt (S i).pg r.2.1.toNat))
    {env : Env} (n6 : env.length = 6) (a1 : At env 1 (.ref (loc (.mc i)))) (a2 : At env 2 (.ref (loc (.mc j)))) (a3 : At env 3 (dI r.1)) (a4 : At env 4 (dI r.2.1)) (a5 : At env 5 (.d (kD r.2.2))) :
    mb__law_right_2 env h = some (.nx env h) := by
  have q1 := L.a_mc hi
  have q2 := L.a_mc hj
  have q3 := L.a_pg hi
  have x1 := ixck (ck := (S i).ck) (j := j) (h := h) (by rw [O]; exact hj)
  have x2 : mIx (.ref (loc (.pg i))) (.d (.int r.2.1)) h = some (.d (cD ((S i).pg.getD r.2.1.toNat c0)), h) := ixR_map cD c0 q3 p0 (by rw [P]; exact p1)
  have x3 : mIx (.d (cD ((S i).pg.getD r.2.1.toNat c0))) (.d (.int 1)) h = some (.d (kD (kAt (S i).pg r.2.1.toNat)), h) := e_ixT_1
  have x4 := e_kgt (a := r.2.2) (b := kAt (S i).pg r.2.1.toNat) (h := h)
  have c3 : mc__law_right_3 env h = some (false, h) := by
    unfold mc__law_right_3
    by_cases hc : r.1 ≤ g0 (S i).ck j
    · have k0 : kLt (kAt (S i).pg r.2.1.toNat) r.2.2 = false := ok hc
      have hc' : decide (r.1 ≤ g0 (S i).ck j) = true := decide_eq_true hc
      rw [k0] at x4
      clear L hc ok q3 k0
      simp only [mAnd, mTest, mOp, mDGet, e_v a1, e_v a2, e_v a3, e_v a4, e_v a5, Option.bind_some, mK, asK_ref, q1, q2, e_keyS, g_mc_clock, g_mc_machine, g_mc_page, Option.map_some, x1, e_IB, hc', e_asB, if_true, x2, x3, x4]
    · have hc' : decide (r.1 ≤ g0 (S i).ck j) = false := decide_eq_false hc
      simp only [mAnd, mTest, mOp, mDGet, e_v a1, e_v a2, e_v a3, Option.bind_some, mK, asK_ref, q1, q2, e_keyS, g_mc_clock, g_mc_machine, Option.map_some, x1, e_IB, hc', e_asB, if_false, Bool.false_eq_true]
  unfold mb__law_right_2 ml__law_right_3
  exact e_ifF c3 rfl
theorem q_right (L : LL m loc S h) (I : Inv9 m ho t S) (hi : i < m) (R : Rt m S i) : fn__law_right [.ref (loc .tm), .ref (loc (.mc i))] h = some (.d (.bool true), h) := by
  have O := I.o i hi
  have inner : ∀ (j : Nat), j < m → ∀ env : Env, env.length = 6 → At env 0 (.ref (loc .tm)) → At env 1 (.ref (loc (.mc i))) → At env 2 (.ref (loc (.mc j))) → ∃ env', mb__law_right_1 env h = some (.nx env' h) ∧ env'.length = 6 ∧ At env' 0 (.ref (loc .tm)) ∧ At env' 1 (.ref (loc (.mc i))) := by
    intro j hj env n6 a0 a1 a2
    have q2 := L.a_mc hj
    have q3 := L.a_dn hj
    obtain ⟨env', h', e, hE, b6, b0, b1, b2⟩ := mFor_invS (mi := mItL (mDGet (mVar 2) (mK (.str "done")))) (g := mgTup 3 (mgCons (mgName 3) (mgCons (mgName 4) (mgCons (mgName 5) mgNil)))) (mb := mb__law_right_2) (env := env) (h := h) (h1 := h)
      (src := [(loc (.dn j), (S j).dn.map fun r => .d (dnD r))]) (S j).dn (fun r => .d (dnD r))
      (by
        rw [e_ref (n := loc (.dn j)) (xs := (S j).dn.map fun r => .d (dnD r)) (h1 := h)]
        · simp only [mDGet, e_v a2, Option.bind_some, mK, asK_ref, q2, e_keyS, g_mc_done, Option.map_some]
        · exact q3)
      (fun _ env1 h1 => h1 = h ∧ env1.length = 6 ∧ At env1 0 (.ref (loc .tm)) ∧ At env1 1 (.ref (loc (.mc i))) ∧ At env1 2 (.ref (loc (.mc j))))
      (by
        rintro _ _ h1 ⟨rfl, _⟩ s hs
        rw [List.mem_singleton.mp hs]; exact q3)
      ⟨rfl, n6, a0, a1, a2⟩
      (by
        rintro k r env1 h1 hk ⟨rfl, c6, c0, c1, c2⟩
        have hm := List.mem_of_getElem? hk
        obtain ⟨p0, p1, _, _⟩ := (I.o j hj).d0 r hm
        have l5 : (((env1.set 3 (some (dI r.1))).set 4 (some (dI r.2.1))).set 5 (some (.d (kD r.2.2)))).length = 6 := by simpa using c6
        refine ⟨((env1.set 3 (some (dI r.1))).set 4 (some (dI r.2.1))).set 5 (some (.d (kD r.2.2))), _, h1, rfl, right_row L hi hj O.cl O.pl p0 p1 (R j hj r hm) l5 (at_ne (at_ne (at_ne c1 (by decide)) (by decide)) (by decide)) (at_ne (at_ne (at_ne c2 (by decide)) (by decide)) (by decide)) (at_ne (at_ne (at_eq (by omega)) (by decide)) (by decide)) (at_ne (at_eq (by rw [List.length_set]; omega)) (by decide)) (at_eq (by rw [List.length_set, List.length_set]; omega)), rfl, l5, at_ne (at_ne (at_ne c0 (by decide)) (by decide)) (by decide), at_ne (at_ne (at_ne c1 (by decide)) (by decide)) (by decide), at_ne (at_ne (at_ne c2 (by decide)) (by decide)) (by decide)⟩)
    subst hE
    exact ⟨env', e, b6, b0, b1⟩
  obtain ⟨env', h', e, hE, b6⟩ := mFor_invS (mi := mItL (mVar 0)) (g := mgName 2) (mb := mb__law_right_1) (env := [some (.ref (loc .tm)), some (.ref (loc (.mc i))), none, none, none, none]) (h := h) (h1 := h)
    (src := [(loc .tm, (List.range m).map fun i => .ref (loc (.mc i)))]) (List.range m) (fun j => .ref (loc (.mc j)))
    (e_ref (n := loc .tm) rfl L.a_tm)
    (fun _ env1 h1 => h1 = h ∧ env1.length = 6 ∧ At env1 0 (.ref (loc .tm)) ∧ At env1 1 (.ref (loc (.mc i))))
    (by
      rintro _ _ h1 ⟨rfl, _⟩ s hs
      rw [List.mem_singleton.mp hs]; exact L.a_tm)
    ⟨rfl, rfl, rfl, rfl⟩
    (by
      rintro k j env1 h1 hk ⟨rfl, c6, c0, c1⟩
      have hj : j < m := List.mem_range.mp (List.mem_of_getElem? hk)
      obtain ⟨env2, e2, d6, d0, d1⟩ := inner j hj (env1.set 2 (some (.ref (loc (.mc j))))) (by rw [List.length_set]; exact c6) (at_ne c0 (by decide)) (at_ne c1 (by decide)) (at_eq (by omega))
      exact ⟨_, env2, h1, rfl, e2, rfl, d6, d0, d1⟩)
  subst hE
  unfold fn__law_right m__law_right toHeap
  rw [if_pos (by rfl)]
  show (mSeq ml__law_right_1 ml__law_right_5 [some (.ref (loc .tm)), some (.ref (loc (.mc i))), none, none, none, none] h').bind resM = _
  rw [e_mSeq (show ml__law_right_1 _ h' = _ from e)]
  rfl
end
theorem stL_val (kvs : List (Int × Cl)) (p : Int) : valG (stL kvs) (.inl p) = (valG kvs p).map fun c => .d (cD c) := by
  induction kvs with
  | nil => rfl
  | cons q qs ih =>
    show valG ((.inl q.1, .d (cD q.2)) :: stL qs) (.inl p) = _
    rw [valG_cons, valG_cons]
    by_cases e : q.1 = p
    · rw [if_pos e, if_pos (by rw [e])]; rfl
    · rw [if_neg e, if_neg (fun z => e (Sum.inl.inj z))]; exact ih
theorem stL_put (kvs : List (Int × Cl)) (p : Int) (c : Cl) : putG (stL kvs) (.inl p) (.d (cD c)) = stL (putG kvs p c) := by
  unfold putG hasG
  rw [stL_val]
  by_cases e : (valG kvs p).isSome = true
  · rw [if_pos e, if_pos (by rw [Option.isSome_map]; exact e)]
    unfold replG stL
    rw [List.map_map, List.map_map]
    refine List.map_congr_left fun q _ => ?_
    show (if (Sum.inl q.1 : Key) = .inl p then _ else _) = _
    by_cases z : q.1 = p
    · rw [if_pos (by rw [z])]
      show _ = ((.inl (if q.1 = p then (q.1, c) else q).1 : Key), MV.d (cD (if q.1 = p then (q.1, c) else q).2))
      rw [if_pos z]
    · rw [if_neg (fun y => z (Sum.inl.inj y))]
      show _ = ((.inl (if q.1 = p then (q.1, c) else q).1 : Key), MV.d (cD (if q.1 = p then (q.1, c) else q).2))
      rw [if_neg z]
  · rw [if_neg e, if_neg (by rw [Option.isSome_map]; exact e)]
    unfold stL
    rw [List.map_append]; rfl
section
variable {m i ho t : Nat} {loc : Rl → Nat} {S : Nat → Mc} {h : MH}
/-- is_fresh(one["held"], one["held"]["need"], one["machine"]) -/
theorem e_fresh (L : LL m loc S h) (I : Inv9 m ho t S) (hi : i < m) (hm : m ≤ 4) {env : Env} {k : Nat} (a : At env k (.ref (loc (.mc i)))) : mTest (mCB fn_is_fresh (mCons (mDGet (mVar k) (mK (.str "held"))) (mCons (mDGet (mDGet (mVar k) (mK (.str "held"))) (mK (.str "need"))) (mCons (mDGet (mVar k) (mK (.str "machine"))) mNil)))) env h = some (wiF (wcF (S i).nd (i : Int) 0) (S i).hs, h) := by
  have O := I.o i hi
  have q1 := L.a_mc hi
  have q2 := L.a_hl hi
  have q3 := q_is_fresh (loc (.hl i)) h (S i).nd (S i).hs (S i).nd (i : Int) q2 (by rw [O.nl]; omega)
  simp only [mTest, mCB, mCons, mNil, mDGet, e_v a, Option.bind_some, mK, asK_ref, q1, q2, e_keyS, g_mc_held, g_mc_machine, Option.map_some, v_need, q3, e_asB]
/-- one row of what is done is looked at, behind a store -/
theorem store_row (L : LL m loc S h) (hi : i < m) {j : Nat} (hj : j < m) (O : (S i).ck.length = m) {p : Int} {key : Int × Int} {r : Int × Int × (Int × Int)} (ok : r.2.1 = p → r.1 ≤ g0 (S i).ck j → kLt r.2.2 key = true)
    {env : Env} (a1 : At env 1 (.ref (loc (.mc i)))) (a2 : At env 2 (dI p)) (a4 : At env 4 (.d (kD key))) (a6 : At env 6 (.ref (loc (.mc j)))) (a7 : At env 7 (dI r.1)) (a8 : At env 8 (dI r.2.1)) (a9 : At env 9 (.d (kD r.2.2))) :
    mb__law_store_8 env h = some (.nx env h) := by
  have q1 := L.a_mc hi
  have q2 := L.a_mc hj
  have x1 := ixck (ck := (S i).ck) (j := j) (h := h) (by rw [O]; exact hj)
  have x4 := e_geK (a := r.2.2) (b := key) (h := h)
  have c3 : mc__law_store_9 env h = some (false, h) := by
    unfold mc__law_store_9
    by_cases hp : r.2.1 = p
    · have hp' : decide (r.2.1 = p) = true := decide_eq_true hp
      by_cases hc : r.1 ≤ g0 (S i).ck j
      · have k0 := ok hp hc
        have hc' : decide (r.1 ≤ g0 (S i).ck j) = true := decide_eq_true hc
        rw [k0] at x4
        clear L hc ok k0 hp
        simp only [mAnd, mTest, mOp, mDGet, e_v a1, e_v a2, e_v a4, e_v a6, e_v a7, e_v a8, e_v a9, Option.bind_some, mK, asK_ref, q1, q2, e_keyS, g_mc_clock, g_mc_machine, Option.map_some, x1, e_IB, hc', hp', e_eqI, e_asB, if_true, x4, Bool.not_true]
      · have hc' : decide (r.1 ≤ g0 (S i).ck j) = false := decide_eq_false hc
        clear L hc ok hp x4
        simp only [mAnd, mTest, mOp, mDGet, e_v a1, e_v a2, e_v a4, e_v a6, e_v a7, e_v a8, e_v a9, Option.bind_some, mK, asK_ref, q1, q2, e_keyS, g_mc_clock, g_mc_machine, Option.map_some, x1, e_IB, hc', hp', e_eqI, e_asB, if_true, if_false, Bool.false_eq_true]
    · have hp' : decide (r.2.1 = p) = false := decide_eq_false hp
      clear L ok hp x4
      simp only [mAnd, mTest, mOp, e_v a2, e_v a8, Option.bind_some, e_eqI, hp', e_asB, if_false, Bool.false_eq_true]
  unfold mb__law_store_8 ml__law_store_9
  exact e_ifF c3 rfl
theorem store_loop (L : LL m loc S h) (hi : i < m) (O : (S i).ck.length = m) {p : Int} {key : Int × Int} (ok : ∀ j, j < m → ∀ r ∈ (S j).dn, r.2.1 = p → r.1 ≤ g0 (S i).ck j → kLt r.2.2 key = true)
    {env : Env} (n10 : env.length = 10) (a0 : At env 0 (.ref (loc .tm))) (a1 : At env 1 (.ref (loc (.mc i)))) (a2 : At env 2 (dI p)) (a4 : At env 4 (.d (kD key))) : ∃ env', ml__law_store_7 env h = some (.nx env' h) := by
  have inner : ∀ (j : Nat), j < m → ∀ env : Env, env.length = 10 → At env 0 (.ref (loc .tm)) → At env 1 (.ref (loc (.mc i))) → At env 2 (dI p) → At env 4 (.d (kD key)) → At env 6 (.ref (loc (.mc j))) → ∃ env', mb__law_store_7 env h = some (.nx env' h) ∧ env'.length = 10 ∧ At env' 0 (.ref (loc .tm)) ∧ At env' 1 (.ref (loc (.mc i))) ∧ At env' 2 (dI p) ∧ At env' 4 (.d (kD key)) := by
    intro j hj env n10 a0 a1 a2 a4 a6
    have q2 := L.a_mc hj
    have q3 := L.a_dn hj
    obtain ⟨env', h', e, hE, b10, b0, b1, b2, b4, b6⟩ := mFor_invS (mi := mItL (mDGet (mVar 6) (mK (.str "done")))) (g := mgTup 3 (mgCons (mgName 7) (mgCons (mgName 8) (mgCons (mgName 9) mgNil)))) (mb := mb__law_store_8) (env := env) (h := h) (h1 := h)
      (src := [(loc (.dn j), (S j).dn.map fun r => .d (dnD r))]) (S j).dn (fun r => .d (dnD r))
      (by
        rw [e_ref (n := loc (.dn j)) (xs := (S j).dn.map fun r => .d (dnD r)) (h1 := h)]
        · simp only [mDGet, e_v a6, Option.bind_some, mK, asK_ref, q2, e_keyS, g_mc_done, Option.map_some]
        · exact q3)
      (fun _ env1 h1 => h1 = h ∧ env1.length = 10 ∧ At env1 0 (.ref (loc .tm)) ∧ At env1 1 (.ref (loc (.mc i))) ∧ At env1 2 (dI p) ∧ At env1 4 (.d (kD key)) ∧ At env1 6 (.ref (loc (.mc j))))
      (by
        rintro _ _ h1 ⟨rfl, _⟩ s hs
        rw [List.mem_singleton.mp hs]; exact q3)
      ⟨rfl, n10, a0, a1, a2, a4, a6⟩
      (by
        rintro k r env1 h1 hk ⟨rfl, c10, c0, c1, c2, c4, c6⟩
        have hm := List.mem_of_getElem? hk
        have l5 : (((env1.set 7 (some (dI r.1))).set 8 (some (dI r.2.1))).set 9 (some (.d (kD r.2.2)))).length = 10 := by simpa using c10
        have put : ∀ {q : Nat} {v : MV}, At env1 q v → q < 7 → At (((env1.set 7 (some (dI r.1))).set 8 (some (dI r.2.1))).set 9 (some (.d (kD r.2.2)))) q v := fun a z => at_ne (at_ne (at_ne a (by omega)) (by omega)) (by omega)
        refine ⟨((env1.set 7 (some (dI r.1))).set 8 (some (dI r.2.1))).set 9 (some (.d (kD r.2.2))), _, h1, rfl, store_row L hi hj O (ok j hj r hm) (put c1 (by decide)) (put c2 (by decide)) (put c4 (by decide)) (put c6 (by decide)) (at_ne (at_ne (at_eq (by omega)) (by decide)) (by decide)) (at_ne (at_eq (by rw [List.length_set]; omega)) (by decide)) (at_eq (by rw [List.length_set, List.length_set]; omega)), rfl, l5, put c0 (by decide), put c1 (by decide), put c2 (by decide), put c4 (by decide), put c6 (by decide)⟩)
    subst hE
    exact ⟨env', e, b10, b0, b1, b2, b4⟩
  obtain ⟨env', h', e, hE, b6⟩ := mFor_invS (mi := mItL (mVar 0)) (g := mgName 6) (mb := mb__law_store_7) (env := env) (h := h) (h1 := h)
    (src := [(loc .tm, (List.range m).map fun i => .ref (loc (.mc i)))]) (List.range m) (fun j => .ref (loc (.mc j)))
    (e_ref (n := loc .tm) (e_v a0) L.a_tm)
    (fun _ env1 h1 => h1 = h ∧ env1.length = 10 ∧ At env1 0 (.ref (loc .tm)) ∧ At env1 1 (.ref (loc (.mc i))) ∧ At env1 2 (dI p) ∧ At env1 4 (.d (kD key)))
    (by
      rintro _ _ h1 ⟨rfl, _⟩ s hs
      rw [List.mem_singleton.mp hs]; exact L.a_tm)
    ⟨rfl, n10, a0, a1, a2, a4⟩
    (by
      rintro k j env1 h1 hk ⟨rfl, c10, c0, c1, c2, c4⟩
      have hj : j < m := List.mem_range.mp (List.mem_of_getElem? hk)
      obtain ⟨env2, e2, d10, d0, d1, d2, d4⟩ := inner j hj (env1.set 6 (some (.ref (loc (.mc j))))) (by rw [List.length_set]; exact c10) (at_ne c0 (by decide)) (at_ne c1 (by decide)) (at_ne c2 (by decide)) (at_ne c4 (by decide)) (at_eq (by omega))
      exact ⟨_, env2, h1, rfl, e2, rfl, d10, d0, d1, d2, d4⟩)
  subst hE
  exact ⟨env', e⟩
theorem q_law_store (L : LL m loc S h) (I : Inv9 m ho t S) (hi : i < m) (hm : m ≤ 4) {p v : Int} (p0 : 0 ≤ p) (p1 : p < 4) : ∃ h' S', fn__law_store [.ref (loc .tm), .ref (loc (.mc i)), .d (.int p), .d (.int v)] h = some (.d (.bool true), h') ∧ LL m loc S' h' ∧ Inv9 m ho t S' := by
  have O := I.o i hi
  have start : ∀ {r : Option MRes}, mSeq ml__law_store_1 ml__law_store_11 [some (.ref (loc .tm)), some (.ref (loc (.mc i))), some (dI p), some (dI v), none, none, none, none, none, none] h = r → fn__law_store [.ref (loc .tm), .ref (loc (.mc i)), .d (.int p), .d (.int v)] h = r.bind resM := fun {r} e => by
    rw [← e]; rfl
  have c1 := e_fresh L I hi hm (env := [some (.ref (loc .tm)), some (.ref (loc (.mc i))), some (dI p), some (dI v), none, none, none, none, none, none]) (k := 1) rfl
  by_cases hf : wiF (wcF (S i).nd (i : Int) 0) (S i).hs = true
  · have fr : Fr m (S i).nd (S i).hs i := (fr_iff O.nl O.hl O.h0).mp hf
    have R := I.rt hi fr
    have q1 := L.a_mc hi
    have q2 := L.a_pg hi
    rw [hf] at c1
    have c2 : mc__law_store_2 [some (.ref (loc .tm)), some (.ref (loc (.mc i))), some (dI p), some (dI v), none, none, none, none, none, none] h = some (false, h) := by
      have qr := q_right L I hi R
      unfold mc__law_store_2
      simp only [mNot, mTest, mCB, mCons, mNil, mVar, List.getElem?_cons_zero, List.getElem?_cons_succ, Option.bind_some, qr, e_asB, Option.map_some, Bool.not_true]
    have s2 : ml__law_store_2 [some (.ref (loc .tm)), some (.ref (loc (.mc i))), some (dI p), some (dI v), none, none, none, none, none, none] h = some (.nx [some (.ref (loc .tm)), some (.ref (loc (.mc i))), some (dI p), some (dI v), none, none, none, none, none, none] h) := e_ifF c2 rfl
    obtain ⟨key, hk⟩ : ∃ key, key = newK (S i).pg p (i : Int) := ⟨_, rfl⟩
    have qs := q_store (loc (.pg i)) h (S i).pg p v (i : Int) q2 p0 (by rw [O.pl]; omega)
    rw [← hk] at qs
    have s4 : ml__law_store_4 [some (.ref (loc .tm)), some (.ref (loc (.mc i))), some (dI p), some (dI v), none, none, none, none, none, none] h = some (.nx [some (.ref (loc .tm)), some (.ref (loc (.mc i))), some (dI p), some (dI v), some (.d (kD key)), none, none, none, none, none] (h.set (loc (.pg i)) (pgM ((S i).pg.set p.toNat (v, key))))) := by
      unfold ml__law_store_4
      simp only [mAsg, mCB, mCons, mNil, mDGet, mK, mVar, List.getElem?_cons_zero, List.getElem?_cons_succ, Option.bind_some, asK_ref, q1, e_keyS, g_mc_page, g_mc_machine, Option.map_some, qs, e_mgName, List.set_cons_succ, List.set_cons_zero]
    have L1 := L.pgs hi ((S i).pg.set p.toNat (v, key))
    generalize h.set (loc (.pg i)) (pgM ((S i).pg.set p.toNat (v, key))) = h1 at *
    have q1' := L1.a_mc hi
    have q3 := L1.a_st hi
    rw [up_eq] at q1' q3
    have s5 : ml__law_store_5 [some (.ref (loc .tm)), some (.ref (loc (.mc i))), some (dI p), some (dI v), some (.d (kD key)), none, none, none, none, none] h1 = some (.nx [some (.ref (loc .tm)), some (.ref (loc (.mc i))), some (dI p), some (dI v), some (.d (kD key)), some (.ref (loc (.st i))), none, none, none, none] h1) := by
      unfold ml__law_store_5
      simp only [mAsg, mDGet, mK, mVar, List.getElem?_cons_zero, List.getElem?_cons_succ, Option.bind_some, asK_ref, q1', e_keyS, g_mc_stored, Option.map_some, e_mgName, List.set_cons_succ, List.set_cons_zero]
    have stn : (S i).st.length ≤ 4 := by
      have := nd4 O.s0 (fun x hx => by
        obtain ⟨p, hp, rfl⟩ := List.mem_map.mp hx
        exact ⟨(O.s1 p hp).1, (O.s1 p hp).2.1⟩)
      rwa [List.length_map] at this
    have hz : (stL (S i).st).length < 100000 := by simp; omega
    have s6 : ml__law_store_6 [some (.ref (loc .tm)), some (.ref (loc (.mc i))), some (dI p), some (dI v), some (.d (kD key)), some (.ref (loc (.st i))), none, none, none, none] h1 = some (.nx [some (.ref (loc .tm)), some (.ref (loc (.mc i))), some (dI p), some (dI v), some (.d (kD key)), some (.ref (loc (.st i))), none, none, none, none] (h1.set (loc (.st i)) (.dct (stL (putG (S i).st p (v, key)))))) := by
      have ep := stL_put (S i).st p (v, key)
      unfold ml__law_store_6
      simp only [mDPut, mTup, mCons, mNil, mVar, List.getElem?_cons_zero, List.getElem?_cons_succ, Option.bind_some, List.length_cons, List.length_nil, Nat.reduceAdd, Nat.reduceLeDiff, if_true, e_mkTup2, asK_ref, q3, e_keyI, hz, ep]
    have L2 := L1.sts hi (putG (S i).st p (v, key))
    generalize h1.set (loc (.st i)) (.dct (stL (putG (S i).st p (v, key)))) = h2 at *
    have I2 := I.store hi (v := v) p0 p1
    rw [← hk] at I2
    have eS : up (up S i { S i with pg := (S i).pg.set p.toNat (v, key) }) i { up S i { S i with pg := (S i).pg.set p.toNat (v, key) } i with st := putG (S i).st p (v, key) } = up S i { S i with pg := (S i).pg.set p.toNat (v, key), st := putG (S i).st p (v, key) } := by
      funext j
      rw [up_eq]
      unfold up
      by_cases z : j = i
      · rw [if_pos z, if_pos z]
      · rw [if_neg z, if_neg z, if_neg z]
    rw [eS] at L2
    obtain ⟨env', e7⟩ := store_loop (key := key) (p := p) L2 hi (I2.o i hi).cl (fun j hj r hr ep hc => by
      have hdn : ∀ j, (up S i { S i with pg := (S i).pg.set p.toNat (v, key), st := putG (S i).st p (v, key) } j).dn = (S j).dn := fun j => by
        unfold up
        by_cases z : j = i
        · rw [if_pos z, z]
        · rw [if_neg z]
      rw [hdn] at hr
      rw [up_eq] at hc
      rw [hk, ← ep]
      exact Rt.new R O.pl hj hr hc) (env := [some (.ref (loc .tm)), some (.ref (loc (.mc i))), some (dI p), some (dI v), some (.d (kD key)), some (.ref (loc (.st i))), none, none, none, none]) rfl rfl rfl rfl rfl
    refine ⟨h2, _, ?_, L2, I2⟩
    refine (start (r := some (.rt (.d (.bool true)) h2)) ?_).trans rfl
    have s1 : ml__law_store_1 [some (.ref (loc .tm)), some (.ref (loc (.mc i))), some (dI p), some (dI v), none, none, none, none, none, none] h = some (.nx env' h2) := by
      unfold ml__law_store_1
      refine e_ifT (h1 := h) c1 ?_
      rw [e_mSeq s2, e_mSeq s4, e_mSeq s5, e_mSeq s6]
      exact e7
    rw [e_mSeq s1]
    rfl
  · rw [eq_false_of_ne_true hf] at c1
    refine ⟨h, S, ?_, L, I⟩
    refine (start (r := some (.rt (.d (.bool true)) h)) ?_).trans rfl
    rw [e_mSeq (show ml__law_store_1 _ h = _ from e_ifF (h1 := h) c1 rfl)]
    rfl
end
theorem up_up (S : Nat → Mc) (i : Nat) (x y : Mc) : up (up S i x) i y = up S i y := by
  funext j
  unfold up
  by_cases z : j = i
  · rw [if_pos z, if_pos z]
  · rw [if_neg z, if_neg z, if_neg z]
theorem val_in {kvs : List (Int × Cl)} (h : (kvs.map (·.1)).Nodup) {p : Int × Cl} (hp : p ∈ kvs) : valG kvs p.1 = some p.2 := by
  induction kvs with
  | nil => cases hp
  | cons q qs ih =>
    rw [List.map_cons, List.nodup_cons] at h
    rw [valG_cons]
    rcases List.mem_cons.mp hp with e | hp
    · rw [e, if_pos rfl]
    · rw [if_neg (fun e => h.1 (List.mem_map.mpr ⟨p, hp, e.symm⟩))]
      exact ih h.2 hp
theorem val_mem {kvs : List (Int × Cl)} {k : Int} {c : Cl} (h : valG kvs k = some c) : (k, c) ∈ kvs := by
  induction kvs with
  | nil => cases h
  | cons q qs ih =>
    rw [valG_cons] at h
    by_cases e : q.1 = k
    · rw [if_pos e] at h
      cases h
      rw [← e]; exact List.mem_cons_self
    · rw [if_neg e] at h
      exact List.mem_cons_of_mem _ (ih h)
theorem intKeys_stL (kvs : List (Int × Cl)) : intKeys ((stL kvs).map (·.1)) = some (kvs.map (·.1)) := by
  induction kvs with
  | nil => rfl
  | cons q qs ih =>
    show (intKeys ((stL qs).map (·.1))).map (q.1 :: ·) = _
    rw [ih]; rfl
def rowsS (kvs : List (Int × Cl)) : List (Int × Cl) := (isort (kvs.map (·.1))).map fun p => (p, (valG kvs p).getD c0)
theorem mem_rowsS {kvs : List (Int × Cl)} (h : (kvs.map (·.1)).Nodup) (q : Int × Cl) : q ∈ rowsS kvs ↔ q ∈ kvs := by
  unfold rowsS
  rw [List.mem_map]
  constructor
  · rintro ⟨p, hp, rfl⟩
    obtain ⟨x, hx, rfl⟩ := List.mem_map.mp ((isort_perm _).mem_iff.mp hp)
    rw [val_in h hx]
    exact hx
  · intro hq
    refine ⟨q.1, (isort_perm _).mem_iff.mpr (List.mem_map.mpr ⟨q, hq, rfl⟩), ?_⟩
    rw [val_in h hq]
    rfl
theorem q_difference (n : Nat) (h : MH) (kvs : List (Int × Cl)) (hn : h[n]? = some (.dct (stL kvs))) (nd : (kvs.map (·.1)).Nodup) (hz : kvs.length ≤ 4) : fn_difference [.ref n] h = some (.d (.tuple ((rowsS kvs).map rwD)), h) := by
  have es : mSortDI [.ref n] h = some ((isort (kvs.map (·.1))).map fun p => .d (.int p), h) := by
    unfold mSortDI
    rw [e_arg1, Option.bind_some, e_asK hn, Option.bind_some]
    simp only [intKeys_stL, Option.bind_some]
    rw [if_pos (by simp; omega)]
  have hl : (isort (kvs.map (·.1))).length ≤ 4 := by
    rw [(isort_perm _).length_eq, List.length_map]; exact hz
  unfold fn_difference m_difference ml_difference_1
  walk_at "ev"
  rw [mLc_map (h1 := h) (isort (kvs.map (·.1))) dI (fun p => .d (rwD (p, (valG kvs p).getD c0)))]
  · walk_at "ev"
    rw [e_allDf]
    walk_at "ev"
    unfold rowsS
    rw [List.map_map]; rfl
  · refine (e_lst (ds := (isort (kvs.map (·.1))).map .int) (h1 := h) ?_).trans (by rw [List.map_map]; rfl)
    simp only [mDat, mCBF, mCons, mNil, e_mVar, wipeM, List.set_cons_succ, List.set_cons_zero, List.getElem?_cons_zero, Option.bind_some, es, e_allDf, Option.map_some]
  · intro p hp
    obtain ⟨x, hx, rfl⟩ := List.mem_map.mp ((isort_perm _).mem_iff.mp hp)
    have ev : valG (stL kvs) (.inl x.1) = some (.d (cD x.2)) := by rw [stL_val, val_in nd hx]; rfl
    rw [val_in nd hx]
    walk_at "ev"
    simp only [e_asK hn]
    walk_at "ev"
    rw [ev]
    walk_at "ev"
    simp only [e_asK hn]
    walk_at "ev"
    rw [ev]
    walk_at "ev"
    rfl
  · omega
section
variable {m i ho t : Nat} {loc : Rl → Nat} {S : Nat → Mc} {h : MH}
theorem end_body {n nS nD : Nat} {h : MH} {num : Int} {kvs : List (Int × Cl)} {dn : List (Int × Int × (Int × Int))} {p : Int × Cl} {a1 a2 a4 a5 : MV} {en : Option (List Int)} {a0 : MV}
    (q1 : h[n]? = some (.dct (mcL a0 a1 a2 (.ref nS) a4 a5 (.ref nD) en))) (q2 : h[nS]? = some (.dctF (stL kvs))) (q3 : h[nD]? = some (.lst (dn.map fun r => .d (dnD r)))) (nd : (kvs.map (·.1)).Nodup) (hp : p ∈ kvs) (hz : dn.length < 1000)
    {env : Env} (e8 : env.length = 8) (b1 : At env 1 (.ref n)) (b4 : At env 4 (dI num)) (b5 : At env 5 (dI p.1)) :
    mb__law_end_4 env h = some (.nx (env.set 6 (some (.ref nD))) (h.set nD (.lst ((dn ++ [(num, p.1, p.2.2)]).map fun r => .d (dnD r))))) := by
  have ev : valG (stL kvs) (.inl p.1) = some (.d (cD p.2)) := by rw [stL_val, val_in nd hp]; rfl
  have s5 : ml__law_end_5 env h = some (.nx (env.set 6 (some (.ref nD))) h) := by
    unfold ml__law_end_5
    simp only [mAsg, mDGet, e_v b1, Option.bind_some, mK, asK_ref, q1, e_keyS, g_mc_done, Option.map_some, e_mgName]
  have c1 : At (env.set 6 (some (.ref nD))) 1 (.ref n) := at_ne b1 (by decide)
  have c4 : At (env.set 6 (some (.ref nD))) 4 (dI num) := at_ne b4 (by decide)
  have c5 : At (env.set 6 (some (.ref nD))) 5 (dI p.1) := at_ne b5 (by decide)
  have c6 : At (env.set 6 (some (.ref nD))) 6 (.ref nD) := at_eq (by omega)
  have hz' : (dn.map fun r => MV.d (dnD r)).length < 100000 := by simp; omega
  have x1 : mIx (.d (cD p.2)) (.d (.int 1)) h = some (.d (kD p.2.2), h) := e_ixT_1
  have s6 : ml__law_end_6 (env.set 6 (some (.ref nD))) h = some (.nx (env.set 6 (some (.ref nD))) (h.set nD (.lst ((dn ++ [(num, p.1, p.2.2)]).map fun r => .d (dnD r))))) := by
    unfold ml__law_end_6
    rw [List.map_append]
    simp only [mApp, mTup, mCons, mNil, mDGetR, mDGet, mOp, e_v c1, e_v c4, e_v c5, e_v c6, Option.bind_some, asL_ref, q3, mK, asK_ref, q1, e_keyS, g_mc_stored, asR_ref, q2, e_keyI, ev, Option.map_some, x1, List.length_cons, List.length_nil, Nat.reduceAdd, Nat.reduceLeDiff, if_true, e_mkTup3, hz', List.map_cons, List.map_nil]
  unfold mb__law_end_4
  rw [e_mSeq s5]
  exact s6
theorem set3 {α : Type} {xs : List α} {a b : Nat} {x y z : α} (ne : a ≠ b) (hx : xs[a]? = some z) : ((xs.set a x).set b y).set a z = xs.set b y := by
  rw [List.set_comm _ _ (Ne.symm ne), List.set_set]
  congr 1
  exact set_same hx
theorem end_loop (L : LL m loc S h) (I : Inv9 m ho t S) (hi : i < m) (ht : t ≤ 200) {env : Env} {num : Int} (e8 : env.length = 8) (b0 : At env 0 (.ref (loc .tm))) (b1 : At env 1 (.ref (loc (.mc i)))) (b2 : At env 2 (dI (ho : Nat))) (b3 : At env 3 (dI (i : Nat))) (b4 : At env 4 (dI num)) :
    ∃ env', ml__law_end_4 env h = some (.nx env' (h.set (loc (.dn i)) (.lst (((S i).dn ++ (S i).st.map (fun p => (num, p.1, p.2.2))).map fun r => .d (dnD r))))) ∧ env'.length = 8 ∧ At env' 0 (.ref (loc .tm)) ∧ At env' 1 (.ref (loc (.mc i))) ∧ At env' 2 (dI (ho : Nat)) ∧ At env' 3 (dI (i : Nat)) ∧ At env' 4 (dI num) := by
  have O := I.o i hi
  have q1 := L.a_mc hi
  have q2 := L.a_st hi
  have q3 := L.a_dn hi
  have n1 : loc (.st i) ≠ loc (.mc i) := L.ne (r := .st i) (s := .mc i) hi hi (by simp)
  have n2 : loc (.st i) ≠ loc (.dn i) := L.ne (r := .st i) (s := .dn i) hi hi (by simp)
  have n3 : loc (.dn i) ≠ loc (.mc i) := L.ne (r := .dn i) (s := .mc i) hi hi (by simp)
  have lS := L.lt (r := .st i) hi
  have lD := L.lt (r := .dn i) hi
  have stn : (S i).st.length ≤ 4 := by
    have := nd4 O.s0 (fun x hx => by
      obtain ⟨p, hp, rfl⟩ := List.mem_map.mp hx
      exact ⟨(O.s1 p hp).1, (O.s1 p hp).2.1⟩)
    rwa [List.length_map] at this
  obtain ⟨hF, hFe⟩ : ∃ hF, hF = h.set (loc (.st i)) (.dctF (stL (S i).st)) := ⟨_, rfl⟩
  have f1 : hF[loc (.mc i)]? = some (.dct (mcL (dI (i : Nat)) (.ref (loc (.pg i))) (.ref (loc (.hl i))) (.ref (loc (.st i))) (.d (ti (S i).ck)) (.ref (loc (.lt i))) (.ref (loc (.dn i))) (S i).en)) := by rw [hFe, List.getElem?_set_ne n1]; exact q1
  have f2 : hF[loc (.st i)]? = some (.dctF (stL (S i).st)) := by rw [hFe, List.getElem?_set_self lS]
  have f3 : hF[loc (.dn i)]? = some (.lst ((S i).dn.map fun r => .d (dnD r))) := by rw [hFe, List.getElem?_set_ne n2]; exact q3
  have lDF : loc (.dn i) < hF.length := by rw [hFe, List.length_set]; exact lD
  obtain ⟨env', h', e, hh, c8, c0, c1, c2, c3, c4⟩ := mFor_inv (mi := mItK (mDGet (mVar 1) (mK (.str "stored")))) (g := mgName 5) (mb := mb__law_end_4) (env := env) (h := hF) (h1 := hF) (S i).st (fun p => dI p.1)
    (by
      unfold mItK
      simp only [mDGet, e_v b1, Option.bind_some, mK, asK_ref, f1, e_keyS, g_mc_stored, Option.map_some, asF_ref, f2]
      unfold stL
      rw [List.map_map]; rfl)
    (fun k env1 h1 => h1 = hF.set (loc (.dn i)) (.lst (((S i).dn ++ ((S i).st.take k).map (fun p => (num, p.1, p.2.2))).map fun r => .d (dnD r))) ∧ env1.length = 8 ∧ At env1 0 (.ref (loc .tm)) ∧ At env1 1 (.ref (loc (.mc i))) ∧ At env1 2 (dI (ho : Nat)) ∧ At env1 3 (dI (i : Nat)) ∧ At env1 4 (dI num))
    ⟨by rw [List.take_zero, List.map_nil, List.append_nil]; exact (set_same f3).symm, e8, b0, b1, b2, b3, b4⟩
    (by
      rintro k p env1 h1 hk ⟨rfl, d8, d0, d1, d2, d3, d4⟩
      have hm := List.mem_of_getElem? hk
      refine ⟨env1.set 5 (some (dI p.1)), _, _, rfl, end_body (nS := loc (.st i)) (nD := loc (.dn i)) (n := loc (.mc i)) (kvs := (S i).st) (dn := (S i).dn ++ ((S i).st.take k).map (fun p => (num, p.1, p.2.2))) (num := num) (p := p) (by rw [List.getElem?_set_ne n3]; exact f1) (by rw [List.getElem?_set_ne (Ne.symm n2)]; exact f2) (List.getElem?_set_self lDF) O.s0 hm (by
          rw [List.length_append, List.length_map, List.length_take]
          have := O.z1
          omega) (by rw [List.length_set]; exact d8) (at_ne d1 (by decide)) (at_ne d4 (by decide)) (at_eq (by omega)), ?_, by rw [List.length_set, List.length_set]; exact d8, at_ne (at_ne d0 (by decide)) (by decide), at_ne (at_ne d1 (by decide)) (by decide), at_ne (at_ne d2 (by decide)) (by decide), at_ne (at_ne d3 (by decide)) (by decide), at_ne (at_ne d4 (by decide)) (by decide)⟩
      rw [set_set, take_succ_of hk]
      simp only [List.map_append, List.append_assoc, List.map_cons, List.map_nil])
  rw [List.take_length] at hh
  refine ⟨env', ?_, c8, c0, c1, c2, c3, c4⟩
  unfold ml__law_end_4
  have em : (mDGet (mVar 1) (mK (.str "stored"))) env h = some (.ref (loc (.st i)), h) := by
    simp only [mDGet, e_v b1, Option.bind_some, mK, asK_ref, q1, e_keyS, g_mc_stored, Option.map_some]
  have hu : h'[loc (.st i)]? = some (.dctF (stL (S i).st)) := by rw [hh, List.getElem?_set_ne (Ne.symm n2)]; exact f2
  unfold mLock
  rw [em, Option.bind_some]
  simp only [asK_ref, q2, Option.bind_some]
  rw [← hFe, e, Option.bind_some]
  unfold unl
  simp only [hu, if_true]
  rw [hh, hFe, set3 n2 q2]
end
section
variable {m i ho t : Nat} {loc : Rl → Nat} {S : Nat → Mc} {h : MH}
theorem stn (I : Inv9 m ho t S) (hi : i < m) : (S i).st.length ≤ 4 := by
  have O := I.o i hi
  have := nd4 O.s0 (fun x hx => by
    obtain ⟨p, hp, rfl⟩ := List.mem_map.mp hx
    exact ⟨(O.s1 p hp).1, (O.s1 p hp).2.1⟩)
  rwa [List.length_map] at this
/-- what an end does ahead of the new clock -/
def midM (ho i : Nat) (rows : List (Int × Cl)) (x : Mc) : Mc :=
  { x with dn := x.dn ++ x.st.map (fun p => (g0 x.ck i, p.1, p.2.2)),
           hs := if x.st = [] then x.hs else raF x.hs (i : Int) (g0 x.ck i),
           lt := if x.st = [] ∨ i = ho then x.lt else x.lt ++ [(g0 x.ck i, rows)] }
theorem end_mid (L : LL m loc S h) (I : Inv9 m ho t S) (hi : i < m) (hm : m ≤ 4) (ht : t ≤ 200) {env : Env} (e8 : env.length = 8) (b0 : At env 0 (.ref (loc .tm))) (b1 : At env 1 (.ref (loc (.mc i)))) (b2 : At env 2 (dI (ho : Nat))) (b3 : At env 3 (dI (i : Nat))) (b4 : At env 4 (dI (g0 (S i).ck i))) :
    ∃ env' h', ml__law_end_3 env h = some (.nx env' h') ∧ LL m loc (up S i (midM ho i (rowsS (S i).st) (S i))) h' ∧ env'.length = 8 ∧ At env' 1 (.ref (loc (.mc i))) ∧ At env' 3 (dI (i : Nat)) ∧ At env' 4 (dI (g0 (S i).ck i)) := by
  have O := I.o i hi
  have q1 := L.a_mc hi
  have q2 := L.a_st hi
  have LA := L.app [.dct []]
  have hn1 : (h ++ [Ob.dct []])[h.length]? = some (.dct []) := by rw [List.getElem?_append_right (Nat.le_refl _), Nat.sub_self]; rfl
  have q2A := LL.a_st LA hi
  have q1A := LL.a_mc LA hi
  by_cases hs : (S i).st = []
  · have em : midM ho i (rowsS (S i).st) (S i) = S i := by
      unfold midM
      rw [if_pos hs, if_pos (.inl hs), hs, List.map_nil, List.append_nil]
      rw [← hs]
    refine ⟨env, h ++ [.dct []], ?_, ?_, e8, b1, b3, b4⟩
    · unfold ml__law_end_3
      refine e_ifF (h1 := h ++ [.dct []]) ?_ rfl
      have e0 : (stL (S i).st) = [] := by rw [hs]; rfl
      rw [e0] at q2A
      unfold mc__law_end_3
      simp only [mTest, mOp, mDGet, e_v b1, Option.bind_some, mK, asK_ref, q1, e_keyS, g_mc_stored, Option.map_some, mDNew, mDk, q2A, hn1, hitsM, List.length_nil, beq_self_eq_true, Bool.and_self, if_true, Bool.not_true, e_asB]
    · rw [em]
      refine LA.imp fun s _ => ?_
      cases s with
      | tm => rfl
      | pg j => by_cases e : j = i <;> first | (subst e; simp only [cont, up_eq]; done) | simp only [cont, up_ne _ _ e]
      | mc j => by_cases e : j = i <;> first | (subst e; simp only [cont, up_eq]; done) | simp only [cont, up_ne _ _ e]
      | hl j => by_cases e : j = i <;> first | (subst e; simp only [cont, up_eq]; done) | simp only [cont, up_ne _ _ e]
      | st j => by_cases e : j = i <;> first | (subst e; simp only [cont, up_eq]; done) | simp only [cont, up_ne _ _ e]
      | lt j => by_cases e : j = i <;> first | (subst e; simp only [cont, up_eq]; done) | simp only [cont, up_ne _ _ e]
      | dn j => by_cases e : j = i <;> first | (subst e; simp only [cont, up_eq]; done) | simp only [cont, up_ne _ _ e]
  · have c3 : mc__law_end_3 env h = some (true, h ++ [.dct []]) := by
      obtain ⟨q, qs, hq⟩ : ∃ q qs, (S i).st = q :: qs := by
        cases z : (S i).st with
        | nil => exact absurd z hs
        | cons q qs => exact ⟨q, qs, rfl⟩
      have hh : hitsM (h ++ [Ob.dct []]) [] (stL (S i).st) = some false := by rw [hq]; rfl
      unfold mc__law_end_3
      simp only [mTest, mOp, mDGet, e_v b1, Option.bind_some, mK, asK_ref, q1, e_keyS, g_mc_stored, Option.map_some, mDNew, mDk, q2A, hn1, hh, Bool.and_false, if_true, Bool.not_false, e_asB]
    obtain ⟨env1, e4, d8, d0, d1, d2, d3, d4⟩ := end_loop LA I hi ht e8 b0 b1 b2 b3 b4
    have L1 := LL.dns LA hi ((S i).dn ++ (S i).st.map (fun p => (g0 (S i).ck i, p.1, p.2.2)))
    generalize (h ++ [Ob.dct []]).set (loc (.dn i)) (.lst (((S i).dn ++ (S i).st.map (fun p => (g0 (S i).ck i, p.1, p.2.2))).map fun r => .d (dnD r))) = h1 at *
    have q11 := L1.a_mc hi
    have q12 := L1.a_hl hi
    rw [up_eq] at q11 q12
    have qa := q_arrived (loc (.hl i)) h1 (S i).nd (S i).hs (i : Int) (g0 (S i).ck i) q12 (by rw [O.hl]; omega)
    have L2 := L1.hls hi (S i).nd (raF (S i).hs (i : Int) (g0 (S i).ck i))
    simp only [up_eq, up_up] at L2
    have s7 : ml__law_end_7 env1 h1 = some (.nx env1 (h1.set (loc (.hl i)) (hd (S i).nd (raF (S i).hs (i : Int) (g0 (S i).ck i))))) := by
      unfold ml__law_end_7
      simp only [mDrop, mCB, mCons, mNil, mDGet, e_v d1, e_v d3, e_v d4, Option.bind_some, mK, asK_ref, q11, e_keyS, g_mc_held, Option.map_some, qa]
    generalize h1.set (loc (.hl i)) (hd (S i).nd (raF (S i).hs (i : Int) (g0 (S i).ck i))) = h2 at *
    have q21 := L2.a_mc hi
    have q22 := L2.a_st hi
    have q23 := L2.a_lt hi
    rw [up_eq] at q21 q22 q23
    by_cases he : i = ho
    · have c8 : mc__law_end_8 env1 h2 = some (false, h2) := by
        have x : decide ((i : Int) = (ho : Int)) = true := decide_eq_true (by omega)
        unfold mc__law_end_8
        simp only [mTest, mOp, e_v d2, e_v d3, Option.bind_some, e_neI, x, Bool.not_true, e_asB]
      refine ⟨env1, h2, ?_, ?_, d8, d1, d3, d4⟩
      · unfold ml__law_end_3
        refine e_ifT (h1 := h ++ [.dct []]) c3 ?_
        rw [e_mSeq e4, e_mSeq s7]
        exact e_ifF c8 rfl
      · unfold midM
        rw [if_neg hs, if_pos (.inr he)]
        exact L2
    · have c8 : mc__law_end_8 env1 h2 = some (true, h2) := by
        have x : decide ((i : Int) = (ho : Int)) = false := decide_eq_false (by omega)
        unfold mc__law_end_8
        simp only [mTest, mOp, e_v d2, e_v d3, Option.bind_some, e_neI, x, Bool.not_false, e_asB]
      have s9 : ml__law_end_9 env1 h2 = some (.nx (env1.set 7 (some (.ref (loc (.lt i))))) h2) := by
        unfold ml__law_end_9
        simp only [mAsg, mDGet, e_v d1, Option.bind_some, mK, asK_ref, q21, e_keyS, g_mc_letters, Option.map_some, e_mgName]
      have f1 : At (env1.set 7 (some (.ref (loc (.lt i))))) 1 (.ref (loc (.mc i))) := at_ne d1 (by decide)
      have f4 : At (env1.set 7 (some (.ref (loc (.lt i))))) 4 (dI (g0 (S i).ck i)) := at_ne d4 (by decide)
      have f3 : At (env1.set 7 (some (.ref (loc (.lt i))))) 3 (dI (i : Nat)) := at_ne d3 (by decide)
      have f7 : At (env1.set 7 (some (.ref (loc (.lt i))))) 7 (.ref (loc (.lt i))) := at_eq (by omega)
      have qd := q_difference (loc (.st i)) h2 (S i).st q22 O.s0 (stn I hi)
      have L3 := L2.lts hi ((S i).lt ++ [(g0 (S i).ck i, rowsS (S i).st)])
      simp only [up_eq, up_up] at L3
      have hz : ((S i).lt.map fun l => MV.d (ltD l)).length < 100000 := by
        have := O.z2
        simp; omega
      have s10 : ml__law_end_10 (env1.set 7 (some (.ref (loc (.lt i))))) h2 = some (.nx (env1.set 7 (some (.ref (loc (.lt i))))) (h2.set (loc (.lt i)) (.lst (((S i).lt ++ [(g0 (S i).ck i, rowsS (S i).st)]).map fun l => .d (ltD l))))) := by
        unfold ml__law_end_10
        rw [List.map_append]
        simp only [mApp, mTup, mCons, mNil, mCB, mDGet, e_v f1, e_v f4, e_v f7, Option.bind_some, asL_ref, q23, mK, asK_ref, q21, e_keyS, g_mc_stored, Option.map_some, qd, List.length_cons, List.length_nil, Nat.reduceAdd, Nat.reduceLeDiff, if_true, e_mkTup2, hz, List.map_cons, List.map_nil]
      refine ⟨env1.set 7 (some (.ref (loc (.lt i)))), h2.set (loc (.lt i)) (.lst (((S i).lt ++ [(g0 (S i).ck i, rowsS (S i).st)]).map fun l => .d (ltD l))), ?_, ?_, (by rw [List.length_set]; exact d8), f1, f3, f4⟩
      · unfold ml__law_end_3
        refine e_ifT (h1 := h ++ [.dct []]) c3 ?_
        rw [e_mSeq e4, e_mSeq s7]
        refine e_ifT c8 ?_
        rw [e_mSeq s9]
        exact s10
      · unfold midM
        rw [if_neg hs, if_neg (fun z => z.elim hs he)]
        exact L3
theorem q_law_end (L : LL m loc S h) (I : Inv9 m ho t S) (hi : i < m) (hm : m ≤ 4) (ht : t ≤ 200) : ∃ h' loc', fn__law_end [.ref (loc .tm), .ref (loc (.mc i)), .d (.int (ho : Nat))] h = some (.d .none, h') ∧ LL m loc' (up S i (endM ho i (rowsS (S i).st) (S i))) h' ∧ loc' .tm = loc .tm ∧ (∀ j, loc' (.mc j) = loc (.mc j)) := by
  have O := I.o i hi
  have q1 := L.a_mc hi
  have s1 : ml__law_end_1 [some (.ref (loc .tm)), some (.ref (loc (.mc i))), some (dI (ho : Nat)), none, none, none, none, none] h = some (.nx [some (.ref (loc .tm)), some (.ref (loc (.mc i))), some (dI (ho : Nat)), some (dI (i : Nat)), none, none, none, none] h) := by
    unfold ml__law_end_1
    simp only [mAsg, mDGet, mK, mVar, List.getElem?_cons_zero, List.getElem?_cons_succ, Option.bind_some, asK_ref, q1, e_keyS, g_mc_machine, Option.map_some, e_mgName, List.set_cons_succ, List.set_cons_zero]
  have x1 := ixck (ck := (S i).ck) (j := i) (h := h) (by rw [O.cl]; exact hi)
  have s2 : ml__law_end_2 [some (.ref (loc .tm)), some (.ref (loc (.mc i))), some (dI (ho : Nat)), some (dI (i : Nat)), none, none, none, none] h = some (.nx [some (.ref (loc .tm)), some (.ref (loc (.mc i))), some (dI (ho : Nat)), some (dI (i : Nat)), some (dI (g0 (S i).ck i)), none, none, none] h) := by
    unfold ml__law_end_2
    simp only [mAsg, mOp, mDGet, mK, mVar, List.getElem?_cons_zero, List.getElem?_cons_succ, Option.bind_some, asK_ref, q1, e_keyS, g_mc_clock, Option.map_some, x1, e_mgName, List.set_cons_succ, List.set_cons_zero]
  obtain ⟨env3, h3, s3, L3, d8, d1, d3, d4⟩ := end_mid L I hi hm ht (env := [some (.ref (loc .tm)), some (.ref (loc (.mc i))), some (dI (ho : Nat)), some (dI (i : Nat)), some (dI (g0 (S i).ck i)), none, none, none]) rfl rfl rfl rfl rfl rfl
  obtain ⟨x, hx⟩ : ∃ x, x = midM ho i (rowsS (S i).st) (S i) := ⟨_, rfl⟩
  rw [← hx] at L3
  have ck : x.ck = (S i).ck := by rw [hx]; rfl
  have q3 := L3.a_mc hi
  rw [up_eq] at q3
  have LA := L3.app [.dct []]
  have q3A := LL.a_mc LA hi
  rw [up_eq] at q3A
  have l3 := L3.lt (r := .mc i) hi
  have s11 : ml__law_end_11 env3 h3 = some (.nx env3 ((h3 ++ [Ob.dct []]).set (loc (.mc i)) (.dct (mcL (dI (i : Nat)) (.ref (loc (.pg i))) (.ref (loc (.hl i))) (.ref h3.length) (.d (ti x.ck)) (.ref (loc (.lt i))) (.ref (loc (.dn i))) x.en)))) := by
    have hz : (mcL (dI (i : Nat)) (.ref (loc (.pg i))) (.ref (loc (.hl i))) (.ref (loc (.st i))) (.d (ti x.ck)) (.ref (loc (.lt i))) (.ref (loc (.dn i))) x.en).length < 100000 := by cases x.en <;> simp [enT]
    unfold ml__law_end_11
    simp only [mDPut, mDNew, mK, e_v d1, Option.bind_some, asK_ref, q3A, e_keyS, hz, if_true, p_mc_stored]
  have L4 := L3.news hi
  simp only [up_eq, up_up] at L4
  generalize ((h3 ++ [Ob.dct []]).set (loc (.mc i)) (.dct (mcL (dI (i : Nat)) (.ref (loc (.pg i))) (.ref (loc (.hl i))) (.ref h3.length) (.d (ti x.ck)) (.ref (loc (.lt i))) (.ref (loc (.dn i))) x.en))) = h4 at *
  obtain ⟨loc', hl'⟩ : ∃ loc', loc' = newSt loc i h3.length := ⟨_, rfl⟩
  have m1 : loc' .tm = loc .tm := by rw [hl']; exact newSt_tm _
  have m2 : ∀ j, loc' (.mc j) = loc (.mc j) := fun j => by rw [hl']; exact newSt_mc j _
  rw [← hl'] at L4
  clear hl' q3 q3A LA L3
  rw [← m2 i] at d1
  have q4 := L4.a_mc hi
  rw [up_eq] at q4
  have s12 : ml__law_end_12 env3 h4 = some (.nx env3 (h4.set (loc' (.mc i)) (.dct (mcL (dI (i : Nat)) (.ref (loc' (.pg i))) (.ref (loc' (.hl i))) (.ref (loc' (.st i))) (.d (ti x.ck)) (.ref (loc' (.lt i))) (.ref (loc' (.dn i))) (some x.ck))))) := by
    have hz : (mcL (dI (i : Nat)) (.ref (loc' (.pg i))) (.ref (loc' (.hl i))) (.ref (loc' (.st i))) (.d (ti x.ck)) (.ref (loc' (.lt i))) (.ref (loc' (.dn i))) x.en).length < 100000 := by cases x.en <;> simp [enT]
    unfold ml__law_end_12
    simp only [mDPut, mDGet, mK, e_v d1, Option.bind_some, asK_ref, q4, e_keyS, g_mc_clock, Option.map_some, hz, if_true, p_mc_ended]
  have L5 := L4.cks hi x.ck (some x.ck)
  simp only [up_eq, up_up] at L5
  generalize (h4.set (loc' (.mc i)) (.dct (mcL (dI (i : Nat)) (.ref (loc' (.pg i))) (.ref (loc' (.hl i))) (.ref (loc' (.st i))) (.d (ti x.ck)) (.ref (loc' (.lt i))) (.ref (loc' (.dn i))) (some x.ck)))) = h5 at *
  have q5 := L5.a_mc hi
  rw [up_eq] at q5
  have qw := q_with_count x.ck (i : Int) (g0 (S i).ck i + 1) (by rw [ck, O.cl]; omega)
  have s13 : ml__law_end_13 env3 h5 = some (.nx env3 (h5.set (loc' (.mc i)) (.dct (mcL (dI (i : Nat)) (.ref (loc' (.pg i))) (.ref (loc' (.hl i))) (.ref (loc' (.st i))) (.d (ti (wcF x.ck (i : Int) (g0 (S i).ck i + 1)))) (.ref (loc' (.lt i))) (.ref (loc' (.dn i))) (some x.ck))))) := by
    have hz : (mcL (dI (i : Nat)) (.ref (loc' (.pg i))) (.ref (loc' (.hl i))) (.ref (loc' (.st i))) (.d (ti x.ck)) (.ref (loc' (.lt i))) (.ref (loc' (.dn i))) (some x.ck)).length < 100000 := by simp [enT]
    unfold ml__law_end_13
    simp only [mDPut, mCB, mCons, mNil, mOp, mDGet, mK, e_v d1, e_v d3, e_v d4, Option.bind_some, asK_ref, q5, e_keyS, g_mc_clock, Option.map_some, e_I, e_lift3, qw, hz, if_true, p_mc_clock]
  have L6 := L5.cks hi (wcF x.ck (i : Int) (g0 (S i).ck i + 1)) (some x.ck)
  simp only [up_eq, up_up] at L6
  generalize (h5.set (loc' (.mc i)) (.dct (mcL (dI (i : Nat)) (.ref (loc' (.pg i))) (.ref (loc' (.hl i))) (.ref (loc' (.st i))) (.d (ti (wcF x.ck (i : Int) (g0 (S i).ck i + 1)))) (.ref (loc' (.lt i))) (.ref (loc' (.dn i))) (some x.ck)))) = h6 at *
  refine ⟨h6, loc', ?_, ?_, m1, m2⟩
  · unfold fn__law_end m__law_end toHeap
    rw [if_pos (by rfl)]
    show (mSeq ml__law_end_1 _ [some (.ref (loc .tm)), some (.ref (loc (.mc i))), some (dI (ho : Nat)), none, none, none, none, none] h).bind resM = _
    rw [e_mSeq s1, e_mSeq s2, e_mSeq s3, e_mSeq s11, e_mSeq s12, s13]
    rfl
  · have e : endM ho i (rowsS (S i).st) (S i) = { x with st := [], en := some x.ck, ck := wcF x.ck (i : Int) (g0 (S i).ck i + 1) } := by
      rw [hx]; rfl
    rw [e]
    exact L6
end
/-! ### two machines, equal or not -/
theorem pl_ti' (xs : List Int) : pl 1 (ti xs) := pl_tup fun d m => by
  obtain ⟨i, _, rfl⟩ := List.mem_map.mp m
  exact pl_int i
theorem pl_kD (k : Int × Int) : pl 1 (kD k) := pl_t2 (pl_int _) (pl_int _)
theorem pl_cD (c : Cl) : pl 2 (cD c) := pl_t2 (pl_int _) (pl_kD _)
theorem pl_rwD (r : Int × Cl) : pl 2 (rwD r) := pl_t3 (pl_int _) (pl_int _) (pl_kD _)
theorem pl_dnD (r : Int × Int × (Int × Int)) : pl 2 (dnD r) := pl_t3 (pl_int _) (pl_int _) (pl_kD _)
theorem pl_ltD (l : Int × List (Int × Cl)) : pl 4 (ltD l) := pl_t2 (pl_int _) (pl_tup fun d m => by
  obtain ⟨q, _, rfl⟩ := List.mem_map.mp m
  exact pl_rwD q)
theorem eqR_def {h : MH} {x y : MV} {d e : PyData} {n : Nat} (hx : reify 6 h x = some d) (hy : reify 6 h y = some e) (hd : pl n d) (he : pl n e) (hn : n ≤ 64 := by decide) : eqR h x y = some (PyData.eqv d e) := by
  unfold eqR
  rw [hx, hy, Option.bind_some, Option.bind_some, if_pos ⟨pl_sh hd hn, pl_sh he hn⟩]
theorem eqW_d {h : MH} {d e : PyData} {n : Nat} (hd : pl n d) (he : pl n e) (hn : n ≤ 64 := by decide) : eqW h (.d d) (.d e) = some (PyData.eqv d e) := eqR_def (reify_d _ _ _) (reify_d _ _ _) hd he hn
theorem eqW_same {h : MH} {n : Nat} : eqW h (.ref n) (.ref n) = some true := by
  unfold eqW refOf
  simp
theorem eqW_lst {α β : Type} [DecidableEq α] [DecidableEq β] {h : MH} {a b : Nat} {f : α → PyData} {g : β → PyData} {xs : List α} {ys : List β} {n : Nat} (ha : h[a]? = some (.lst (xs.map fun x => .d (f x)))) (hb : h[b]? = some (.lst (ys.map fun y => .d (g y)))) (hf : ∀ x ∈ xs, pl n (f x)) (hg : ∀ y ∈ ys, pl n (g y)) (hn : n ≤ 63 := by decide) : ∃ r, eqW h (.ref a) (.ref b) = some r := by
  by_cases e : a = b
  · rw [e]; exact ⟨true, eqW_same⟩
  · unfold eqW refOf
    simp only [e, if_false, asK_ref, ha]
    exact ⟨_, eqR_def (re_lst f ha) (re_lst g hb) (pl_list (n := n) fun d m => by
      obtain ⟨x, hx, rfl⟩ := List.mem_map.mp m
      exact hf x hx) (pl_list (n := n) fun d m => by
      obtain ⟨x, hx, rfl⟩ := List.mem_map.mp m
      exact hg x hx) (by omega)⟩
theorem hits_defd {h : MH} {ls : List (Key × MV)} {n : Nat} (hn : n ≤ 64) (hl : ∀ k v, valG ls k = some v → ∃ e, v = .d e ∧ pl n e) : ∀ {ks : List (Key × MV)}, (∀ p ∈ ks, ∃ e, p.2 = .d e ∧ pl n e) → ∃ r, hitsM h ls ks = some r
  | [], _ => ⟨true, rfl⟩
  | (k, x) :: ks, hk => by
    obtain ⟨d, hx, pd⟩ := hk (k, x) List.mem_cons_self
    simp only at hx
    subst hx
    rw [hitsM]
    cases e : valG ls k with
    | none => exact ⟨false, rfl⟩
    | some v =>
      obtain ⟨e', rfl, pe⟩ := hl k v e
      obtain ⟨r, hr⟩ := hits_defd hn hl (ks := ks) (fun p hp => hk p (List.mem_cons_of_mem _ hp))
      simp only [reify_d, Option.bind_some]
      rw [if_pos ⟨pl_sh pd hn, pl_sh pe hn⟩, hr]
      exact ⟨_, rfl⟩
theorem eqW_dct {h : MH} {a b : Nat} {ks ls : List (Key × MV)} {n : Nat} (ha : h[a]? = some (.dct ks)) (hb : h[b]? = some (.dct ls)) (hk : ∀ p ∈ ks, ∃ e, p.2 = .d e ∧ pl n e) (hl : ∀ k v, valG ls k = some v → ∃ e, v = .d e ∧ pl n e) (hn : n ≤ 64 := by decide) : ∃ r, eqW h (.ref a) (.ref b) = some r := by
  by_cases e : a = b
  · rw [e]; exact ⟨true, eqW_same⟩
  · obtain ⟨r, hr⟩ := hits_defd (h := h) hn hl hk
    unfold eqW refOf
    simp only [e, if_false, asK_ref, ha, hb, hr]
    exact ⟨_, rfl⟩
theorem val_pair {ls : List (Key × MV)} {k : Key} {v : MV} (h : valG ls k = some v) : ∃ p ∈ ls, p.2 = v := by
  induction ls with
  | nil => cases h
  | cons q qs ih =>
    rw [valG_cons] at h
    by_cases e : q.1 = k
    · rw [if_pos e] at h
      cases h
      exact ⟨q, List.mem_cons_self, rfl⟩
    · rw [if_neg e] at h
      obtain ⟨p, hp, e2⟩ := ih h
      exact ⟨p, List.mem_cons_of_mem _ hp, e2⟩
theorem all_st (s : List (Int × Cl)) : ∀ p ∈ stL s, ∃ e, p.2 = .d e ∧ pl 2 e := fun p hp => by
  obtain ⟨q, _, rfl⟩ := List.mem_map.mp hp
  exact ⟨_, rfl, pl_cD _⟩
theorem all_hd (a b : List Int) : ∀ p ∈ [((.inr "need" : Key), MV.d (ti a)), (.inr "has", .d (ti b))], ∃ e, p.2 = .d e ∧ pl 1 e := fun p hp => by
  simp only [List.mem_cons, List.not_mem_nil, or_false] at hp
  rcases hp with rfl | rfl
  · exact ⟨_, rfl, pl_ti' _⟩
  · exact ⟨_, rfl, pl_ti' _⟩
theorem val_all {n : Nat} {ls : List (Key × MV)} (h : ∀ p ∈ ls, ∃ e, p.2 = .d e ∧ pl n e) : ∀ k v, valG ls k = some v → ∃ e, v = .d e ∧ pl n e := fun k v e => by
  obtain ⟨p, hp, rfl⟩ := val_pair e
  exact h p hp
section
variable {m i k ho t : Nat} {loc : Rl → Nat} {S : Nat → Mc} {h : MH}
theorem hitsW_cons {h : MH} {ls : List (Key × MV)} {ky : Key} {x y : MV} {r : List (Key × MV)} {c b : Bool} (e1 : valG ls ky = some y) (e2 : eqW h x y = some c) (e3 : hitsWM h ls r = some b) : hitsWM h ls ((ky, x) :: r) = some (c && b) := by
  rw [hitsWM, e1]
  simp only [e2, Option.bind_some, e3, Option.map_some]
theorem hitsW_more {h : MH} {ls : List (Key × MV)} {ky : Key} {x y : MV} {r : List (Key × MV)} (e1 : valG ls ky = some y) (e2 : ∃ c, eqW h x y = some c) (e3 : ∃ b, hitsWM h ls r = some b) : ∃ b, hitsWM h ls ((ky, x) :: r) = some b := by
  obtain ⟨c, e2⟩ := e2
  obtain ⟨b, e3⟩ := e3
  exact ⟨_, hitsW_cons e1 e2 e3⟩
theorem hitsW_en {h : MH} {ls : List (Key × MV)} (en : Option (List Int)) (hl : ∀ v, valG ls (.inr "ended") = some v → ∃ e, v = .d e ∧ pl 1 e) : ∃ b, hitsWM h ls (enT en) = some b := by
  cases en with
  | none => exact ⟨true, rfl⟩
  | some e =>
    unfold enT
    rw [hitsWM]
    cases z : valG ls (.inr "ended") with
    | none => exact ⟨false, rfl⟩
    | some v =>
      obtain ⟨d, rfl, pd⟩ := hl v z
      simp only [eqW_d (pl_ti' e) pd, Option.bind_some, hitsWM, Option.map_some]
      exact ⟨_, rfl⟩
theorem machines_ne (L : LL m loc S h) (hi : i < m) (hk : k < m) : ∃ b, hitsWM h (mcL (dI (k : Nat)) (.ref (loc (.pg k))) (.ref (loc (.hl k))) (.ref (loc (.st k))) (.d (ti (S k).ck)) (.ref (loc (.lt k))) (.ref (loc (.dn k))) (S k).en) (mcL (dI (i : Nat)) (.ref (loc (.pg i))) (.ref (loc (.hl i))) (.ref (loc (.st i))) (.d (ti (S i).ck)) (.ref (loc (.lt i))) (.ref (loc (.dn i))) (S i).en) = some (decide (i = k) && b) := by
  obtain ⟨ls, hls⟩ : ∃ ls, ls = (mcL (dI (k : Nat)) (.ref (loc (.pg k))) (.ref (loc (.hl k))) (.ref (loc (.st k))) (.d (ti (S k).ck)) (.ref (loc (.lt k))) (.ref (loc (.dn k))) (S k).en) := ⟨_, rfl⟩
  have g0' : valG ls (.inr "machine") = some (dI (k : Nat)) := by rw [hls]; exact g_mc_machine
  have g1 : valG ls (.inr "page") = some (.ref (loc (.pg k))) := by rw [hls]; exact g_mc_page
  have g2 : valG ls (.inr "held") = some (.ref (loc (.hl k))) := by rw [hls]; exact g_mc_held
  have g3 : valG ls (.inr "stored") = some (.ref (loc (.st k))) := by rw [hls]; exact g_mc_stored
  have g4 : valG ls (.inr "clock") = some (.d (ti (S k).ck)) := by rw [hls]; exact g_mc_clock
  have g5 : valG ls (.inr "letters") = some (.ref (loc (.lt k))) := by rw [hls]; exact g_mc_letters
  have g6 : valG ls (.inr "done") = some (.ref (loc (.dn k))) := by rw [hls]; exact g_mc_done
  have g7 : valG ls (.inr "ended") = (S k).en.map fun e => .d (ti e) := by rw [hls]; exact g_mc_ended
  rw [← hls]
  clear hls
  obtain ⟨b, e⟩ := hitsW_more (h := h) g1 (eqW_lst (L.a_pg hi) (L.a_pg hk) (fun c _ => pl_cD c) (fun c _ => pl_cD c)) (hitsW_more g2 (eqW_dct (L.a_hl hi) (L.a_hl hk) (all_hd _ _) (val_all (all_hd _ _))) (hitsW_more g3 (eqW_dct (L.a_st hi) (L.a_st hk) (all_st _) (val_all (all_st _))) (hitsW_more g4 ⟨_, eqW_d (pl_ti' (S i).ck) (pl_ti' (S k).ck)⟩ (hitsW_more g5 (eqW_lst (L.a_lt hi) (L.a_lt hk) (fun c _ => pl_ltD c) (fun c _ => pl_ltD c)) (hitsW_more g6 (eqW_lst (L.a_dn hi) (L.a_dn hk) (fun c _ => pl_dnD c) (fun c _ => pl_dnD c)) (hitsW_en (h := h) (S i).en (fun v hv => by
    rw [g7] at hv
    obtain ⟨e, _, e2⟩ := Option.map_eq_some_iff.mp hv
    exact ⟨_, e2.symm, pl_ti' e⟩)))))))
  have x : eqW h (dI (i : Nat)) (dI (k : Nat)) = some (decide (i = k)) := by
    rw [eqW_d (pl_int (n := 0) _) (pl_int (n := 0) _), G.eqv_int]
    exact congrArg some (decide_eq_decide.mpr (by omega))
  exact ⟨b, hitsW_cons g0' x e⟩
theorem hits_self {h : MH} {ls : List (Key × MV)} : ∀ {ks : List (Key × MV)}, (∀ p ∈ ks, valG ls p.1 = some p.2 ∧ eqW h p.2 p.2 = some true) → hitsWM h ls ks = some true
  | [], _ => rfl
  | p :: ks, hk => by
    obtain ⟨a, b⟩ := hk p List.mem_cons_self
    have := hitsW_cons a b (hits_self (ks := ks) fun q hq => hk q (List.mem_cons_of_mem _ hq))
    exact this
theorem machine_self {h : MH} {a0 a4 : PyData} {a1 a2 a3 a5 a6 : Nat} {en : Option (List Int)} (p0 : pl 1 a0) (p4 : pl 1 a4) : hitsWM h (mcL (.d a0) (.ref a1) (.ref a2) (.ref a3) (.d a4) (.ref a5) (.ref a6) en) (mcL (.d a0) (.ref a1) (.ref a2) (.ref a3) (.d a4) (.ref a5) (.ref a6) en) = some true := by
  have dd : ∀ {d : PyData}, pl 1 d → eqW h (.d d) (.d d) = some true := fun {d} p => by
    rw [eqW_d p p, SeqAt.eqv_refl d p.1]
  refine hits_self fun p hp => ?_
  simp only [List.mem_cons] at hp
  rcases hp with rfl | rfl | rfl | rfl | rfl | rfl | rfl | hp
  · exact ⟨g_mc_machine, dd p0⟩
  · exact ⟨g_mc_page, eqW_same⟩
  · exact ⟨g_mc_held, eqW_same⟩
  · exact ⟨g_mc_stored, eqW_same⟩
  · exact ⟨g_mc_clock, dd p4⟩
  · exact ⟨g_mc_letters, eqW_same⟩
  · exact ⟨g_mc_done, eqW_same⟩
  · cases en with
    | none => cases hp
    | some e =>
      rw [show enT (some e) = [((.inr "ended" : Key), MV.d (ti e))] from rfl, List.mem_singleton] at hp
      subst hp
      exact ⟨g_mc_ended, dd (pl_ti' e)⟩
/-- one == other, one != other -/
theorem e_machines (L : LL m loc S h) (hi : i < m) (hk : k < m) (neg : Bool) : mDkW neg (.ref (loc (.mc i))) (.ref (loc (.mc k))) h = some (.d (.bool (if neg = true then !decide (i = k) else decide (i = k))), h) := by
  have q1 := L.a_mc hi
  have q2 := L.a_mc hk
  unfold mDkW
  simp only [asK_ref, q1, q2, Option.bind_some]
  by_cases e : i = k
  · subst e
    rw [machine_self (pl_int _) (pl_ti' _), Option.map_some]
    cases neg <;> simp
  · obtain ⟨b, hb⟩ := machines_ne L hi hk
    rw [hb, Option.map_some, decide_eq_false e]
    cases neg <;> simp
end
/-- the greatest number of what is done that the clock covers -/
def covN (dn : List (Int × Int × (Int × Int))) (c : Int) : List Int := (dn.filter fun r => decide (r.1 ≤ c)).map (·.1)
def mxN (dn : List (Int × Int × (Int × Int))) (c : Int) : Int := maxI (0 :: covN dn c)
theorem mxN_ge {dn : List (Int × Int × (Int × Int))} {c : Int} {r : Int × Int × (Int × Int)} (h : r ∈ dn) (hc : r.1 ≤ c) : r.1 ≤ mxN dn c :=
  maxI_ge (List.mem_cons_of_mem _ (List.mem_map.mpr ⟨r, List.mem_filter.mpr ⟨h, decide_eq_true hc⟩, rfl⟩))
theorem mxN_mem (dn : List (Int × Int × (Int × Int))) (c : Int) : mxN dn c = 0 ∨ ∃ r ∈ dn, r.1 = mxN dn c := by
  have := maxI_mem (xs := 0 :: covN dn c) (by simp)
  rcases List.mem_cons.mp this with h | h
  · exact .inl h
  · obtain ⟨r, hr, e⟩ := List.mem_map.mp h
    exact .inr ⟨r, (List.mem_filter.mp hr).1, e⟩
section
variable {m i k ho t : Nat} {loc : Rl → Nat} {S : Nat → Mc} {h : MH}
/-- what is needed when the thirds below q have been looked at -/
def ndAt (m i q : Nat) (S : Nat → Mc) (ck nd : List Int) : Prop := nd.length = m ∧ ∀ j, j < m → g0 nd j = if j < q ∧ j ≠ i then max (g0 (S i).nd j) (mxN (S j).dn (g0 ck j)) else g0 (S i).nd j
theorem take_body {ck nd : List Int} {q : Nat} (L : LL m loc (up S i { S i with ck := ck, nd := nd }) h) (I : Inv9 m ho t S) (hi : i < m) (hq : q < m) (hm : m ≤ 4) (ht : t ≤ 200) (lc : ck.length = m) (N : ndAt m i q S ck nd)
    {env : Env} (e7 : env.length = 7) (b0 : At env 0 (.ref (loc .tm))) (b1 : At env 1 (.ref (loc (.mc i)))) (b4 : At env 4 (.ref (loc (.mc q)))) :
    ∃ env' h' nd', mb__law_take_over_4 env h = some (.nx env' h') ∧ env'.length = 7 ∧ At env' 0 (.ref (loc .tm)) ∧ At env' 1 (.ref (loc (.mc i))) ∧ LL m loc (up S i { S i with ck := ck, nd := nd' }) h' ∧ ndAt m i (q + 1) S ck nd' := by
  have O := I.o i hi
  have q1 := L.a_mc hi
  have q2 := L.a_mc hq
  have q3 := L.a_hl hi
  have q4 := L.a_dn hq
  have hdn : ∀ j, (up S i { S i with ck := ck, nd := nd } j).dn = (S j).dn := fun j => by
    unfold up
    by_cases z : j = i
    · rw [if_pos z, z]
    · rw [if_neg z]
  rw [hdn] at q4
  rw [up_eq] at q1 q3
  unfold mb__law_take_over_4 ml__law_take_over_5
  by_cases e : q = i
  · have c5 : mc__law_take_over_5 env h = some (false, h) := by
      have x : decide ((q : Int) = (i : Int)) = true := decide_eq_true (by omega)
      unfold mc__law_take_over_5
      simp only [mTest, mOp, mDGet, e_v b1, e_v b4, Option.bind_some, mK, asK_ref, q1, q2, e_keyS, g_mc_machine, Option.map_some, e_neI, x, Bool.not_true, e_asB]
    refine ⟨env, h, nd, e_ifF c5 rfl, e7, b0, b1, L, N.1, fun j hj => ?_⟩
    rw [N.2 j hj]
    by_cases z : j < q ∧ j ≠ i
    · rw [if_pos z, if_pos ⟨by omega, z.2⟩]
    · rw [if_neg z, if_neg (fun y => z ⟨by omega, y.2⟩)]
  · have c5 : mc__law_take_over_5 env h = some (true, h) := by
      have x : decide ((q : Int) = (i : Int)) = false := decide_eq_false (by omega)
      unfold mc__law_take_over_5
      simp only [mTest, mOp, mDGet, e_v b1, e_v b4, Option.bind_some, mK, asK_ref, q1, q2, e_keyS, g_mc_machine, Option.map_some, e_neI, x, Bool.not_false, e_asB]
    have zz := (I.o q hq).z1
    have s6 : ml__law_take_over_6 env h = some (.nx (env.set 5 (some (.d (li (covN (S q).dn (g0 ck q)))))) h) := by
      have ec : mLc (mItL (mDGet (mVar 4) (mK (.str "done")))) (mgName 6) (mTest (mOp (mIB fun i j => decide (i ≤ j)) (mOp mIx (mVar 6) (mK (.int 0))) (mOp mIx (mDGet (mVar 1) (mK (.str "clock"))) (mDGet (mVar 4) (mK (.str "machine")))))) (mOp mIx (mVar 6) (mK (.int 0))) [6] env h = some (((S q).dn.filter fun r => decide (r.1 ≤ g0 ck q)).map fun r => dI r.1, h) := by
        have w1 : At (wipeM env [6]) 1 (.ref (loc (.mc i))) := at_ne b1 (by decide)
        have w4 : At (wipeM env [6]) 4 (.ref (loc (.mc q))) := at_ne b4 (by decide)
        have lw : (wipeM env [6]).length = 7 := by
          show (env.set 6 none).length = 7
          rw [List.length_set]; exact e7
        refine mLc_filtS (S q).dn (fun r => .d (dnD r)) (fun r => dI r.1) (fun r => decide (r.1 ≤ g0 ck q)) (src := [(loc (.dn q), (S q).dn.map fun r => .d (dnD r))]) (h1 := h) ?_ ?_ ?_ ?_ (by omega)
        · rw [e_ref (n := loc (.dn q)) (xs := (S q).dn.map fun r => .d (dnD r)) (h1 := h)]
          · simp only [mDGet, e_v b4, Option.bind_some, mK, asK_ref, q2, e_keyS, g_mc_done, Option.map_some]
          · exact q4
        · intro s hs
          rw [List.mem_singleton.mp hs]; exact q4
        · intro r hr
          have y1 : At ((wipeM env [6]).set 6 (some (.d (dnD r)))) 1 (.ref (loc (.mc i))) := at_ne w1 (by decide)
          have y4 : At ((wipeM env [6]).set 6 (some (.d (dnD r)))) 4 (.ref (loc (.mc q))) := at_ne w4 (by decide)
          have y6 : At ((wipeM env [6]).set 6 (some (.d (dnD r)))) 6 (.d (dnD r)) := at_eq (by omega)
          have x1 := ixck (ck := ck) (j := q) (h := h) (by rw [lc]; exact hq)
          have x2 : mIx (.d (dnD r)) (.d (.int 0)) h = some (dI r.1, h) := e_ixT_0
          simp only [mgName, Option.bind_some, mTest, mOp, mDGet, e_v y1, e_v y4, e_v y6, mK, x2, asK_ref, q1, q2, e_keyS, g_mc_clock, g_mc_machine, Option.map_some, x1, e_IB, e_asB]
        · intro r hr _
          have y6 : At ((wipeM env [6]).set 6 (some (.d (dnD r)))) 6 (.d (dnD r)) := at_eq (by omega)
          have x2 : mIx (.d (dnD r)) (.d (.int 0)) h = some (dI r.1, h) := e_ixT_0
          simp only [mgName, Option.bind_some, mOp, e_v y6, mK, x2]
      unfold ml__law_take_over_6
      have ea : allD (((S q).dn.filter fun r => decide (r.1 ≤ g0 ck q)).map fun r => dI r.1) = some ((covN (S q).dn (g0 ck q)).map .int) := by
        rw [e_allDf (fun r : Int × Int × (Int × Int) => PyData.int r.1)]
        unfold covN
        rw [List.map_map]; rfl
      simp only [mAsg, mDat, ec, Option.bind_some, ea, Option.map_some, e_mgName]
    have b1' : At (env.set 5 (some (.d (li (covN (S q).dn (g0 ck q)))))) 1 (.ref (loc (.mc i))) := at_ne b1 (by decide)
    have b4' : At (env.set 5 (some (.d (li (covN (S q).dn (g0 ck q)))))) 4 (.ref (loc (.mc q))) := at_ne b4 (by decide)
    have b5' : At (env.set 5 (some (.d (li (covN (S q).dn (g0 ck q)))))) 5 (.d (li (covN (S q).dn (g0 ck q)))) := at_eq (by omega)
    have qn := q_needs (loc (.hl i)) h nd (S i).hs (q : Int) (mxN (S q).dn (g0 ck q)) q3 (by rw [N.1]; omega)
    have L1 := L.hls hi (raF nd (q : Int) (mxN (S q).dn (g0 ck q))) (S i).hs
    simp only [up_eq, up_up] at L1
    have s7 : ml__law_take_over_7 (env.set 5 (some (.d (li (covN (S q).dn (g0 ck q)))))) h = some (.nx (env.set 5 (some (.d (li (covN (S q).dn (g0 ck q)))))) (h.set (loc (.hl i)) (hd (raF nd (q : Int) (mxN (S q).dn (g0 ck q))) (S i).hs))) := by
      have hl : (covN (S q).dn (g0 ck q)).length ≤ 1000 := by
        unfold covN
        rw [List.length_map]
        have := List.length_filter_le (fun r : Int × Int × (Int × Int) => decide (r.1 ≤ g0 ck q)) (S q).dn
        omega
      have x1 : mCatS (.d (.list [.int 0])) (.d (li (covN (S q).dn (g0 ck q)))) h = some ((PyData.int 0 :: (covN (S q).dn (g0 ck q)).map .int).map .d, h) := by
        unfold mCatS
        rw [if_pos ⟨rfl, rfl⟩, e_itL, Option.bind_some, show itemsOf h (.d (li (covN (S q).dn (g0 ck q)))) = some (((covN (S q).dn (g0 ck q)).map .int).map .d) from rfl, Option.bind_some, if_pos (by
          show 1 + (((covN (S q).dn (g0 ck q)).map PyData.int).map MV.d).length ≤ 100000
          rw [List.length_map, List.length_map]; omega)]
        rfl
      have x2 : mMaxL [.d (.list (PyData.int 0 :: (covN (S q).dn (g0 ck q)).map .int))] h = some (dI (mxN (S q).dn (g0 ck q)), h) := by
        unfold mMaxL
        rw [e_arg1, Option.bind_some, if_pos e_isTL, e_itL, Option.bind_some]
        have : (PyData.int 0 :: (covN (S q).dn (g0 ck q)).map .int).map MV.d = (0 :: covN (S q).dn (g0 ck q)).map dI := by
          rw [List.map_cons, List.map_map, List.map_cons]; rfl
        rw [this, intsOf_map, Option.bind_some, if_pos (by simp)]
        rfl
      unfold ml__law_take_over_7
      simp only [mDrop, mCB, mCons, mNil, mDGet, e_v b1', e_v b4', e_v b5', Option.bind_some, mK, asK_ref, q1, q2, e_keyS, g_mc_held, g_mc_machine, Option.map_some, mDat, mCatE, mLst, List.length_cons, List.length_nil, Nat.reduceAdd, Nat.reduceLeDiff, if_true, e_allD1, e_allD0, x1, e_allDm, x2, qn]
    refine ⟨_, _, raF nd (q : Int) (mxN (S q).dn (g0 ck q)), e_ifT c5 (by rw [e_mSeq s6]; exact s7), (by rw [List.length_set]; exact e7), at_ne b0 (by decide), b1', L1, by rw [ra_len]; exact N.1, fun j hj => ?_⟩
    rw [ra_get _ _ _ (by rw [N.1]; exact hq), N.2 j hj]
    by_cases z : j = q
    · rw [if_pos z, N.2 q hq, if_neg (fun y => Nat.lt_irrefl _ y.1), if_pos ⟨by omega, by omega⟩, z]
    · rw [if_neg z]
      by_cases y : j < q ∧ j ≠ i
      · rw [if_pos y, if_pos ⟨by omega, y.2⟩]
      · rw [if_neg y, if_neg (fun w => y ⟨by omega, w.2⟩)]
theorem q_take (L : LL m loc S h) (I : Inv9 m ho t S) (hi : i < m) (hk : k < m) (hm : m ≤ 4) (ht : t ≤ 200) : ∃ h' S', fn__law_take_over [.ref (loc .tm), .ref (loc (.mc i)), .ref (loc (.mc k))] h = some (.d .none, h') ∧ LL m loc S' h' ∧ Inv9 m ho t S' := by
  have O := I.o i hi
  have q1 := L.a_mc hi
  have q2 := L.a_mc hk
  have start : ∀ {r : Option MRes}, ml__law_take_over_1 [some (.ref (loc .tm)), some (.ref (loc (.mc i))), some (.ref (loc (.mc k))), none, none, none, none] h = r → fn__law_take_over [.ref (loc .tm), .ref (loc (.mc i)), .ref (loc (.mc k))] h = r.bind resM := fun {r} e => by
    rw [← e]; rfl
  cases he : (S k).en with
  | none =>
    refine ⟨h, S, ?_, L, I⟩
    refine (start (r := some (.nx [some (.ref (loc .tm)), some (.ref (loc (.mc i))), some (.ref (loc (.mc k))), none, none, none, none] h)) ?_).trans rfl
    unfold ml__law_take_over_1
    refine e_ifF (h1 := h) ?_ rfl
    have x : (valG (mcL (dI (k : Nat)) (.ref (loc (.pg k))) (.ref (loc (.hl k))) (.ref (loc (.st k))) (.d (ti (S k).ck)) (.ref (loc (.lt k))) (.ref (loc (.dn k))) (S k).en) (.inr "ended")).isSome = false := by
      rw [g_mc_ended, he]; rfl
    unfold mc__law_take_over_1
    simp only [mAnd, mTest, mDIn, mK, mVar, List.getElem?_cons_zero, List.getElem?_cons_succ, Option.bind_some, asK_ref, q2, e_keyS, Option.map_some, x, e_asB, if_false, Bool.false_eq_true]
  | some e =>
    have x : (valG (mcL (dI (k : Nat)) (.ref (loc (.pg k))) (.ref (loc (.hl k))) (.ref (loc (.st k))) (.d (ti (S k).ck)) (.ref (loc (.lt k))) (.ref (loc (.dn k))) (S k).en) (.inr "ended")).isSome = true := by
      rw [g_mc_ended, he]; rfl
    have c1 : mc__law_take_over_1 [some (.ref (loc .tm)), some (.ref (loc (.mc i))), some (.ref (loc (.mc k))), none, none, none, none] h = some (!decide (i = k), h) := by
      have y := e_machines L hi hk true
      unfold mc__law_take_over_1
      simp only [mAnd, mTest, mDIn, mOp, mK, mVar, List.getElem?_cons_zero, List.getElem?_cons_succ, Option.bind_some, asK_ref, q2, e_keyS, Option.map_some, x, e_asB, if_false, if_true, Bool.false_eq_true, y]
    by_cases hik : i = k
    · rw [decide_eq_true hik] at c1
      refine ⟨h, S, ?_, L, I⟩
      refine (start (r := some (.nx [some (.ref (loc .tm)), some (.ref (loc (.mc i))), some (.ref (loc (.mc k))), none, none, none, none] h)) ?_).trans rfl
      unfold ml__law_take_over_1
      exact e_ifF c1 rfl
    · rw [decide_eq_false hik] at c1
      have el := (I.o k hk).el e he
      obtain ⟨ck, hck⟩ : ∃ ck, ck = wcF (mxF (S i).ck e) (i : Int) (g0 (S i).ck i) := ⟨_, rfl⟩
      have lm : (mxF (S i).ck e).length = m := by rw [mx_len _ _ (by rw [O.cl, el])]; exact O.cl
      have lc : ck.length = m := by rw [hck, wc_len]; exact lm
      have ckv : ∀ j, g0 ck j = if j = i then g0 (S i).ck i else max (g0 (S i).ck j) (g0 e j) := fun j => by
        rw [hck, wc_get' _ _ _ (by rw [lm]; exact hi), mx_get _ _ (by rw [O.cl, el])]
      have x1 := ixck (ck := (S i).ck) (j := i) (h := h) (by rw [O.cl]; exact hi)
      have s2 : ml__law_take_over_2 [some (.ref (loc .tm)), some (.ref (loc (.mc i))), some (.ref (loc (.mc k))), none, none, none, none] h = some (.nx [some (.ref (loc .tm)), some (.ref (loc (.mc i))), some (.ref (loc (.mc k))), some (dI (g0 (S i).ck i)), none, none, none] h) := by
        unfold ml__law_take_over_2
        simp only [mAsg, mOp, mDGet, mK, mVar, List.getElem?_cons_zero, List.getElem?_cons_succ, Option.bind_some, asK_ref, q1, e_keyS, g_mc_clock, g_mc_machine, Option.map_some, x1, e_mgName, List.set_cons_succ, List.set_cons_zero]
      have qm := q_merged (S i).ck e (by rw [O.cl]; omega)
      have qw := q_with_count (mxF (S i).ck e) (i : Int) (g0 (S i).ck i) (by rw [lm]; omega)
      rw [← hck] at qw
      have ge : valG (mcL (dI (k : Nat)) (.ref (loc (.pg k))) (.ref (loc (.hl k))) (.ref (loc (.st k))) (.d (ti (S k).ck)) (.ref (loc (.lt k))) (.ref (loc (.dn k))) (S k).en) (.inr "ended") = some (.d (ti e)) := by
        rw [g_mc_ended, he]; rfl
      have s3 : ml__law_take_over_3 [some (.ref (loc .tm)), some (.ref (loc (.mc i))), some (.ref (loc (.mc k))), some (dI (g0 (S i).ck i)), none, none, none] h = some (.nx [some (.ref (loc .tm)), some (.ref (loc (.mc i))), some (.ref (loc (.mc k))), some (dI (g0 (S i).ck i)), none, none, none] (h.set (loc (.mc i)) (.dct (mcL (dI (i : Nat)) (.ref (loc (.pg i))) (.ref (loc (.hl i))) (.ref (loc (.st i))) (.d (ti ck)) (.ref (loc (.lt i))) (.ref (loc (.dn i))) (S i).en)))) := by
        have hz : (mcL (dI (i : Nat)) (.ref (loc (.pg i))) (.ref (loc (.hl i))) (.ref (loc (.st i))) (.d (ti (S i).ck)) (.ref (loc (.lt i))) (.ref (loc (.dn i))) (S i).en).length < 100000 := by cases (S i).en <;> simp [enT]
        unfold ml__law_take_over_3
        simp only [mDPut, mCB, mCons, mNil, mDGet, mK, mVar, List.getElem?_cons_zero, List.getElem?_cons_succ, Option.bind_some, asK_ref, q1, q2, e_keyS, g_mc_clock, g_mc_machine, ge, Option.map_some, e_lift2, qm, e_lift3, qw, hz, if_true, p_mc_clock]
      have L1 := L.cks hi ck (S i).en
      have eS : up S i { S i with ck := ck, en := (S i).en } = up S i { S i with ck := ck, nd := (S i).nd } := rfl
      rw [eS] at L1
      generalize (h.set (loc (.mc i)) (.dct (mcL (dI (i : Nat)) (.ref (loc (.pg i))) (.ref (loc (.hl i))) (.ref (loc (.st i))) (.d (ti ck)) (.ref (loc (.lt i))) (.ref (loc (.dn i))) (S i).en))) = h1 at *
      obtain ⟨env', h', e4, d7, d0, d1, nd', L2, N2⟩ := mFor_invS (mi := mItL (mVar 0)) (g := mgName 4) (mb := mb__law_take_over_4) (env := [some (.ref (loc .tm)), some (.ref (loc (.mc i))), some (.ref (loc (.mc k))), some (dI (g0 (S i).ck i)), none, none, none]) (h := h1) (h1 := h1)
        (src := [(loc .tm, (List.range m).map fun i => .ref (loc (.mc i)))]) (List.range m) (fun j => .ref (loc (.mc j)))
        (e_ref (n := loc .tm) rfl L1.a_tm)
        (fun q env1 h2 => env1.length = 7 ∧ At env1 0 (.ref (loc .tm)) ∧ At env1 1 (.ref (loc (.mc i))) ∧ ∃ nd, LL m loc (up S i { S i with ck := ck, nd := nd }) h2 ∧ ndAt m i q S ck nd)
        (by
          rintro _ _ h2 ⟨_, _, _, nd, L2, _⟩ s hs
          rw [List.mem_singleton.mp hs]; exact L2.a_tm)
        ⟨rfl, rfl, rfl, (S i).nd, L1, O.nl, fun j hj => by rw [if_neg (fun z => Nat.not_lt_zero _ z.1)]⟩
        (by
          rintro q j env1 h2 hq ⟨c7, c0, c1, nd, L2, N2⟩
          obtain ⟨hl, rfl⟩ := List.getElem?_eq_some_iff.mp hq
          rw [List.length_range] at hl
          rw [List.getElem_range]
          obtain ⟨env3, h3, nd3, e3, f7, f0, f1, L3, N3⟩ := take_body L2 I hi hl hm ht lc N2 (env := env1.set 4 (some (.ref (loc (.mc q))))) (by rw [List.length_set]; exact c7) (at_ne c0 (by decide)) (at_ne c1 (by decide)) (at_eq (by omega))
          exact ⟨_, env3, h3, rfl, e3, f7, f0, f1, nd3, L3, N3⟩)
      rw [List.length_range] at N2
      refine ⟨h', _, ?_, L2, I.take hi lc N2.1 (by rw [ckv, if_pos rfl]) (fun j hj ne => ?_) (by rw [N2.2 i hi, if_neg (fun z => z.2 rfl)]; exact O.nn) (fun j hj ne r hr hc => ?_) (fun j hj ne => ?_)⟩
      · refine (start (r := some (.nx env' h')) ?_).trans rfl
        unfold ml__law_take_over_1
        refine e_ifT c1 ?_
        rw [e_mSeq s2, e_mSeq s3]
        exact e4
      · rw [ckv, if_neg ne]
        have a1 := I.c3 i j hi hj (Ne.symm ne)
        have a2 := I.e3 k j e hk hj he
        omega
      · rw [N2.2 j hj, if_pos ⟨hj, ne⟩]
        have := mxN_ge hr hc
        omega
      · rw [N2.2 j hj, if_pos ⟨hj, ne⟩]
        rcases Int.le_total (g0 (S i).nd j) (mxN (S j).dn (g0 ck j)) with z | z
        · rw [Int.max_eq_right z]; exact mxN_mem _ _
        · rw [Int.max_eq_left z]; exact I.n0 i j hi hj (Ne.symm ne)
end
section
variable {m i ho t : Nat} {loc : Rl → Nat} {S : Nat → Mc} {h : MH}
theorem q_arrive (L : LL m loc S h) (I : Inv9 m ho t S) (hi : i < m) (hh : ho < m) (hm : m ≤ 4) : ∃ h' S', fn__law_arrive [.ref (loc .tm), .ref (loc (.mc i)), .d (.int (ho : Nat))] h = some (.d .none, h') ∧ LL m loc S' h' ∧ Inv9 m ho t S' ∧ (∀ j, j ≠ i → (S' j).lt = (S j).lt) ∧ (S' i).lt = (S i).lt.drop 1 := by
  have O := I.o i hi
  have q1 := L.a_mc hi
  have q2 := L.a_lt hi
  have start : ∀ {r : Option MRes}, ml__law_arrive_1 [some (.ref (loc .tm)), some (.ref (loc (.mc i))), some (dI (ho : Nat)), none, none, none] h = r → fn__law_arrive [.ref (loc .tm), .ref (loc (.mc i)), .d (.int (ho : Nat))] h = r.bind resM := fun {r} e => by
    rw [← e]; rfl
  have c1 : mc__law_arrive_1 [some (.ref (loc .tm)), some (.ref (loc (.mc i))), some (dI (ho : Nat)), none, none, none] h = some (!decide ((S i).lt.map ltD = []), h) := by
    have y : mEqD true (.ref (loc (.lt i))) (.d (.list [])) h = some (.d (.bool (if true = true then !decide ((S i).lt.map ltD = []) else decide ((S i).lt.map ltD = []))), h) := e_nilE (re_lst ltD q2) (pl_sh (pl_list (n := 4) fun d hd => by
      obtain ⟨l, _, rfl⟩ := List.mem_map.mp hd
      exact pl_ltD l))
    have y' : (if true = true then !decide ((S i).lt.map ltD = []) else decide ((S i).lt.map ltD = [])) = !decide ((S i).lt.map ltD = []) := if_pos rfl
    rw [y'] at y
    unfold mc__law_arrive_1
    simp only [mTest, mOp, mDGet, mDat, mLst, mNil, mK, mVar, List.getElem?_cons_zero, List.getElem?_cons_succ, Option.bind_some, asK_ref, q1, e_keyS, g_mc_letters, Option.map_some, List.length_nil, Nat.zero_le, if_true, e_allD0, y, e_asB]
  cases hl : (S i).lt with
  | nil =>
    have x : (!decide ((S i).lt.map ltD = [])) = false := by rw [hl]; rfl
    rw [x] at c1
    refine ⟨h, S, ?_, L, I, fun _ _ => rfl, by rw [hl]; rfl⟩
    refine (start (r := some (.nx [some (.ref (loc .tm)), some (.ref (loc (.mc i))), some (dI (ho : Nat)), none, none, none] h)) ?_).trans rfl
    exact e_ifF c1 rfl
  | cons l ls =>
    obtain ⟨n, rows⟩ := l
    have x : (!decide ((S i).lt.map ltD = [])) = true := by rw [hl]; rfl
    rw [x] at c1
    rw [hl] at q2
    have ne : i ≠ ho := fun z => by rw [z, I.lh] at hl; cases hl
    have s2 : ml__law_arrive_2 [some (.ref (loc .tm)), some (.ref (loc (.mc i))), some (dI (ho : Nat)), none, none, none] h = some (.nx [some (.ref (loc .tm)), some (.ref (loc (.mc i))), some (dI (ho : Nat)), some (.ref (loc (.lt i))), none, none] h) := by
      unfold ml__law_arrive_2
      simp only [mAsg, mDGet, mK, mVar, List.getElem?_cons_zero, List.getElem?_cons_succ, Option.bind_some, asK_ref, q1, e_keyS, g_mc_letters, Option.map_some, e_mgName, List.set_cons_succ, List.set_cons_zero]
    have x0 : mIx (.ref (loc (.lt i))) (.d (.int 0)) h = some (.d (ltD (n, rows)), h) := e_ixR q2 (G.atI_ok (by decide) rfl)
    have s3 : ml__law_arrive_3 [some (.ref (loc .tm)), some (.ref (loc (.mc i))), some (dI (ho : Nat)), some (.ref (loc (.lt i))), none, none] h = some (.nx [some (.ref (loc .tm)), some (.ref (loc (.mc i))), some (dI (ho : Nat)), some (.ref (loc (.lt i))), some (dI n), some (.d (.tuple (rows.map rwD)))] h) := by
      unfold ml__law_arrive_3
      simp only [mAsg, mOp, mK, mVar, List.getElem?_cons_zero, List.getElem?_cons_succ, Option.bind_some, x0, e_mgTupT, List.length_cons, List.length_nil, Nat.reduceAdd, if_true, List.map_cons, List.map_nil, e_mgCons, e_mgName, e_mgNil, Option.map_some, List.set_cons_succ, List.set_cons_zero]
    have s4 : ml__law_arrive_4 [some (.ref (loc .tm)), some (.ref (loc (.mc i))), some (dI (ho : Nat)), some (.ref (loc (.lt i))), some (dI n), some (.d (.tuple (rows.map rwD)))] h = some (.nx [some (.ref (loc .tm)), some (.ref (loc (.mc i))), some (dI (ho : Nat)), some (.ref (loc (.lt i))), some (dI n), some (.d (.tuple (rows.map rwD)))] (h.set (loc (.lt i)) (.lst (ls.map fun l => .d (ltD l))))) := by
      unfold ml__law_arrive_4
      simp only [mPop0, mVar, List.getElem?_cons_zero, List.getElem?_cons_succ, Option.bind_some, asL_ref, q2, List.map_cons]
    have L1 := L.lts hi ls
    generalize h.set (loc (.lt i)) (.lst (ls.map fun l => .d (ltD l))) = h1 at *
    have q3 := L1.a_mc hi
    have q4 := L1.a_mc hh
    have q5 := L1.a_pg hh
    rw [up_eq] at q3
    rw [up_ne _ _ (Ne.symm ne)] at q4 q5
    have xt : mIx (.ref (loc .tm)) (.d (.int (ho : Nat))) h1 = some (.ref (loc (.mc ho)), h1) := e_ixR L1.a_tm (by
      rw [atI_range (fun j => MV.ref (loc (.mc j))) (by omega) (by omega), Int.toNat_natCast])
    have qm := q_merge (loc (.pg ho)) h1 (S ho).pg rows q5
    have s5 : ml__law_arrive_5 [some (.ref (loc .tm)), some (.ref (loc (.mc i))), some (dI (ho : Nat)), some (.ref (loc (.lt i))), some (dI n), some (.d (.tuple (rows.map rwD)))] h1 = some (.nx [some (.ref (loc .tm)), some (.ref (loc (.mc i))), some (dI (ho : Nat)), some (.ref (loc (.lt i))), some (dI n), some (.d (.tuple (rows.map rwD)))] (h1.set (loc (.pg ho)) (pgM (mgAll (S ho).pg rows)))) := by
      unfold ml__law_arrive_5
      simp only [mDrop, mCB, mCons, mNil, mOp, mDGet, mK, mVar, List.getElem?_cons_zero, List.getElem?_cons_succ, Option.bind_some, xt, asK_ref, q4, e_keyS, g_mc_page, Option.map_some, qm]
    have L2 := L1.pgs hh (mgAll (S ho).pg rows)
    generalize h1.set (loc (.pg ho)) (pgM (mgAll (S ho).pg rows)) = h2 at *
    have r1 := L2.a_mc hi
    have r2 := L2.a_mc hh
    have r3 := L2.a_hl hh
    rw [up_ne _ _ ne, up_eq] at r1
    rw [up_eq, up_ne _ _ (Ne.symm ne)] at r2 r3
    have xt2 : mIx (.ref (loc .tm)) (.d (.int (ho : Nat))) h2 = some (.ref (loc (.mc ho)), h2) := e_ixR L2.a_tm (by
      rw [atI_range (fun j => MV.ref (loc (.mc j))) (by omega) (by omega), Int.toNat_natCast])
    have qa := q_arrived (loc (.hl ho)) h2 (S ho).nd (S ho).hs (i : Int) n r3 (by rw [(I.o ho hh).hl]; omega)
    have s6 : ml__law_arrive_6 [some (.ref (loc .tm)), some (.ref (loc (.mc i))), some (dI (ho : Nat)), some (.ref (loc (.lt i))), some (dI n), some (.d (.tuple (rows.map rwD)))] h2 = some (.nx [some (.ref (loc .tm)), some (.ref (loc (.mc i))), some (dI (ho : Nat)), some (.ref (loc (.lt i))), some (dI n), some (.d (.tuple (rows.map rwD)))] (h2.set (loc (.hl ho)) (hd (S ho).nd (raF (S ho).hs (i : Int) n)))) := by
      unfold ml__law_arrive_6
      simp only [mDrop, mCB, mCons, mNil, mOp, mDGet, mK, mVar, List.getElem?_cons_zero, List.getElem?_cons_succ, Option.bind_some, xt2, asK_ref, r1, r2, e_keyS, g_mc_held, g_mc_machine, Option.map_some, qa]
    have L3 := L2.hls hh (S ho).nd (raF (S ho).hs (i : Int) n)
    generalize h2.set (loc (.hl ho)) (hd (S ho).nd (raF (S ho).hs (i : Int) n)) = h3 at *
    simp only [up_eq, up_up, up_ne S { S i with lt := ls } (Ne.symm ne)] at L3
    have I3 := I.arr hi hh hl
    refine ⟨h3, _, ?_, L3, ?_, fun j hj => ?_, ?_⟩
    · refine (start (r := some (.nx [some (.ref (loc .tm)), some (.ref (loc (.mc i))), some (dI (ho : Nat)), some (.ref (loc (.lt i))), some (dI n), some (.d (.tuple (rows.map rwD)))] h3)) ?_).trans rfl
      refine e_ifT c1 ?_
      rw [e_mSeq s2, e_mSeq s3, e_mSeq s4, e_mSeq s5]
      exact s6
    · refine cast ?_ I3
      congr 1
      funext j
      unfold up
      by_cases z : j = i
      · have z' : ¬ j = ho := fun y => ne (z.symm.trans y)
        rw [if_pos z, if_neg z', if_pos z, if_neg ne]
      · rw [if_neg z]
        by_cases y : j = ho
        · rw [if_pos y, if_pos y]
        · rw [if_neg y, if_neg y, if_neg z]
    · by_cases y : j = ho
      · rw [y, up_eq]
      · rw [up_ne _ _ y, up_ne _ _ hj]
    · rw [up_ne _ _ ne, up_eq]; rfl
theorem q_asked (L : LL m loc S h) (I : Inv9 m ho t S) (hi : i < m) (hh : ho < m) (hm : m ≤ 4) : ∃ h' S', fn__law_asked [.ref (loc .tm), .ref (loc (.mc i)), .d (.int (ho : Nat))] h = some (.d (.bool true), h') ∧ LL m loc S' h' ∧ Inv9 m ho t S' ∧ (∀ j, (S' j).lt = (S j).lt) ∧ ((∀ j, j < m → (S j).lt = []) → Fr m (S' i).nd (S' i).hs i) := by
  have O := I.o i hi
  have Oh := I.o ho hh
  have q1 := L.a_mc hi
  have q2 := L.a_mc hh
  have all : (∀ j, j < m → (S j).lt = []) → ∀ b, b < m → ∀ j, j < m → j ≠ ho → j ≠ b → g0 (S b).nd j ≤ g0 (S ho).hs j := fun hl b hb j hj n1 n2 => by
    rcases I.n0 b j hb hj (Ne.symm n2) with z | ⟨r, hr, z⟩
    · have := Oh.h0 j; omega
    · rcases I.l4 j hj n1 r hr with y | ⟨l, y, _⟩
      · omega
      · rw [hl j hj] at y; cases y
  have start : ∀ {r : Option MRes}, mSeq ml__law_asked_1 (mSeq ml__law_asked_2 (mSeq ml__law_asked_4 (mSeq ml__law_asked_5 ml__law_asked_6))) [some (.ref (loc .tm)), some (.ref (loc (.mc i))), some (dI (ho : Nat)), none] h = r → fn__law_asked [.ref (loc .tm), .ref (loc (.mc i)), .d (.int (ho : Nat))] h = r.bind resM := fun {r} e => by
    rw [← e]; rfl
  have xt : mIx (.ref (loc .tm)) (.d (.int (ho : Nat))) h = some (.ref (loc (.mc ho)), h) := e_ixR L.a_tm (by
    rw [atI_range (fun j => MV.ref (loc (.mc j))) (by omega) (by omega), Int.toNat_natCast])
  have s1 : ml__law_asked_1 [some (.ref (loc .tm)), some (.ref (loc (.mc i))), some (dI (ho : Nat)), none] h = some (.nx [some (.ref (loc .tm)), some (.ref (loc (.mc i))), some (dI (ho : Nat)), some (.ref (loc (.mc ho)))] h) := by
    unfold ml__law_asked_1
    simp only [mAsg, mOp, mVar, List.getElem?_cons_zero, List.getElem?_cons_succ, Option.bind_some, xt, e_mgName, Option.map_some, List.set_cons_succ, List.set_cons_zero]
  have ye := e_machines L hi hh false
  have qf := q_is_fresh (loc (.hl ho)) h (S ho).nd (S ho).hs (S i).nd (ho : Int) (L.a_hl hh) (by rw [O.nl]; omega)
  have qhi := L.a_hl hi
  by_cases hik : i = ho
  · have c2 : mc__law_asked_2 [some (.ref (loc .tm)), some (.ref (loc (.mc i))), some (dI (ho : Nat)), some (.ref (loc (.mc ho)))] h = some (true, h) := by
      rw [decide_eq_true hik] at ye
      unfold mc__law_asked_2
      simp only [mOr, mTest, mOp, mVar, List.getElem?_cons_zero, List.getElem?_cons_succ, Option.bind_some, ye, if_false, Bool.false_eq_true, e_asB, if_true]
    refine ⟨h, S, ?_, L, I, fun _ => rfl, fun hl j hj ne => ?_⟩
    · refine (start (r := some (.rt (.d (.bool true)) h)) ?_).trans rfl
      rw [e_mSeq s1]
      have : ml__law_asked_2 [some (.ref (loc .tm)), some (.ref (loc (.mc i))), some (dI (ho : Nat)), some (.ref (loc (.mc ho)))] h = some (.rt (.d (.bool true)) h) := e_ifT c2 rfl
      unfold mSeq
      rw [this]; rfl
    · rw [hik] at ne ⊢
      exact all hl ho hh j hj ne ne
  · rw [decide_eq_false hik] at ye
    by_cases hf : wiF (wcF (S i).nd (ho : Int) 0) (S ho).hs = true
    · have fr : Fr m (S i).nd (S ho).hs ho := (fr_iff O.nl Oh.hl Oh.h0).mp hf
      rw [hf] at qf
      have c2 : mc__law_asked_2 [some (.ref (loc .tm)), some (.ref (loc (.mc i))), some (dI (ho : Nat)), some (.ref (loc (.mc ho)))] h = some (false, h) := by
        unfold mc__law_asked_2
        simp only [mOr, mNot, mTest, mOp, mCB, mCons, mNil, mDGet, mK, mVar, List.getElem?_cons_zero, List.getElem?_cons_succ, Option.bind_some, ye, if_false, Bool.false_eq_true, e_asB, asK_ref, q1, q2, e_keyS, g_mc_held, Option.map_some, qhi, v_need, qf, Bool.not_true]
      have s2 : ml__law_asked_2 [some (.ref (loc .tm)), some (.ref (loc (.mc i))), some (dI (ho : Nat)), some (.ref (loc (.mc ho)))] h = some (.nx [some (.ref (loc .tm)), some (.ref (loc (.mc i))), some (dI (ho : Nat)), some (.ref (loc (.mc ho)))] h) := e_ifF c2 rfl
      have qr : liftD pf_rows_of [.ref (loc (.pg ho))] h = some (.d (.tuple ((rwsF (S ho).pg).map rwD)), h) := e_liftR (ds := [pgD (S ho).pg]) (r := .tuple ((rwsF (S ho).pg).map rwD)) rfl (by simp only [mapO, re_pg (L.a_pg hh)]; rfl) (q_rows_of _ (by rw [Oh.pl]; omega)) (by rw [noL]; exact noL_rw _)
      have qm := q_merge (loc (.pg i)) h (S i).pg (rwsF (S ho).pg) (L.a_pg hi)
      have s4 : ml__law_asked_4 [some (.ref (loc .tm)), some (.ref (loc (.mc i))), some (dI (ho : Nat)), some (.ref (loc (.mc ho)))] h = some (.nx [some (.ref (loc .tm)), some (.ref (loc (.mc i))), some (dI (ho : Nat)), some (.ref (loc (.mc ho)))] (h.set (loc (.pg i)) (pgM (mgAll (S i).pg (rwsF (S ho).pg))))) := by
        unfold ml__law_asked_4
        simp only [mDrop, mCB, mCons, mNil, mDGet, mK, mVar, List.getElem?_cons_zero, List.getElem?_cons_succ, Option.bind_some, asK_ref, q1, q2, e_keyS, g_mc_page, Option.map_some, qr, qm]
      have L1 := L.pgs hi (mgAll (S i).pg (rwsF (S ho).pg))
      generalize h.set (loc (.pg i)) (pgM (mgAll (S i).pg (rwsF (S ho).pg))) = h1 at *
      have r1 := L1.a_mc hi
      have r2 := L1.a_mc hh
      have r3 := L1.a_hl hi
      have r4 := L1.a_hl hh
      rw [up_eq] at r1 r3
      rw [up_ne _ _ (Ne.symm hik)] at r2 r4
      have qh := q_had (loc (.hl i)) h1 (S i).nd (S i).hs (S ho).hs r3 (by rw [O.hl]; omega)
      have s5 : ml__law_asked_5 [some (.ref (loc .tm)), some (.ref (loc (.mc i))), some (dI (ho : Nat)), some (.ref (loc (.mc ho)))] h1 = some (.nx [some (.ref (loc .tm)), some (.ref (loc (.mc i))), some (dI (ho : Nat)), some (.ref (loc (.mc ho)))] (h1.set (loc (.hl i)) (hd (S i).nd (mxF (S i).hs (S ho).hs)))) := by
        unfold ml__law_asked_5
        simp only [mDrop, mCB, mCons, mNil, mDGet, mK, mVar, List.getElem?_cons_zero, List.getElem?_cons_succ, Option.bind_some, asK_ref, r1, r2, e_keyS, g_mc_held, Option.map_some, r4, v_has, qh]
      have L2 := L1.hls hi (S i).nd (mxF (S i).hs (S ho).hs)
      simp only [up_eq, up_up] at L2
      generalize h1.set (loc (.hl i)) (hd (S i).nd (mxF (S i).hs (S ho).hs)) = h2 at *
      obtain ⟨I2, f2⟩ := I.ask hi hh hik fr
      have f2' : Fr m (up S i { S i with pg := mgAll (S i).pg (rwsF (S ho).pg), hs := mxF (S i).hs (S ho).hs } i).nd (up S i { S i with pg := mgAll (S i).pg (rwsF (S ho).pg), hs := mxF (S i).hs (S ho).hs } i).hs i := by
        rw [up_eq]; exact f2
      have O2 := I2.o i hi
      have e6 := e_fresh L2 I2 hi hm (env := [some (.ref (loc .tm)), some (.ref (loc (.mc i))), some (dI (ho : Nat)), some (.ref (loc (.mc ho)))]) (k := 1) rfl
      rw [(fr_iff O2.nl O2.hl O2.h0).mpr f2'] at e6
      have qr2 := q_right L2 I2 hi (I2.rt hi f2')
      refine ⟨h2, _, ?_, L2, I2, fun j => ?_, fun _ => f2'⟩
      · refine (start (r := some (.rt (.d (.bool true)) h2)) ?_).trans rfl
        rw [e_mSeq s1, e_mSeq s2, e_mSeq s4, e_mSeq s5]
        unfold ml__law_asked_6
        simp only [mRet, mAndV, e6, Option.bind_some, if_true, mCB, mCons, mNil, mVar, List.getElem?_cons_zero, List.getElem?_cons_succ, qr2, Option.map_some]
      · by_cases y : j = i
        · rw [y, up_eq]
        · rw [up_ne _ _ y]
    · rw [eq_false_of_ne_true hf] at qf
      have c2 : mc__law_asked_2 [some (.ref (loc .tm)), some (.ref (loc (.mc i))), some (dI (ho : Nat)), some (.ref (loc (.mc ho)))] h = some (true, h) := by
        unfold mc__law_asked_2
        simp only [mOr, mNot, mTest, mOp, mCB, mCons, mNil, mDGet, mK, mVar, List.getElem?_cons_zero, List.getElem?_cons_succ, Option.bind_some, ye, if_false, Bool.false_eq_true, e_asB, asK_ref, q1, q2, e_keyS, g_mc_held, Option.map_some, qhi, v_need, qf, Bool.not_false]
      refine ⟨h, S, ?_, L, I, fun _ => rfl, fun hl => absurd ((fr_iff O.nl Oh.hl Oh.h0).mpr fun j hj ne => ?_) hf⟩
      · refine (start (r := some (.rt (.d (.bool true)) h)) ?_).trans rfl
        rw [e_mSeq s1]
        have : ml__law_asked_2 [some (.ref (loc .tm)), some (.ref (loc (.mc i))), some (dI (ho : Nat)), some (.ref (loc (.mc ho)))] h = some (.rt (.d (.bool true)) h) := e_ifT c2 rfl
        unfold mSeq
        rw [this]; rfl
      · by_cases z : j = i
        · rw [z, O.nn]; exact Oh.h0 i
        · exact all hl i hi j hj ne z
end
def S0 (m : Nat) (i : Nat) : Mc := ⟨List.replicate 4 c0, List.replicate m 0, List.replicate m 0, [], wcF (List.replicate m 0) (i : Int) 1, [], [], none⟩
def loc0 (m : Nat) : Rl → Nat
  | .tm => 6 * m
  | .pg i => 6 * i
  | .hl i => 6 * i + 1
  | .st i => 6 * i + 2
  | .lt i => 6 * i + 3
  | .dn i => 6 * i + 4
  | .mc i => 6 * i + 5
theorem g0_rep (m k : Nat) : g0 (List.replicate m 0) k = 0 := by
  unfold g0
  rw [List.getD_eq_getElem?_getD, List.getElem?_replicate]
  split <;> rfl
theorem inv0 {m ho : Nat} : Inv9 m ho 0 (S0 m) := by
  have ck : ∀ i, i < m → ∀ j, g0 (S0 m i).ck j = if j = i then 1 else 0 := fun i hi j => by
    show g0 (wcF (List.replicate m 0) (i : Int) 1) j = _
    rw [wc_get' _ _ _ (by rw [List.length_replicate]; exact hi), g0_rep]
  refine ⟨fun i hi => ⟨rfl, by simp [S0], by simp [S0], by simp [S0, wc_len], (fun e he => nomatch he), List.nodup_nil, (fun p hp => nomatch hp), (fun p hp => nomatch hp), fun j => by show 0 ≤ g0 (List.replicate m 0) j; rw [g0_rep]; exact Int.le_refl _, .nil, (fun p hp => nomatch hp), by rw [ck i hi, if_pos rfl]; decide, Nat.le_refl _, Nat.le_refl _, g0_rep m i⟩, fun i j hi hj ne => ?_, (fun i j e hi hj he => nomatch he), (fun i j hi hj ne r hr => nomatch hr), fun i j hi hj => ?_, (fun i j hi hj ne r hr => nomatch hr), (fun j hj ne r hr => nomatch hr), rfl, fun i j hi hj ne => .inl (g0_rep m j), (fun r hr => nomatch hr)⟩
  · rw [ck i hi, ck j hj, if_neg (Ne.symm ne), if_pos rfl]; decide
  · show g0 (List.replicate m 0) j < _
    rw [g0_rep, ck j hj, if_pos rfl]; decide
def blk (m i b : Nat) : MH := [pgM (List.replicate 4 c0), hd (List.replicate m 0) (List.replicate m 0), .dct [], .lst [], .lst [], .dct (mcL (dI (i : Nat)) (.ref b) (.ref (b + 1)) (.ref (b + 2)) (.d (ti (wcF (List.replicate m 0) (i : Int) 1))) (.ref (b + 3)) (.ref (b + 4)) none)]
theorem q_law_machine (m i : Nat) (h1 : 1 ≤ m) (h2 : m ≤ 4) (h : MH) : fn__law_machine [.d (.int (m : Nat)), .d (.int (i : Nat))] h = some (.ref (h.length + 5), h ++ blk m i h.length) := by
  have e1 := q_new_page h
  have e2 := q_new_held (m : Nat) (h ++ [pgM (List.replicate 4 c0)]) (by omega) (by omega)
  have e3 := q_zero_clock (m : Nat) (by omega) (by omega)
  have e4 := q_with_count (List.replicate m 0) (i : Int) 1 (by simp; omega)
  simp only [Int.toNat_natCast] at e2 e3
  have l2 : (h ++ [pgM (List.replicate 4 c0)]).length = h.length + 1 := by simp
  rw [l2] at e2
  have p : mPairs [(mK (.str "machine"), mVar 1), (mK (.str "page"), mCB fn_new_page mNil), (mK (.str "held"), mCB fn_new_held (mCons (mVar 0) mNil)), (mK (.str "stored"), mDNew), (mK (.str "clock"), mCB (liftD pf_with_count) (mCons (mCB (liftD pf_zero_clock) (mCons (mVar 0) mNil)) (mCons (mVar 1) (mCons (mK (.int 1)) mNil)))), (mK (.str "letters"), mNew (mLst mNil)), (mK (.str "done"), mNew (mLst mNil))] [some (.d (.int (m : Nat))), some (.d (.int (i : Nat)))] h
      = some ([(.inr "machine", dI (i : Nat)), (.inr "page", .ref h.length), (.inr "held", .ref (h.length + 1)), (.inr "stored", .ref (h.length + 2)), (.inr "clock", .d (ti (wcF (List.replicate m 0) (i : Int) 1))), (.inr "letters", .ref (h.length + 3)), (.inr "done", .ref (h.length + 4))], h ++ [pgM (List.replicate 4 c0), hd (List.replicate m 0) (List.replicate m 0), .dct [], .lst [], .lst []]) := by
    simp only [mPairs, mK, mVar, List.getElem?_cons_zero, List.getElem?_cons_succ, Option.bind_some, e_keyS, mCB, mCons, mNil, e1, e2, e3, e4, e_lift1, e_lift3, Option.map_some, mDNew, mNew, mLst, List.length_nil, Nat.zero_le, if_true, List.length_append, List.length_cons, List.length_nil, List.append_assoc, List.cons_append, List.nil_append, Nat.add_assoc, Nat.reduceAdd]
  have eg : mergeG [] [((.inr "machine" : Key), dI (i : Nat)), (.inr "page", .ref h.length), (.inr "held", .ref (h.length + 1)), (.inr "stored", .ref (h.length + 2)), (.inr "clock", .d (ti (wcF (List.replicate m 0) (i : Int) 1))), (.inr "letters", .ref (h.length + 3)), (.inr "done", .ref (h.length + 4))] = [(.inr "machine", dI (i : Nat)), (.inr "page", .ref h.length), (.inr "held", .ref (h.length + 1)), (.inr "stored", .ref (h.length + 2)), (.inr "clock", .d (ti (wcF (List.replicate m 0) (i : Int) 1))), (.inr "letters", .ref (h.length + 3)), (.inr "done", .ref (h.length + 4))] := mergeG_new (by
    show ([.inr "machine", .inr "page", .inr "held", .inr "stored", .inr "clock", .inr "letters", .inr "done"] : List Key).Nodup
    decide +kernel)
  unfold fn__law_machine m__law_machine ml__law_machine_1
  simp only [toHeap, mRet, mDisp, List.map_cons, List.map_nil, List.replicate_succ, List.replicate_zero, List.cons_append, List.nil_append, List.append_nil, List.length_cons, List.length_nil, Nat.reduceAdd, if_true, Nat.reduceSub] at p ⊢
  simp only [p, Option.bind_some, Option.map_some, eg]
  rw [if_pos (by show 7 ≤ 15; decide)]
  simp only [Option.map_some, Option.bind_some, e_resR, List.length_append, List.length_cons, List.length_nil, Nat.reduceAdd, List.append_assoc, List.cons_append, List.nil_append]
  rfl
theorem team_ok {m : Nat} (h1 : 1 ≤ m) (h2 : m ≤ 4) {env : Env} (e8 : env.length = 8) (a1 : At env 1 (dI (m : Nat))) : ∃ h', ml_law_3 env [] = some (.nx (env.set 3 (some (.ref (6 * m)))) h') ∧ LL m (loc0 m) (S0 m) h' := by
  have one : ∀ q : Nat, q < m → ∀ h : MH, h.length = 6 * q → ∀ r, r ≠ .tm → dom (q + 1) r → ¬ dom q r → (h ++ blk m q h.length)[loc0 m r]? = some (cont m (loc0 m) (S0 m) r) := by
    intro q hq h hl r nt d1 d2
    cases r with
    | tm => exact absurd rfl nt
    | pg i =>
      have : i = q := by simp only [dom] at d1 d2; omega
      subst this
      rw [List.getElem?_append_right (by simp only [loc0]; omega)]
      simp only [loc0, hl, Nat.sub_self]; rfl
    | hl i =>
      have : i = q := by simp only [dom] at d1 d2; omega
      subst this
      rw [List.getElem?_append_right (by simp only [loc0]; omega)]
      simp only [loc0, hl, Nat.add_sub_cancel_left]; rfl
    | st i =>
      have : i = q := by simp only [dom] at d1 d2; omega
      subst this
      rw [List.getElem?_append_right (by simp only [loc0]; omega)]
      simp only [loc0, hl, Nat.add_sub_cancel_left]; rfl
    | lt i =>
      have : i = q := by simp only [dom] at d1 d2; omega
      subst this
      rw [List.getElem?_append_right (by simp only [loc0]; omega)]
      simp only [loc0, hl, Nat.add_sub_cancel_left]; rfl
    | dn i =>
      have : i = q := by simp only [dom] at d1 d2; omega
      subst this
      rw [List.getElem?_append_right (by simp only [loc0]; omega)]
      simp only [loc0, hl, Nat.add_sub_cancel_left]; rfl
    | mc i =>
      have : i = q := by simp only [dom] at d1 d2; omega
      subst this
      rw [List.getElem?_append_right (by simp only [loc0]; omega)]
      simp only [loc0, hl, Nat.add_sub_cancel_left]; rfl
  obtain ⟨ys, h1', e, rfl, hl, at_⟩ := mLc_inv (mi := mRng1 (mCons (mVar 1) mNil)) (g := mgName 7) (me := mCB fn__law_machine (mCons (mVar 1) (mCons (mVar 7) mNil))) (vs := [7]) (env := env) (h := []) (h1 := []) (List.range m) (fun (j : Nat) => dI (j : Int))
    (by
      rw [e_rng1 (n := m) (h1 := []) (by simp only [mCons, mNil, e_v a1, Option.bind_some]) (by omega) (by omega)]
      simp)
    (fun q xs h => xs = (List.range q).map (fun i => MV.ref (loc0 m (.mc i))) ∧ h.length = 6 * q ∧ ∀ r, r ≠ .tm → dom q r → h[loc0 m r]? = some (cont m (loc0 m) (S0 m) r))
    ⟨rfl, rfl, fun r nt d => by cases r <;> first | exact absurd rfl nt | exact absurd d (Nat.not_lt_zero _)⟩
    (by
      rintro q j xs h hq ⟨rfl, hl, at_⟩
      obtain ⟨hlt, rfl⟩ := List.getElem?_eq_some_iff.mp hq
      rw [List.length_range] at hlt
      rw [List.getElem_range]
      have b1 : At ((wipeM env [7]).set 7 (some (dI (q : Nat)))) 1 (dI (m : Nat)) := at_ne (show At (env.set 7 none) 1 _ from at_ne a1 (by decide)) (by decide)
      have b7 : At ((wipeM env [7]).set 7 (some (dI (q : Nat)))) 7 (dI (q : Nat)) := at_eq (by show 7 < (env.set 7 none).length; rw [List.length_set]; omega)
      refine ⟨.ref (h.length + 5), h ++ blk m q h.length, ?_, ?_, ?_, fun r nt d => ?_⟩
      · simp only [mgName, Option.bind_some, mCB, mCons, mNil, e_v b1, e_v b7, q_law_machine m q h1 h2 h]
      · rw [List.range_succ, List.map_append, List.map_cons, List.map_nil, hl]; rfl
      · rw [List.length_append, hl]
        show 6 * q + 6 = _
        omega
      · by_cases z : dom q r
        · have lt := (List.getElem?_eq_some_iff.mp (at_ r nt z)).1
          rw [List.getElem?_append_left lt]
          exact at_ r nt z
        · exact one q hlt h hl r nt d z)
    (by
      rintro xs h ⟨rfl, _, _⟩
      simp; omega)
  rw [List.length_range] at hl at_ e
  refine ⟨h1' ++ [.lst ((List.range m).map fun i => MV.ref (loc0 m (.mc i)))], ?_, ⟨fun r s hr hs e => ?_, fun r hr => ?_⟩⟩
  · unfold ml_law_3
    simp only [mAsg, mNew, e, Option.map_some, Option.bind_some, e_mgName, hl]
  · cases r <;> cases s <;> simp only [loc0, dom] at e hr hs <;> first | rfl | (exfalso; omega) | (congr 1; omega)
  · by_cases z : r = .tm
    · rw [z]
      show (h1' ++ _)[6 * m]? = _
      rw [List.getElem?_append_right (by omega), hl, Nat.sub_self]; rfl
    · have lt := (List.getElem?_eq_some_iff.mp (at_ r z hr)).1
      rw [List.getElem?_append_left lt]
      exact at_ r z hr
structure Sl (m ho : Nat) (ns : List Int) (env : Env) : Prop where
  len : env.length = 8
  e0 : At env 0 (.d (li ns))
  e1 : At env 1 (dI (m : Nat))
  e2 : At env 2 (dI (ho : Nat))
  e3 : At env 3 (.ref (6 * m))
theorem Sl.put {m ho : Nat} {ns : List Int} {env : Env} (E : Sl m ho ns env) (j : Nat) (x : Option MV) (hj : 3 < j) : Sl m ho ns (env.set j x) :=
  ⟨by rw [List.length_set]; exact E.len, at_ne E.e0 (by omega), at_ne E.e1 (by omega), at_ne E.e2 (by omega), at_ne E.e3 (by omega)⟩
/-- the heap, the machines, what holds of them -/
def Wl (m ho t : Nat) (h : MH) : Prop := ∃ loc S, LL m loc S h ∧ Inv9 m ho t S ∧ loc .tm = 6 * m
section
variable {m ho t : Nat} {ns : List Int} {env : Env} {h : MH}
theorem ixTm {loc : Rl → Nat} {S : Nat → Mc} (L : LL m loc S h) {a : Nat} (ha : a < m) : mIx (.ref (loc .tm)) (.d (.int (a : Nat))) h = some (.ref (loc (.mc a)), h) := e_ixR L.a_tm (by
  rw [atI_range (fun j => MV.ref (loc (.mc j))) (by omega) (by omega), Int.toNat_natCast])
/-- one turn -/
theorem turn_ok (W : Wl m ho t h) (hm3 : 1 ≤ m) (hm : m ≤ 4) (hh : ho < m) (ht : t ≤ 100) (E : Sl m ho ns env) {k : Nat} (ek : At env 4 (dI (k : Nat))) : ∃ env' h', mb_law_4 env h = some (.nx env' h') ∧ Sl m ho ns env' ∧ Wl m ho (t + 1) h' := by
  obtain ⟨ds, ed, dl, dk⟩ := q__law_digits (ns.getD k 0 + 3 * (k : Int)) [9, (m : Int), (m : Int), 4, 50] (by
    intro b hb
    simp only [List.mem_cons, List.not_mem_nil, or_false] at hb
    rcases hb with rfl | rfl | rfl | rfl | rfl <;> omega) (by simp)
  simp only [List.length_cons, List.length_nil, Nat.reduceAdd] at dl
  have dx : ∀ j : Nat, j < 5 → ∀ h : MH, mIx (.d (li ds)) (.d (.int (j : Int))) h = some (dI (ds.getD j 0), h) := fun j hj h => by
    rw [e_ixLi (by omega) (by omega), Int.toNat_natCast]
  have b1 := dk 1 (by omega)
  have b2 := dk 2 (by omega)
  have b3 := dk 3 (by omega)
  simp only [List.getD_cons_zero, List.getD_cons_succ] at b1 b2 b3
  obtain ⟨a, ha⟩ : ∃ a : Nat, (a : Int) = ds.getD 1 0 := ⟨(ds.getD 1 0).toNat, Int.toNat_of_nonneg b1.1⟩
  obtain ⟨c, hc⟩ : ∃ c : Nat, (c : Int) = ds.getD 2 0 := ⟨(ds.getD 2 0).toNat, Int.toNat_of_nonneg b2.1⟩
  have am : a < m := by omega
  have cm : c < m := by omega
  have s5 : ml_law_5 env h = some (.nx (env.set 5 (some (.d (li ds)))) h) := by
    have ec := q__law_cell ns (k : Int) (by omega)
    rw [Int.toNat_natCast] at ec
    have ecl : liftD pf__law_cell [.d (li ns), .d (.int (k : Nat))] h = some (dI (ns.getD k 0), h) := by
      rw [e_lift2, ec]; rfl
    have em : mIC (fun i j => CMul i j ∨ CMulW i j) (fun i j => i * j) (.d (.int 3)) (.d (.int (k : Nat))) h = some (dI (3 * (k : Int)), h) := e_IC (cmul_l (by decide))
    have edl : liftD pf__law_digits [.d (.int (ns.getD k 0 + 3 * (k : Int))), .d (.list [.int 9, .int (m : Nat), .int (m : Nat), .int 4, .int 50])] h = some (.d (li ds), h) := by
      rw [e_lift2, show PyData.list [.int 9, .int (m : Nat), .int (m : Nat), .int 4, .int 50] = li [9, (m : Int), (m : Int), 4, 50] from rfl, ed]; rfl
    unfold ml_law_5
    simp only [mAsg, mCB, mCons, mNil, mOp, mK, e_v E.e0, e_v ek, Option.bind_some, ecl, em, e_I, mDat, mLst, e_v E.e1, List.length_cons, List.length_nil, Nat.reduceAdd, Nat.reduceLeDiff, if_true, e_allD1, e_allD0, Option.map_some, edl, e_mgName]
  obtain ⟨loc, S, L, I, lt⟩ := W
  have E5 := E.put 5 (some (.d (li ds))) (by decide)
  have f5 : At (env.set 5 (some (.d (li ds)))) 5 (.d (li ds)) := at_eq (by rw [E.len]; decide)
  generalize env.set 5 (some (.d (li ds))) = env5 at *
  have t3 : At env5 3 (.ref (loc .tm)) := by rw [lt]; exact E5.e3
  have s6 : ml_law_6 env5 h = some (.nx (env5.set 6 (some (.ref (loc (.mc a))))) h) := by
    have x : mIx (.d (li ds)) (.d (.int 1)) h = some (dI (ds.getD 1 0), h) := dx 1 (by decide) h
    have y := ixTm L am
    rw [ha] at y
    unfold ml_law_6
    simp only [mAsg, mOp, mK, e_v t3, e_v f5, Option.bind_some, x, y, e_mgName, Option.map_some]
  have E6 := E5.put 6 (some (.ref (loc (.mc a)))) (by decide)
  have t5 : At (env5.set 6 (some (.ref (loc (.mc a))))) 5 (.d (li ds)) := at_ne f5 (by decide)
  have t6 : At (env5.set 6 (some (.ref (loc (.mc a))))) 6 (.ref (loc (.mc a))) := at_eq (by rw [E5.len]; decide)
  have t3' : At (env5.set 6 (some (.ref (loc (.mc a))))) 3 (.ref (loc .tm)) := at_ne t3 (by decide)
  generalize env5.set 6 (some (.ref (loc (.mc a)))) = env6 at *
  have x0 : ∀ h : MH, mIx (.d (li ds)) (.d (.int 0)) h = some (dI (ds.getD 0 0), h) := dx 0 (by decide)
  have x2 : ∀ h : MH, mIx (.d (li ds)) (.d (.int 2)) h = some (dI (ds.getD 2 0), h) := dx 2 (by decide)
  have x3 : ∀ h : MH, mIx (.d (li ds)) (.d (.int 3)) h = some (dI (ds.getD 3 0), h) := dx 3 (by decide)
  have x4 : ∀ h : MH, mIx (.d (li ds)) (.d (.int 4)) h = some (dI (ds.getD 4 0), h) := dx 4 (by decide)
  obtain ⟨d0, hd0⟩ : ∃ d0, d0 = ds.getD 0 0 := ⟨_, rfl⟩
  rw [← hd0] at x0
  have no7 : ¬ d0 < 3 → ∀ h, ml_law_7 env6 h = some (.nx env6 h) := fun z h => by
    unfold ml_law_7
    refine e_ifF (h1 := h) ?_ rfl
    have y : decide (d0 < 3) = false := decide_eq_false z
    have x0' := x0 h
    unfold mc_law_7
    simp only [mAnd, mTest, mOp, mK, e_v t5, Option.bind_some, x0', e_IB, y, e_asB, if_false, Bool.false_eq_true]
  have no9 : d0 ≠ 3 → d0 ≠ 4 → ∀ h, ml_law_9 env6 h = some (.nx env6 h) := fun z1 z2 h => by
    unfold ml_law_9
    refine e_ifF (h1 := h) ?_ rfl
    have y1 : decide (d0 = 3) = false := decide_eq_false z1
    have y2 : decide (d0 = 4) = false := decide_eq_false z2
    have x0' := x0 h
    unfold mc_law_9
    simp only [mOr, mTest, mOp, mK, e_v t5, Option.bind_some, x0', e_eqI, y1, y2, e_asB, if_false, Bool.false_eq_true]
  have no13 : d0 ≠ 5 → d0 ≠ 6 → ∀ h, ml_law_13 env6 h = some (.nx env6 h) := fun z1 z2 h => by
    unfold ml_law_13
    refine e_ifF (h1 := h) ?_ rfl
    have y1 : decide (d0 = 5) = false := decide_eq_false z1
    have y2 : decide (d0 = 6) = false := decide_eq_false z2
    have x0' := x0 h
    unfold mc_law_13
    simp only [mOr, mTest, mOp, mK, e_v t5, Option.bind_some, x0', e_eqI, y1, y2, e_asB, if_false, Bool.false_eq_true]
  have no15 : ¬ 6 < d0 → ∀ h, ml_law_15 env6 h = some (.nx env6 h) := fun z h => by
    unfold ml_law_15
    refine e_ifF (h1 := h) ?_ rfl
    have y : decide (6 < d0) = false := decide_eq_false z
    have x0' := x0 h
    unfold mc_law_15
    simp only [mAnd, mTest, mOp, mK, e_v t5, Option.bind_some, x0', e_IB, y, e_asB, if_false, Bool.false_eq_true]
  suffices hs : ∃ h', mSeq ml_law_7 (mSeq ml_law_9 (mSeq ml_law_13 ml_law_15)) env6 h = some (.nx env6 h') ∧ Wl m ho (t + 1) h' by
    obtain ⟨h', e, w⟩ := hs
    refine ⟨env6, h', ?_, E6, w⟩
    unfold mb_law_4
    rw [e_mSeq s5, e_mSeq s6]
    exact e
  by_cases z3 : d0 < 3
  · obtain ⟨h', S', e, L', I'⟩ := q_law_store L I am hm (p := ds.getD 3 0) (v := ds.getD 4 0) b3.1 b3.2
    refine ⟨h', ?_, loc, S', L', I'.mono (Nat.le_succ _), lt⟩
    have s7 : ml_law_7 env6 h = some (.nx env6 h') := by
      unfold ml_law_7
      refine e_ifF (h1 := h') ?_ rfl
      have y : decide (d0 < 3) = true := decide_eq_true z3
      have x0' := x0 h
      have x3' := x3 h
      have x4' := x4 h
      unfold mc_law_7
      simp only [mAnd, mNot, mTest, mOp, mCB, mCons, mNil, mK, e_v t3', e_v t5, e_v t6, Option.bind_some, x0', x3', x4', e_IB, y, e_asB, if_true, e, Option.map_some, Bool.not_true]
    rw [e_mSeq s7, e_mSeq (no9 (by omega) (by omega) h'), e_mSeq (no13 (by omega) (by omega) h'), no15 (by omega) h']
  rw [e_mSeq (no7 z3 h)]
  by_cases z9 : d0 = 3 ∨ d0 = 4
  · obtain ⟨h1, loc1, e, L1, m1, m2⟩ := q_law_end L I am hm (by omega)
    have I1 := I.fin am (mem_rowsS (I.o a am).s0)
    have s10 : ml_law_10 env6 h = some (.nx env6 h1) := by
      unfold ml_law_10
      simp only [mDrop, mCB, mCons, mNil, e_v t3', e_v t6, e_v E6.e2, Option.bind_some, e, Option.map_some]
    have c9 : mc_law_9 env6 h = some (true, h) := by
      have x0' := x0 h
      unfold mc_law_9
      rcases z9 with y | y
      · have y1 : decide (d0 = 3) = true := decide_eq_true y
        simp only [mOr, mTest, mOp, mK, e_v t5, Option.bind_some, x0', e_eqI, y1, e_asB, if_true]
      · have y1 : decide (d0 = 3) = false := decide_eq_false (by omega)
        have y2 : decide (d0 = 4) = true := decide_eq_true y
        simp only [mOr, mTest, mOp, mK, e_v t5, Option.bind_some, x0', e_eqI, y1, y2, e_asB, if_false, Bool.false_eq_true]
    rw [← m1] at t3'
    rw [← m2 a] at t6
    have h11 : ∃ h2, ml_law_11 env6 h1 = some (.nx env6 h2) ∧ Wl m ho (t + 1) h2 := by
      have x0' := x0 h1
      by_cases y : d0 = 4
      · obtain ⟨h2, S2, e2, L2, I2⟩ := q_take L1 I1 am cm hm (by omega)
        refine ⟨h2, ?_, loc1, S2, L2, I2, by rw [m1]; exact lt⟩
        unfold ml_law_11
        have c11 : mc_law_11 env6 h1 = some (true, h1) := by
          have y2 : decide (d0 = 4) = true := decide_eq_true y
          unfold mc_law_11
          simp only [mTest, mOp, mK, e_v t5, Option.bind_some, x0', e_eqI, y2, e_asB]
        refine e_ifT c11 ?_
        have x2' := x2 h1
        have yy := ixTm L1 cm
        rw [hc] at yy
        unfold ml_law_12
        simp only [mDrop, mCB, mCons, mNil, mOp, mK, e_v t3', e_v t5, e_v t6, Option.bind_some, x2', yy, e2, Option.map_some]
      · refine ⟨h1, ?_, loc1, _, L1, I1, by rw [m1]; exact lt⟩
        unfold ml_law_11
        refine e_ifF (h1 := h1) ?_ rfl
        have y2 : decide (d0 = 4) = false := decide_eq_false y
        unfold mc_law_11
        simp only [mTest, mOp, mK, e_v t5, Option.bind_some, x0', e_eqI, y2, e_asB]
    obtain ⟨h2, e11, w⟩ := h11
    refine ⟨h2, ?_, w⟩
    have s9 : ml_law_9 env6 h = some (.nx env6 h2) := by
      unfold ml_law_9
      refine e_ifT c9 ?_
      rw [e_mSeq s10]
      exact e11
    rw [e_mSeq s9, e_mSeq (no13 (by omega) (by omega) h2), no15 (by omega) h2]
  rw [e_mSeq (no9 (by omega) (by omega) h)]
  by_cases z13 : d0 = 5 ∨ d0 = 6
  · obtain ⟨h1, S1, e, L1, I1, _, _⟩ := q_arrive L I am hh hm
    refine ⟨h1, ?_, loc, S1, L1, I1.mono (Nat.le_succ _), lt⟩
    have s13 : ml_law_13 env6 h = some (.nx env6 h1) := by
      have c13 : mc_law_13 env6 h = some (true, h) := by
        have x0' := x0 h
        unfold mc_law_13
        rcases z13 with y | y
        · have y1 : decide (d0 = 5) = true := decide_eq_true y
          simp only [mOr, mTest, mOp, mK, e_v t5, Option.bind_some, x0', e_eqI, y1, e_asB, if_true]
        · have y1 : decide (d0 = 5) = false := decide_eq_false (by omega)
          have y2 : decide (d0 = 6) = true := decide_eq_true y
          simp only [mOr, mTest, mOp, mK, e_v t5, Option.bind_some, x0', e_eqI, y1, y2, e_asB, if_false, Bool.false_eq_true]
      unfold ml_law_13
      refine e_ifT c13 ?_
      unfold ml_law_14
      simp only [mDrop, mCB, mCons, mNil, e_v t3', e_v t6, e_v E6.e2, Option.bind_some, e, Option.map_some]
    rw [e_mSeq s13, no15 (by omega) h1]
  rw [e_mSeq (no13 (by omega) (by omega) h)]
  by_cases z15 : 6 < d0
  · obtain ⟨h1, S1, e, L1, I1, _, _⟩ := q_asked L I am hh hm
    refine ⟨h1, ?_, loc, S1, L1, I1.mono (Nat.le_succ _), lt⟩
    unfold ml_law_15
    refine e_ifF (h1 := h1) ?_ rfl
    have y : decide (6 < d0) = true := decide_eq_true z15
    have x0' := x0 h
    unfold mc_law_15
    simp only [mAnd, mNot, mTest, mOp, mCB, mCons, mNil, mK, e_v t3', e_v t5, e_v t6, e_v E6.e2, Option.bind_some, x0', e_IB, y, e_asB, if_true, e, Option.map_some, Bool.not_true]
  · exact ⟨h, no15 z15 h, loc, S, L, I.mono (Nat.le_succ _), lt⟩
end
section
variable {m ho t : Nat} {ns : List Int} {env : Env} {h : MH} {loc : Rl → Nat} {S : Nat → Mc}
/-- all letters of one machine come -/
theorem drain_one (L : LL m loc S h) (I : Inv9 m ho t S) (lt : loc .tm = 6 * m) (hm : m ≤ 4) (hh : ho < m) (ht : t ≤ 100) {a : Nat} (ha : a < m) (E : Sl m ho ns env) (e6 : At env 6 (.ref (loc (.mc a)))) :
    ∃ env' h' S', mb_law_17 env h = some (.nx env' h') ∧ Sl m ho ns env' ∧ LL m loc S' h' ∧ Inv9 m ho t S' ∧ (S' a).lt = [] ∧ ∀ j, (S j).lt = [] → (S' j).lt = [] := by
  have q1 := L.a_mc ha
  have q2 := L.a_lt ha
  have z2 := (I.o a ha).z2
  obtain ⟨env', h', e, E', _, S', L', I', l1, l2⟩ := mFor_inv (mi := mRng1 (mCons (mCB mLen (mCons (mDGet (mVar 6) (mK (.str "letters"))) mNil)) mNil)) (g := mgName 4) (mb := mb_law_18) (env := env) (h := h) (h1 := h) (List.range (S a).lt.length) (fun (j : Nat) => dI (j : Int))
    (by
      rw [e_rng1 (n := ((S a).lt.length : Int)) (h1 := h) ?_ (by omega) (by omega)]
      · simp
      · simp only [mCons, mNil, mCB, mDGet, e_v e6, mK, Option.bind_some, asK_ref, q1, e_keyS, g_mc_letters, Option.map_some, mLen, e_arg1, it_ref, asL_ref, q2, List.length_map])
    (fun k env1 h1 => Sl m ho ns env1 ∧ At env1 6 (.ref (loc (.mc a))) ∧ ∃ S', LL m loc S' h1 ∧ Inv9 m ho t S' ∧ (S' a).lt = (S a).lt.drop k ∧ ∀ j, (S j).lt = [] → (S' j).lt = [])
    ⟨E, e6, S, L, I, rfl, fun _ z => z⟩
    (by
      rintro k j env1 h1 hk ⟨E1, f6, S1, L1, I1, l1, l2⟩
      have E2 := E1.put 4 (some (dI (j : Nat))) (by decide)
      have f6' : At (env1.set 4 (some (dI (j : Nat)))) 6 (.ref (loc (.mc a))) := at_ne f6 (by decide)
      have f3' : At (env1.set 4 (some (dI (j : Nat)))) 3 (.ref (loc .tm)) := by rw [lt]; exact E2.e3
      obtain ⟨h2, S2, e, L2, I2, k1, k2⟩ := q_arrive L1 I1 ha hh hm
      refine ⟨_, _, h2, rfl, ?_, E2, f6', S2, L2, I2, by rw [k2, l1, List.drop_drop], fun b hb => ?_⟩
      · unfold mb_law_18 ml_law_19
        simp only [mDrop, mCB, mCons, mNil, e_v f3', e_v f6', e_v E2.e2, Option.bind_some, e, Option.map_some]
      · by_cases z : b = a
        · rw [z, k2, ← z, l2 b hb]; rfl
        · rw [k1 b z]; exact l2 b hb)
  refine ⟨env', h', S', ?_, E', L', I', by rw [l1, List.length_range, List.drop_length], l2⟩
  unfold mb_law_17 ml_law_18
  exact e
theorem drain_all (W : Wl m ho t h) (hm : m ≤ 4) (hh : ho < m) (ht : t ≤ 100) (E : Sl m ho ns env) :
    ∃ env' h' loc S, ml_law_17 env h = some (.nx env' h') ∧ Sl m ho ns env' ∧ LL m loc S h' ∧ Inv9 m ho t S ∧ loc .tm = 6 * m ∧ ∀ j, j < m → (S j).lt = [] := by
  obtain ⟨loc, S, L, I, lt⟩ := W
  have t3 : At env 3 (.ref (loc .tm)) := by rw [lt]; exact E.e3
  obtain ⟨env', h', e, E', S', L', I', l1⟩ := mFor_invS (mi := mItL (mVar 3)) (g := mgName 6) (mb := mb_law_17) (env := env) (h := h) (h1 := h)
    (src := [(loc .tm, (List.range m).map fun i => .ref (loc (.mc i)))]) (List.range m) (fun j => .ref (loc (.mc j)))
    (e_ref (n := loc .tm) (e_v t3) L.a_tm)
    (fun k env1 h1 => Sl m ho ns env1 ∧ ∃ S', LL m loc S' h1 ∧ Inv9 m ho t S' ∧ ∀ j, j < k → (S' j).lt = [])
    (by
      rintro _ _ h1 ⟨_, S', L', _⟩ s hs
      rw [List.mem_singleton.mp hs]; exact L'.a_tm)
    ⟨E, S, L, I, fun j hj => absurd hj (Nat.not_lt_zero _)⟩
    (by
      rintro k j env1 h1 hk ⟨E1, S1, L1, I1, l1⟩
      obtain ⟨hl, rfl⟩ := List.getElem?_eq_some_iff.mp hk
      rw [List.length_range] at hl
      rw [List.getElem_range]
      have E2 := E1.put 6 (some (.ref (loc (.mc k)))) (by decide)
      obtain ⟨env3, h3, S3, e3, E3, L3, I3, z1, z2⟩ := drain_one L1 I1 lt hm hh ht hl E2 (at_eq (by rw [E1.len]; decide))
      refine ⟨_, env3, h3, rfl, e3, E3, S3, L3, I3, fun b hb => ?_⟩
      by_cases z : b = k
      · rw [z]; exact z1
      · exact z2 b (l1 b (by omega)))
  refine ⟨env', h', loc, S', ?_, E', L', I', lt, by rw [List.length_range] at l1; exact l1⟩
  unfold ml_law_17
  exact e
theorem last_all (L : LL m loc S h) (I : Inv9 m ho t S) (lt : loc .tm = 6 * m) (lz : ∀ j, j < m → (S j).lt = []) (hm : m ≤ 4) (hh : ho < m) (E : Sl m ho ns env) : ∃ env' h', ml_law_20 env h = some (.nx env' h') := by
  have t3 : At env 3 (.ref (loc .tm)) := by rw [lt]; exact E.e3
  obtain ⟨env', h', e, _⟩ := mFor_invS (mi := mItL (mVar 3)) (g := mgName 6) (mb := mb_law_20) (env := env) (h := h) (h1 := h)
    (src := [(loc .tm, (List.range m).map fun i => .ref (loc (.mc i)))]) (List.range m) (fun j => .ref (loc (.mc j)))
    (e_ref (n := loc .tm) (e_v t3) L.a_tm)
    (fun k env1 h1 => Sl m ho ns env1 ∧ ∃ S', LL m loc S' h1 ∧ Inv9 m ho t S' ∧ ∀ j, j < m → (S' j).lt = [])
    (by
      rintro _ _ h1 ⟨_, S', L', _⟩ s hs
      rw [List.mem_singleton.mp hs]; exact L'.a_tm)
    ⟨E, S, L, I, lz⟩
    (by
      rintro k j env1 h1 hk ⟨E1, S1, L1, I1, l1⟩
      obtain ⟨hl, rfl⟩ := List.getElem?_eq_some_iff.mp hk
      rw [List.length_range] at hl
      rw [List.getElem_range]
      have E2 := E1.put 6 (some (.ref (loc (.mc k)))) (by decide)
      have f6 : At (env1.set 6 (some (.ref (loc (.mc k))))) 6 (.ref (loc (.mc k))) := at_eq (by rw [E1.len]; decide)
      have f3 : At (env1.set 6 (some (.ref (loc (.mc k))))) 3 (.ref (loc .tm)) := by rw [lt]; exact E2.e3
      obtain ⟨h2, S2, e2, L2, I2, k1, k2⟩ := q_asked L1 I1 hl hh hm
      have fr := k2 l1
      have O2 := I2.o k hl
      have e6 := e_fresh L2 I2 hl hm f6
      rw [(fr_iff O2.nl O2.hl O2.h0).mpr fr] at e6
      have qr := q_right L2 I2 hl (I2.rt hl fr)
      refine ⟨_, _, h2, rfl, ?_, E2, S2, L2, I2, fun b hb => by rw [k1]; exact l1 b hb⟩
      have s21 : ml_law_21 (env1.set 6 (some (.ref (loc (.mc k))))) h1 = some (.nx (env1.set 6 (some (.ref (loc (.mc k))))) h2) := by
        unfold ml_law_21
        refine e_ifF (h1 := h2) ?_ rfl
        unfold mc_law_21
        simp only [mNot, mTest, mCB, mCons, mNil, e_v f3, e_v f6, e_v E2.e2, Option.bind_some, e2, e_asB, Option.map_some, Bool.not_true]
      unfold mb_law_20
      rw [e_mSeq s21]
      unfold ml_law_23
      refine e_ifF (h1 := h2) ?_ rfl
      unfold mc_law_23
      simp only [mOr, mNot, e6, Option.map_some, Bool.not_true, Option.bind_some, if_false, Bool.false_eq_true]
      simp only [mTest, mCB, mCons, mNil, e_v f3, e_v f6, Option.bind_some, qr, e_asB, Option.map_some, Bool.not_true])
  exact ⟨env', h', e⟩
end
theorem tell (ns : List Int) (hl : ns.length ≤ 63) : pf_law [.list (ns.map .int)] = some (.bool true) := by
  obtain ⟨c, hc⟩ : ∃ c, c = ns.getD 0 0 := ⟨_, rfl⟩
  have ec : ∀ h : MH, liftD pf__law_cell [.d (li ns), .d (.int 0)] h = some (dI c, h) := fun h => by
    rw [e_lift2, q__law_cell ns 0 (by decide), hc]; rfl
  obtain ⟨m, hm⟩ : ∃ m : Nat, (m : Int) = 3 + c % 2 := ⟨(3 + c % 2).toNat, by omega⟩
  obtain ⟨ho, hho⟩ : ∃ ho : Nat, (ho : Int) = c / 2 % (m : Int) := ⟨(c / 2 % (m : Int)).toNat, Int.toNat_of_nonneg (Int.emod_nonneg _ (by omega))⟩
  have m1 : 1 ≤ m := by omega
  have m4 : m ≤ 4 := by omega
  have hh : ho < m := by
    have := Int.emod_lt_of_pos (c / 2) (show (0 : Int) < m by omega)
    omega
  obtain ⟨e0, he0⟩ : ∃ e0 : Env, e0 = some (MV.d (li ns)) :: List.replicate 7 none := ⟨_, rfl⟩
  have l0 : e0.length = 8 := by rw [he0]; rfl
  have a0 : At e0 0 (.d (li ns)) := by rw [he0]; rfl
  have s1 : ml_law_1 e0 [] = some (.nx (e0.set 1 (some (dI (m : Nat)))) []) := by
    have x := ec []
    have y : mIC (fun _ j => 0 < j) (fun i j => i % j) (.d (.int c)) (.d (.int 2)) [] = some (dI (c % 2), []) := e_mod (by decide)
    rw [hm]
    unfold ml_law_1
    simp only [mAsg, mOp, mCB, mCons, mNil, mK, e_v a0, Option.bind_some, x, e_lift1, e_int1, Option.map_some, y, e_I, e_mgName]
  have l1 : (e0.set 1 (some (dI (m : Nat)))).length = 8 := by rw [List.length_set]; exact l0
  have b0 : At (e0.set 1 (some (dI (m : Nat)))) 0 (.d (li ns)) := at_ne a0 (by decide)
  have b1 : At (e0.set 1 (some (dI (m : Nat)))) 1 (dI (m : Nat)) := at_eq (by omega)
  have s2 : ml_law_2 (e0.set 1 (some (dI (m : Nat)))) [] = some (.nx ((e0.set 1 (some (dI (m : Nat)))).set 2 (some (dI (ho : Nat)))) []) := by
    have x := ec []
    have y : mIC CDivW (fun i j => i / j) (.d (.int c)) (.d (.int 2)) [] = some (dI (c / 2), []) := e_IC (cdiv_ok (by decide) (by decide))
    have z : mIC (fun _ j => 0 < j) (fun i j => i % j) (.d (.int (c / 2))) (.d (.int (m : Nat))) [] = some (dI (c / 2 % (m : Int)), []) := e_mod (by omega)
    rw [hho]
    unfold ml_law_2
    simp only [mAsg, mOp, mCB, mCons, mNil, mK, e_v b0, e_v b1, Option.bind_some, x, e_lift1, e_int1, Option.map_some, y, z, e_mgName]
  obtain ⟨e2, he2⟩ : ∃ e2, e2 = (e0.set 1 (some (dI (m : Nat)))).set 2 (some (dI (ho : Nat))) := ⟨_, rfl⟩
  rw [← he2] at s2
  have l2 : e2.length = 8 := by rw [he2, List.length_set]; exact l1
  have c0' : At e2 0 (.d (li ns)) := by rw [he2]; exact at_ne b0 (by decide)
  have c1 : At e2 1 (dI (m : Nat)) := by rw [he2]; exact at_ne b1 (by decide)
  have c2 : At e2 2 (dI (ho : Nat)) := by rw [he2]; exact at_eq (by omega)
  obtain ⟨h3, s3, L3⟩ := team_ok m1 m4 l2 c1
  have E3 : Sl m ho ns (e2.set 3 (some (.ref (6 * m)))) := ⟨by rw [List.length_set]; exact l2, at_ne c0' (by decide), at_ne c1 (by decide), at_ne c2 (by decide), at_eq (by omega)⟩
  have W3 : Wl m ho 0 h3 := ⟨loc0 m, S0 m, L3, inv0, rfl⟩
  generalize e2.set 3 (some (.ref (6 * m))) = e3 at *
  obtain ⟨N, hN, hN60⟩ : ∃ N : Nat, (mCons (mCB (liftD fMin2) (mCons (mCB mLen (mCons (mVar 0) mNil)) (mCons (mCB (liftD pf__law_many) (mCons (mVar 0) (mCons (mK (.int 20)) (mCons (mK (.int 60)) mNil)))) mNil))) mNil) e3 h3 = some ([dI (N : Nat)], h3) ∧ N ≤ 60 := by
    have lenx : mLen [.d (li ns)] h3 = some (dI (ns.length : Nat), h3) := by
      unfold mLen
      rw [e_arg1, Option.bind_some, e_itL, Option.map_some, List.length_map, List.length_map]
    rcases q__law_many ns 20 60 with y | y
    · have y' : liftD pf__law_many [.d (li ns), .d (.int 20), .d (.int 60)] h3 = some (dI 20, h3) := by rw [e_lift3, y]; rfl
      refine ⟨min ns.length 20, ?_, by omega⟩
      rw [show ((min ns.length 20 : Nat) : Int) = min (ns.length : Int) 20 by omega]
      simp only [mCons, mNil, mCB, mK, e_v E3.e0, Option.bind_some, lenx, y', e_lift2, e_min2, Option.map_some]
    · have y' : liftD pf__law_many [.d (li ns), .d (.int 20), .d (.int 60)] h3 = some (dI 60, h3) := by rw [e_lift3, y]; rfl
      refine ⟨min ns.length 60, ?_, by omega⟩
      rw [show ((min ns.length 60 : Nat) : Int) = min (ns.length : Int) 60 by omega]
      simp only [mCons, mNil, mCB, mK, e_v E3.e0, Option.bind_some, lenx, y', e_lift2, e_min2, Option.map_some]
  obtain ⟨e4, h4, s4, E4, W4⟩ := mFor_inv (mi := mRng1 (mCons (mCB (liftD fMin2) (mCons (mCB mLen (mCons (mVar 0) mNil)) (mCons (mCB (liftD pf__law_many) (mCons (mVar 0) (mCons (mK (.int 20)) (mCons (mK (.int 60)) mNil)))) mNil))) mNil)) (g := mgName 4) (mb := mb_law_4) (env := e3) (h := h3) (h1 := h3) (List.range N) (fun (j : Nat) => dI (j : Int))
    (by
      rw [e_rng1 (n := (N : Int)) (h1 := h3) hN (by omega) (by omega)]
      simp)
    (fun k env1 h1 => Sl m ho ns env1 ∧ Wl m ho k h1)
    ⟨E3, W3⟩
    (by
      rintro k j env1 h1 hk ⟨E1, W1⟩
      obtain ⟨hlt, rfl⟩ := List.getElem?_eq_some_iff.mp hk
      rw [List.length_range] at hlt
      rw [List.getElem_range]
      have E2 := E1.put 4 (some (dI (k : Nat))) (by decide)
      obtain ⟨env2, h2, e, E', W'⟩ := turn_ok W1 m1 m4 hh (by omega) E2 (at_eq (by rw [E1.len]; decide))
      exact ⟨_, env2, h2, rfl, e, E', W'⟩)
  rw [List.length_range] at W4
  obtain ⟨e5, h5, loc, S, s5, E5, L5, I5, lt, lz⟩ := drain_all W4 m4 hh (by omega) E4
  obtain ⟨e6, h6, s6⟩ := last_all L5 I5 lt lz m4 hh E5
  have start : pf_law [.list (ns.map .int)] = (((mSeq ml_law_1 (mSeq ml_law_2 (mSeq ml_law_3 (mSeq ml_law_4 (mSeq ml_law_17 (mSeq ml_law_20 ml_law_25)))))) e0 []).bind resM).bind fun r => reify 6 r.2 r.1 := by
    rw [he0]; rfl
  rw [start, e_mSeq s1, e_mSeq s2, e_mSeq s3, e_mSeq (show ml_law_4 e3 h3 = some (.nx e4 h4) from s4), e_mSeq s5, e_mSeq s6]
  rfl
theorem all_mk {l : PySem.W.OpenLaw} {w : World} {K : PySem.W.Frag} {h : Heap} {mg : Str → Option Value} {fa f0 f1 f2 f3 f4 f5 f6 f7 f8 f9 f10 f11 f12 f13 f14 f15 f16 f17 f18 f19 f20 f21 f22 f23 f24 f25 f26 f27 f28 : Addr} (X : K.In h) (G : h.Ns mainGlobals mg) (hfa : mg "law" = some (.ref fa))
    {od0 an0 : Option Addr} {sl0 : Array (Option Value)} {oc0 kV0 dc0 pm0 cd0 ct0 : Value}
    (a0 : PySem.W.nsIn K mainGlobals "zero_clock" = some (some (.ref f0))) (l0 : K.lookup f0 = some ⟨oc0, od0, .func (PySem.W.fnOf "zero_clock" "zero_clock" (defArgs s_zero_clock) (defBody s_zero_clock) (defScope s_zero_clock) .none kV0 dc0 pm0 an0 cd0 ct0), sl0⟩) (c0 : PySem.W.codeIn K cd0 "zero_clock" = true) (k0 : PySem.W.keepIn K (.ref f0) = true)
    {od1 an1 : Option Addr} {sl1 : Array (Option Value)} {oc1 kV1 dc1 pm1 cd1 ct1 : Value}
    (a1 : PySem.W.nsIn K mainGlobals "merged" = some (some (.ref f1))) (l1 : K.lookup f1 = some ⟨oc1, od1, .func (PySem.W.fnOf "merged" "merged" (defArgs s_merged) (defBody s_merged) (defScope s_merged) .none kV1 dc1 pm1 an1 cd1 ct1), sl1⟩) (c1 : PySem.W.codeIn K cd1 "merged" = true) (k1 : PySem.W.keepIn K (.ref f1) = true)
    {od2 an2 : Option Addr} {sl2 : Array (Option Value)} {oc2 kV2 dc2 pm2 cd2 ct2 : Value}
    (a2 : PySem.W.nsIn K mainGlobals "with_count" = some (some (.ref f2))) (l2 : K.lookup f2 = some ⟨oc2, od2, .func (PySem.W.fnOf "with_count" "with_count" (defArgs s_with_count) (defBody s_with_count) (defScope s_with_count) .none kV2 dc2 pm2 an2 cd2 ct2), sl2⟩) (c2 : PySem.W.codeIn K cd2 "with_count" = true) (k2 : PySem.W.keepIn K (.ref f2) = true)
    {od3 an3 : Option Addr} {sl3 : Array (Option Value)} {oc3 kV3 dc3 pm3 cd3 ct3 : Value}
    (a3 : PySem.W.nsIn K mainGlobals "is_within" = some (some (.ref f3))) (l3 : K.lookup f3 = some ⟨oc3, od3, .func (PySem.W.fnOf "is_within" "is_within" (defArgs s_is_within) (defBody s_is_within) (defScope s_is_within) .none kV3 dc3 pm3 an3 cd3 ct3), sl3⟩) (c3 : PySem.W.codeIn K cd3 "is_within" = true) (k3 : PySem.W.keepIn K (.ref f3) = true)
    {od4 an4 : Option Addr} {sl4 : Array (Option Value)} {oc4 kV4 dc4 pm4 cd4 ct4 : Value}
    (a4 : PySem.W.nsIn K mainGlobals "new_page" = some (some (.ref f4))) (l4 : K.lookup f4 = some ⟨oc4, od4, .func (PySem.W.fnOf "new_page" "new_page" (defArgs s_new_page) (defBody s_new_page) (defScope s_new_page) .none kV4 dc4 pm4 an4 cd4 ct4), sl4⟩) (c4 : PySem.W.codeIn K cd4 "new_page" = true) (k4 : PySem.W.keepIn K (.ref f4) = true)
    {od5 an5 : Option Addr} {sl5 : Array (Option Value)} {oc5 kV5 dc5 pm5 cd5 ct5 : Value}
    (a5 : PySem.W.nsIn K mainGlobals "has_place" = some (some (.ref f5))) (l5 : K.lookup f5 = some ⟨oc5, od5, .func (PySem.W.fnOf "has_place" "has_place" (defArgs s_has_place) (defBody s_has_place) (defScope s_has_place) .none kV5 dc5 pm5 an5 cd5 ct5), sl5⟩) (c5 : PySem.W.codeIn K cd5 "has_place" = true) (k5 : PySem.W.keepIn K (.ref f5) = true)
    {od6 an6 : Option Addr} {sl6 : Array (Option Value)} {oc6 kV6 dc6 pm6 cd6 ct6 : Value}
    (a6 : PySem.W.nsIn K mainGlobals "cell_at" = some (some (.ref f6))) (l6 : K.lookup f6 = some ⟨oc6, od6, .func (PySem.W.fnOf "cell_at" "cell_at" (defArgs s_cell_at) (defBody s_cell_at) (defScope s_cell_at) .none kV6 dc6 pm6 an6 cd6 ct6), sl6⟩) (c6 : PySem.W.codeIn K cd6 "cell_at" = true) (k6 : PySem.W.keepIn K (.ref f6) = true)
    {od7 an7 : Option Addr} {sl7 : Array (Option Value)} {oc7 kV7 dc7 pm7 cd7 ct7 : Value}
    (a7 : PySem.W.nsIn K mainGlobals "put_cell" = some (some (.ref f7))) (l7 : K.lookup f7 = some ⟨oc7, od7, .func (PySem.W.fnOf "put_cell" "put_cell" (defArgs s_put_cell) (defBody s_put_cell) (defScope s_put_cell) .none kV7 dc7 pm7 an7 cd7 ct7), sl7⟩) (c7 : PySem.W.codeIn K cd7 "put_cell" = true) (k7 : PySem.W.keepIn K (.ref f7) = true)
    {od8 an8 : Option Addr} {sl8 : Array (Option Value)} {oc8 kV8 dc8 pm8 cd8 ct8 : Value}
    (a8 : PySem.W.nsIn K mainGlobals "store" = some (some (.ref f8))) (l8 : K.lookup f8 = some ⟨oc8, od8, .func (PySem.W.fnOf "store" "store" (defArgs s_store) (defBody s_store) (defScope s_store) .none kV8 dc8 pm8 an8 cd8 ct8), sl8⟩) (c8 : PySem.W.codeIn K cd8 "store" = true) (k8 : PySem.W.keepIn K (.ref f8) = true)
    {od9 an9 : Option Addr} {sl9 : Array (Option Value)} {oc9 kV9 dc9 pm9 cd9 ct9 : Value}
    (a9 : PySem.W.nsIn K mainGlobals "merge" = some (some (.ref f9))) (l9 : K.lookup f9 = some ⟨oc9, od9, .func (PySem.W.fnOf "merge" "merge" (defArgs s_merge) (defBody s_merge) (defScope s_merge) .none kV9 dc9 pm9 an9 cd9 ct9), sl9⟩) (c9 : PySem.W.codeIn K cd9 "merge" = true) (k9 : PySem.W.keepIn K (.ref f9) = true)
    {od10 an10 : Option Addr} {sl10 : Array (Option Value)} {oc10 kV10 dc10 pm10 cd10 ct10 : Value}
    (a10 : PySem.W.nsIn K mainGlobals "rows_of" = some (some (.ref f10))) (l10 : K.lookup f10 = some ⟨oc10, od10, .func (PySem.W.fnOf "rows_of" "rows_of" (defArgs s_rows_of) (defBody s_rows_of) (defScope s_rows_of) .none kV10 dc10 pm10 an10 cd10 ct10), sl10⟩) (c10 : PySem.W.codeIn K cd10 "rows_of" = true) (k10 : PySem.W.keepIn K (.ref f10) = true)
    {od11 an11 : Option Addr} {sl11 : Array (Option Value)} {oc11 kV11 dc11 pm11 cd11 ct11 : Value}
    (a11 : PySem.W.nsIn K mainGlobals "difference" = some (some (.ref f11))) (l11 : K.lookup f11 = some ⟨oc11, od11, .func (PySem.W.fnOf "difference" "difference" (defArgs s_difference) (defBody s_difference) (defScope s_difference) .none kV11 dc11 pm11 an11 cd11 ct11), sl11⟩) (c11 : PySem.W.codeIn K cd11 "difference" = true) (k11 : PySem.W.keepIn K (.ref f11) = true)
    {od12 an12 : Option Addr} {sl12 : Array (Option Value)} {oc12 kV12 dc12 pm12 cd12 ct12 : Value}
    (a12 : PySem.W.nsIn K mainGlobals "new_held" = some (some (.ref f12))) (l12 : K.lookup f12 = some ⟨oc12, od12, .func (PySem.W.fnOf "new_held" "new_held" (defArgs s_new_held) (defBody s_new_held) (defScope s_new_held) .none kV12 dc12 pm12 an12 cd12 ct12), sl12⟩) (c12 : PySem.W.codeIn K cd12 "new_held" = true) (k12 : PySem.W.keepIn K (.ref f12) = true)
    {od13 an13 : Option Addr} {sl13 : Array (Option Value)} {oc13 kV13 dc13 pm13 cd13 ct13 : Value}
    (a13 : PySem.W.nsIn K mainGlobals "raised" = some (some (.ref f13))) (l13 : K.lookup f13 = some ⟨oc13, od13, .func (PySem.W.fnOf "raised" "raised" (defArgs s_raised) (defBody s_raised) (defScope s_raised) .none kV13 dc13 pm13 an13 cd13 ct13), sl13⟩) (c13 : PySem.W.codeIn K cd13 "raised" = true) (k13 : PySem.W.keepIn K (.ref f13) = true)
    {od14 an14 : Option Addr} {sl14 : Array (Option Value)} {oc14 kV14 dc14 pm14 cd14 ct14 : Value}
    (a14 : PySem.W.nsIn K mainGlobals "needs" = some (some (.ref f14))) (l14 : K.lookup f14 = some ⟨oc14, od14, .func (PySem.W.fnOf "needs" "needs" (defArgs s_needs) (defBody s_needs) (defScope s_needs) .none kV14 dc14 pm14 an14 cd14 ct14), sl14⟩) (c14 : PySem.W.codeIn K cd14 "needs" = true) (k14 : PySem.W.keepIn K (.ref f14) = true)
    {od15 an15 : Option Addr} {sl15 : Array (Option Value)} {oc15 kV15 dc15 pm15 cd15 ct15 : Value}
    (a15 : PySem.W.nsIn K mainGlobals "arrived" = some (some (.ref f15))) (l15 : K.lookup f15 = some ⟨oc15, od15, .func (PySem.W.fnOf "arrived" "arrived" (defArgs s_arrived) (defBody s_arrived) (defScope s_arrived) .none kV15 dc15 pm15 an15 cd15 ct15), sl15⟩) (c15 : PySem.W.codeIn K cd15 "arrived" = true) (k15 : PySem.W.keepIn K (.ref f15) = true)
    {od16 an16 : Option Addr} {sl16 : Array (Option Value)} {oc16 kV16 dc16 pm16 cd16 ct16 : Value}
    (a16 : PySem.W.nsIn K mainGlobals "had" = some (some (.ref f16))) (l16 : K.lookup f16 = some ⟨oc16, od16, .func (PySem.W.fnOf "had" "had" (defArgs s_had) (defBody s_had) (defScope s_had) .none kV16 dc16 pm16 an16 cd16 ct16), sl16⟩) (c16 : PySem.W.codeIn K cd16 "had" = true) (k16 : PySem.W.keepIn K (.ref f16) = true)
    {od17 an17 : Option Addr} {sl17 : Array (Option Value)} {oc17 kV17 dc17 pm17 cd17 ct17 : Value}
    (a17 : PySem.W.nsIn K mainGlobals "is_fresh" = some (some (.ref f17))) (l17 : K.lookup f17 = some ⟨oc17, od17, .func (PySem.W.fnOf "is_fresh" "is_fresh" (defArgs s_is_fresh) (defBody s_is_fresh) (defScope s_is_fresh) .none kV17 dc17 pm17 an17 cd17 ct17), sl17⟩) (c17 : PySem.W.codeIn K cd17 "is_fresh" = true) (k17 : PySem.W.keepIn K (.ref f17) = true)
    {od18 an18 : Option Addr} {sl18 : Array (Option Value)} {oc18 kV18 dc18 pm18 cd18 ct18 : Value}
    (a18 : PySem.W.nsIn K mainGlobals "_law_cell" = some (some (.ref f18))) (l18 : K.lookup f18 = some ⟨oc18, od18, .func (PySem.W.fnOf "_law_cell" "_law_cell" (defArgs s__law_cell) (defBody s__law_cell) (defScope s__law_cell) .none kV18 dc18 pm18 an18 cd18 ct18), sl18⟩) (c18 : PySem.W.codeIn K cd18 "_law_cell" = true) (k18 : PySem.W.keepIn K (.ref f18) = true)
    {od19 an19 : Option Addr} {sl19 : Array (Option Value)} {oc19 kV19 dc19 pm19 cd19 ct19 : Value}
    (a19 : PySem.W.nsIn K mainGlobals "_law_digits" = some (some (.ref f19))) (l19 : K.lookup f19 = some ⟨oc19, od19, .func (PySem.W.fnOf "_law_digits" "_law_digits" (defArgs s__law_digits) (defBody s__law_digits) (defScope s__law_digits) .none kV19 dc19 pm19 an19 cd19 ct19), sl19⟩) (c19 : PySem.W.codeIn K cd19 "_law_digits" = true) (k19 : PySem.W.keepIn K (.ref f19) = true)
    {od20 an20 : Option Addr} {sl20 : Array (Option Value)} {oc20 kV20 dc20 pm20 cd20 ct20 : Value}
    (a20 : PySem.W.nsIn K mainGlobals "_law_many" = some (some (.ref f20))) (l20 : K.lookup f20 = some ⟨oc20, od20, .func (PySem.W.fnOf "_law_many" "_law_many" (defArgs s__law_many) (defBody s__law_many) (defScope s__law_many) .none kV20 dc20 pm20 an20 cd20 ct20), sl20⟩) (c20 : PySem.W.codeIn K cd20 "_law_many" = true) (k20 : PySem.W.keepIn K (.ref f20) = true)
    {od21 an21 : Option Addr} {sl21 : Array (Option Value)} {oc21 kV21 dc21 pm21 cd21 ct21 : Value}
    (a21 : PySem.W.nsIn K mainGlobals "_law_machine" = some (some (.ref f21))) (l21 : K.lookup f21 = some ⟨oc21, od21, .func (PySem.W.fnOf "_law_machine" "_law_machine" (defArgs s__law_machine) (defBody s__law_machine) (defScope s__law_machine) .none kV21 dc21 pm21 an21 cd21 ct21), sl21⟩) (c21 : PySem.W.codeIn K cd21 "_law_machine" = true) (k21 : PySem.W.keepIn K (.ref f21) = true)
    {od22 an22 : Option Addr} {sl22 : Array (Option Value)} {oc22 kV22 dc22 pm22 cd22 ct22 : Value}
    (a22 : PySem.W.nsIn K mainGlobals "_law_right" = some (some (.ref f22))) (l22 : K.lookup f22 = some ⟨oc22, od22, .func (PySem.W.fnOf "_law_right" "_law_right" (defArgs s__law_right) (defBody s__law_right) (defScope s__law_right) .none kV22 dc22 pm22 an22 cd22 ct22), sl22⟩) (c22 : PySem.W.codeIn K cd22 "_law_right" = true) (k22 : PySem.W.keepIn K (.ref f22) = true)
    {od23 an23 : Option Addr} {sl23 : Array (Option Value)} {oc23 kV23 dc23 pm23 cd23 ct23 : Value}
    (a23 : PySem.W.nsIn K mainGlobals "_law_store" = some (some (.ref f23))) (l23 : K.lookup f23 = some ⟨oc23, od23, .func (PySem.W.fnOf "_law_store" "_law_store" (defArgs s__law_store) (defBody s__law_store) (defScope s__law_store) .none kV23 dc23 pm23 an23 cd23 ct23), sl23⟩) (c23 : PySem.W.codeIn K cd23 "_law_store" = true) (k23 : PySem.W.keepIn K (.ref f23) = true)
    {od24 an24 : Option Addr} {sl24 : Array (Option Value)} {oc24 kV24 dc24 pm24 cd24 ct24 : Value}
    (a24 : PySem.W.nsIn K mainGlobals "_law_end" = some (some (.ref f24))) (l24 : K.lookup f24 = some ⟨oc24, od24, .func (PySem.W.fnOf "_law_end" "_law_end" (defArgs s__law_end) (defBody s__law_end) (defScope s__law_end) .none kV24 dc24 pm24 an24 cd24 ct24), sl24⟩) (c24 : PySem.W.codeIn K cd24 "_law_end" = true) (k24 : PySem.W.keepIn K (.ref f24) = true)
    {od25 an25 : Option Addr} {sl25 : Array (Option Value)} {oc25 kV25 dc25 pm25 cd25 ct25 : Value}
    (a25 : PySem.W.nsIn K mainGlobals "_law_take_over" = some (some (.ref f25))) (l25 : K.lookup f25 = some ⟨oc25, od25, .func (PySem.W.fnOf "_law_take_over" "_law_take_over" (defArgs s__law_take_over) (defBody s__law_take_over) (defScope s__law_take_over) .none kV25 dc25 pm25 an25 cd25 ct25), sl25⟩) (c25 : PySem.W.codeIn K cd25 "_law_take_over" = true) (k25 : PySem.W.keepIn K (.ref f25) = true)
    {od26 an26 : Option Addr} {sl26 : Array (Option Value)} {oc26 kV26 dc26 pm26 cd26 ct26 : Value}
    (a26 : PySem.W.nsIn K mainGlobals "_law_arrive" = some (some (.ref f26))) (l26 : K.lookup f26 = some ⟨oc26, od26, .func (PySem.W.fnOf "_law_arrive" "_law_arrive" (defArgs s__law_arrive) (defBody s__law_arrive) (defScope s__law_arrive) .none kV26 dc26 pm26 an26 cd26 ct26), sl26⟩) (c26 : PySem.W.codeIn K cd26 "_law_arrive" = true) (k26 : PySem.W.keepIn K (.ref f26) = true)
    {od27 an27 : Option Addr} {sl27 : Array (Option Value)} {oc27 kV27 dc27 pm27 cd27 ct27 : Value}
    (a27 : PySem.W.nsIn K mainGlobals "_law_asked" = some (some (.ref f27))) (l27 : K.lookup f27 = some ⟨oc27, od27, .func (PySem.W.fnOf "_law_asked" "_law_asked" (defArgs s__law_asked) (defBody s__law_asked) (defScope s__law_asked) .none kV27 dc27 pm27 an27 cd27 ct27), sl27⟩) (c27 : PySem.W.codeIn K cd27 "_law_asked" = true) (k27 : PySem.W.keepIn K (.ref f27) = true)
    {od28 an28 : Option Addr} {sl28 : Array (Option Value)} {oc28 kV28 dc28 pm28 cd28 ct28 : Value}
    (a28 : PySem.W.nsIn K mainGlobals "law" = some (some (.ref f28))) (l28 : K.lookup f28 = some ⟨oc28, od28, .func (PySem.W.fnOf "law" "law" (defArgs s_law) (defBody s_law) (defScope s_law) .none kV28 dc28 pm28 an28 cd28 ct28), sl28⟩) (c28 : PySem.W.codeIn K cd28 "law" = true) (k28 : PySem.W.keepIn K (.ref f28) = true)
    (z0 : PySem.W.nsIn K mainGlobals "all" = some none)
    (z1 : PySem.W.nsIn K mainGlobals "enumerate" = some none)
    (z2 : PySem.W.nsIn K mainGlobals "int" = some none)
    (z3 : PySem.W.nsIn K mainGlobals "len" = some none)
    (z4 : PySem.W.nsIn K mainGlobals "max" = some none)
    (z5 : PySem.W.nsIn K mainGlobals "min" = some none)
    (z6 : PySem.W.nsIn K mainGlobals "range" = some none)
    (z7 : PySem.W.nsIn K mainGlobals "sorted" = some none)
    (z8 : PySem.W.nsIn K mainGlobals "tuple" = some none)
    (z9 : PySem.W.nsIn K mainGlobals "zip" = some none)
    {tk0 : Tok} (y0 : PySem.W.nsIn K mainGlobals "PAGE_WORDS" = some (some (.int 4 tk0))) 
    {tk2 : Tok} {tk4 : Tok} {tk5 : Tok} {ca3 : Addr} {cd3_ : Option Addr} {cn3 : Nat} {cs3 : Array (Option Value)} {ca1 : Addr} {cd1_ : Option Addr} {cn1 : Nat} {cs1 : Array (Option Value)} (y1 : PySem.W.nsIn K mainGlobals "FIRST_CELL" = some (some (.ref ca1))) (u3 : K.lookup ca3 = some ⟨.type "tuple", cd3_, .seq #[(.int 0 tk4), (.int 0 tk5)] cn3, cs3⟩) (u1 : K.lookup ca1 = some ⟨.type "tuple", cd1_, .seq #[(.int 0 tk2), (.ref ca3)] cn1, cs1⟩)
    (tell : ∀ ns : List Int, ns.length ≤ 63 → pf_law [.list (ns.map .int)] = some (.bool true))
    : ∃ fd : FuncData, (∀ (s : Shared) (v : Value), BindsTo s fd ⟨[v], []⟩ [("script", v)]) ∧ ∀ base : Heap, K.In base → base.Ns mainGlobals mg → FnOk l.prog w K mg base CX0 5 fa fd ["script"] (spLaw K) := by
  have e := hfa.symm.trans (PySem.W.mg_of X G a28)
  cases e
  have F0 := fun_mk (st := s_zero_clock) l0 c0 k0
  have b0 := F0.binds (ps := ["machines"]) fun _ _ _ _ _ _ us hl => match us, hl with | [_], _ => rfl
  have F1 := fun_mk (st := s_merged) l1 c1 k1
  have b1 := F1.binds (ps := ["one", "other"]) fun _ _ _ _ _ _ us hl => match us, hl with | [_, _], _ => rfl
  have F2 := fun_mk (st := s_with_count) l2 c2 k2
  have b2 := F2.binds (ps := ["clock", "machine", "count"]) fun _ _ _ _ _ _ us hl => match us, hl with | [_, _, _], _ => rfl
  have F3 := fun_mk (st := s_is_within) l3 c3 k3
  have b3 := F3.binds (ps := ["one", "other"]) fun _ _ _ _ _ _ us hl => match us, hl with | [_, _], _ => rfl
  have F4 := fun_mk (st := s_new_page) l4 c4 k4
  have b4 := F4.binds (ps := []) fun _ _ _ _ _ _ us hl => match us, hl with | [], _ => rfl
  have F5 := fun_mk (st := s_has_place) l5 c5 k5
  have b5 := F5.binds (ps := ["page", "place"]) fun _ _ _ _ _ _ us hl => match us, hl with | [_, _], _ => rfl
  have F6 := fun_mk (st := s_cell_at) l6 c6 k6
  have b6 := F6.binds (ps := ["page", "place"]) fun _ _ _ _ _ _ us hl => match us, hl with | [_, _], _ => rfl
  have F7 := fun_mk (st := s_put_cell) l7 c7 k7
  have b7 := F7.binds (ps := ["page", "place", "cell"]) fun _ _ _ _ _ _ us hl => match us, hl with | [_, _, _], _ => rfl
  have F8 := fun_mk (st := s_store) l8 c8 k8
  have b8 := F8.binds (ps := ["page", "place", "value", "machine"]) fun _ _ _ _ _ _ us hl => match us, hl with | [_, _, _, _], _ => rfl
  have F9 := fun_mk (st := s_merge) l9 c9 k9
  have b9 := F9.binds (ps := ["page", "rows"]) fun _ _ _ _ _ _ us hl => match us, hl with | [_, _], _ => rfl
  have F10 := fun_mk (st := s_rows_of) l10 c10 k10
  have b10 := F10.binds (ps := ["page"]) fun _ _ _ _ _ _ us hl => match us, hl with | [_], _ => rfl
  have F11 := fun_mk (st := s_difference) l11 c11 k11
  have b11 := F11.binds (ps := ["stored"]) fun _ _ _ _ _ _ us hl => match us, hl with | [_], _ => rfl
  have F12 := fun_mk (st := s_new_held) l12 c12 k12
  have b12 := F12.binds (ps := ["machines"]) fun _ _ _ _ _ _ us hl => match us, hl with | [_], _ => rfl
  have F13 := fun_mk (st := s_raised) l13 c13 k13
  have b13 := F13.binds (ps := ["clock", "machine", "number"]) fun _ _ _ _ _ _ us hl => match us, hl with | [_, _, _], _ => rfl
  have F14 := fun_mk (st := s_needs) l14 c14 k14
  have b14 := F14.binds (ps := ["held", "machine", "number"]) fun _ _ _ _ _ _ us hl => match us, hl with | [_, _, _], _ => rfl
  have F15 := fun_mk (st := s_arrived) l15 c15 k15
  have b15 := F15.binds (ps := ["held", "machine", "number"]) fun _ _ _ _ _ _ us hl => match us, hl with | [_, _, _], _ => rfl
  have F16 := fun_mk (st := s_had) l16 c16 k16
  have b16 := F16.binds (ps := ["held", "clock"]) fun _ _ _ _ _ _ us hl => match us, hl with | [_, _], _ => rfl
  have F17 := fun_mk (st := s_is_fresh) l17 c17 k17
  have b17 := F17.binds (ps := ["held", "needed", "owner"]) fun _ _ _ _ _ _ us hl => match us, hl with | [_, _, _], _ => rfl
  have F18 := fun_mk (st := s__law_cell) l18 c18 k18
  have b18 := F18.binds (ps := ["script", "k"]) fun _ _ _ _ _ _ us hl => match us, hl with | [_, _], _ => rfl
  have F19 := fun_mk (st := s__law_digits) l19 c19 k19
  have b19 := F19.binds (ps := ["cell", "bases"]) fun _ _ _ _ _ _ us hl => match us, hl with | [_, _], _ => rfl
  have F20 := fun_mk (st := s__law_many) l20 c20 k20
  have b20 := F20.binds (ps := ["script", "few", "many"]) fun _ _ _ _ _ _ us hl => match us, hl with | [_, _, _], _ => rfl
  have F21 := fun_mk (st := s__law_machine) l21 c21 k21
  have b21 := F21.binds (ps := ["machines", "machine"]) fun _ _ _ _ _ _ us hl => match us, hl with | [_, _], _ => rfl
  have F22 := fun_mk (st := s__law_right) l22 c22 k22
  have b22 := F22.binds (ps := ["team", "one"]) fun _ _ _ _ _ _ us hl => match us, hl with | [_, _], _ => rfl
  have F23 := fun_mk (st := s__law_store) l23 c23 k23
  have b23 := F23.binds (ps := ["team", "one", "place", "value"]) fun _ _ _ _ _ _ us hl => match us, hl with | [_, _, _, _], _ => rfl
  have F24 := fun_mk (st := s__law_end) l24 c24 k24
  have b24 := F24.binds (ps := ["team", "one", "home"]) fun _ _ _ _ _ _ us hl => match us, hl with | [_, _, _], _ => rfl
  have F25 := fun_mk (st := s__law_take_over) l25 c25 k25
  have b25 := F25.binds (ps := ["team", "one", "other"]) fun _ _ _ _ _ _ us hl => match us, hl with | [_, _, _], _ => rfl
  have F26 := fun_mk (st := s__law_arrive) l26 c26 k26
  have b26 := F26.binds (ps := ["team", "one", "home"]) fun _ _ _ _ _ _ us hl => match us, hl with | [_, _, _], _ => rfl
  have F27 := fun_mk (st := s__law_asked) l27 c27 k27
  have b27 := F27.binds (ps := ["team", "one", "home"]) fun _ _ _ _ _ _ us hl => match us, hl with | [_, _, _], _ => rfl
  have F28 := fun_mk (st := s_law) l28 c28 k28
  have b28 := F28.binds (ps := ["script"]) fun _ _ _ _ _ _ us hl => match us, hl with | [_], _ => rfl
  let Z : Fx K mg := ⟨f0, _, F0, b0, PySem.W.mg_of X G a0,
    f1, _, F1, b1, PySem.W.mg_of X G a1,
    f2, _, F2, b2, PySem.W.mg_of X G a2,
    f3, _, F3, b3, PySem.W.mg_of X G a3,
    f4, _, F4, b4, PySem.W.mg_of X G a4,
    f5, _, F5, b5, PySem.W.mg_of X G a5,
    f6, _, F6, b6, PySem.W.mg_of X G a6,
    f7, _, F7, b7, PySem.W.mg_of X G a7,
    f8, _, F8, b8, PySem.W.mg_of X G a8,
    f9, _, F9, b9, PySem.W.mg_of X G a9,
    f10, _, F10, b10, PySem.W.mg_of X G a10,
    f11, _, F11, b11, PySem.W.mg_of X G a11,
    f12, _, F12, b12, PySem.W.mg_of X G a12,
    f13, _, F13, b13, PySem.W.mg_of X G a13,
    f14, _, F14, b14, PySem.W.mg_of X G a14,
    f15, _, F15, b15, PySem.W.mg_of X G a15,
    f16, _, F16, b16, PySem.W.mg_of X G a16,
    f17, _, F17, b17, PySem.W.mg_of X G a17,
    f18, _, F18, b18, PySem.W.mg_of X G a18,
    f19, _, F19, b19, PySem.W.mg_of X G a19,
    f20, _, F20, b20, PySem.W.mg_of X G a20,
    f21, _, F21, b21, PySem.W.mg_of X G a21,
    f22, _, F22, b22, PySem.W.mg_of X G a22,
    f23, _, F23, b23, PySem.W.mg_of X G a23,
    f24, _, F24, b24, PySem.W.mg_of X G a24,
    f25, _, F25, b25, PySem.W.mg_of X G a25,
    f26, _, F26, b26, PySem.W.mg_of X G a26,
    f27, _, F27, b27, PySem.W.mg_of X G a27,
    fa, _, F28, b28, PySem.W.mg_of X G a28,
    PySem.W.mg_none_of X G z0,
    PySem.W.mg_none_of X G z1,
    PySem.W.mg_none_of X G z2,
    PySem.W.mg_none_of X G z3,
    PySem.W.mg_none_of X G z4,
    PySem.W.mg_none_of X G z5,
    PySem.W.mg_none_of X G z6,
    PySem.W.mg_none_of X G z7,
    PySem.W.mg_none_of X G z8,
    PySem.W.mg_none_of X G z9,
    ⟨(.int 4 tk0), PySem.W.mg_of X G y0, ⟨.int 4, ⟨_, rfl⟩, fun _ => .int 4⟩⟩,
    ⟨(.ref ca1), PySem.W.mg_of X G y1, (glV_tup u1 (by rw [sizeLine_eq]; exact Nat.le_of_ble_eq_true rfl) (GlVs.cons ⟨.int 0, ⟨_, rfl⟩, fun _ => .int 0⟩ (GlVs.cons (glV_tup u3 (by rw [sizeLine_eq]; exact Nat.le_of_ble_eq_true rfl) (GlVs.cons ⟨.int 0, ⟨_, rfl⟩, fun _ => .int 0⟩ (GlVs.cons ⟨.int 0, ⟨_, rfl⟩, fun _ => .int 0⟩ GlVs.nil))) GlVs.nil)))⟩⟩
  exact ⟨PySem.W.fnOf "law" "law" (defArgs s_law) (defBody s_law) (defScope s_law) .none kV28 dc28 pm28 an28 cd28 ct28, fun s v => .of_eq rfl, fun base _ _ => (ok_law Z).imp fun _ _ _ _ h => law_imp tell h⟩
end M
open PySem PySem.W PyProof.Rows
theorem PySem.Challenge.cw_commonage_k09_whole_fresh_copies_have_wh_holds : PySem.Challenge.rw_commonage_k09_whole_fresh_copies_have_wh.Holds := by
  w_on; o_law; k_head; (case hw => w_witness2)
  k_fill
  refine L2.walk_of (l := PySem.Challenge.rw_commonage_k09_whole_fresh_copies_have_wh) (n := 63) (k := 5) (x := "script") (CX := fun _ => L2.CX0) (sp := fun w => M.spLaw _) rfl (by decide) rfl ⟨rfl, by decide, by decide⟩ (fun w h Y => PySem.W.kIn_of Y) ?F (fun _ _ a ns hl _ hS => ⟨a, ns, rfl, hS, hl, fun _ => rfl⟩) (fun _ _ _ _ _ h => h)
  case F =>
    intro w mg fa h KX hG0 hmg
    refine' _root_.M.all_mk KX hG0 hmg ?a0 ?l0 ?c0 ?k0 ?a1 ?l1 ?c1 ?k1 ?a2 ?l2 ?c2 ?k2 ?a3 ?l3 ?c3 ?k3 ?a4 ?l4 ?c4 ?k4 ?a5 ?l5 ?c5 ?k5 ?a6 ?l6 ?c6 ?k6 ?a7 ?l7 ?c7 ?k7 ?a8 ?l8 ?c8 ?k8 ?a9 ?l9 ?c9 ?k9 ?a10 ?l10 ?c10 ?k10 ?a11 ?l11 ?c11 ?k11 ?a12 ?l12 ?c12 ?k12 ?a13 ?l13 ?c13 ?k13 ?a14 ?l14 ?c14 ?k14 ?a15 ?l15 ?c15 ?k15 ?a16 ?l16 ?c16 ?k16 ?a17 ?l17 ?c17 ?k17 ?a18 ?l18 ?c18 ?k18 ?a19 ?l19 ?c19 ?k19 ?a20 ?l20 ?c20 ?k20 ?a21 ?l21 ?c21 ?k21 ?a22 ?l22 ?c22 ?k22 ?a23 ?l23 ?c23 ?k23 ?a24 ?l24 ?c24 ?k24 ?a25 ?l25 ?c25 ?k25 ?a26 ?l26 ?c26 ?k26 ?a27 ?l27 ?c27 ?k27 ?a28 ?l28 ?c28 ?k28 ?z0 ?z1 ?z2 ?z3 ?z4 ?z5 ?z6 ?z7 ?z8 ?z9 ?y0 ?y1 ?u3 ?u1 M.tell
    (case a0 => k_is); (case l0 => k_is); (case c0 => k_is); (case k0 => k_is); (case a1 => k_is); (case l1 => k_is); (case c1 => k_is); (case k1 => k_is); (case a2 => k_is); (case l2 => k_is); (case c2 => k_is); (case k2 => k_is); (case a3 => k_is); (case l3 => k_is); (case c3 => k_is); (case k3 => k_is); (case a4 => k_is); (case l4 => k_is); (case c4 => k_is); (case k4 => k_is); (case a5 => k_is); (case l5 => k_is); (case c5 => k_is); (case k5 => k_is); (case a6 => k_is); (case l6 => k_is); (case c6 => k_is); (case k6 => k_is); (case a7 => k_is); (case l7 => k_is); (case c7 => k_is); (case k7 => k_is); (case a8 => k_is); (case l8 => k_is); (case c8 => k_is); (case k8 => k_is); (case a9 => k_is); (case l9 => k_is); (case c9 => k_is); (case k9 => k_is); (case a10 => k_is); (case l10 => k_is); (case c10 => k_is); (case k10 => k_is); (case a11 => k_is); (case l11 => k_is); (case c11 => k_is); (case k11 => k_is); (case a12 => k_is); (case l12 => k_is); (case c12 => k_is); (case k12 => k_is); (case a13 => k_is); (case l13 => k_is); (case c13 => k_is); (case k13 => k_is); (case a14 => k_is); (case l14 => k_is); (case c14 => k_is); (case k14 => k_is); (case a15 => k_is); (case l15 => k_is); (case c15 => k_is); (case k15 => k_is); (case a16 => k_is); (case l16 => k_is); (case c16 => k_is); (case k16 => k_is); (case a17 => k_is); (case l17 => k_is); (case c17 => k_is); (case k17 => k_is); (case a18 => k_is); (case l18 => k_is); (case c18 => k_is); (case k18 => k_is); (case a19 => k_is); (case l19 => k_is); (case c19 => k_is); (case k19 => k_is); (case a20 => k_is); (case l20 => k_is); (case c20 => k_is); (case k20 => k_is); (case a21 => k_is); (case l21 => k_is); (case c21 => k_is); (case k21 => k_is); (case a22 => k_is); (case l22 => k_is); (case c22 => k_is); (case k22 => k_is); (case a23 => k_is); (case l23 => k_is); (case c23 => k_is); (case k23 => k_is); (case a24 => k_is); (case l24 => k_is); (case c24 => k_is); (case k24 => k_is); (case a25 => k_is); (case l25 => k_is); (case c25 => k_is); (case k25 => k_is); (case a26 => k_is); (case l26 => k_is); (case c26 => k_is); (case k26 => k_is); (case a27 => k_is); (case l27 => k_is); (case c27 => k_is); (case k27 => k_is); (case a28 => k_is); (case l28 => k_is); (case c28 => k_is); (case k28 => k_is); (case z0 => k_is); (case z1 => k_is); (case z2 => k_is); (case z3 => k_is); (case z4 => k_is); (case z5 => k_is); (case z6 => k_is); (case z7 => k_is); (case z8 => k_is); (case z9 => k_is); (case y0 => k_is); (case y1 => k_is); (case u1 => k_is); (case u3 => k_is)

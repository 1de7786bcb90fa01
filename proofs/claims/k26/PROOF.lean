import PyProof.Rows.All
import Wide.All
import OpenK.AllK
import Wide.FinOn
import HandS.Evl
import HandS.ForMost
import HandS.IsInst
import HandS.Zip
import HandS.Wide
import HandS.TupMul
import HandS.EndBits
import HandS.Steps
import HandS.SetFor
import HandS.Strs
import KE.GoesMore
import KE.GoesEnum
import PySem.Challenge.RW_commonage_k26_instructions
set_option Elab.async false
set_option linter.all false
set_option maxRecDepth 100000
set_option maxHeartbeats 4000000
namespace G
open PySem PySem.Spec PyProof.Rows L2
open Evl (Ex ex_rd ex_l ex_t rMax2)
theorem ex_none {H H' : Hp} {p : Addr} (e : Ex H H') (h : H' p = none) : H p = none := Evl.fresh_back e h
section
variable {K : PySem.W.Frag} {H H' : Hp}
mutual
theorem dpx (e : Ex H H') : ∀ {v : V} {d : PyData}, Dp K H v d → Dp K H' v d
  | _, _, .non => .non
  | _, _, .bl b => .bl b
  | _, _, .int i => .int i
  | _, _, .str x => .str x
  | _, _, .lst h a => .lst (ex_l e h) (dpax e a)
  | _, _, .tup h a => .tup (ex_t e h) (dpax e a)
theorem dpax (e : Ex H H') : ∀ {vs : List V} {ds : List PyData}, DpAll K H vs ds → DpAll K H' vs ds
  | _, _, .nil => .nil
  | _, _, .cons h t => .cons (dpx e h) (dpax e t)
end
theorem dpa_len : ∀ {vs : List V} {ds : List PyData}, DpAll K H vs ds → vs.length = ds.length
  | _, _, .nil => rfl
  | _, _, .cons _ t => congrArg (· + 1) (dpa_len t)
theorem dpa_get : ∀ {vs : List V} {ds : List PyData} {i : Nat} {d : PyData}, DpAll K H vs ds → ds[i]? = some d → ∃ v, vs[i]? = some v ∧ Dp K H v d
  | _, _, _, _, .nil, e => by simp at e
  | _, _, 0, _, .cons r _, e => by simp at e; subst e; exact ⟨_, rfl, r⟩
  | _, _, i + 1, d, .cons _ t, e => by
    obtain ⟨u, h1, h2⟩ := dpa_get (i := i) (d := d) t (by simpa using e)
    exact ⟨u, by simpa using h1, h2⟩
theorem dpa_app : ∀ {vs ws : List V} {ds es : List PyData}, DpAll K H vs ds → DpAll K H ws es → DpAll K H (vs ++ ws) (ds ++ es)
  | _, _, _, _, .nil, s => s
  | _, _, _, _, .cons r t, s => .cons r (dpa_app t s)
theorem dpa_set {v : V} {d : PyData} (r : Dp K H v d) : ∀ {vs : List V} {ds : List PyData} (i : Nat), DpAll K H vs ds → DpAll K H (vs.set i v) (ds.set i d)
  | _, _, _, .nil => .nil
  | _, _, 0, .cons _ t => .cons r t
  | _, _, i + 1, .cons q t => .cons q (dpa_set r i t)
theorem dpa_ints : ∀ {xs : List Int}, DpAll K H (xs.map V.int) (xs.map PyData.int)
  | [] => .nil
  | x :: xs => .cons (.int x) (dpa_ints)
end
/-! ### slots -/
inductive Sl where
  | no
  | dat (d : PyData)
  | ownq (z : Option Addr) (ds : List PyData)
abbrev Sl.own (ds : List PyData) : Sl := .ownq none ds
abbrev Sl.int (i : Int) : Sl := .dat (.int i)
abbrev Sl.bl (b : Bool) : Sl := .dat (.bool b)
inductive Has (K : PySem.W.Frag) (C H : Hp) : List Sl → L2.St → List Addr → Prop
  | nil : Has K C H [] [] []
  | no {Γ : List Sl} {σ : L2.St} {ps : List Addr} {x : Option V} : Has K C H Γ σ ps → Has K C H (.no :: Γ) (x :: σ) ps
  | dat {Γ : List Sl} {σ : L2.St} {ps : List Addr} {v : V} {d : PyData} : Dp K C v d → Has K C H Γ σ ps → Has K C H (.dat d :: Γ) (some v :: σ) ps
  | own {Γ : List Sl} {σ : L2.St} {ps : List Addr} {p : Addr} {vs : List V} {ds : List PyData} {z : Option Addr} : (∀ r, z = some r → r = p) → H p = some (.lst vs) → DpAll K C vs ds → Has K C H Γ σ ps → Has K C H (.ownq z ds :: Γ) (some (.ref p) :: σ) (p :: ps)
section
variable {K : PySem.W.Frag} {C C' H H' : Hp} {Γ : List Sl} {σ : L2.St} {ps : List Addr}
theorem Has.own_some (h : Has K C H Γ σ ps) : ∀ p ∈ ps, ∃ xs, H p = some (.lst xs) := by
  induction h with
  | nil => intro p hp; cases hp
  | no _ ih => exact ih
  | dat _ _ ih => exact ih
  | own _ e _ _ ih =>
    intro p hp
    rcases List.mem_cons.mp hp with rfl | hp
    · exact ⟨_, e⟩
    · exact ih p hp
theorem Has.mono (h : Has K C H Γ σ ps) (e : Ex C C') (f : ∀ p ∈ ps, ∀ o, H p = some o → H' p = some o) : Has K C' H' Γ σ ps := by
  induction h with
  | nil => exact .nil
  | no _ ih => exact .no (ih f)
  | dat d _ ih => exact .dat (dpx e d) (ih f)
  | own y q d _ ih => exact .own y (f _ List.mem_cons_self _ q) (dpax e d) (ih fun p hp => f p (List.mem_cons_of_mem _ hp))
theorem Has.len (h : Has K C H Γ σ ps) : Γ.length = σ.length := by
  induction h with
  | nil => rfl
  | no _ ih => simp [ih]
  | dat _ _ ih => simp [ih]
  | own _ _ _ _ ih => simp [ih]
theorem Has.get_dat (h : Has K C H Γ σ ps) : ∀ {i : Nat} {d : PyData}, Γ[i]? = some (.dat d) → ∃ v, σ[i]? = some (some v) ∧ Dp K C v d := by
  induction h with
  | nil => intro i d e; simp at e
  | no _ ih => intro i d e; cases i with
    | zero => simp at e
    | succ i => exact ih (by simpa using e)
  | dat q _ ih => intro i d e; cases i with
    | zero => simp at e; subst e; exact ⟨_, rfl, q⟩
    | succ i => exact ih (by simpa using e)
  | own _ _ _ _ ih => intro i d e; cases i with
    | zero => simp at e
    | succ i => exact ih (by simpa using e)
/-- a slot is given another content -/
theorem Has.set {s : Sl} {x : Option V} {rs : List Addr} (h : Has K C H Γ σ ps) (r : Has K C H [s] [x] rs) : ∀ (i : Nat), ∃ qs, Has K C H (Γ.set i s) (σ.set i x) qs ∧ (∀ p ∈ qs, p ∈ rs ∨ p ∈ ps) ∧ ((rs ++ ps).Nodup → qs.Nodup) := by
  have keep : ∀ {Γ : List Sl} {σ : L2.St} {ps : List Addr}, Has K C H Γ σ ps → ∃ qs, Has K C H (s :: Γ) (x :: σ) qs ∧ qs = rs ++ ps := by
    intro Γ σ ps q
    cases r with
    | no r => cases r; exact ⟨_, .no q, rfl⟩
    | dat d r => cases r; exact ⟨_, .dat d q, rfl⟩
    | own y e d r => cases r; exact ⟨_, .own y e d q, rfl⟩
  induction h with
  | nil => intro i; exact ⟨[], .nil, (fun p hp => by cases hp), fun _ => List.nodup_nil⟩
  | no q ih => intro i; cases i with
    | zero => obtain ⟨qs, h1, rfl⟩ := keep q; exact ⟨_, h1, fun p hp => List.mem_append.mp hp, fun n => n⟩
    | succ i => obtain ⟨qs, h1, h2, h3⟩ := ih i; exact ⟨qs, .no h1, h2, h3⟩
  | dat d q ih => intro i; cases i with
    | zero => obtain ⟨qs, h1, rfl⟩ := keep q; exact ⟨_, h1, fun p hp => List.mem_append.mp hp, fun n => n⟩
    | succ i => obtain ⟨qs, h1, h2, h3⟩ := ih i; exact ⟨qs, .dat d h1, h2, h3⟩
  | own y e d q ih => intro i; cases i with
    | zero =>
      obtain ⟨qs, h1, rfl⟩ := keep q
      refine ⟨_, h1, fun p hp => ?_, fun n => ?_⟩
      · rcases List.mem_append.mp hp with z | z
        · exact .inl z
        · exact .inr (List.mem_cons_of_mem _ z)
      · exact n.sublist (List.Sublist.append_left (List.sublist_cons_self _ _) rs)
    | succ i =>
      obtain ⟨qs, h1, h2, h3⟩ := ih i
      refine ⟨_, .own y e d h1, fun p hp => ?_, fun n => ?_⟩
      · rcases List.mem_cons.mp hp with rfl | z
        · exact .inr List.mem_cons_self
        · rcases h2 p z with z | z
          · exact .inl z
          · exact .inr (List.mem_cons_of_mem _ z)
      · have n' := (List.perm_middle.nodup_iff).mp n
        refine List.nodup_cons.mpr ⟨fun hm => ?_, h3 (List.nodup_cons.mp n').2⟩
        rcases h2 _ hm with z | z
        · exact (List.nodup_cons.mp n').1 (List.mem_append_left _ z)
        · exact (List.nodup_cons.mp n').1 (List.mem_append_right _ z)
end
/-! ### the state: what is known of slots and heap -/
structure Bs where
  K : PySem.W.Frag
  H0 : Hp
  B : Hp
structure Cfg (b : Bs) (C H : Hp) (ps : List Addr) : Prop where
  bc : Ex b.B C
  ch : Ex C H
  h0 : Ex b.H0 H
  fr : ∀ a, b.H0 a ≠ none → b.B a = none → C a = none
  ow : ∀ p ∈ ps, C p = none ∧ b.H0 p = none
  nd : ps.Nodup
def HsC (b : Bs) (C : Hp) (T : List Sl) (τ : L2.St) (Γ : List Sl) (σ : L2.St) (H : Hp) : Prop := ∃ ps qs, Cfg b C H (ps ++ qs) ∧ Has b.K C H T τ ps ∧ Has b.K C H Γ σ qs
def Hs (b : Bs) (T : List Sl) (τ : L2.St) (Γ : List Sl) (σ : L2.St) (H : Hp) : Prop := ∃ C, HsC b C T τ Γ σ H
/-- from a heap H of which C is known: the value v, told by s, in H' -/
def Ret (K : PySem.W.Frag) (H C : Hp) (s : Sl) (v : V) (H' : Hp) : Prop :=
  ∃ C' ps, Ex C C' ∧ Ex C' H' ∧ Ex H H' ∧ (∀ a, H a ≠ none → C a = none → C' a = none) ∧ Has K C' H' [s] [some v] ps ∧ ∀ p ∈ ps, C' p = none ∧ H p = none
section
variable {K : PySem.W.Frag} {C H H' : Hp} {s : Sl} {v : V} {d : PyData} {ds : List PyData} {vs : List V} {p : Addr}
theorem Ret.same (e : Ex C H) (h : Dp K C v d) : Ret K H C (.dat d) v H := ⟨C, [], Ex.refl C, e, Ex.refl H, fun _ _ z => z, .dat h .nil, fun p hp => by cases hp⟩
theorem ret_fresh (hp : H p = none) {o : HO} (e : Ex C H) : Ex (upd C p o) (upd H p o) := fun a u h => by
  by_cases z : a = p
  · subst z; rw [upd_same] at h ⊢; exact h
  · rw [upd_ne z] at h ⊢; exact e a u h
theorem Ret.tup (e : Ex C H) (h : DpAll K C vs ds) (hp : H p = none) : Ret K H C (.dat (.tuple ds)) (.ref p) (upd H p (.tup vs)) := by
  have hc : C p = none := ex_none e hp
  refine ⟨upd C p (.tup vs), [], Ex.new hc, ret_fresh hp e, Ex.new hp, fun a z c => ?_, .dat (.tup (.inl (.inl upd_same)) (dpax (Ex.new hc) h)) .nil, fun p hp => by cases hp⟩
  rw [upd_ne (fun q => z (by rw [q]; exact hp))]; exact c
theorem Ret.lst (e : Ex C H) (h : DpAll K C vs ds) (hp : H p = none) : Ret K H C (.own ds) (.ref p) (upd H p (.lst vs)) :=
  ⟨C, [p], Ex.refl C, e.trans (Ex.new hp), Ex.new hp, fun _ _ z => z, .own (fun _ q => nomatch q) upd_same h .nil, fun q hq => by
    rcases List.mem_singleton.mp hq with rfl
    exact ⟨ex_none e hp, hp⟩⟩
theorem Ret.list (e : Ex C H) (h : DpAll K C vs ds) (hp : H p = none) : Ret K H C (.dat (.list ds)) (.ref p) (upd H p (.lst vs)) := by
  have hc : C p = none := ex_none e hp
  refine ⟨upd C p (.lst vs), [], Ex.new hc, ret_fresh hp e, Ex.new hp, fun a z c => ?_, .dat (.lst (.inl (.inl upd_same)) (dpax (Ex.new hc) h)) .nil, fun p hp => by cases hp⟩
  rw [upd_ne (fun q => z (by rw [q]; exact hp))]; exact c
theorem Ret.freeze {z : Option Addr} (r : Ret K H C (.ownq z ds) v H') : Ret K H C (.dat (.list ds)) v H' := by
  obtain ⟨C', ps, e1, e2, e3, fr, h, ow⟩ := r
  cases h with
  | own y e d r =>
    cases r
    rename_i q vs
    obtain ⟨o1, o2⟩ := ow q List.mem_cons_self
    refine ⟨upd C' q (.lst vs), [], e1.trans (Ex.new o1), fun a u h => ?_, e3, fun a z c => ?_, .dat (.lst (.inl (.inl upd_same)) (dpax (Ex.new o1) d)) .nil, fun p hp => by cases hp⟩
    · by_cases z : a = q
      · subst z; rw [upd_same] at h; cases h; exact e
      · rw [upd_ne z] at h; exact e2 a u h
    · rw [upd_ne (fun y => z (by rw [y]; exact o2))]; exact fr a z c
end
section
variable {b : Bs} {C : Hp} {T Γ Γ' Γ1 Γ2 : List Sl} {τ σ : L2.St} {H H' : Hp} {s s' : Sl} {v : V} {d e : PyData} {ds es : List PyData} {vs : List V}
theorem HsC.ch (h : HsC b C T τ Γ σ H) : Ex C H := by obtain ⟨ps, qs, c, _⟩ := h; exact c.ch
/-- a computation's result is put on the pile -/
theorem HsC.step (h : HsC b C T τ Γ σ H) (r : Ret b.K H C s v H') : Hs b (s :: T) (some v :: τ) Γ σ H' := by
  obtain ⟨ps, qs, c, h1, h2⟩ := h
  obtain ⟨C', rs, e1, e2, e3, fr, h3, ow⟩ := r
  have hsome : ∀ p ∈ ps ++ qs, ∃ xs, H p = some (.lst xs) := fun p hp => by
    rcases List.mem_append.mp hp with z | z
    · exact h1.own_some p z
    · exact h2.own_some p z
  have hT : Has b.K C' H' (s :: T) (some v :: τ) (rs ++ ps) := by
    have h1' := h1.mono e1 (fun p _ o q => e3 p o q)
    cases h3 with
    | no z => cases z; exact .no h1'
    | dat q z => cases z; exact .dat q h1'
    | own y q q2 z => cases z; exact .own y q q2 h1'
  refine ⟨C', rs ++ ps, qs, ⟨c.bc.trans e1, e2, c.h0.trans e3, fun a z y => ?_, fun p hp => ?_, ?_⟩, hT, h2.mono e1 (fun p _ o q => e3 p o q)⟩
  · refine fr a (fun q => ?_) (c.fr a z y)
    cases z1 : b.H0 a with
    | none => exact z z1
    | some o => rw [c.h0 a o z1] at q; cases q
  · rw [List.append_assoc] at hp
    rcases List.mem_append.mp hp with z | z
    · exact ⟨(ow p z).1, ex_none c.h0 (ow p z).2⟩
    · obtain ⟨xs, hx⟩ := hsome p z
      exact ⟨fr p (by rw [hx]; intro q; cases q) (c.ow p z).1, (c.ow p z).2⟩
  · rw [List.append_assoc]
    refine List.nodup_append.mpr ⟨?_, c.nd, fun p hp q hq e => ?_⟩
    · cases h3 with
      | no z => cases z; exact List.nodup_nil
      | dat _ z => cases z; exact List.nodup_nil
      | own _ _ _ z => cases z; simp
    · subst e
      obtain ⟨xs, hx⟩ := hsome p hq
      rw [(ow p hp).2] at hx; cases hx
theorem HsC.sub {T' : List Sl} {τ' : L2.St} {ps' qs' : List Addr} (c : Cfg b C H ps') (h1 : Has b.K C H T' τ' qs') (h2 : ∀ p ∈ qs', p ∈ ps') (h3 : qs'.Nodup) : Cfg b C H qs' :=
  ⟨c.bc, c.ch, c.h0, c.fr, fun p hp => c.ow p (h2 p hp), h3⟩
theorem Cfg.sub {ps' qs' : List Addr} (c : Cfg b C H ps') (h2 : ∀ p ∈ qs', p ∈ ps') (h3 : qs'.Nodup) : Cfg b C H qs' :=
  ⟨c.bc, c.ch, c.h0, c.fr, fun p hp => c.ow p (h2 p hp), h3⟩
/-- the top of the pile is read, data -/
theorem HsC.pop (h : HsC b C (.dat d :: T) (some v :: τ) Γ σ H) : Dp b.K C v d ∧ HsC b C T τ Γ σ H := by
  obtain ⟨ps, qs, c, h1, h2⟩ := h
  cases h1 with
  | dat q h1 => exact ⟨q, ps, qs, c, h1, h2⟩
theorem HsC.drop {x : Option V} (h : HsC b C (s :: T) (x :: τ) Γ σ H) : HsC b C T τ Γ σ H := by
  obtain ⟨ps, qs, c, h1, h2⟩ := h
  cases h1 with
  | no h1 => exact ⟨ps, qs, c, h1, h2⟩
  | dat q h1 => exact ⟨ps, qs, c, h1, h2⟩
  | own y q q2 h1 => exact ⟨_, qs, c.sub (fun p hp => List.mem_cons_of_mem _ hp) (List.nodup_cons.mp c.nd).2, h1, h2⟩
theorem HsC.push (h : HsC b C T τ Γ σ H) (q : Dp b.K C v d) : HsC b C (.dat d :: T) (some v :: τ) Γ σ H := by
  obtain ⟨ps, qs, c, h1, h2⟩ := h
  exact ⟨ps, qs, c, .dat q h1, h2⟩
theorem HsC.pushAll (h : HsC b C T τ Γ σ H) : ∀ {vs : List V} {ds : List PyData}, DpAll b.K C vs ds → HsC b C (ds.map Sl.dat ++ T) (vs.map some ++ τ) Γ σ H
  | _, _, .nil => h
  | _, _, .cons r t => (h.pushAll t).push r
theorem HsC.popAll : ∀ {vs : List V} {ds : List PyData}, vs.length = ds.length → HsC b C (ds.map Sl.dat ++ T) (vs.map some ++ τ) Γ σ H → DpAll b.K C vs ds ∧ HsC b C T τ Γ σ H
  | [], [], _, h => ⟨.nil, h⟩
  | v :: vs, d :: ds, e, h => by
    obtain ⟨q, h⟩ := HsC.pop (T := ds.map Sl.dat ++ T) (τ := vs.map some ++ τ) h
    obtain ⟨q2, h⟩ := HsC.popAll (vs := vs) (ds := ds) (by simpa using e) h
    exact ⟨.cons q q2, h⟩
/-- the top of the pile is stored in a slot -/
theorem Hs.store {x : Option V} (h : Hs b (s :: T) (x :: τ) Γ σ H) (i : Nat) : Hs b T τ (Γ.set i s) (σ.set i x) H := by
  obtain ⟨C, ps, qs, c, h1, h2⟩ := h
  have main : ∀ {rs ps' : List Addr}, Has b.K C H [s] [x] rs → Has b.K C H T τ ps' → ps = rs ++ ps' → Hs b T τ (Γ.set i s) (σ.set i x) H := by
    clear h1
    rintro rs ps' r h1 rfl
    obtain ⟨qs', g1, g2, g3⟩ := h2.set r i
    have nd := c.nd
    refine ⟨C, ps', qs', c.sub (fun p hp => ?_) ?_, h1, g1⟩
    · rcases List.mem_append.mp hp with z | z
      · exact List.mem_append_left _ (List.mem_append_right _ z)
      · rcases g2 p z with z | z
        · exact List.mem_append_left _ (List.mem_append_left _ z)
        · exact List.mem_append_right _ z
    · rw [List.append_assoc] at nd
      have n1 := List.nodup_append.mp nd
      have n2 := List.nodup_append.mp n1.2.1
      refine List.nodup_append.mpr ⟨n2.1, g3 (List.nodup_append.mpr ⟨n1.1, n2.2.1, fun p hp q hq => n1.2.2 p hp q (List.mem_append_right _ hq)⟩), fun p hp q hq => ?_⟩
      rcases g2 q hq with z | z
      · exact fun e => n1.2.2 q z p (List.mem_append_left _ hp) e.symm
      · exact n2.2.2 p hp q z
  cases h1 with
  | no h1 => exact main (.no .nil) h1 rfl
  | dat q h1 => exact main (.dat q .nil) h1 rfl
  | own y q q2 h1 => exact main (.own y q q2 .nil) h1 rfl
theorem Hs.pop (h : Hs b (.dat d :: T) (some v :: τ) Γ σ H) : ∃ C, Dp b.K C v d ∧ HsC b C T τ Γ σ H := by
  obtain ⟨C, h⟩ := h
  exact ⟨C, h.pop⟩
theorem Hs.drop {x : Option V} (h : Hs b (s :: T) (x :: τ) Γ σ H) : Hs b T τ Γ σ H := by
  obtain ⟨C, h⟩ := h
  exact ⟨C, h.drop⟩
/-- a list of one's own becomes data -/
theorem Hs.freeze {z : Option Addr} (h : Hs b (.ownq z ds :: T) (some v :: τ) Γ σ H) : Hs b (.dat (.list ds) :: T) (some v :: τ) Γ σ H := by
  obtain ⟨C, ps, qs, c, h1, h2⟩ := h
  cases h1 with
  | own y e d h1 =>
    rename_i ps q vs
    obtain ⟨o1, o2⟩ := c.ow q (List.mem_append_left _ List.mem_cons_self)
    have hne : ∀ p ∈ ps ++ qs, p ≠ q := fun p hp z => by
      subst z
      exact (List.nodup_cons.mp c.nd).1 hp
    refine ⟨upd C q (.lst vs), ps, qs, ⟨c.bc.trans (Ex.new o1), fun a u h => ?_, c.h0, fun a z y => ?_, fun p hp => ?_, (List.nodup_cons.mp c.nd).2⟩, .dat (.lst (.inl (.inl upd_same)) (dpax (Ex.new o1) d)) (h1.mono (Ex.new o1) fun _ _ _ z => z), h2.mono (Ex.new o1) fun _ _ _ z => z⟩
    · by_cases z : a = q
      · subst z; rw [upd_same] at h; cases h; exact e
      · rw [upd_ne z] at h; exact c.ch a u h
    · rw [upd_ne (fun y => z (by rw [y]; exact o2))]; exact c.fr a z y
    · rw [upd_ne (hne p hp)]; exact c.ow p (List.mem_cons_of_mem _ hp)
/-- the end of a def: what its caller gets -/
theorem Hs.ret {τ' : L2.St} {x : V} (h : Hs b (s :: T) (some x :: τ') Γ σ H) : Ret b.K b.H0 b.B s x H := by
  obtain ⟨C, ps, qs, c, h1, h2⟩ := h
  have main : ∀ {rs ps' : List Addr}, Has b.K C H [s] [some x] rs → ps = rs ++ ps' → Ret b.K b.H0 b.B s x H := by
    rintro rs ps' r rfl
    exact ⟨C, rs, c.bc, c.ch, c.h0, c.fr, r, fun p hp => c.ow p (List.mem_append_left _ (List.mem_append_left _ hp))⟩
  cases h1 with
  | no h1 => exact main (.no .nil) rfl
  | dat q h1 => exact main (.dat q .nil) rfl
  | own y q q2 h1 => exact main (.own y q q2 .nil) rfl
/-! ### expressions -/
def EvS (b : Bs) (te : TE) (Γ Γ' : List Sl) (s : Sl) : Prop := ∀ T τ σ H, Hs b T τ Γ σ H → ∀ Q : VK, (∀ v H', Hs b (s :: T) (some v :: τ) Γ' σ H' → Q v H') → te σ H Q
def EvT (b : Bs) (tt : TT) (Γ Γ' : List Sl) (k : Bool) : Prop := ∀ T τ σ H, Hs b T τ Γ σ H → ∀ Q : Bool → Hp → Prop, (∀ H', Hs b T τ Γ' σ H' → Q k H') → tt σ H Q
def EvA (b : Bs) (ta : TA) (Γ Γ' : List Sl) (ds : List PyData) : Prop := ∀ T τ σ H, Hs b T τ Γ σ H → ∀ Q : List V → Hp → Prop, (∀ vs H' C, HsC b C T τ Γ' σ H' → DpAll b.K C vs ds → Q vs H') → ta σ H Q
def RD (K : PySem.W.Frag) (r : R2) (d e : PyData) (s : Sl) : Prop := ∀ C H x y, Ex C H → Dp K C x d → Dp K C y e → ∀ Q : VK, (∀ v H', Ret K H C s v H' → Q v H') → r x y H Q
def UD (K : PySem.W.Frag) (r : V → Hp → VK → Prop) (d : PyData) (s : Sl) : Prop := ∀ C H x, Ex C H → Dp K C x d → ∀ Q : VK, (∀ v H', Ret K H C s v H' → Q v H') → r x H Q
def CD (K : PySem.W.Frag) (r : List V → Hp → VK → Prop) (ds : List PyData) (s : Sl) : Prop := ∀ C H vs, Ex C H → DpAll K C vs ds → ∀ Q : VK, (∀ v H', Ret K H C s v H' → Q v H') → r vs H Q
theorem s_var {i : Nat} (h : Γ[i]? = some (.dat d)) : EvS b (tVar i) Γ Γ (.dat d) := fun T τ σ H hs Q q => by
  obtain ⟨C, ps, qs, c, h1, h2⟩ := hs
  obtain ⟨v, e, dv⟩ := h2.get_dat h
  exact ⟨v, e, q v H ⟨C, ps, qs, c, .dat dv h1, h2⟩⟩
theorem s_ret {v : V} {te : TE} (h : ∀ σ H Q, Q v H → te σ H Q) (hd : ∀ C, Dp b.K C v d) : EvS b te Γ Γ (.dat d) := fun T τ σ H hs Q q => by
  obtain ⟨C, hs⟩ := hs
  exact h σ H Q (q v H ⟨C, hs.push (hd C)⟩)
theorem s_int {i : Int} : EvS b (tC (.int i)) Γ Γ (.dat (.int i)) := s_ret (v := .int i) (fun _ _ _ q => q) fun _ => .int i
theorem s_bl {k : Bool} : EvS b (tC (.bl k)) Γ Γ (.dat (.bool k)) := s_ret (v := .bl k) (fun _ _ _ q => q) fun _ => .bl k
theorem s_str {x : Str} : EvS b (tC (.str x)) Γ Γ (.dat (.str x)) := s_ret (v := .str x) (fun _ _ _ q => q) fun _ => .str x
theorem s_non : EvS b (tC .non) Γ Γ (.dat .none) := s_ret (v := .non) (fun _ _ _ q => q) fun _ => .non
theorem s_op {ta tb : TE} {r : R2} (ha : EvS b ta Γ Γ1 (.dat d)) (hb : EvS b tb Γ1 Γ2 (.dat e)) (hr : RD b.K r d e s) : EvS b (tOp r ta tb) Γ Γ2 s := fun T τ σ H hs Q q =>
  ha T τ σ H hs _ fun x H1 h1 => hb _ _ σ H1 h1 _ fun y H2 h2 => by
    obtain ⟨C, dy, h3⟩ := h2.pop
    obtain ⟨dx, h4⟩ := h3.pop
    exact hr C H2 x y h4.ch dx dy Q fun v H3 rt => q v H3 (h4.step rt)
theorem s_un {ta : TE} {r : V → Hp → VK → Prop} (ha : EvS b ta Γ Γ1 (.dat d)) (hr : UD b.K r d s) : EvS b (tUn r ta) Γ Γ1 s := fun T τ σ H hs Q q =>
  ha T τ σ H hs _ fun x H1 h1 => by
    obtain ⟨C, dx, h4⟩ := h1.pop
    exact hr C H1 x h4.ch dx Q fun v H3 rt => q v H3 (h4.step rt)
theorem a_nil : EvA b tNil Γ Γ [] := fun T τ σ H hs Q q => by
  obtain ⟨C, hs⟩ := hs
  exact q [] H C hs .nil
theorem a_cons {ta : TE} {tr : TA} (ha : EvS b ta Γ Γ1 (.dat d)) (hr : EvA b tr Γ1 Γ2 ds) : EvA b (tCons ta tr) Γ Γ2 (d :: ds) := fun T τ σ H hs Q q =>
  ha T τ σ H hs _ fun x H1 h1 => hr _ _ σ H1 h1 _ fun xs H2 C h2 dxs => by
    obtain ⟨dx, h3⟩ := h2.pop
    exact q _ H2 C h3 (.cons dx dxs)
theorem s_cb {ta : TA} {r : List V → Hp → VK → Prop} (ha : EvA b ta Γ Γ1 ds) (hr : CD b.K r ds s) : EvS b (tCB r ta) Γ Γ1 s := fun T τ σ H hs Q q =>
  ha T τ σ H hs _ fun vs H1 C h1 dv => hr C H1 vs h1.ch dv Q fun v H2 rt => q v H2 (h1.step rt)
theorem s_tup {ta : TA} (ha : EvA b ta Γ Γ1 ds) (hl : ds.length ≤ 100000 := by decide) : EvS b (tTup ta) Γ Γ1 (.dat (.tuple ds)) := fun T τ σ H hs Q q =>
  ha T τ σ H hs _ fun vs H1 C h1 dv => ⟨by rw [dpa_len dv]; exact Nat.le_trans hl (by decide), fun p hp => q _ _ (h1.step (Ret.tup h1.ch dv hp))⟩
theorem s_lst {ta : TA} (ha : EvA b ta Γ Γ1 ds) (hl : ds.length ≤ 100000 := by decide) : EvS b (tLst ta) Γ Γ1 (.own ds) := fun T τ σ H hs Q q =>
  ha T τ σ H hs _ fun vs H1 C h1 dv => ⟨by rw [dpa_len dv]; exact Nat.le_trans hl (by decide), fun p hp => q _ _ (h1.step (Ret.lst h1.ch dv hp))⟩
theorem s_weak {te : TE} {z : Option Addr} (h : EvS b te Γ Γ1 (.ownq z ds)) : EvS b te Γ Γ1 (.dat (.list ds)) := fun T τ σ H hs Q q => h T τ σ H hs Q fun v H' h' => q v H' h'.freeze
theorem s_lstD {ta : TA} (ha : EvA b ta Γ Γ1 ds) (hl : ds.length ≤ 100000 := by decide) : EvS b (tLst ta) Γ Γ1 (.dat (.list ds)) := s_weak (s_lst ha hl)
theorem s_is {te : TE} (h : EvS b te Γ Γ1 s) (e : s = s') : EvS b te Γ Γ1 s' := e ▸ h
theorem s_dat {te : TE} {d d' : PyData} (h : EvS b te Γ Γ1 (.dat d)) (e : d = d') : EvS b te Γ Γ1 (.dat d') := e ▸ h
theorem t_is {tt : TT} {k k' : Bool} (h : EvT b tt Γ Γ1 k) (e : k = k') : EvT b tt Γ Γ1 k' := e ▸ h
/-! ### promises of pure defs -/
def spP (K : PySem.W.Frag) (f : List PyData → Sl → Prop) : Sp := fun vs H Q _ => ∃ C ds s, Ex C H ∧ DpAll K C vs ds ∧ f ds s ∧ ∀ v H', Ret K H C s v H' → Q v H'
theorem s_call {ta : TA} {f : List PyData → Sl → Prop} {E : XK} (ha : EvA b ta Γ Γ1 ds) (hf : f ds s) : EvS b (tCall (spP b.K f) [] E ta) Γ Γ1 s := fun T τ σ H hs Q q =>
  ha T τ σ H hs _ fun vs H1 C h1 dv => by
    rw [List.append_nil]
    exact ⟨C, ds, s, h1.ch, dv, hf, fun v H2 rt => q v H2 (h1.step rt)⟩
/-! ### tests -/
theorem t_test {te : TE} {k : Bool} (h : EvS b te Γ Γ1 (.dat (.bool k))) : EvT b (tTest te) Γ Γ1 k := fun T τ σ H hs Q q =>
  h T τ σ H hs _ fun v H' h' => by
    obtain ⟨C, dv, h2⟩ := h'.pop
    cases dv
    exact ⟨k, rfl, q H' ⟨C, h2⟩⟩
theorem t_B {te : TE} {k : Bool} (h : EvS b te Γ Γ1 (.dat (.bool k))) : EvT b (tB te) Γ Γ1 k := t_test h
theorem t_yes : EvT b tYes Γ Γ true := fun T τ σ H hs Q q => q H hs
theorem t_not {t : TT} {k : Bool} (h : EvT b t Γ Γ1 k) : EvT b (tNot t) Γ Γ1 (!k) := fun T τ σ H hs Q q => h T τ σ H hs _ fun H' h' => q H' h'
theorem t_and {t u : TT} {k l : Bool} (h : EvT b t Γ Γ k) (h2 : k = true → EvT b u Γ Γ l) : EvT b (tAnd t u) Γ Γ (k && l) := fun T τ σ H hs Q q => h T τ σ H hs _ fun H' h' => by
  cases k with
  | true => exact (iteT (h2 rfl T τ σ H' h' Q q))
  | false => exact (iteF (q H' h'))
theorem t_or {t u : TT} {k l : Bool} (h : EvT b t Γ Γ k) (h2 : k = false → EvT b u Γ Γ l) : EvT b (tOr t u) Γ Γ (k || l) := fun T τ σ H hs Q q => h T τ σ H hs _ fun H' h' => by
  cases k with
  | true => exact (iteT (q H' h'))
  | false => exact (iteF (h2 rfl T τ σ H' h' Q q))
theorem s_andV {ta tb : TE} {k l : Bool} (h : EvS b ta Γ Γ (.dat (.bool k))) (h2 : k = true → EvS b tb Γ Γ (.dat (.bool l))) : EvS b (tAndV ta tb) Γ Γ (.dat (.bool (k && l))) := fun T τ σ H hs Q q => h T τ σ H hs _ fun v H' h' => by
  obtain ⟨C, dv, h3⟩ := h'.pop
  cases dv
  refine ⟨k, rfl, ?_⟩
  cases k with
  | true => exact (iteT (h2 rfl T τ σ H' ⟨C, h3⟩ Q q))
  | false => exact (iteF (q _ H' h'))
theorem s_orV {ta tb : TE} {k l : Bool} (h : EvS b ta Γ Γ (.dat (.bool k))) (h2 : k = false → EvS b tb Γ Γ (.dat (.bool l))) : EvS b (tOrV ta tb) Γ Γ (.dat (.bool (k || l))) := fun T τ σ H hs Q q => h T τ σ H hs _ fun v H' h' => by
  obtain ⟨C, dv, h3⟩ := h'.pop
  cases dv
  refine ⟨k, rfl, ?_⟩
  cases k with
  | true => exact (iteT (q _ H' h'))
  | false => exact (iteF (h2 rfl T τ σ H' ⟨C, h3⟩ Q q))
theorem s_notV {ta : TE} {k : Bool} (h : EvS b ta Γ Γ1 (.dat (.bool k))) : EvS b (tNotV ta) Γ Γ1 (.dat (.bool (!k))) := fun T τ σ H hs Q q => h T τ σ H hs _ fun v H' h' => by
  obtain ⟨C, dv, h3⟩ := h'.pop
  cases dv
  exact ⟨k, rfl, q _ H' ⟨C, h3.push (.bl _)⟩⟩
theorem s_if {t : TT} {ta tb : TE} {k : Bool} (h : EvT b t Γ Γ1 k) (h1 : k = true → EvS b ta Γ1 Γ2 s) (h2 : k = false → EvS b tb Γ1 Γ2 s) : EvS b (tIf t ta tb) Γ Γ2 s := fun T τ σ H hs Q q => h T τ σ H hs _ fun H' h' => by
  cases k with
  | true => exact iteT (h1 rfl T τ σ H' h' Q q)
  | false => exact iteF (h2 rfl T τ σ H' h' Q q)
/-! ### statements: N is shown in every state that is so -/
def Nx (b : Bs) (N : L2.St → Hp → Prop) (T : List Sl) (τ : L2.St) (Γ : List Sl) : Prop := ∀ σ H, Hs b T τ Γ σ H → N σ H
variable {D : Ends} {t u : TS} {te : TE}
theorem n_seq (h : Nx b (t { D with nx := u D }) T τ Γ) : Nx b (tSeq t u D) T τ Γ := h
theorem n_set {i : Nat} (h : EvS b te Γ Γ1 s) (k : Nx b D.nx T τ (Γ1.set i s)) : Nx b (tAsg te (gName i) D) T τ Γ := fun σ H hs => h T τ σ H hs _ fun v H' h' => k _ _ (h'.store i)
theorem n_drop (h : EvS b te Γ Γ1 s) (k : Nx b D.nx T τ Γ1) : Nx b (tDrop te D) T τ Γ := fun σ H hs => h T τ σ H hs _ fun v H' h' => k _ _ h'.drop
theorem n_ret (h : EvS b te Γ Γ1 s) (k : ∀ v H', Ret b.K b.H0 b.B s v H' → D.rt v H') : Nx b (tRet te D) T τ Γ := fun σ H hs => h T τ σ H hs _ fun v H' h' => k v H' h'.ret
theorem n_if {tt : TT} {k : Bool} (h : EvT b tt Γ Γ1 k) (h1 : k = true → Nx b (t D) T τ Γ1) (h2 : k = false → Nx b (u D) T τ Γ1) : Nx b (tIfS tt t u D) T τ Γ := fun σ H hs => h T τ σ H hs _ fun H' h' => by
  cases k with
  | true => exact iteT (h1 rfl σ H' h')
  | false => exact iteF (h2 rfl σ H' h')
theorem n_next (k : Nx b D.nx T τ Γ) : Nx b (tNext D) T τ Γ := k
theorem n_hs : Nx b (fun σ H => Hs b T τ Γ σ H) T τ Γ := fun _ _ h => h
/-! ### what is walked -/
def ItOk (K : PySem.W.Frag) (J : It) (vs : List V) (ds its : List PyData) : Prop := ∀ C H, Ex C H → DpAll K C vs ds → J.stop its.length H ∧ ∀ i di, its[i]? = some di → J.go i H ∧ ∀ x H', J.yld i H x H' → Ret K H C (.dat di) x H'
def EvI (b : Bs) (wi : TI) (Γ Γ' : List Sl) (ds its : List PyData) : Prop := ∀ T τ σ H, Hs b T τ Γ σ H → ∀ R : It → Hp → Prop, (∀ J vs H' C, ItOk b.K J vs ds its → HsC b C T τ Γ' σ H' → DpAll b.K C vs ds → R J H') → wi σ H R
/-- what a target does -/
def EvG (b : Bs) (g : TG) (d : PyData) (Γ Γ' : List Sl) : Prop := ∀ T τ σ H x, Hs b (.dat d :: T) (some x :: τ) Γ σ H → ∀ Q : L2.St → Hp → Prop, (∀ σ', Hs b T τ Γ' σ' H → σ'.length = σ.length → Q σ' H) → g x σ H Q
theorem g_name {i : Nat} : EvG b (gName i) d Γ (Γ.set i (.dat d)) := fun T τ σ H x hs Q q => q _ (hs.store i) (by simp)
theorem g_tup2 {K : PySem.W.Frag} (hK : b.K = K) {i j : Nat} {d e : PyData} : EvG b (gTup K 2 (gCons (gName i) (gCons (gName j) gNil))) (.tuple [d, e]) Γ ((Γ.set i (.dat d)).set j (.dat e)) := fun T τ σ H x hs Q q => by
  obtain ⟨C, dx, h⟩ := hs.pop
  subst hK
  cases dx with
  | tup hq ha =>
    rename_i a xs
    cases ha with
    | cons r1 ha =>
      cases ha with
      | cons r2 ha =>
        cases ha
        rename_i v1 v2
        refine ⟨a, _, rfl, ex_t h.ch hq, rfl, v1, _, rfl, v2, _, rfl, rfl, ?_⟩
        have s1 : Hs b (.dat d :: .dat e :: T) (some v1 :: some v2 :: τ) Γ σ H := ⟨C, (h.push r2).push r1⟩
        exact q _ ((s1.store i).store j) (by simp)
theorem n_for {wi : TI} {g : TG} {tb : TS} {its : List PyData} (hI : EvI b wi Γ Γ1 ds its) (G G' : Nat → List Sl) (h0 : G 0 = Γ1)
    (hg : ∀ i di, its[i]? = some di → EvG b g di (G i) (G' i))
    (hb : ∀ i di (vs : List V), vs.length = ds.length → its[i]? = some di → Nx b (tb { D with nx := fun σ H => Hs b (ds.map Sl.dat ++ T) (vs.map some ++ τ) (G (i + 1)) σ H, ct := fun σ H => Hs b (ds.map Sl.dat ++ T) (vs.map some ++ τ) (G (i + 1)) σ H, bk := D.nx }) (ds.map Sl.dat ++ T) (vs.map some ++ τ) (G' i))
    (hd : Nx b D.nx T τ (G its.length)) : Nx b (tFor wi g tb D) T τ Γ := fun σ H hs => hI T τ σ H hs _ fun J vs H1 C ok h1 dv => by
  have hl := dpa_len dv
  refine ⟨fun i m σ' H' => i ≤ its.length ∧ m = its.length - i ∧ Hs b (ds.map Sl.dat ++ T) (vs.map some ++ τ) (G i) σ' H', ⟨_, Nat.zero_le _, rfl, h0 ▸ ⟨C, h1.pushAll dv⟩⟩, ?_⟩
  rintro i m σ' H' ⟨hi, rfl, C', h2⟩
  obtain ⟨dv', h3⟩ := HsC.popAll hl h2
  obtain ⟨st, go⟩ := ok C' H' h3.ch dv'
  by_cases hlt : i < its.length
  · obtain ⟨g1, g2⟩ := go i its[i] (by simp [hlt])
    refine .inr ⟨g1, _, fun σ2 H2 n => ⟨its.length - (i + 1), by omega, hlt, rfl, n⟩, fun x H2 y => ?_⟩
    exact hg i its[i] (by simp [hlt]) _ _ _ _ _ (h2.step (g2 x H2 y)) _ fun σ3 h5 _ => hb i its[i] vs hl (by simp [hlt]) σ3 H2 h5
  · have e : i = its.length := by omega
    subst e
    exact .inl ⟨st, hd σ' H' ⟨C', h3⟩⟩
/-- wiped slots -/
def wipeG : List Sl → List Nat → List Sl
  | Γ, [] => Γ
  | Γ, v :: vs => (wipeG Γ vs).set v .no
theorem hs_wipe (h : Hs b T τ Γ σ H) : ∀ vs : List Nat, Hs b T τ (wipeG Γ vs) (wipe σ vs) H
  | [] => h
  | v :: vs => by
    have h1 := hs_wipe h vs
    have h2 : Hs b (.no :: T) (none :: τ) (wipeG Γ vs) (wipe σ vs) H := by
      obtain ⟨C, ps, qs, c, g1, g2⟩ := h1
      exact ⟨C, ps, qs, c, .no g1, g2⟩
    exact h2.store v
end
end G
namespace G
open PySem PySem.Spec PyProof.Rows L2
open Evl (Ex ex_rd ex_l ex_t rMax2)
section
variable {K : PySem.W.Frag} {C H : Hp} {i j : Int} {d e : PyData} {ds es : List PyData} {s : Sl}
/-! ### operations on data -/
theorem rd_int {g : Int → Int → Int} : RD K (rI0 fun i j => V.int (g i j)) (.int i) (.int j) (.dat (.int (g i j))) := fun C H x y e dx dy Q q => by
  cases dx; cases dy
  exact ⟨i, j, rfl, rfl, q _ _ (.same e (.int _))⟩
theorem rd_bl {g : Int → Int → Bool} : RD K (rI0 fun i j => V.bl (g i j)) (.int i) (.int j) (.dat (.bool (g i j))) := fun C H x y e dx dy Q q => by
  cases dx; cases dy
  exact ⟨i, j, rfl, rfl, q _ _ (.same e (.bl _))⟩
theorem rd_intC {c : Int → Int → Prop} {g : Int → Int → Int} (hc : c i j) : RD K (rI c fun i j => V.int (g i j)) (.int i) (.int j) (.dat (.int (g i j))) := fun C H x y e dx dy Q q => by
  cases dx; cases dy
  exact ⟨i, j, rfl, rfl, hc, q _ _ (.same e (.int _))⟩
theorem rd_eqD (h1 : SeqAt.shaped d = true) (h2 : SeqAt.shaped e = true) : RD K (rEqD K) d e (.dat (.bool (PyData.eqv d e))) := fun C H x y ex dx dy Q q =>
  ⟨d, e, dpx ex dx, dpx ex dy, h1, h2, q _ _ (.same ex (.bl _))⟩
theorem rd_neD (h1 : SeqAt.shaped d = true) (h2 : SeqAt.shaped e = true) : RD K (rNeD K) d e (.dat (.bool (!PyData.eqv d e))) := fun C H x y ex dx dy Q q =>
  ⟨d, e, dpx ex dx, dpx ex dy, h1, h2, q _ _ (.same ex (.bl _))⟩
theorem atI_dpa {vs : List V} (h : DpAll K C vs ds) (a : atI ds i = some d) : ∃ v, atI vs i = some v ∧ Dp K C v d := by
  unfold atI at a ⊢
  rw [dpa_len h]
  cases hx : ixN ds.length i with
  | none => rw [hx] at a; cases a
  | some j =>
    rw [hx] at a
    exact dpa_get h a
theorem rd_ixL (a : atI ds i = some d) : RD K (rIx K) (.list ds) (.int i) (.dat d) := fun C H x y ex dx dy Q q => by
  cases dy
  cases dx with
  | lst hq ha =>
    obtain ⟨v, h1, h2⟩ := atI_dpa ha a
    exact .inl ⟨_, _, i, v, rfl, rfl, ex_l ex hq, h1, q _ _ (.same ex h2)⟩
theorem rd_ixT (a : atI ds i = some d) : RD K (rIx K) (.tuple ds) (.int i) (.dat d) := fun C H x y ex dx dy Q q => by
  cases dy
  cases dx with
  | tup hq ha =>
    obtain ⟨v, h1, h2⟩ := atI_dpa ha a
    exact .inr (.inl ⟨_, _, i, v, rfl, rfl, ex_t ex hq, h1, q _ _ (.same ex h2)⟩)
theorem ud_neg : UD K (rU fun i => V.int (-i)) (.int i) (.dat (.int (-i))) := fun C H x ex dx Q q => by
  cases dx
  exact ⟨i, rfl, q _ _ (.same ex (.int _))⟩
/-! ### built-in calls -/
def rLen (K : PySem.W.Frag) : List V → Hp → VK → Prop := fun xs H Q => ∃ p ys, xs = [.ref p] ∧ (SqL K H p ys ∨ SqT K H p ys) ∧ Q (.int ys.length) H
def rMin2 : List V → Hp → VK → Prop := fun xs H Q => ∃ i j, xs = [.int i, .int j] ∧ Q (.int (if j < i then j else i)) H
def rInt1 : List V → Hp → VK → Prop := fun xs H Q => (∃ i, xs = [.int i] ∧ Q (.int i) H) ∨ ∃ k, xs = [.bl k] ∧ Q (.int (if k then 1 else 0)) H
def rAbs : List V → Hp → VK → Prop := fun xs H Q => ∃ i, xs = [.int i] ∧ Q (.int (if i < 0 then -i else i)) H
def rTupOf (K : PySem.W.Frag) : List V → Hp → VK → Prop := fun xs H Q => ∃ p ys, xs = [.ref p] ∧ ((SqL K H p ys ∧ ∀ l, H l = none → Q (.ref l) (upd H l (.tup ys))) ∨ (SqT K H p ys ∧ Q (.ref p) H))
def rListOf (K : PySem.W.Frag) : List V → Hp → VK → Prop := fun xs H Q => ∃ p ys, xs = [.ref p] ∧ (SqL K H p ys ∨ SqT K H p ys) ∧ ∀ l, H l = none → Q (.ref l) (upd H l (.lst ys))
theorem cr_len {X : Cx} : CallR X (.builtin "len") (rLen X.K) := call_len_seq
theorem cr_max2 {X : Cx} (hc : X.calm = true) : CallR X (.builtin "max") rMax2 := call_max2 hc
theorem cr_min2 {X : Cx} (hc : X.calm = true) : CallR X (.builtin "min") rMin2 := call_min2 hc
theorem cr_int1 {X : Cx} : CallR X (.type "int") rInt1 := call_int1
theorem cr_abs {X : Cx} : CallR X (.builtin "abs") rAbs := call_abs
theorem cr_tup {X : Cx} : CallR X (.type "tuple") (rTupOf X.K) := call_tuple_of
theorem cr_list {X : Cx} : CallR X (.type "list") (rListOf X.K) := call_list_of
theorem cd_lenL : CD K (rLen K) [.list ds] (.dat (.int ds.length)) := fun C H vs ex dv Q q => by
  cases dv with | cons dx dv => cases dv; cases dx with
    | lst hq ha => exact ⟨_, _, rfl, .inl (ex_l ex hq), by rw [dpa_len ha]; exact q _ _ (.same ex (.int _))⟩
theorem cd_lenT : CD K (rLen K) [.tuple ds] (.dat (.int ds.length)) := fun C H vs ex dv Q q => by
  cases dv with | cons dx dv => cases dv; cases dx with
    | tup hq ha => exact ⟨_, _, rfl, .inr (ex_t ex hq), by rw [dpa_len ha]; exact q _ _ (.same ex (.int _))⟩
theorem cd_max2 : CD K rMax2 [.int i, .int j] (.dat (.int (max i j))) := fun C H vs ex dv Q q => by
  cases dv with | cons dx dv => cases dv with | cons dy dv => cases dv; cases dx; cases dy; exact ⟨i, j, rfl, by
    have e : (if j > i then j else i) = max i j := by by_cases h : j > i <;> simp [h] <;> omega
    rw [e]; exact q _ _ (.same ex (.int _))⟩
theorem cd_min2 : CD K rMin2 [.int i, .int j] (.dat (.int (min i j))) := fun C H vs ex dv Q q => by
  cases dv with | cons dx dv => cases dv with | cons dy dv => cases dv; cases dx; cases dy; exact ⟨i, j, rfl, by
    have e : (if j < i then j else i) = min i j := by by_cases h : j < i <;> simp [h] <;> omega
    rw [e]; exact q _ _ (.same ex (.int _))⟩
theorem cd_int : CD K rInt1 [.int i] (.dat (.int i)) := fun C H vs ex dv Q q => by
  cases dv with | cons dx dv => cases dv; cases dx; exact .inl ⟨i, rfl, q _ _ (.same ex (.int _))⟩
theorem cd_intB {k : Bool} : CD K rInt1 [.bool k] (.dat (.int (if k then 1 else 0))) := fun C H vs ex dv Q q => by
  cases dv with | cons dx dv => cases dv; cases dx; exact .inr ⟨k, rfl, q _ _ (.same ex (.int _))⟩
theorem cd_abs : CD K rAbs [.int i] (.dat (.int (i.natAbs : Int))) := fun C H vs ex dv Q q => by
  cases dv with | cons dx dv => cases dv; cases dx; exact ⟨i, rfl, by
    have e : (if i < 0 then -i else i) = (i.natAbs : Int) := by by_cases h : i < 0 <;> simp [h] <;> omega
    rw [e]; exact q _ _ (.same ex (.int _))⟩
theorem cd_tupL : CD K (rTupOf K) [.list ds] (.dat (.tuple ds)) := fun C H vs ex dv Q q => by
  cases dv with | cons dx dv => cases dv; cases dx with
    | lst hq ha => exact ⟨_, _, rfl, .inl ⟨ex_l ex hq, fun l hl => q _ _ (.tup ex ha hl)⟩⟩
theorem cd_tupT : CD K (rTupOf K) [.tuple ds] (.dat (.tuple ds)) := fun C H vs ex dv Q q => by
  cases dv with | cons dx dv => cases dv; cases dx with
    | tup hq ha => exact ⟨_, _, rfl, .inr ⟨ex_t ex hq, q _ _ (.same ex (.tup hq ha))⟩⟩
theorem cd_listL : CD K (rListOf K) [.list ds] (.own ds) := fun C H vs ex dv Q q => by
  cases dv with | cons dx dv => cases dv; cases dx with
    | lst hq ha => exact ⟨_, _, rfl, .inl (ex_l ex hq), fun l hl => q _ _ (.lst ex ha hl)⟩
theorem cd_listT : CD K (rListOf K) [.tuple ds] (.own ds) := fun C H vs ex dv Q q => by
  cases dv with | cons dx dv => cases dv; cases dx with
    | tup hq ha => exact ⟨_, _, rfl, .inr (ex_t ex hq), fun l hl => q _ _ (.lst ex ha hl)⟩
theorem dpa_bools : ∀ {bs : List Bool} {vs : List V}, DpAll K C vs (bs.map PyData.bool) → vs = bs.map V.bl
  | [], _, .nil => rfl
  | b :: bs, _, .cons r t => by
    cases r
    rw [dpa_bools t]; rfl
theorem cd_all {bs : List Bool} : CD K (rAll K) [.list (bs.map .bool)] (.dat (.bool (bs.all id))) := fun C H vs ex dv Q q => by
  cases dv with | cons dx dv => cases dv; cases dx with
    | lst hq ha => exact ⟨_, bs, rfl, by rw [← dpa_bools ha]; exact ex_l ex hq, q _ _ (.same ex (.bl _))⟩
theorem cd_any {bs : List Bool} : CD K (rAny K) [.list (bs.map .bool)] (.dat (.bool (bs.any id))) := fun C H vs ex dv Q q => by
  cases dv with | cons dx dv => cases dv; cases dx with
    | lst hq ha => exact ⟨_, bs, rfl, by rw [← dpa_bools ha]; exact ex_l ex hq, q _ _ (.same ex (.bl _))⟩
/-- the kind of data -/
def kindOf : PyData → String
  | .bool _ => "bool" | .int _ => "int" | .none => "NoneType"
  | .list _ => "list" | .tuple _ => "tuple"
  | .str _ => "str" | .dict _ => "dict"
theorem tyx (h : Dp K H x d) : TyX K H x (.type (kindOf d)) := by
  cases h with
  | non => exact .base .non
  | bl b => exact .base (.bl b)
  | int i => exact .base (.int i)
  | str z => exact .base (.str z)
  | lst hq ha =>
    rcases hq with (h | ⟨o, h⟩) | ⟨o, its, n, h, c, _⟩
    · exact .base (.lst h)
    · exact .base (.frz h)
    · exact .kList h c
  | tup hq ha =>
    rcases hq with (h | ⟨o, h⟩) | ⟨o, its, n, h, c, _⟩
    · exact .base (.tup h)
    · exact .fTuple h
    · exact .kTuple h c
/-- isinstance(x, T), T the name of a built-in type -/
def tIsi (K : PySem.W.Frag) (ta : TE) (T : String) : TE := tCB (rIsi K) (tCons ta (tCons (tC (.ty T)) tNil))
end
section
variable {b : Bs} {C : Hp} {T Γ Γ' Γ1 Γ2 : List Sl} {τ σ : L2.St} {H H' : Hp} {s s' : Sl} {v : V} {d e : PyData} {ds es : List PyData} {vs : List V}
theorem s_isi {ta : TE} {n : String} {k : Bool} (h : EvS b ta Γ Γ1 (.dat d)) (hk : kitB (kindOf d) n = some k) : EvS b (tIsi b.K ta n) Γ Γ1 (.dat (.bool k)) := fun T τ σ H hs Q q =>
  h T τ σ H hs _ fun v H1 h1 => by
    obtain ⟨C, dv, h2⟩ := h1.pop
    exact ⟨v, .ty n, _, .type n, k, rfl, .ty n, tyx (dpx h2.ch dv), kit_ty hk, q _ _ ⟨C, h2.push (.bl k)⟩⟩
/-! ### a list of one's own in a slot -/
theorem Has.own_at {K : PySem.W.Frag} {ps : List Addr} (h : Has K C H Γ σ ps) : ∀ {i : Nat} {z : Option Addr} {ds : List PyData}, Γ[i]? = some (.ownq z ds) → ps.Nodup →
    ∃ p vs, σ[i]? = some (some (.ref p)) ∧ p ∈ ps ∧ H p = some (.lst vs) ∧ DpAll K C vs ds ∧ ∀ vs' ds', DpAll K C vs' ds' → Has K C (upd H p (.lst vs')) (Γ.set i (.ownq z ds')) σ ps := by
  induction h with
  | nil => intro i z ds e; simp at e
  | no q ih =>
    intro i z ds e n
    cases i with
    | zero => simp at e
    | succ i =>
      obtain ⟨p, vs, h1, h2, h3, h4, h5⟩ := ih (by simpa using e) n
      exact ⟨p, vs, by simpa using h1, h2, h3, h4, fun vs' ds' q => .no (h5 vs' ds' q)⟩
  | dat dd q ih =>
    intro i z ds e n
    cases i with
    | zero => simp at e
    | succ i =>
      obtain ⟨p, vs, h1, h2, h3, h4, h5⟩ := ih (by simpa using e) n
      exact ⟨p, vs, by simpa using h1, h2, h3, h4, fun vs' ds' q => .dat dd (h5 vs' ds' q)⟩
  | own y0 e0 d0 q ih =>
    rename_i Γ σ ps p0 vs0 ds0 z0
    intro i z ds e n
    have n2 := List.nodup_cons.mp n
    cases i with
    | zero =>
      simp at e; obtain ⟨rfl, rfl⟩ := e
      refine ⟨p0, vs0, rfl, List.mem_cons_self, e0, d0, fun vs' ds' r => .own y0 upd_same r (q.mono (Ex.refl C) fun p hp o z => ?_)⟩
      rw [upd_ne (fun y => n2.1 (by rw [← y]; exact hp))]; exact z
    | succ i =>
      obtain ⟨p, vs, h1, h2, h3, h4, h5⟩ := ih (by simpa using e) n2.2
      refine ⟨p, vs, by simpa using h1, List.mem_cons_of_mem _ h2, h3, h4, fun vs' ds' r => .own y0 ?_ d0 (h5 vs' ds' r)⟩
      rw [upd_ne (fun y => n2.1 (by rw [y]; exact h2))]; exact e0
theorem Cfg.upd {ps : List Addr} {p : Addr} {o : HO} (c : Cfg b C H ps) (hp : p ∈ ps) : Cfg b C (upd H p o) ps :=
  ⟨c.bc, fun a u h => by rw [upd_ne (fun z => by rw [z, (c.ow p hp).1] at h; cases h)]; exact c.ch a u h,
   fun a u h => by rw [upd_ne (fun z => by rw [z, (c.ow p hp).2] at h; cases h)]; exact c.h0 a u h, c.fr, c.ow, c.nd⟩
theorem HsC.own_at {i : Nat} {z : Option Addr} (h : HsC b C T τ Γ σ H) (e : Γ[i]? = some (.ownq z ds)) : ∃ p vs, σ[i]? = some (some (.ref p)) ∧ H p = some (.lst vs) ∧ DpAll b.K C vs ds ∧
    ∀ vs' ds', DpAll b.K C vs' ds' → HsC b C T τ (Γ.set i (.ownq z ds')) σ (upd H p (.lst vs')) := by
  obtain ⟨ps, qs, c, h1, h2⟩ := h
  have nd := List.nodup_append.mp c.nd
  obtain ⟨p, vs, g1, g2, g3, g4, g5⟩ := h2.own_at e nd.2.1
  refine ⟨p, vs, g1, g3, g4, fun vs' ds' r => ⟨ps, qs, c.upd (List.mem_append_right _ g2), h1.mono (Ex.refl C) fun q hq o z => ?_, g5 vs' ds' r⟩⟩
  rw [upd_ne (nd.2.2 q hq p g2)]; exact z
/-- on top of the pile -/
theorem HsC.own_top {x : Option V} {z : Option Addr} (h : HsC b C (.ownq z ds :: T) (x :: τ) Γ σ H) : ∃ p vs, x = some (.ref p) ∧ H p = some (.lst vs) ∧ DpAll b.K C vs ds ∧
    ∀ vs' ds', DpAll b.K C vs' ds' → HsC b C (.ownq z ds' :: T) (x :: τ) Γ σ (upd H p (.lst vs')) := by
  obtain ⟨ps, qs, c, h1, h2⟩ := h
  cases h1 with
  | own y0 e0 d0 h1 =>
    rename_i ps p vs
    have n2 := List.nodup_cons.mp c.nd
    refine ⟨p, vs, rfl, e0, d0, fun vs' ds' r => ⟨p :: ps, qs, Cfg.upd c List.mem_cons_self, .own y0 upd_same r (h1.mono (Ex.refl C) fun q hq o z => ?_), h2.mono (Ex.refl C) fun q hq o z => ?_⟩⟩
    · rw [upd_ne (fun y => n2.1 (by rw [← y]; exact List.mem_append_left _ hq))]; exact z
    · rw [upd_ne (fun y => n2.1 (by rw [← y]; exact List.mem_append_right _ hq))]; exact z
theorem Has.take {K : PySem.W.Frag} {ps : List Addr} (h : Has K C H Γ σ ps) : ∀ {i : Nat} {z : Option Addr} {ds : List PyData}, Γ[i]? = some (.ownq z ds) →
    ∃ p qs vs, (∀ r, z = some r → r = p) ∧ σ[i]? = some (some (.ref p)) ∧ H p = some (.lst vs) ∧ DpAll K C vs ds ∧ Has K C H (Γ.set i .no) σ qs ∧ ps.Perm (p :: qs) := by
  induction h with
  | nil => intro i z ds e; simp at e
  | no q ih =>
    intro i z ds e
    cases i with
    | zero => simp at e
    | succ i =>
      obtain ⟨p, qs, vs, h0, h1, h2, h3, h4, h5⟩ := ih (by simpa using e)
      exact ⟨p, qs, vs, h0, by simpa using h1, h2, h3, .no h4, h5⟩
  | dat dd q ih =>
    intro i z ds e
    cases i with
    | zero => simp at e
    | succ i =>
      obtain ⟨p, qs, vs, h0, h1, h2, h3, h4, h5⟩ := ih (by simpa using e)
      exact ⟨p, qs, vs, h0, by simpa using h1, h2, h3, .dat dd h4, h5⟩
  | own y0 e0 d0 q ih =>
    intro i z ds e
    cases i with
    | zero => simp at e; obtain ⟨rfl, rfl⟩ := e; exact ⟨_, _, _, y0, rfl, e0, d0, .no q, List.Perm.refl _⟩
    | succ i =>
      obtain ⟨p, qs, vs, h0, h1, h2, h3, h4, h5⟩ := ih (by simpa using e)
      exact ⟨p, _, vs, h0, by simpa using h1, h2, h3, .own y0 e0 d0 h4, (h5.cons _).trans (List.Perm.swap _ _ _)⟩
/-- the slot gives its list away -/
theorem s_own {i : Nat} {z : Option Addr} (h : Γ[i]? = some (.ownq z ds)) : EvS b (tVar i) Γ (Γ.set i .no) (.ownq z ds) := fun T τ σ H hs Q q => by
  obtain ⟨C, ps, qs, c, h1, h2⟩ := hs
  obtain ⟨p, rs, vs, g0, g1, g2, g3, g4, g5⟩ := h2.take h
  refine ⟨.ref p, g1, q _ H ⟨C, p :: ps, rs, ?_, .own g0 g2 g3 h1, g4⟩⟩
  have pm : (ps ++ qs).Perm (p :: ps ++ rs) := (g5.append_left ps).trans List.perm_middle
  exact ⟨c.bc, c.ch, c.h0, c.fr, fun a ha => c.ow a (pm.mem_iff.mpr ha), (pm.nodup_iff).mp c.nd⟩
/-- the slot's list is read as data, for good -/
theorem s_frz {i : Nat} {z : Option Addr} (h : Γ[i]? = some (.ownq z ds)) : EvS b (tVar i) Γ (Γ.set i .no) (.dat (.list ds)) := s_weak (s_own h)
theorem s_ixO {i : Nat} {k : Int} {tb : TE} {z : Option Addr} (h : Γ[i]? = some (.ownq z ds)) (hb : EvS b tb Γ Γ (.dat (.int k))) (ha : atI ds k = some d) : EvS b (tOp (rIx b.K) (tVar i) tb) Γ Γ (.dat d) := fun T τ σ H hs Q q => by
  obtain ⟨C, hs⟩ := hs
  obtain ⟨p, vs, g1, g2, g3, _⟩ := hs.own_at h
  refine ⟨.ref p, g1, hb T τ σ H ⟨C, hs⟩ _ fun v H1 h1 => ?_⟩
  obtain ⟨C1, dv, h2⟩ := h1.pop
  cases dv
  obtain ⟨p', vs', f1, f2, f3, _⟩ := h2.own_at h
  rw [g1] at f1
  cases f1
  obtain ⟨y, y1, y2⟩ := atI_dpa f3 ha
  exact .inl ⟨p, vs', k, y, rfl, rfl, .inl (.inl f2), y1, q _ _ ⟨C1, h2.push y2⟩⟩
theorem s_lenO {i : Nat} {z : Option Addr} (h : Γ[i]? = some (.ownq z ds)) : EvS b (tCB (rLen b.K) (tCons (tVar i) tNil)) Γ Γ (.dat (.int ds.length)) := fun T τ σ H hs Q q => by
  obtain ⟨C, hs⟩ := hs
  obtain ⟨p, vs, g1, g2, g3, _⟩ := hs.own_at h
  exact ⟨.ref p, g1, p, vs, rfl, .inl (.inl (.inl g2)), by rw [dpa_len g3]; exact q _ _ ⟨C, hs.push (.int _)⟩⟩
variable {D : Ends} {t u : TS} {te : TE}
theorem n_append {i : Nat} {z : Option Addr} (h : Γ[i]? = some (.ownq z ds)) (he : EvS b te Γ Γ (.dat d)) (hz : ds.length < 100000) (k : Nx b D.nx T τ (Γ.set i (.ownq z (ds ++ [d])))) :
    Nx b (tDrop (tBM b.K "list" rAppend (tVar i) (tCons te tNil)) D) T τ Γ := fun σ H hs => by
  obtain ⟨C, hs⟩ := hs
  obtain ⟨p, vs, g1, g2, g3, _⟩ := hs.own_at h
  refine ⟨.ref p, g1, .inl ⟨rfl, vs, .inl (.inl g2)⟩, he T τ σ H ⟨C, hs⟩ _ fun v H1 h1 => ?_⟩
  obtain ⟨C1, dv, h2⟩ := h1.pop
  obtain ⟨p', vs', f1, f2, f3, f4⟩ := h2.own_at h
  rw [g1] at f1
  cases f1
  exact ⟨p, vs', v, rfl, rfl, f2, by rw [dpa_len f3]; exact Nat.lt_of_lt_of_le hz (by decide), k _ _ ⟨C1, f4 _ _ (dpa_app f3 (.cons dv .nil))⟩⟩
theorem ixN_ok {n : Nat} {i : Int} (h0 : 0 ≤ i) (h1 : i < n) : ixN n i = some i.toNat := by
  unfold ixN
  rw [if_pos h0, if_pos h1]
theorem atI_ok {α : Type} {xs : List α} {i : Int} {x : α} (h0 : 0 ≤ i) (h : xs[i.toNat]? = some x) : atI xs i = some x := by
  have := atI_nat (xs := xs) (j := i.toNat) h
  rwa [Int.toNat_of_nonneg h0] at this
theorem n_setL {i j : Nat} {k : Int} {tb : TE} {z : Option Addr} (h : Γ[i]? = some (.ownq z ds)) (he : EvS b te Γ Γ (.dat d)) (hb : EvS b tb Γ Γ (.dat (.int k))) (hj : ixN ds.length k = some j) (kk : Nx b D.nx T τ (Γ.set i (.ownq z (ds.set j d)))) :
    Nx b (tAsg te (gSub (tVar i) tb rSetL) D) T τ Γ := fun σ H hs => by
  refine he T τ σ H hs _ fun v H1 h1 => ?_
  have hs1 := h1
  obtain ⟨C, hs1⟩ := hs1
  obtain ⟨p, vs, g1, g2, g3, _⟩ := hs1.own_at h
  refine ⟨.ref p, g1, hb _ _ σ H1 h1 _ fun y H2 h2 => ?_⟩
  obtain ⟨C2, dy, h3⟩ := h2.pop
  cases dy
  obtain ⟨dv, h4⟩ := h3.pop
  obtain ⟨p', vs', f1, f2, f3, f4⟩ := h4.own_at h
  rw [g1] at f1
  cases f1
  exact ⟨p, vs', k, j, rfl, rfl, f2, by rw [dpa_len f3]; exact hj, kk _ _ ⟨C2, f4 _ _ (dpa_set dv j f3)⟩⟩
/-! ### iterators -/
theorem dpa1 {K : PySem.W.Frag} {d : PyData} (h : DpAll K C vs [d]) : ∃ v, vs = [v] ∧ Dp K C v d := by
  cases h with | cons r t => cases t; exact ⟨_, rfl, r⟩
theorem dpa2 {K : PySem.W.Frag} {d e : PyData} (h : DpAll K C vs [d, e]) : ∃ v v', vs = [v, v'] ∧ Dp K C v d ∧ Dp K C v' e := by
  cases h with | cons r t => cases t with | cons r2 t => cases t; exact ⟨_, _, rfl, r, r2⟩
theorem i_range1 {ta : TA} {n : Int} (h : EvA b ta Γ Γ1 [.int n]) (hn : n ≤ 100000000) (h0 : -100000000 ≤ n) : EvI b (iRng1 ta) Γ Γ1 [] ((List.range n.toNat).map fun (k : Nat) => .int (k : Int)) := fun T τ σ H hs R r =>
  h T τ σ H hs _ fun vs H1 C h1 dv => by
    obtain ⟨v, rfl, dx⟩ := dpa1 dv
    cases dx
    refine ⟨n, rfl, by omega, by omega, r _ [] H1 C (fun C' H' ex _ => ?_) h1 .nil⟩
    refine ⟨(by show _ ≤ _; simp only [List.length_map, List.length_range]; exact Nat.le_refl _), fun i di e => ?_⟩
    rw [List.getElem?_map] at e
    obtain ⟨k, hk, rfl⟩ := Option.map_eq_some_iff.mp e
    obtain ⟨hlt, rfl⟩ := List.getElem?_eq_some_iff.mp hk
    refine ⟨(by show i < _; simpa only [List.length_range] using hlt), fun x H' y => ?_⟩
    obtain ⟨rfl, rfl⟩ := y
    have : (0 : Int) + (i : Int) = (i : Int) := Int.zero_add _
    rw [this, List.getElem_range]
    exact .same ex (.int _)
theorem i_range2 {ta : TA} {m n : Int} (h : EvA b ta Γ Γ1 [.int m, .int n]) (hn : -100000000 ≤ m ∧ m ≤ 100000000 ∧ -100000000 ≤ n ∧ n ≤ 100000000) : EvI b (iRng2 ta) Γ Γ1 [] ((List.range (n - m).toNat).map fun (k : Nat) => .int (m + (k : Int))) := fun T τ σ H hs R r =>
  h T τ σ H hs _ fun vs H1 C h1 dv => by
    obtain ⟨v, v', rfl, dx, dy⟩ := dpa2 dv
    cases dx
    cases dy
    refine ⟨m, n, rfl, by omega, r _ [] H1 C (fun C' H' ex _ => ?_) h1 .nil⟩
    refine ⟨(by show _ ≤ _; simp only [List.length_map, List.length_range]; exact Nat.le_refl _), fun i di e => ?_⟩
    rw [List.getElem?_map] at e
    obtain ⟨k, hk, rfl⟩ := Option.map_eq_some_iff.mp e
    obtain ⟨hlt, rfl⟩ := List.getElem?_eq_some_iff.mp hk
    refine ⟨(by show i < _; simpa only [List.length_range] using hlt), fun x H' y => ?_⟩
    obtain ⟨rfl, rfl⟩ := y
    rw [List.getElem_range]
    exact .same ex (.int _)
theorem i_list {tl : TE} (h : EvS b tl Γ Γ1 (.dat (.list ds))) : EvI b (iList b.K tl) Γ Γ1 [.list ds] ds := fun T τ σ H hs R r =>
  h T τ σ H hs _ fun v H1 h1 => by
    obtain ⟨C, dv, h2⟩ := h1.pop
    have dv2 := dv
    cases dv with
    | lst hq ha =>
      rename_i a xs
      refine ⟨a, rfl, ⟨xs, ex_l h2.ch hq⟩, r _ [.ref a] H1 C (fun C' H' ex dw => ?_) h2 (.cons dv2 .nil)⟩
      cases dw with | cons dz _ => cases dz with
        | lst hq' ha' =>
          have hl := dpa_len ha'
          refine ⟨⟨_, ex_l ex hq', by rw [hl]; exact Nat.le_refl _⟩, fun i di e => ?_⟩
          obtain ⟨y, y1, y2⟩ := dpa_get ha' e
          refine ⟨⟨_, y, ex_l ex hq', y1⟩, fun x H2 z => ?_⟩
          obtain ⟨rfl, z⟩ := z
          have := (z _ (ex_l ex hq')).symm.trans y1
          cases this
          exact .same ex y2
theorem i_tup {tl : TE} (h : EvS b tl Γ Γ1 (.dat (.tuple ds))) : EvI b (iTup b.K tl) Γ Γ1 [.tuple ds] ds := fun T τ σ H hs R r =>
  h T τ σ H hs _ fun v H1 h1 => by
    obtain ⟨C, dv, h2⟩ := h1.pop
    have dv2 := dv
    cases dv with
    | tup hq ha =>
      rename_i a xs
      refine ⟨a, rfl, ⟨xs, ex_t h2.ch hq⟩, r _ [.ref a] H1 C (fun C' H' ex dw => ?_) h2 (.cons dv2 .nil)⟩
      cases dw with | cons dz _ => cases dz with
        | tup hq' ha' =>
          have hl := dpa_len ha'
          refine ⟨⟨_, ex_t ex hq', by rw [hl]; exact Nat.le_refl _⟩, fun i di e => ?_⟩
          obtain ⟨y, y1, y2⟩ := dpa_get ha' e
          refine ⟨⟨_, y, ex_t ex hq', y1⟩, fun x H2 z => ?_⟩
          obtain ⟨rfl, z⟩ := z
          have := (z _ (ex_t ex hq')).symm.trans y1
          cases this
          exact .same ex y2
def pairT (p : PyData × PyData) : PyData := .tuple [p.1, p.2]
theorem i_zipT {ta : TA} (h : EvA b ta Γ Γ1 [.tuple ds, .tuple es]) : EvI b (RZ.iZipA b.K ta) Γ Γ1 [.tuple ds, .tuple es] ((ds.zip es).map pairT) := fun T τ σ H hs R r =>
  h T τ σ H hs _ fun vs H1 C h1 dv => by
    have dv2 := dv
    cases dv with | cons dx dv => cases dv with | cons dy dv => cases dv; cases dx with
      | tup hq ha => cases dy with
        | tup hq2 ha2 =>
          rename_i a xs a2 xs2
          refine ⟨a, a2, xs, xs2, rfl, .inr ⟨ex_t h1.ch hq, ex_t h1.ch hq2, r _ [.ref a, .ref a2] H1 C (fun C' H' ex dw => ?_) h1 dv2⟩⟩
          cases dw with | cons dz dw => cases dw with | cons dz2 _ => cases dz with
            | tup hq' ha' => cases dz2 with
              | tup hq2' ha2' =>
                have hl := dpa_len ha'
                have hl2 := dpa_len ha2'
                refine ⟨⟨_, _, ex_t ex hq', ex_t ex hq2', by simp; omega⟩, fun i di e => ?_⟩
                rw [List.getElem?_map] at e
                obtain ⟨⟨u1, u2⟩, e1, rfl⟩ := Option.map_eq_some_iff.mp e
                obtain ⟨e2, e3⟩ := List.getElem?_zip_eq_some.mp e1
                obtain ⟨y, y1, y2⟩ := dpa_get ha' e2
                obtain ⟨y', y1', y2'⟩ := dpa_get ha2' e3
                refine ⟨⟨_, _, y, y', ex_t ex hq', ex_t ex hq2', y1, y1'⟩, fun x H2 z => ?_⟩
                obtain ⟨P, z1, z2, rfl, nP, rfl, f1, f2⟩ := z
                have w1 := (f1 _ (ex_t ex hq')).symm.trans y1
                have w2 := (f2 _ (ex_t ex hq2')).symm.trans y1'
                cases w1; cases w2
                exact .tup ex (.cons y2 (.cons y2' .nil)) nP
end
end G
namespace G
open PySem PySem.Spec PyProof.Rows L2
open Evl (Ex ex_rd ex_l ex_t rMax2)
section
variable {b : Bs} {C : Hp} {T Γ Γ' Γ1 Γ2 : List Sl} {τ σ : L2.St} {H H' : Hp} {s s' : Sl} {v : V} {d e : PyData} {ds es : List PyData} {vs : List V}
/-! ### comprehensions -/
theorem wipe_get (σ : L2.St) : ∀ (vs : List Nat) (k : Nat), (wipe σ vs)[k]? = if k ∈ vs then (if k < σ.length then some none else none) else σ[k]?
  | [], k => by simp [wipe]
  | v :: vs, k => by
    unfold wipe
    rw [List.getElem?_set, wipe_get σ vs k, wipe_length]
    by_cases h : v = k
    · subst h; simp
    · rw [if_neg h]
      have : (k ∈ v :: vs) ↔ k ∈ vs := by simp [Ne.symm h]
      simp only [this]
theorem wipe_eq {σ σ' : L2.St} {vs : List Nat} (hl : σ'.length = σ.length) (h : ∀ k, k ∉ vs → σ'[k]? = σ[k]?) : wipe σ' vs = wipe σ vs := by
  refine List.ext_getElem? fun k => ?_
  rw [wipe_get, wipe_get, hl]
  by_cases hk : k ∈ vs
  · rw [if_pos hk, if_pos hk]
  · rw [if_neg hk, if_neg hk, h k hk]
theorem wipe_wipe (σ : L2.St) (vs : List Nat) : wipe (wipe σ vs) vs = wipe σ vs := wipe_eq (wipe_length _ _) fun k hk => by rw [wipe_get, if_neg hk]
/-- a target with the slots that it stores -/
def EvGv (b : Bs) (g : TG) (d : PyData) (js : List Nat) (Γ Γ' : List Sl) : Prop := ∀ T τ σ H x, Hs b (.dat d :: T) (some x :: τ) Γ σ H → ∀ Q : L2.St → Hp → Prop, (∀ σ', Hs b T τ Γ' σ' H → wipe σ' js = wipe σ js → Q σ' H) → g x σ H Q
theorem gv_name {i : Nat} : EvGv b (gName i) d [i] Γ (Γ.set i (.dat d)) := fun T τ σ H x hs Q q => q _ (hs.store i) (wipe_eq (by simp) fun k hk => by
  rw [List.getElem?_set_ne]
  simpa [eq_comm] using hk)
theorem gv_tup2 {K : PySem.W.Frag} (hK : b.K = K) {i j : Nat} {d e : PyData} : EvGv b (gTup K 2 (gCons (gName i) (gCons (gName j) gNil))) (.tuple [d, e]) [i, j] Γ ((Γ.set i (.dat d)).set j (.dat e)) := fun T τ σ H x hs Q q => by
  obtain ⟨C, dx, h⟩ := hs.pop
  subst hK
  cases dx with
  | tup hq ha =>
    rename_i a xs
    cases ha with
    | cons r1 ha =>
      cases ha with
      | cons r2 ha =>
        cases ha
        rename_i v1 v2
        refine ⟨a, _, rfl, ex_t h.ch hq, rfl, v1, _, rfl, v2, _, rfl, rfl, ?_⟩
        have s1 : Hs b (.dat d :: .dat e :: T) (some v1 :: some v2 :: τ) Γ σ H := ⟨C, (h.push r2).push r1⟩
        refine q _ ((s1.store i).store j) (wipe_eq (by simp) fun k hk => ?_)
        simp at hk
        rw [List.getElem?_set_ne (by omega), List.getElem?_set_ne (by omega)]
/-- slots of which nothing is said may hold anything -/
theorem has_unwipe {K : PySem.W.Frag} : ∀ {Γ : List Sl} {σ : L2.St} {ps : List Addr} {σ' : L2.St}, Has K C H Γ σ ps → σ'.length = σ.length → (∀ k : Nat, Γ[k]? ≠ some Sl.no → σ'[k]? = σ[k]?) → Has K C H Γ σ' ps
  | _, _, _, [], .nil, _, _ => .nil
  | _, _, _, y :: σ', .no h, l, f => .no (has_unwipe h (by simpa using l) fun k z => by simpa using f (k + 1) (by simpa using z))
  | _, _, _, y :: σ', .dat d h, l, f => by
    have e := f 0 (by simp)
    simp at e
    subst e
    exact .dat d (has_unwipe h (by simpa using l) fun k z => by simpa using f (k + 1) (by simpa using z))
  | _, _, _, y :: σ', .own y0 q d h, l, f => by
    have e := f 0 (by simp)
    simp at e
    subst e
    exact .own y0 q d (has_unwipe h (by simpa using l) fun k z => by simpa using f (k + 1) (by simpa using z))
theorem wipeG_get (Γ : List Sl) : ∀ (vs : List Nat) (k : Nat), k ∈ vs → (wipeG Γ vs)[k]? = some .no ∨ (wipeG Γ vs)[k]? = none
  | [], k, h => by cases h
  | v :: vs, k, h => by
    unfold wipeG
    rw [List.getElem?_set]
    by_cases e : v = k
    · subst e
      simp only [if_true]
      by_cases hl : v < (wipeG Γ vs).length
      · rw [if_pos hl]; exact .inl rfl
      · rw [if_neg hl]; exact .inr rfl
    · rw [if_neg e]
      rcases List.mem_cons.mp h with z | z
      · exact absurd z.symm e
      · exact wipeG_get Γ vs k z
theorem hs_unwipe {vs : List Nat} (h : Hs b T τ (wipeG Γ vs) (wipe σ vs) H) : Hs b T τ (wipeG Γ vs) σ H := by
  obtain ⟨C, ps, qs, c, h1, h2⟩ := h
  have hl := h2.len
  refine ⟨C, ps, qs, c, h1, has_unwipe h2 (wipe_length σ vs).symm fun k z => ?_⟩
  rw [wipe_get]
  by_cases hk : k ∈ vs
  · rcases wipeG_get Γ vs k hk with q | q
    · exact absurd q z
    · rw [List.getElem?_eq_none_iff, hl, wipe_length] at q
      rw [if_pos hk, if_neg (by omega), List.getElem?_eq_none_iff]; exact q
  · rw [if_neg hk]
theorem s_lc {wi : TI} {g : TG} {tt : TT} {te : TE} {vs : List Nat} {its : List PyData} (hI : EvI b wi Γ Γ1 ds its) (G G' G'' : Nat → List Sl) (c : Nat → Bool) (e : Nat → PyData) (h0 : G 0 = wipeG Γ1 vs)
    (hg : ∀ i di, its[i]? = some di → EvGv b g di vs (G i) (G' i)) (ht : ∀ i di, its[i]? = some di → EvT b tt (G' i) (G' i) (c i)) (he : ∀ i di, its[i]? = some di → c i = true → EvS b te (G' i) (G'' i) (.dat (e i)))
    (hs : ∀ i, i < its.length → wipeG (if c i then G'' i else G' i) vs = wipeG (G (i + 1)) vs ∧ wipeG (G (i + 1)) vs = G (i + 1)) (hz : its.length ≤ 100000) :
    EvS b (tLc wi g tt te vs) Γ (G its.length) (.own (((List.range its.length).filter c).map e)) := fun T τ σ H hs0 Q q => hI T τ σ H hs0 _ fun J ws H1 C ok h1 dv D hD => by
  have hl := dpa_len dv
  let acc : Nat → List PyData := fun i => ((List.range i).filter c).map e
  have hw : wipeG (G 0) vs = G 0 := by
    rw [h0]
    have aux : ∀ (Γ : List Sl) (us : List Nat) (k : Nat), k ∈ us → (wipeG Γ us).set k .no = wipeG Γ us := fun Γ us k hk => by
      refine List.ext_getElem? fun j => ?_
      rw [List.getElem?_set]
      by_cases ej : k = j
      · subst ej
        rw [if_pos rfl]
        rcases wipeG_get Γ us k hk with z | z
        · have := (List.getElem?_eq_some_iff.mp z).1
          rw [if_pos this, z]
        · have := List.getElem?_eq_none_iff.mp z
          rw [if_neg (by omega), z]
      · rw [if_neg ej]
    have aux2 : ∀ (ws us : List Nat) (Γ : List Sl), (∀ k ∈ ws, k ∈ us) → wipeG (wipeG Γ us) ws = wipeG Γ us := by
      intro ws
      induction ws with
      | nil => intro us Γ _; rfl
      | cons w ws ih =>
        intro us Γ hk
        show (wipeG (wipeG Γ us) ws).set w .no = _
        rw [ih us Γ fun k z => hk k (List.mem_cons_of_mem _ z)]
        exact aux Γ us w (hk w List.mem_cons_self)
    exact aux2 vs vs Γ1 fun _ z => z
  have hwi : ∀ i, i ≤ its.length → wipeG (G i) vs = G i := fun i hi => by
    cases i with
    | zero => exact hw
    | succ i => exact (hs i (by omega)).2
  have start : Hs b (ds.map Sl.dat ++ (.own [] :: T)) (ws.map some ++ (some (.ref D) :: τ)) (G 0) (wipe σ vs) (upd H1 D (.lst [])) := by
    rw [h0]
    have a1 : Hs b (.own [] :: T) (some (.ref D) :: τ) Γ1 σ (upd H1 D (.lst [])) := h1.step (Ret.lst h1.ch .nil hD)
    obtain ⟨C1, ps, qs, c1, g1, g2⟩ := hs_wipe a1 vs
    -- the walked data, still known
    have : ∃ C2, HsC b C2 (.own [] :: T) (some (.ref D) :: τ) (wipeG Γ1 vs) (wipe σ vs) (upd H1 D (.lst [])) ∧ DpAll b.K C2 ws ds := by
      have a2 : Hs b (.own [] :: (ds.map Sl.dat ++ T)) (some (.ref D) :: (ws.map some ++ τ)) Γ1 σ (upd H1 D (.lst [])) := (h1.pushAll dv).step (Ret.lst h1.ch .nil hD)
      obtain ⟨C2, ps2, qs2, c2, k1, k2⟩ := hs_wipe a2 vs
      cases k1 with
      | own y0 e0 d0 k1 =>
        have hh : HsC b C2 (ds.map Sl.dat ++ T) (ws.map some ++ τ) (wipeG Γ1 vs) (wipe σ vs) (upd H1 D (.lst [])) := ⟨_, qs2, c2.sub (fun p hp => List.mem_cons_of_mem _ hp) (List.nodup_cons.mp c2.nd).2, k1, k2⟩
        obtain ⟨dw, ps3, qs3, c3, m1, m2⟩ := HsC.popAll hl hh
        have popHas : ∀ {ws : List V} {ds : List PyData} {ps : List Addr}, ws.length = ds.length → Has b.K C2 (upd H1 D (.lst [])) (ds.map Sl.dat ++ T) (ws.map some ++ τ) ps → Has b.K C2 (upd H1 D (.lst [])) T τ ps := by
          intro ws
          induction ws with
          | nil => intro ds ps l h; cases ds with
            | nil => exact h
            | cons _ _ => cases l
          | cons w ws ih => intro ds ps l h; cases ds with
            | nil => cases l
            | cons d ds => cases h with
              | dat _ h => exact ih (by simpa using l) h
        exact ⟨C2, ⟨_, qs2, c2, .own y0 e0 d0 (popHas hl k1), k2⟩, dw⟩
    obtain ⟨C2, a3, dw⟩ := this
    exact ⟨C2, a3.pushAll dw⟩
  refine ⟨fun i m H' => i ≤ its.length ∧ m = its.length - i ∧ Hs b (ds.map Sl.dat ++ (.own (acc i) :: T)) (ws.map some ++ (some (.ref D) :: τ)) (G i) (wipe σ vs) H', ⟨_, Nat.zero_le _, rfl, start⟩, ?_⟩
  rintro i m H' ⟨hi, rfl, C', h2⟩
  obtain ⟨dv', h3⟩ := HsC.popAll hl h2
  obtain ⟨st, go⟩ := ok C' H' h3.ch dv'
  by_cases hlt : i < its.length
  · have hdi : its[i]? = some its[i] := by simp [hlt]
    obtain ⟨g1, g2⟩ := go i its[i] hdi
    refine .inr ⟨g1, fun H2 => Hs b (ds.map Sl.dat ++ (.own (acc (i + 1)) :: T)) (ws.map some ++ (some (.ref D) :: τ)) (G (i + 1)) (wipe σ vs) H2, fun H2 n => ⟨its.length - (i + 1), by omega, hlt, rfl, n⟩, fun x H2 y => ?_⟩
    refine hg i its[i] hdi _ _ _ _ _ (h2.step (g2 x H2 y)) _ fun σ2 h5 hw2 => ⟨by rw [hw2, wipe_wipe], ?_⟩
    refine ht i its[i] hdi _ _ σ2 H2 h5 _ fun H3 h6 => ?_
    have hsi := hs i hlt
    cases hc : c i with
    | true =>
      rw [hc] at hsi
      refine iteT (he i its[i] hdi hc _ _ σ2 H3 h6 _ fun y H4 h7 => ?_)
      obtain ⟨C4, dy, h8⟩ := h7.pop
      obtain ⟨dv4, h9⟩ := HsC.popAll hl h8
      obtain ⟨p, us, f1, f2, f3, f4⟩ := h9.own_top
      cases f1
      refine ⟨us, f2, ?_, ?_⟩
      · rw [dpa_len f3]
        refine Nat.lt_of_le_of_lt (?_ : _ ≤ 100000) (by decide)
        show (((List.range i).filter c).map e).length ≤ 100000
        rw [List.length_map]
        have := List.length_filter_le c (List.range i)
        rw [List.length_range] at this
        omega
      · have ea : acc (i + 1) = acc i ++ [e i] := by
          show ((List.range (i + 1)).filter c).map e = ((List.range i).filter c).map e ++ [e i]
          rw [List.range_succ, List.filter_append, List.map_append, List.filter_cons, if_pos hc]; rfl
        rw [ea]
        have h10 := hs_wipe ⟨C4, (f4 _ _ (dpa_app f3 (.cons dy .nil))).pushAll dv4⟩ vs
        rw [hw2, wipe_wipe] at h10
        have e2 : wipeG (G'' i) vs = G (i + 1) := by simpa using hsi.1.trans hsi.2
        rw [e2] at h10
        exact h10
    | false =>
      rw [hc] at hsi
      refine iteF ?_
      have ea : acc (i + 1) = acc i := by
        show ((List.range (i + 1)).filter c).map e = ((List.range i).filter c).map e
        rw [List.range_succ, List.filter_append, List.map_append, List.filter_cons, if_neg (by rw [hc]; decide)]; simp
      have h10 := hs_wipe h6 vs
      rw [hw2, wipe_wipe] at h10
      have e2 : wipeG (G' i) vs = G (i + 1) := by simpa using hsi.1.trans hsi.2
      rw [e2] at h10
      show Hs b (ds.map Sl.dat ++ (.own (acc (i + 1)) :: T)) _ (G (i + 1)) (wipe σ vs) H3
      rw [ea]
      exact h10
  · have e1 : i = its.length := by omega
    subst e1
    refine .inl ⟨st, q _ _ ?_⟩
    have := hs_unwipe (Γ := G its.length) (σ := σ) (vs := vs) (T := .own (acc its.length) :: T) (τ := some (.ref D) :: τ) (b := b) (H := H') ⟨C', by rw [hwi _ (Nat.le_refl _)]; exact h3⟩
    rw [hwi _ (Nat.le_refl _)] at this
    exact this
/-- no test, nothing changes: one item a turn -/
theorem s_map {α : Type} {wi : TI} {g : TG} {te : TE} {vs : List Nat} {ks : List α} {φ : α → PyData} (hI : EvI b wi Γ Γ1 ds (ks.map φ)) (G' : α → List Sl) (f : α → PyData)
    (hg : ∀ k ∈ ks, EvGv b g (φ k) vs (wipeG Γ1 vs) (G' k)) (he : ∀ k ∈ ks, EvS b te (G' k) (G' k) (.dat (f k))) (hs : ∀ k ∈ ks, wipeG (G' k) vs = wipeG (wipeG Γ1 vs) vs) (hw : wipeG (wipeG Γ1 vs) vs = wipeG Γ1 vs) (hz : ks.length ≤ 100000) :
    EvS b (tLc wi g tYes te vs) Γ (wipeG Γ1 vs) (.own (ks.map f)) := by
  cases ks with
  | nil =>
    have := s_lc (b := b) (tt := tYes) (te := te) (g := g) (vs := vs) hI (fun _ => wipeG Γ1 vs) (fun _ => []) (fun _ => []) (fun _ => true) (fun _ => .none) rfl (fun i di e => by simp at e) (fun i di e => by simp at e) (fun i di e => by simp at e) (fun i hi => by simp at hi) (by simp)
    simpa using this
  | cons k0 kr =>
    have hget : ∀ i di, ((k0 :: kr).map φ)[i]? = some di → ∃ k, (k0 :: kr)[i]? = some k ∧ φ k = di := fun i di e => by
      rw [List.getElem?_map] at e
      obtain ⟨k, hk, r⟩ := Option.map_eq_some_iff.mp e
      exact ⟨k, hk, r⟩
    have hD : ∀ i k, (k0 :: kr)[i]? = some k → (k0 :: kr).getD i k0 = k := fun i k e => by rw [List.getD_eq_getElem?_getD, e]; rfl
    have := s_lc (b := b) (tt := tYes) (te := te) (g := g) (vs := vs) hI (fun _ => wipeG Γ1 vs) (fun i => G' ((k0 :: kr).getD i k0)) (fun i => G' ((k0 :: kr).getD i k0)) (fun _ => true) (fun i => f ((k0 :: kr).getD i k0)) rfl
      (fun i di e => by obtain ⟨k, hk, rfl⟩ := hget i di e; rw [hD i k hk]; exact hg k (List.mem_of_getElem? hk)) (fun i di e => t_yes)
      (fun i di e _ => by obtain ⟨k, hk, rfl⟩ := hget i di e; rw [hD i k hk]; exact he k (List.mem_of_getElem? hk))
      (fun i hi => by
        have hi' : i < (k0 :: kr).length := by simpa using hi
        have hk : (k0 :: kr)[i]? = some (k0 :: kr)[i] := by simp [hi']
        refine ⟨?_, hw⟩
        simp only [if_true]
        rw [hD i _ hk]
        exact hs _ (List.getElem_mem hi')) (by simpa using hz)
    refine s_is this ?_
    congr 1
    refine List.ext_getElem? fun i => ?_
    rw [List.filter_eq_self.mpr (fun _ _ => rfl)]
    simp only [List.getElem?_map]
    by_cases hi : i < (k0 :: kr).length
    · have hk : (k0 :: kr)[i]? = some (k0 :: kr)[i] := by simp [hi]
      rw [hk, List.getElem?_range (by simpa using hi)]
      simp only [Option.map_some]
      rw [hD i _ hk]
    · rw [List.getElem?_eq_none_iff.mpr (by simpa using hi), List.getElem?_eq_none_iff.mpr (by simpa using hi)]; rfl
theorem range_getD {α : Type} (ks : List α) (k0 : α) : (List.range ks.length).map (fun i => ks.getD i k0) = ks := by
  refine List.ext_getElem? fun i => ?_
  rw [List.getElem?_map]
  by_cases hi : i < ks.length
  · rw [List.getElem?_range hi]
    simp [List.getD_eq_getElem?_getD, hi]
  · rw [List.getElem?_eq_none_iff.mpr (by simpa using hi), List.getElem?_eq_none_iff.mpr (by simpa using hi)]; rfl
theorem filt_getD {α β : Type} (ks : List α) (k0 : α) (c : α → Bool) (f : α → β) : ((List.range ks.length).filter (fun i => c (ks.getD i k0))).map (fun i => f (ks.getD i k0)) = (ks.filter c).map f := by
  have h := range_getD ks k0
  have e : (ks.filter c).map f = (((List.range ks.length).map (fun i => ks.getD i k0)).filter c).map f := by rw [h]
  rw [e, List.filter_map, List.map_map]
  rfl
/-- with a test -/
theorem s_filt {α : Type} {wi : TI} {g : TG} {tt : TT} {te : TE} {vs : List Nat} {ks : List α} {φ : α → PyData} (hI : EvI b wi Γ Γ1 ds (ks.map φ)) (G' : α → List Sl) (c : α → Bool) (f : α → PyData)
    (hg : ∀ k ∈ ks, EvGv b g (φ k) vs (wipeG Γ1 vs) (G' k)) (ht : ∀ k ∈ ks, EvT b tt (G' k) (G' k) (c k)) (he : ∀ k ∈ ks, c k = true → EvS b te (G' k) (G' k) (.dat (f k))) (hs : ∀ k ∈ ks, wipeG (G' k) vs = wipeG (wipeG Γ1 vs) vs) (hw : wipeG (wipeG Γ1 vs) vs = wipeG Γ1 vs) (hz : ks.length ≤ 100000) :
    EvS b (tLc wi g tt te vs) Γ (wipeG Γ1 vs) (.own ((ks.filter c).map f)) := by
  cases ks with
  | nil =>
    have := s_lc (b := b) (tt := tt) (te := te) (g := g) (vs := vs) hI (fun _ => wipeG Γ1 vs) (fun _ => []) (fun _ => []) (fun _ => true) (fun _ => .none) rfl (fun i di e => by simp at e) (fun i di e => by simp at e) (fun i di e => by simp at e) (fun i hi => by simp at hi) (by simp)
    simpa using this
  | cons k0 kr =>
    have hget : ∀ i di, ((k0 :: kr).map φ)[i]? = some di → ∃ k, (k0 :: kr)[i]? = some k ∧ φ k = di := fun i di e => by
      rw [List.getElem?_map] at e
      obtain ⟨k, hk, r⟩ := Option.map_eq_some_iff.mp e
      exact ⟨k, hk, r⟩
    have hD : ∀ i k, (k0 :: kr)[i]? = some k → (k0 :: kr).getD i k0 = k := fun i k e => by rw [List.getD_eq_getElem?_getD, e]; rfl
    have := s_lc (b := b) (tt := tt) (te := te) (g := g) (vs := vs) hI (fun _ => wipeG Γ1 vs) (fun i => G' ((k0 :: kr).getD i k0)) (fun i => G' ((k0 :: kr).getD i k0)) (fun i => c ((k0 :: kr).getD i k0)) (fun i => f ((k0 :: kr).getD i k0)) rfl
      (fun i di e => by obtain ⟨k, hk, rfl⟩ := hget i di e; rw [hD i k hk]; exact hg k (List.mem_of_getElem? hk)) (fun i di e => by obtain ⟨k, hk, rfl⟩ := hget i di e; rw [hD i k hk]; exact ht k (List.mem_of_getElem? hk))
      (fun i di e hc => by obtain ⟨k, hk, rfl⟩ := hget i di e; rw [hD i k hk] at hc ⊢; exact he k (List.mem_of_getElem? hk) hc)
      (fun i hi => by
        have hi' : i < (k0 :: kr).length := by simpa using hi
        have hk : (k0 :: kr)[i]? = some (k0 :: kr)[i] := by simp [hi']
        refine ⟨?_, hw⟩
        rw [ite_self, hD i _ hk]
        exact hs _ (List.getElem_mem hi')) (by simpa using hz)
    refine s_is this ?_
    rw [List.length_map]
    exact congrArg Sl.own (filt_getD (k0 :: kr) k0 c f)
end
end G
namespace PySem
open Sem (wp)
open AutoSeq1 (wpAny_loadPart')
theorem g_enumerate_newT (l : Addr) (items : Array Value) (n : Nat) (dct : Option Addr) (sl : Array (Option Value)) :
    Meets (Builtin.«enumerate.__new__» ⟨[.type "enumerate", .ref l], []⟩) (fun _ R s => s.heap.get? l = some { cls := .type "tuple", dict := dct, data := .seq items n, slots := sl } ∧
      R (.ok (.ret (.ref (s.heap.push { cls := .type "tuple_iterator", data := .fields #[.ref l, .int 0 0] }).objs.size)))
        { s with heap := (s.heap.push { cls := .type "tuple_iterator", data := .fields #[.ref l, .int 0 0] }).push { cls := .type "enumerate", data := .fields #[.none, .bool false, .ref s.heap.objs.size, rawInt 0, .none, .none] } }) :=
  .of_wp fun prog w A R s h => by
    obtain ⟨hp0, g, d, tkq, os⟩ := s; obtain ⟨ll, h⟩ := h
    have hsub := sub_enumerate
    have hLt : Heap.IsTuple (Shared.heap ⟨hp0, g, d, tkq, os⟩) l items := ⟨_, ll, rfl, n, rfl⟩
    wp_walk using wpAny_loadPart' ll
    refine wpAny_stack_any fun st => wpAny_pure ?_
    split
    · rename_i c _ _ _ _ _
      cases (c == Value.type "enumerate")
      · wp_walk using wpAny_loadPart' ll, wpAny_pyIter_tuple hLt
        exact ⟨_, rfl, h⟩
      · wp_walk using wpAny_loadPart' ll, wpAny_pyIter_tuple hLt
        exact ⟨_, rfl, h⟩
    · wp_walk using wpAny_loadPart' ll, wpAny_pyIter_tuple hLt
      exact ⟨_, rfl, h⟩
theorem g_call_enumerate_tuple {prog : Program} {w : World} {A : Around} {E : Value → Shared → Prop} {s : Shared} {l : Addr} {items : Array Value} {Q : Value → Shared → Prop} (hLt : s.heap.IsTuple l items)
    (h : ∀ hh, IsEnum hh (s.heap.objs.size + 1) s.heap.objs.size 0 .none → hh.IsTupleIter s.heap.objs.size l 0 → hh.objs.size = s.heap.objs.size + 2 →
      (∀ b o, s.heap.get? b = some o → hh.get? b = some o) → Q (.ref (s.heap.objs.size + 1)) { s with heap := hh }) :
    wpAny (model prog w) A (call (.type "enumerate") [.ref l]) Q E s := by
  obtain ⟨⟨c, dct, dt, sl⟩, ll, hcq, n, hdq⟩ := hLt
  replace hcq : c = .type "tuple" := hcq
  replace hdq : dt = .seq items n := hdq
  subst hcq hdq
  refine callType_new F.called_enumerate (by decide) (F.typeCall_enumerate_1 _) (F.newCall_enumerate_1 _) (fun obj => F.args_object_init_2 obj _) F.entry_enumerate_new
    (g_enumerate_newT l items n dct sl) ⟨ll, ?_⟩
  have zz : (s.heap.push { cls := .type "tuple_iterator", data := .fields #[.ref l, .int 0 0] }).objs.size = s.heap.objs.size + 1 := Heap.size_push ..
  show _ ∧ _
  rw [zz]
  have eE : IsEnum ((s.heap.push { cls := .type "tuple_iterator", data := .fields #[.ref l, .int 0 0] }).push
      { cls := .type "enumerate", data := .fields #[.none, .bool false, .ref s.heap.objs.size, rawInt 0, .none, .none] }) (s.heap.objs.size + 1) s.heap.objs.size 0 .none := by
    have := Heap.get?_push_size (s.heap.push { cls := .type "tuple_iterator", data := .fields #[.ref l, .int 0 0] })
      (o := { cls := .type "enumerate", data := .fields #[.none, .bool false, .ref s.heap.objs.size, rawInt 0, .none, .none] }) rfl
    rw [zz] at this; exact this
  refine ⟨⟨_, eE, rfl⟩, h _ eE ⟨_, Heap.get?_push_of_some _ (Heap.get?_push_size _ rfl), rfl, rfl⟩ (by rw [Heap.size_push, zz]) fun b o x => Heap.get?_push_of_some _ (Heap.get?_push_of_some _ x)⟩
end PySem
namespace G
open PySem PySem.Spec PyProof.Rows L2
open Evl (Ex ex_rd ex_l ex_t rMax2)
section
variable {X : Cx}
/-! ### a tuple times k, k from 1 on -/
theorem tuple_mul1 (l : Addr) (items : Array Value) (n : Nat) (dd : Option Addr) (sl : Array (Option Value)) (u : Tok) :
    Meets (Builtin.«tuple.__mul__» ⟨[.ref l, .int 1 u], []⟩) (fun _ R s => s.heap.get? l = some { cls := .type "tuple", dict := dd, data := .seq items n, slots := sl } ∧ R (.ok (.ret (Value.ref l))) s) :=
  .of_wp fun prog w A R s h => by
    obtain ⟨hp0, g, d, tkq, os⟩ := s
    obtain ⟨ll, h⟩ := h
    have w1 := AutoSeq1.idx_int
    have c1x : (items.isEmpty || (1 : Int) == 1) = true := by simp
    wp_walk using PySem.AutoSeq1.wpAny_loadPart' ll
    exact ⟨_, rfl, h⟩
def rRepA (K : PySem.W.Frag) : R2 := fun x y H Q => ∃ l k xs, x = .ref l ∧ y = .int k ∧ SqT K H l xs ∧ xs ≠ [] ∧ 1 ≤ k ∧ k ≤ 1000 ∧ xs.length ≤ 1000 ∧ (k = 1 → Q (.ref l) H) ∧ (k ≠ 1 → ∀ p, H p = none → Q (.ref p) (upd H p (.tup (List.replicate k.toNat xs).flatten)))
theorem op_repA : OpR X (binaryOp .Mult) (rRepA X.K) := by
  intro pins s σ H x y v u Q I rx ry h
  obtain ⟨l, k, xs, rfl, rfl, tyE, neE, h1, h2, zz, q1x, q2⟩ := h
  by_cases kk : k = 1
  · subst kk
    have q := q1x rfl
    cases rx
    obtain ⟨t, rfl⟩ := ry
    obtain ⟨uu, r, ⟨⟨cls, dd, data, sl⟩, oq, hcq, n, hdq⟩, hs⟩ := I.tuple tyE
    simp only at hcq hdq
    subst hcq hdq
    exact wpAny_binaryOp_repeat_ref (T := "tuple") (U := "int") (by decide) ⟨_, oq, rfl⟩ (fun s' => typeIs_int s' 1 t) noFill_tuple_mul F.fills_int_mul F.slot_int_rmul repeat_tuple F.slot_int_index.lookup
      (call_meets F.slot_int_rmul (typeIs_int s 1 t) F.entry_int_rmul (F.args_int_rmul_2 _ _) (int_rmul_tuple 1 t l uu.toArray n dd sl)
        ⟨oq, rfl, ⟨_, oq, rfl⟩, call_meets F.slot_tuple_mul ⟨_, oq, rfl⟩ F.entry_tuple_mul (F.args_tuple_mul_2 _ _) (tuple_mul1 l uu.toArray n dd sl t) ⟨oq, ⟨.ref l, H, I, rfl, q⟩⟩⟩)
  · exact op_repT pins s σ H _ _ v u Q I rx ry ⟨l, k, xs, rfl, rfl, tyE, neE, by omega, h2, zz, q2 kk⟩
/-! ### enumerate of a list or a tuple -/
def IteT (K : PySem.W.Frag) (a : Addr) : It :=
  ⟨fun i H => ∃ (xs : List V) (x : V), SqT K H a xs ∧ xs[i]? = some x, fun i H v H' => ∃ T x, v = .ref T ∧ H T = none ∧ H' = upd H T (.tup [.int (i : Nat), x]) ∧ ∀ xs, SqT K H a xs → xs[i]? = some x, fun i H => ∃ xs : List V, SqT K H a xs ∧ xs.length ≤ i⟩
theorem turn_enumT {P : Program} {w : World} {K : PySem.W.Frag} {elts : List Expr} {kk : Nat} {tpos : Pos} (a e it : Addr) :
    Turn P w K (.Tuple elts kk tpos) (IteT K a) [e, it] e (fun i h => (∃ prev, IsEnum h e it ((i : Nat) : Int) prev) ∧ h.IsTupleIter it a i ∧ e ≠ it) where
  mem := by simp
  obj := fun i h st b hbm => by
    obtain ⟨⟨prev, eE⟩, ⟨o, oq, hcq, hdq⟩, _⟩ := st
    have eq1 : b = e ∨ b = it := by simpa using hbm
    rcases eq1 with z | z
    · rw [z]; exact ⟨_, eE, fun v q => nomatch q⟩
    · rw [z]; exact ⟨o, oq, fun v q => by rw [hdq] at q; cases q⟩
  keep := fun i h hh st k => let ⟨⟨prev, eE⟩, hi, neE⟩ := st; ⟨⟨prev, k e (by simp) _ eE⟩, hi.at fun o q => k it (by simp) o q, neE⟩
  item := by
    intro X eP eW eK hcq i pins s σ H E I hfp st hgo
    subst eP eW eK
    obtain ⟨⟨prev, eE⟩, itE, neE⟩ := st
    obtain ⟨xs, x, rdq, atx⟩ := hgo
    obtain ⟨uu, pr, p, zz⟩ := I.tuple rdq
    obtain ⟨u, atu, rlu⟩ := pr.get atx
    have ltE : e < s.heap.objs.size := Heap.lt_size eE
    have ltI : it < s.heap.objs.size := by obtain ⟨_, q, _⟩ := itE; exact Heap.lt_size q
    have nai : a ≠ it := fun z => by
      subst z
      obtain ⟨o1, e1x, c1x, _⟩ := p
      obtain ⟨o2, e2, c2, _⟩ := itE
      rw [e1x] at e2; cases e2; rw [c1x] at c2; exact absurd c2 (by decide)
    have nae : a ≠ e := fun z => by
      subst z
      obtain ⟨o1, e1x, c1x, _⟩ := p
      have h2 : s.heap.get? a = some _ := eE
      rw [e1x] at h2; cases h2
      have c2 : Value.type "enumerate" = Value.type "tuple" := c1x
      exact absurd c2 (by decide)
    have tupA : s.heap.IsTuple a uu.toArray := p
    refine wpAny_pyNext_enum_itemD (Draws.tuple (A := X.A.in1) (I.ok.hd hcq) it a nai uu.toArray) eE ⟨itE, tupA⟩ (n := uu.toArray.size) (i := i) ?_ neE (by simp [neE, Ne.symm nae]) fun x' hh tkq pxq oq stq tyE szq kk => ?_
    · have := (List.getElem?_eq_some_iff.mp atu).1
      simpa using this
    · have exx : x' = u := by
        have q : uu.toArray[i]? = some x' := pxq
        have q2 : uu.toArray[i]? = some u := by simpa using atu
        rw [q] at q2; exact Option.some.inj q2
      subst exx
      refine ⟨_, rfl, wpAny_letOwnedTupleGo_enum (s := { s with heap := hh, toks := tkq + 1 }) oq fun hhh he' sbq => ?_⟩
      have tyE2 : hhh.get? s.heap.objs.size = some { cls := .type "tuple", data := .seq #[.int i tkq, x'] } := (sbq.2 _ (Nat.ne_of_gt ltE)).trans tyE
      have newq : ObjOk X.prog X.w (upd H s.heap.objs.size (.tup [.int (i : Nat), x])) hhh s.heap.objs.size (.tup [.int (i : Nat), x]) :=
        ⟨by show 2 ≤ sizeLine; decide, [.int i tkq, x'], .cons ⟨_, rfl⟩ (.cons rlu .nil), ⟨_, tyE2, rfl, _, rfl⟩⟩
      have J1 : Inv X pins σ (upd H s.heap.objs.size (.tup [.int (i : Nat), x])) { s with heap := hhh, toks := tkq + 1 } :=
        I.turnedNew (ch := [e, it]) (fun b ob hbm q => (sbq.2 b (fun z => hbm (by simp [z]))).trans (kk b ob (fun z => hbm (by simp [z])) (fun z => hbm (by simp [z])) q)) hfp (Nat.le_refl _) newq
      refine ⟨.ref s.heap.objs.size, _, J1, rfl, ⟨_, x, rfl, I.hok.fresh (Nat.le_refl _), rfl, fun ys hy => by rw [I.tuple_inj hy rdq]; exact atx⟩, ⟨⟨x', ?_⟩, stq.1.at fun o q => (sbq.2 it (Ne.symm neE)).trans q, neE⟩, fun b hbm => ?_⟩
      · have e1x : ((i + 1 : Nat) : Int) = (i : Int) + 1 := by omega
        rw [e1x]; exact he'
      · have hbq : b < s.heap.objs.size := by
          have eq1 : b = e ∨ b = it := by simpa using hbm
          rcases eq1 with z | z
          · rw [z]; exact ltE
          · rw [z]; exact ltI
        rw [upd_ne (Nat.ne_of_lt hbq)]
        exact (hfp b hbm).1
  done := by
    intro X eP eW eK hcq i pins s σ H E I hfp st hgo
    subst eP eW eK
    obtain ⟨⟨prev, eE⟩, itE, neE⟩ := st
    obtain ⟨xs, rdq, atx⟩ := hgo
    obtain ⟨uu, pr, p, zz⟩ := I.tuple rdq
    obtain ⟨w0, w1, w2, w3, w4, w5⟩ := hfp it (by simp)
    have ll := pr.length
    have tyE : s.TypeIs (.ref e) "enumerate" := ⟨_, eE, rfl⟩
    have tupA : s.heap.IsTuple a uu.toArray := p
    unfold pyNext
    refine wpAny_bind (wpAny_attempt (wpAny_callSpecial?_slot (name := Str.ofString "__next__") tyE F.slot_enumerate_next
      (wpAny_call_entry F.slot_enumerate_next tyE F.entry_enumerate_next ?_ (F.args_enumerate_next_1 _))))
    show wpAny _ _ (field (.ref e) 2 >>= _) _ _ _
    refine wpAny_bind (wpAny_field eE rfl (x := .ref it) rfl ?_)
    refine wpAny_bind (wpAny_nextOf_tuple_end (by exact I.ok.hd hcq) itE tupA (by simp; omega) fun hh x he' hx' => ?_)
    obtain ⟨o, oq, hc'⟩ := hx'
    refine wpAny_bind (wpAny_isInstance (T := "StopIteration") (b := true) ⟨o, oq, hc'⟩ isSubtype_stop ?_)
    exact wpAny_pure ⟨rfl, I.turned (t' := s.toks) (fun b o hbm q => he' b o hbm q) w0 w1 w3 w4 w5⟩
  self := fun A i s Q E st h => let ⟨⟨_, eE⟩, _⟩ := st; wpAny_pyIter_enum eE h
def iEnumA (K : PySem.W.Frag) (ta : TA) : TI := fun σ H R => ta σ H fun vs H1 => ∃ a xs, vs = [.ref a] ∧ ((SqL K H1 a xs ∧ R (Ite K a) H1) ∨ (SqT K H1 a xs ∧ R (IteT K a) H1))
theorem pi_enumA {e : Expr} {ta : TA} {p pos tpos : Pos} {elts : List Expr} {kk : Nat} (hgo : Gl X "enumerate") (mgx : X.mg "enumerate" = none) (hargs : PA X [e] ta) (hs : starEach [e] X.env = [(false, eval e X.env)] := by rfl) :
    PI X (.Tuple elts kk tpos) (.Call (.Name "enumerate" p) [e] [] pos) (iEnumA X.K ta) := by
  refine ⟨fun pins s σ H R I h => ?_⟩
  refine Call_ (ld_blt I hgo mgx boot_enumerate (PyProof.Rows.callWith_type1 (thn (hargs.run pos pins s σ H _ I h) fun us s1 ⟨vs, H1, J1, r1q, q1x⟩ => ?_) hs rfl))
  obtain ⟨a, xs, exx, q1x⟩ := q1x
  subst exx
  cases r1q with
  | cons r rrq =>
    cases rrq
    cases r
    have fin : ∀ b, b ∈ [s1.heap.objs.size + 1, s1.heap.objs.size] → FpOk X pins H1 b := fun b hbm => by
      have eq1 : b = s1.heap.objs.size + 1 ∨ b = s1.heap.objs.size := by simpa using hbm
      have leq1 : s1.heap.objs.size ≤ b := by
        rcases eq1 with z | z
        · rw [z]; exact Nat.le_add_right _ _
        · rw [z]; exact Nat.le_refl _
      exact J1.fpOk leq1 (J1.hok.fresh leq1)
    rcases q1x with ⟨rdq, q⟩ | ⟨rdq, q⟩
    · obtain ⟨uu, pr, p', zz⟩ := J1.list rdq
      refine call_enumerate_list p'.isList fun hh eE itE szq kk => wpAny_pyIter_enum eE ?_
      have J2 : Inv X pins σ H1 { s1 with heap := hh } := J1.kept (t' := s1.toks) kk
      exact ⟨s1.heap.objs.size + 1, [s1.heap.objs.size + 1, s1.heap.objs.size], _, _, H1, rfl, J2, turn_enum a (s1.heap.objs.size + 1) s1.heap.objs.size, ⟨⟨.none, eE⟩, itE, Nat.succ_ne_self _⟩, fin, q⟩
    · obtain ⟨uu, pr, p', zz⟩ := J1.tuple rdq
      refine g_call_enumerate_tuple (show s1.heap.IsTuple a uu.toArray from p') fun hh eE itE szq kk => wpAny_pyIter_enum eE ?_
      have J2 : Inv X pins σ H1 { s1 with heap := hh } := J1.kept (t' := s1.toks) kk
      exact ⟨s1.heap.objs.size + 1, [s1.heap.objs.size + 1, s1.heap.objs.size], _, _, H1, rfl, J2, turn_enumT a (s1.heap.objs.size + 1) s1.heap.objs.size, ⟨⟨.none, eE⟩, itE, Nat.succ_ne_self _⟩, fin, q⟩
/-! ### a product, one factor below 2 ^ 64 or both below a million bits together -/
theorem op_mulA : OpR X (binaryOp .Mult) (rI (fun i j => CMul i j ∨ CMulW i j) fun i j => .int (i * j)) := opI fun _ _ _ _ _ _ _ hc q => hc.elim (fun h => mul_int q h.ok) (fun h => mul_int q h.ok)
end
section
variable {b : Bs} {C : Hp} {T Γ Γ' Γ1 Γ2 : List Sl} {τ σ : L2.St} {H H' : Hp} {s s' : Sl} {v : V} {d e : PyData} {ds es : List PyData} {vs : List V}
theorem rd_repA {K : PySem.W.Frag} {k : Int} (h : ds ≠ []) (hz : ds.length ≤ 1000) (h1 : 1 ≤ k) (h2 : k ≤ 1000) : RD K (rRepA K) (.tuple ds) (.int k) (.dat (.tuple (List.replicate k.toNat ds).flatten)) := fun C H x y ex dx dy Q q => by
  cases dy
  have dx2 := dx
  cases dx with
  | tup hq ha =>
    rename_i a xs
    have hl := dpa_len ha
    refine ⟨a, k, xs, rfl, rfl, ex_t ex hq, fun z => h (by subst z; simpa using hl.symm), h1, h2, by omega, fun z => ?_, fun _ p hp => ?_⟩
    · subst z
      have : (List.replicate (1 : Int).toNat ds).flatten = ds := by simp
      rw [this] at q
      exact q _ _ (.same ex dx2)
    · refine q _ _ (.tup ex ?_ hp)
      generalize k.toNat = n
      induction n with
      | zero => exact .nil
      | succ n ih =>
        rw [List.replicate_succ, List.replicate_succ, List.flatten_cons, List.flatten_cons]
        exact dpa_app ha ih
def enumT (p : PyData × Nat) : PyData := .tuple [.int (p.2 : Int), p.1]
theorem i_enumT {ta : TA} (h : EvA b ta Γ Γ1 [.tuple ds]) : EvI b (iEnumA b.K ta) Γ Γ1 [.tuple ds] (ds.zipIdx.map enumT) := fun T τ σ H hs R r =>
  h T τ σ H hs _ fun vs H1 C h1 dv => by
    have dv2 := dv
    obtain ⟨v, rfl, dx⟩ := dpa1 dv
    cases dx with
    | tup hq ha =>
      rename_i a xs
      refine ⟨a, xs, rfl, .inr ⟨ex_t h1.ch hq, r _ [.ref a] H1 C (fun C' H' ex dw => ?_) h1 dv2⟩⟩
      obtain ⟨v', e1, dz⟩ := dpa1 dw
      cases e1
      cases dz with
      | tup hq' ha' =>
        have hl := dpa_len ha'
        refine ⟨⟨_, ex_t ex hq', by simp; omega⟩, fun i di e => ?_⟩
        rw [List.getElem?_map] at e
        obtain ⟨⟨u1, u2⟩, e1, rfl⟩ := Option.map_eq_some_iff.mp e
        rw [List.getElem?_zipIdx] at e1
        obtain ⟨z, e2, e3⟩ := Option.map_eq_some_iff.mp e1
        cases e3
        obtain ⟨y, y1, y2⟩ := dpa_get ha' e2
        refine ⟨⟨_, y, ex_t ex hq', y1⟩, fun x H2 z2 => ?_⟩
        obtain ⟨P, z1, rfl, nP, rfl, f1⟩ := z2
        have w1 := (f1 _ (ex_t ex hq')).symm.trans y1
        cases w1
        have : ((0 + i : Nat) : Int) = (i : Int) := by omega
        exact .tup ex (.cons (this ▸ .int _) (.cons y2 .nil)) nP
end
end G
namespace G
open PySem PySem.Spec PyProof.Rows L2
open Evl (Ex ex_rd ex_l ex_t rMax2)
abbrev ti (xs : List Int) : PyData := .tuple (xs.map .int)
abbrev li (xs : List Int) : PyData := .list (xs.map .int)
theorem eqv_int (i j : Int) : PyData.eqv (.int i) (.int j) = decide (i = j) := by
  rw [PyData.eqv]
  by_cases h : i = j <;> simp [h]
theorem eqv_bool (i j : Bool) : PyData.eqv (.bool i) (.bool j) = decide (i = j) := by
  rw [PyData.eqv]
  cases i <;> cases j <;> rfl
theorem eqv_str (i j : Str) : PyData.eqv (.str i) (.str j) = decide (i = j) := by
  rw [PyData.eqv]
  by_cases h : i = j <;> simp [h]
theorem eqvAll_ints : ∀ xs ys : List Int, PyData.eqvAll (xs.map .int) (ys.map .int) = decide (xs = ys)
  | [], [] => by simp [PyData.eqvAll]
  | [], _ :: _ => by simp [PyData.eqvAll]
  | _ :: _, [] => by simp [PyData.eqvAll]
  | x :: xs, y :: ys => by
    rw [List.map_cons, List.map_cons, PyData.eqvAll, eqv_int, eqvAll_ints xs ys]
    by_cases h : x = y <;> by_cases h2 : xs = ys <;> simp [h, h2]
theorem eqv_ti (xs ys : List Int) : PyData.eqv (ti xs) (ti ys) = decide (xs = ys) := by rw [PyData.eqv]; exact eqvAll_ints xs ys
theorem eqv_li (xs ys : List Int) : PyData.eqv (li xs) (li ys) = decide (xs = ys) := by rw [PyData.eqv]; exact eqvAll_ints xs ys
theorem lay_ints : ∀ xs : List Int, PyData.canLayAll0 (xs.map .int) = true
  | [] => by simp [PyData.canLayAll0]
  | x :: xs => by rw [List.map_cons, PyData.canLayAll0, lay_ints xs]; simp [PyData.canLay0]
theorem dep_ints : ∀ xs : List Int, PyData.depthAll (xs.map .int) ≤ 1
  | [] => by simp [PyData.depthAll]
  | x :: xs => by
    rw [List.map_cons, PyData.depthAll]
    have := dep_ints xs
    simp only [PyData.depth]
    omega
theorem sh_int (i : Int) : SeqAt.shaped (.int i) = true := by simp [SeqAt.shaped, PyData.canLay0, PyData.depth]
theorem sh_bool (i : Bool) : SeqAt.shaped (.bool i) = true := by simp [SeqAt.shaped, PyData.canLay0, PyData.depth]
theorem sh_none : SeqAt.shaped .none = true := by simp [SeqAt.shaped, PyData.canLay0, PyData.depth]
theorem sh_ti (xs : List Int) : SeqAt.shaped (ti xs) = true := by
  have := dep_ints xs
  unfold SeqAt.shaped
  rw [PyData.canLay0, lay_ints, PyData.depth]
  simp; omega
theorem sh_li (xs : List Int) : SeqAt.shaped (li xs) = true := by
  have := dep_ints xs
  unfold SeqAt.shaped
  rw [PyData.canLay0, lay_ints, PyData.depth]
  simp; omega
section
variable {K : PySem.W.Frag} {i j : Int} {xs ys : List Int}
theorem rd_eqI : RD K (rEqD K) (.int i) (.int j) (.dat (.bool (decide (i = j)))) := by
  have := rd_eqD (K := K) (sh_int i) (sh_int j)
  rwa [eqv_int] at this
theorem rd_neI : RD K (rNeD K) (.int i) (.int j) (.dat (.bool (!decide (i = j)))) := by
  have := rd_neD (K := K) (sh_int i) (sh_int j)
  rwa [eqv_int] at this
theorem rd_eqB {i j : Bool} : RD K (rEqD K) (.bool i) (.bool j) (.dat (.bool (decide (i = j)))) := by
  have := rd_eqD (K := K) (sh_bool i) (sh_bool j)
  rwa [eqv_bool] at this
theorem rd_neB {i j : Bool} : RD K (rNeD K) (.bool i) (.bool j) (.dat (.bool (!decide (i = j)))) := by
  have := rd_neD (K := K) (sh_bool i) (sh_bool j)
  rwa [eqv_bool] at this
theorem rd_eqT : RD K (rEqD K) (ti xs) (ti ys) (.dat (.bool (decide (xs = ys)))) := by
  have := rd_eqD (K := K) (sh_ti xs) (sh_ti ys)
  rwa [eqv_ti] at this
theorem rd_neT : RD K (rNeD K) (ti xs) (ti ys) (.dat (.bool (!decide (xs = ys)))) := by
  have := rd_neD (K := K) (sh_ti xs) (sh_ti ys)
  rwa [eqv_ti] at this
theorem rd_eqL : RD K (rEqD K) (li xs) (li ys) (.dat (.bool (decide (xs = ys)))) := by
  have := rd_eqD (K := K) (sh_li xs) (sh_li ys)
  rwa [eqv_li] at this
theorem rd_neL : RD K (rNeD K) (li xs) (li ys) (.dat (.bool (!decide (xs = ys)))) := by
  have := rd_neD (K := K) (sh_li xs) (sh_li ys)
  rwa [eqv_li] at this
theorem atI_ints (h0 : 0 ≤ i) (h1 : i < xs.length) : atI (xs.map PyData.int) i = some (.int (xs.getD i.toNat 0)) := by
  refine atI_ok h0 ?_
  rw [List.getElem?_map, List.getElem?_eq_getElem (by omega), Option.map_some, List.getD_eq_getElem?_getD, List.getElem?_eq_getElem (by omega)]
  rfl
theorem rd_ixTi (h0 : 0 ≤ i) (h1 : i < xs.length) : RD K (rIx K) (ti xs) (.int i) (.dat (.int (xs.getD i.toNat 0))) := rd_ixT (atI_ints h0 h1)
theorem rd_ixLi (h0 : 0 ≤ i) (h1 : i < xs.length) : RD K (rIx K) (li xs) (.int i) (.dat (.int (xs.getD i.toNat 0))) := rd_ixL (atI_ints h0 h1)
theorem cd_lenTi : CD K (rLen K) [ti xs] (.dat (.int xs.length)) := by
  have := cd_lenT (K := K) (ds := xs.map .int)
  rwa [List.length_map] at this
theorem cd_lenLi : CD K (rLen K) [li xs] (.dat (.int xs.length)) := by
  have := cd_lenL (K := K) (ds := xs.map .int)
  rwa [List.length_map] at this
end
/-! ### less is known -/
def wk : List Sl → List Sl → Prop
  | [], [] => True
  | s :: Γ, s' :: Γ' => (s' = s ∨ s' = .no) ∧ wk Γ Γ'
  | _, _ => False
theorem has_wk {K : PySem.W.Frag} {C H : Hp} : ∀ {Γ Γ' : List Sl} {σ : L2.St} {ps : List Addr}, wk Γ Γ' → Has K C H Γ σ ps → ∃ qs, Has K C H Γ' σ qs ∧ qs.Sublist ps
  | [], [], _, _, _, h => ⟨_, h, List.Sublist.refl _⟩
  | s :: Γ, s' :: Γ', _, _, ⟨e, w⟩, h => by
    have go : ∀ {x : Option V} {σ : L2.St} {ps : List Addr}, Has K C H Γ σ ps → ∃ qs, Has K C H (.no :: Γ') (x :: σ) qs ∧ qs.Sublist ps := fun h => by
      obtain ⟨qs, h1, h2⟩ := has_wk w h
      exact ⟨qs, .no h1, h2⟩
    rcases e with rfl | rfl
    · cases h with
      | no h => exact go h
      | dat d h => obtain ⟨qs, h1, h2⟩ := has_wk w h; exact ⟨qs, .dat d h1, h2⟩
      | own y e d h => obtain ⟨qs, h1, h2⟩ := has_wk w h; exact ⟨_, .own y e d h1, h2.cons_cons _⟩
    · cases h with
      | no h => exact go h
      | dat d h => exact go h
      | own y e d h => obtain ⟨qs, h1, h2⟩ := go h; exact ⟨qs, h1, h2.cons _⟩
theorem hs_wk {b : Bs} {T Γ Γ' : List Sl} {τ σ : L2.St} {H : Hp} (w : wk Γ Γ') (h : Hs b T τ Γ σ H) : Hs b T τ Γ' σ H := by
  obtain ⟨C, ps, qs, c, h1, h2⟩ := h
  obtain ⟨rs, h3, h4⟩ := has_wk w h2
  exact ⟨C, ps, rs, c.sub (fun p hp => (List.Sublist.append_left h4 ps).subset hp) (c.nd.sublist (List.Sublist.append_left h4 ps)), h1, h3⟩
theorem n_end {b : Bs} {T Γ Γ' : List Sl} {τ : L2.St} (w : wk Γ Γ') : Nx b (fun σ H => Hs b T τ Γ' σ H) T τ Γ := fun _ _ h => hs_wk w h
theorem n_wk {b : Bs} {T Γ Γ' : List Sl} {τ : L2.St} {N : L2.St → Hp → Prop} (w : wk Γ Γ') (k : Nx b N T τ Γ') : Nx b N T τ Γ := fun _ _ h => k _ _ (hs_wk w h)
/-! ### statements that go on -/
def StS (b : Bs) (t : TS) (Γ Γ' : List Sl) : Prop := ∀ (D : Ends) (T : List Sl) (τ : L2.St), Nx b D.nx T τ Γ' → Nx b (t D) T τ Γ
section
variable {b : Bs} {T Γ Γ' Γ1 Γ2 : List Sl} {τ : L2.St} {D : Ends} {t u : TS} {te : TE} {s : Sl} {d : PyData} {ds : List PyData}
theorem n_go (h : StS b t Γ Γ1) (k : Nx b (u D) T τ Γ1) : Nx b (tSeq t u D) T τ Γ := h { D with nx := u D } T τ k
theorem n_stop {c : TT} (h : EvT b c Γ Γ1 false) (k : Nx b (u D) T τ Γ1) : Nx b (tSeq (tIfS c t tNext) u D) T τ Γ := n_if (D := { D with nx := u D }) h (fun z => by cases z) fun _ => k
theorem n_leave {c : TT} (h : EvT b c Γ Γ1 true) (k : Nx b (tRet te D) T τ Γ1) : Nx b (tSeq (tIfS c (tRet te) t) u D) T τ Γ := n_if (t := tRet te) (D := { D with nx := u D }) h (fun _ => k) fun z => by cases z
theorem n_fork {c : TT} {k : Bool} (h : EvT b c Γ Γ1 k) (h1 : k = true → Nx b (tRet te D) T τ Γ1) (h2 : k = false → Nx b (u D) T τ Γ1) : Nx b (tSeq (tIfS c (tRet te) tNext) u D) T τ Γ :=
  n_if (t := tRet te) (u := tNext) (D := { D with nx := u D }) h (fun z => h1 z) fun z => h2 z
theorem st_set {i : Nat} (h : EvS b te Γ Γ1 s) : StS b (tAsg te (gName i)) Γ (Γ1.set i s) := fun D T τ k => n_set h k
theorem st_drop (h : EvS b te Γ Γ1 s) : StS b (tDrop te) Γ Γ1 := fun D T τ k => n_drop h k
theorem st_append {i : Nat} {z : Option Addr} (h : Γ[i]? = some (.ownq z ds)) (he : EvS b te Γ Γ (.dat d)) (hz : ds.length < 100000) : StS b (tDrop (tBM b.K "list" rAppend (tVar i) (tCons te tNil))) Γ (Γ.set i (.ownq z (ds ++ [d]))) := fun D T τ k => n_append h he hz k
theorem st_setL {i j : Nat} {k : Int} {tb : TE} {z : Option Addr} (h : Γ[i]? = some (.ownq z ds)) (he : EvS b te Γ Γ (.dat d)) (hb : EvS b tb Γ Γ (.dat (.int k))) (hj : ixN ds.length k = some j) :
    StS b (tAsg te (gSub (tVar i) tb rSetL)) Γ (Γ.set i (.ownq z (ds.set j d))) := fun D T τ k => n_setL h he hb hj k
theorem st_seq (h : StS b t Γ Γ1) (h2 : StS b u Γ1 Γ2) : StS b (tSeq t u) Γ Γ2 := fun D T τ k => h { D with nx := u D } T τ (h2 D T τ k)
theorem st_next : StS b tNext Γ Γ := fun D T τ k => k
theorem st_if {c : TT} {k : Bool} (h : EvT b c Γ Γ1 k) (h1 : k = true → StS b t Γ1 Γ2) (h2 : k = false → StS b u Γ1 Γ2) : StS b (tIfS c t u) Γ Γ2 := fun D T τ q => n_if h (fun z => h1 z D T τ q) fun z => h2 z D T τ q
theorem st_wk (w : wk Γ1 Γ2) (h : StS b t Γ Γ1) : StS b t Γ Γ2 := fun D T τ k => h D T τ (n_wk w k)
theorem st_is (h : StS b t Γ Γ1) (e : Γ1 = Γ2) : StS b t Γ Γ2 := e ▸ h
theorem st_for {wi : TI} {g : TG} {tb : TS} {ds its : List PyData} (hI : EvI b wi Γ Γ1 ds its) (G G' : Nat → List Sl) (h0 : wk Γ1 (G 0)) (hg : ∀ i di, its[i]? = some di → EvG b g di (G i) (G' i))
    (hb : ∀ i di, its[i]? = some di → StS b tb (G' i) (G (i + 1))) : StS b (tFor wi g tb) Γ (G its.length) := fun D T τ k => by
  have hI' : EvI b wi Γ (G 0) ds its := fun T τ σ H hs R r => hI T τ σ H hs R fun J vs H' C ok h dv => by
    obtain ⟨ps, qs, c, h1, h2⟩ := h
    obtain ⟨rs, h3, h4⟩ := has_wk h0 h2
    exact r J vs H' C ok ⟨ps, rs, c.sub (fun p hp => (List.Sublist.append_left h4 ps).subset hp) (c.nd.sublist (List.Sublist.append_left h4 ps)), h1, h3⟩ dv
  exact n_for hI' G G' rfl hg (fun i di vs hv e => hb i di e _ _ _ n_hs) k
end
/-! ### a def -/
def Γ0 (n : Nat) (ds : List PyData) : List Sl := ds.map Sl.dat ++ List.replicate (n - ds.length) Sl.no
theorem has_dats {K : PySem.W.Frag} {C H : Hp} {Γ : List Sl} {σ : L2.St} {ps : List Addr} (h : Has K C H Γ σ ps) : ∀ {vs : List V} {ds : List PyData}, DpAll K C vs ds → Has K C H (ds.map Sl.dat ++ Γ) (vs.map some ++ σ) ps
  | _, _, .nil => h
  | _, _, .cons r t => .dat r (has_dats h t)
theorem has_no {K : PySem.W.Frag} {C H : Hp} : ∀ n : Nat, Has K C H (List.replicate n Sl.no) (List.replicate n none) []
  | 0 => .nil
  | n + 1 => .no (has_no n)
theorem fn_ok {P : Program} {w : World} {K : PySem.W.Frag} {mg : Str → Option Value} {base : Heap} {x qual : Str} {st : Stmt} {f : Addr} {fd : FuncData} {N ps : List Str} {k : Nat} {gr : List PyData → Sl → Prop} {tr : PySem.W.Frag → TS}
    (F : Fun K x qual st f fd) (S : FnScope N ps (defScope st)) (len : ∀ ds s, gr ds s → ds.length = ps.length)
    (pst : ∀ (cdv : Value) (A : Around) (outer : List Env) (s : Shared) (H : Hp) (E : XK), Room k (A.deeper (envOfC qual (defScope st) s.heap.objs.size f cdv)) → PSs (cxOf CX0 P w K mg base N qual (defScope st) f cdv A outer s H E).nox (defBody st) (tr K))
    (rd : ∀ (b : Bs) (D : Ends) ds s, gr ds s → (∀ v H', Ret b.K b.H0 b.B s v H' → D.rt v H') → (∀ σ H, D.rt .non H → D.nx σ H) → Nx b (tr b.K D) [] [] (Γ0 N.length ds)) :
    FnOk P w K mg base CX0 (k + 1) f fd ps (spP K gr) := by
  refine F.ok S (fun vs H Q E h => ?_) (fun cdv A outer s H vs Q E hr h => ?_)
  · obtain ⟨C, ds, s, e, dv, g, q⟩ := h
    rw [dpa_len dv]; exact len ds s g
  · obtain ⟨C, ds, sl, e, dv, g, q⟩ := h
    refine ⟨_, pst cdv A outer s H E hr, ?_⟩
    refine rd ⟨K, H, C⟩ _ ds sl g q (fun _ _ h => h) _ _ ⟨C, [], [], ⟨Ex.refl C, e, Ex.refl H, fun _ _ z => z, (fun p hp => by cases hp), List.nodup_nil⟩, .nil, ?_⟩
    unfold L2.start Γ0
    rw [dpa_len dv]
    exact has_dats (has_no _) dv
end G
namespace G
open PySem PySem.Spec PyProof.Rows L2
open Evl (Ex ex_rd ex_l ex_t rMax2)
/-! ### a def that is lent a list (its first argument) and changes it -/
def RetM (K : PySem.W.Frag) (H C : Hp) (p : Addr) (ds' : List PyData) (s : Sl) (v : V) (H' : Hp) : Prop :=
  ∃ C' rs vs', Ex C C' ∧ Ex C' H' ∧ (∀ a o, a ≠ p → H a = some o → H' a = some o) ∧ (∀ a, H a ≠ none → C a = none → C' a = none) ∧ Has K C' H' [s] [some v] rs ∧ (∀ q ∈ rs, C' q = none ∧ H q = none) ∧ H' p = some (.lst vs') ∧ DpAll K C' vs' ds'
def RetB (b : Bs) (p : Addr) (ds' : List PyData) (s : Sl) (v : V) (H' : Hp) : Prop :=
  ∃ C' rs vs', Ex b.B C' ∧ Ex C' H' ∧ Ex b.H0 H' ∧ (∀ a, b.H0 a ≠ none → b.B a = none → C' a = none) ∧ C' p = none ∧ Has b.K C' H' [s] [some v] rs ∧ (∀ q ∈ rs, C' q = none ∧ b.H0 q = none ∧ q ≠ p) ∧ H' p = some (.lst vs') ∧ DpAll b.K C' vs' ds'
def spM (K : PySem.W.Frag) (f : List PyData → List PyData → List PyData → Sl → Prop) : Sp := fun vs H Q _ => ∃ C p vs0 rest ds args ds' s, vs = .ref p :: rest ∧ H p = some (.lst vs0) ∧ C p = none ∧ Ex C H ∧ DpAll K C vs0 ds ∧ DpAll K C rest args ∧
  f ds args ds' s ∧ ∀ v H', RetM K H C p ds' s v H' → Q v H'
theorem Has.own_z {K : PySem.W.Frag} {C H : Hp} {Γ : List Sl} {σ : L2.St} {ps : List Addr} (h : Has K C H Γ σ ps) : ∀ {i : Nat} {z : Option Addr} {ds : List PyData}, Γ[i]? = some (.ownq z ds) → ∃ p, σ[i]? = some (some (.ref p)) ∧ p ∈ ps ∧ ∀ r, z = some r → r = p := by
  induction h with
  | nil => intro i z ds e; simp at e
  | no q ih =>
    intro i z ds e
    cases i with
    | zero => simp at e
    | succ i => obtain ⟨p, h1, h2, h3⟩ := ih (by simpa using e); exact ⟨p, by simpa using h1, h2, h3⟩
  | dat dd q ih =>
    intro i z ds e
    cases i with
    | zero => simp at e
    | succ i => obtain ⟨p, h1, h2, h3⟩ := ih (by simpa using e); exact ⟨p, by simpa using h1, h2, h3⟩
  | own y0 e0 d0 q ih =>
    intro i z ds e
    cases i with
    | zero => simp at e; obtain ⟨rfl, rfl⟩ := e; exact ⟨_, rfl, List.mem_cons_self, y0⟩
    | succ i => obtain ⟨p, h1, h2, h3⟩ := ih (by simpa using e); exact ⟨p, by simpa using h1, List.mem_cons_of_mem _ h2, h3⟩
section
variable {b : Bs} {C : Hp} {T Γ Γ' Γ1 Γ2 : List Sl} {τ σ : L2.St} {H H' : Hp} {s s' : Sl} {v : V} {d e : PyData} {ds ds' es args : List PyData} {vs : List V}
theorem HsC.stepM {i : Nat} {z : Option Addr} {p : Addr} (h : HsC b C T τ Γ σ H) (e : Γ[i]? = some (.ownq z ds)) (ep : σ[i]? = some (some (.ref p))) (r : RetM b.K H C p ds' s v H') : Hs b (s :: T) (some v :: τ) (Γ.set i (.ownq z ds')) σ H' := by
  obtain ⟨ps, qs, c, h1, h2⟩ := h
  obtain ⟨C', rs, vs', e1, e2, e3, fr, h3, ow, hp', dv'⟩ := r
  have nd := List.nodup_append.mp c.nd
  obtain ⟨p1, g1, g2, g3⟩ := h2.own_z e
  have ep1 : p1 = p := by
    rw [ep] at g1
    injection g1 with g1; injection g1 with g1; injection g1 with g1; exact g1.symm
  subst ep1
  have hsome : ∀ q ∈ ps ++ qs, ∃ xs, H q = some (.lst xs) := fun q hq => by
    rcases List.mem_append.mp hq with y | y
    · exact h1.own_some q y
    · exact h2.own_some q y
  have hCn : ∀ q ∈ ps ++ qs, C' q = none := fun q hq => by
    obtain ⟨xs, hx⟩ := hsome q hq
    exact fr q (by rw [hx]; intro y; cases y) (c.ow q hq).1
  have hpT : ∀ q ∈ ps, q ≠ p1 := fun q hq => nd.2.2 q hq p1 g2
  have hT : Has b.K C' H' (s :: T) (some v :: τ) (rs ++ ps) := by
    have h1' := h1.mono e1 (fun q hq o y => e3 q o (hpT q hq) y)
    cases h3 with
    | no y => cases y; exact .no h1'
    | dat q y => cases y; exact .dat q h1'
    | own y0 q q2 y => cases y; exact .own y0 q q2 h1'
  have h2' := h2.mono (C' := C') (H' := H) e1 (fun _ _ _ y => y)
  obtain ⟨p2, vs2, k1, k2, k3, k4, k5⟩ := h2'.own_at e nd.2.1
  have ep2 : p2 = p1 := by
    rw [ep] at k1
    injection k1 with k1; injection k1 with k1; injection k1 with k1; exact k1.symm
  subst ep2
  have h5 := (k5 vs' ds' dv').mono (C' := C') (H' := H') (Ex.refl C') (fun q hq o y => by
    by_cases hqp : q = p2
    · subst hqp; rw [upd_same] at y; cases y; exact hp'
    · rw [upd_ne hqp] at y; exact e3 q o hqp y)
  refine ⟨C', rs ++ ps, qs, ⟨c.bc.trans e1, e2, fun a o y => e3 a o (fun y2 => ?_) (c.h0 a o y), fun a y1 y2 => ?_, fun q hq => ?_, ?_⟩, hT, h5⟩
  · rw [y2, (c.ow p2 (List.mem_append_right _ g2)).2] at y; cases y
  · refine fr a (fun q => ?_) (c.fr a y1 y2)
    cases z1 : b.H0 a with
    | none => exact y1 z1
    | some o => rw [c.h0 a o z1] at q; cases q
  · rw [List.append_assoc] at hq
    rcases List.mem_append.mp hq with y | y
    · exact ⟨(ow q y).1, ex_none c.h0 (ow q y).2⟩
    · exact ⟨hCn q y, (c.ow q y).2⟩
  · rw [List.append_assoc]
    refine List.nodup_append.mpr ⟨?_, c.nd, fun q hq q' hq' eq => ?_⟩
    · cases h3 with
      | no y => cases y; exact List.nodup_nil
      | dat _ y => cases y; exact List.nodup_nil
      | own _ _ _ y => cases y; simp
    · subst eq
      obtain ⟨xs, hx⟩ := hsome q hq'
      rw [(ow q hq).2] at hx; cases hx
theorem s_callM {i : Nat} {z : Option Addr} {ta : TA} {f : List PyData → List PyData → List PyData → Sl → Prop} {E : XK} (h : Γ[i]? = some (.ownq z ds)) (ha : EvA b ta Γ Γ args) (hf : f ds args ds' s) :
    EvS b (tCall (spM b.K f) [] E (tCons (tVar i) ta)) Γ (Γ.set i (.ownq z ds')) s := fun T τ σ H hs Q q => by
  obtain ⟨C0, hs0⟩ := hs
  obtain ⟨p, vs0, g1, g2, g3, _⟩ := hs0.own_at h
  refine ⟨.ref p, g1, ha T τ σ H ⟨C0, hs0⟩ _ fun rest H1 C h1 dv => ?_⟩
  obtain ⟨p', vs1, f1, f2, f3, _⟩ := h1.own_at h
  rw [g1] at f1
  cases f1
  have hC : C p = none := by
    obtain ⟨ps, qs, c, k1, k2⟩ := h1
    obtain ⟨p1, m1, m2, _⟩ := k2.own_z h
    rw [g1] at m1
    cases m1
    exact (c.ow p (List.mem_append_right _ m2)).1
  rw [List.append_nil]
  exact ⟨C, p, vs1, rest, ds, args, ds', s, rfl, f2, hC, h1.ch, f3, dv, hf, fun v H' r => q v H' (h1.stepM h g1 r)⟩
theorem n_retM {te : TE} {D : Ends} {p : Addr} {i : Nat} (h : EvS b te Γ Γ1 s) (e : Γ1[i]? = some (.ownq (some p) ds')) (k : ∀ v H', RetB b p ds' s v H' → D.rt v H') : Nx b (tRet te D) T τ Γ := fun σ H hs => h T τ σ H hs _ fun v H' h' => by
  refine k v H' ?_
  obtain ⟨C, ps, qs, c, h1, h2⟩ := h'
  have nd := List.nodup_append.mp c.nd
  obtain ⟨p1, vs1, g1, g2, g3, g4, _⟩ := h2.own_at e nd.2.1
  obtain ⟨p2, k1, k2, k3⟩ := h2.own_z e
  have e2 := k3 p rfl
  subst e2
  rw [k1] at g1
  cases g1
  have main : ∀ {rs ps' : List Addr}, Has b.K C H' [s] [some v] rs → ps = rs ++ ps' → RetB b p ds' s v H' := by
    rintro rs ps' r rfl
    refine ⟨C, rs, vs1, c.bc, c.ch, c.h0, c.fr, (c.ow p (List.mem_append_right _ k2)).1, r, fun q hq => ⟨(c.ow q (List.mem_append_left _ (List.mem_append_left _ hq))).1, (c.ow q (List.mem_append_left _ (List.mem_append_left _ hq))).2, nd.2.2 q (List.mem_append_left _ hq) p k2⟩, g3, g4⟩
  cases h1 with
  | no h1 => exact main (.no .nil) rfl
  | dat q h1 => exact main (.dat q .nil) rfl
  | own y q q2 h1 => exact main (.own y q q2 .nil) rfl
end
def Γ0M (n : Nat) (p : Addr) (ds args : List PyData) : List Sl := .ownq (some p) ds :: (args.map Sl.dat ++ List.replicate (n - (args.length + 1)) Sl.no)
theorem fn_okM {P : Program} {w : World} {K : PySem.W.Frag} {mg : Str → Option Value} {base : Heap} {x qual : Str} {st : Stmt} {f : Addr} {fd : FuncData} {N ps : List Str} {k : Nat} {gr : List PyData → List PyData → List PyData → Sl → Prop} {tr : PySem.W.Frag → TS}
    (F : Fun K x qual st f fd) (S : FnScope N ps (defScope st)) (len : ∀ ds args ds' s, gr ds args ds' s → args.length + 1 = ps.length)
    (pst : ∀ (cdv : Value) (A : Around) (outer : List Env) (s : Shared) (H : Hp) (E : XK), Room k (A.deeper (envOfC qual (defScope st) s.heap.objs.size f cdv)) → PSs (cxOf CX0 P w K mg base N qual (defScope st) f cdv A outer s H E).nox (defBody st) (tr K))
    (rd : ∀ (b : Bs) (D : Ends) (p : Addr) ds args ds' s, gr ds args ds' s → (∀ v H', RetB b p ds' s v H' → D.rt v H') → Nx b (tr b.K D) [] [] (Γ0M N.length p ds args)) :
    FnOk P w K mg base CX0 (k + 1) f fd ps (spM K gr) := by
  refine F.ok S (fun vs H Q E h => ?_) (fun cdv A outer s H vs Q E hr h => ?_)
  · obtain ⟨C, p, vs0, rest, ds, args, ds', s, rfl, _, _, _, _, da, g, _⟩ := h
    rw [List.length_cons, dpa_len da]; exact len ds args ds' s g
  · obtain ⟨C, p, vs0, rest, ds, args, ds', sl, rfl, hp, hC, ex, dv, da, g, q⟩ := h
    refine ⟨_, pst cdv A outer s H E hr, ?_⟩
    let Hd : Hp := fun a => if a = p then none else H a
    have hd : Ex Hd H := fun a o y => by
      show H a = some o
      have y2 : (if a = p then none else H a) = some o := y
      by_cases hap : a = p
      · rw [if_pos hap] at y2; cases y2
      · rw [if_neg hap] at y2; exact y2
    have hdp : Hd p = none := if_pos rfl
    refine rd ⟨K, Hd, C⟩ _ p ds args ds' sl g (fun v H' r => q v H' ?_) _ _ ⟨C, [], [p], ⟨Ex.refl C, ex, hd, fun _ _ y => y, fun a ha => ?_, by simp⟩, .nil, ?_⟩
    · obtain ⟨C', rs, vs', a1, a2, a3, a4, a5, a6, a7, a8, a9⟩ := r
      refine ⟨C', rs, vs', a1, a2, fun a o hap y => a3 a o ?_, fun a y1 y2 => ?_, a6, fun c hc => ⟨(a7 c hc).1, ?_⟩, a8, a9⟩
      · show (if a = p then none else H a) = some o
        rw [if_neg hap]; exact y
      · by_cases hap : a = p
        · rw [hap]; exact a5
        · exact a4 a (by show (if a = p then none else H a) ≠ none; rw [if_neg hap]; exact y1) y2
      · have h0 : (if c = p then none else H c) = none := (a7 c hc).2.1
        rw [if_neg (a7 c hc).2.2] at h0; exact h0
    · rcases List.mem_singleton.mp ha with rfl
      exact ⟨hC, hdp⟩
    · have := has_dats (K := K) (C := C) (H := H) (has_no (N.length - (args.length + 1))) da
      unfold L2.start Γ0M
      rw [List.length_cons, dpa_len da]
      exact .own (fun r y => (Option.some.inj y).symm ▸ rfl) hp dv this
end G
namespace G
open PySem PySem.Spec PyProof.Rows L2
open Evl (Ex ex_rd ex_l ex_t rMax2)
theorem kk_tt : kitB "tuple" "tuple" = some true := by decide +kernel
theorem kk_bb : kitB "bool" "bool" = some true := by decide +kernel
theorem kk_ll : kitB "list" "list" = some true := by decide +kernel
theorem kk_ii : kitB "int" "int" = some true := by decide +kernel
theorem kk_ss : kitB "str" "str" = some true := by decide +kernel
theorem kk_bi : kitB "bool" "int" = some true := by decide +kernel
theorem kk_ib : kitB "int" "bool" = some false := by decide +kernel
theorem kk_lt : kitB "list" "tuple" = some false := by decide +kernel
theorem kk_tl : kitB "tuple" "list" = some false := by decide +kernel
theorem kk_nt : kitB "NoneType" "tuple" = some false := by decide +kernel
theorem kk_it : kitB "int" "tuple" = some false := by decide +kernel
theorem kk_st : kitB "str" "tuple" = some false := by decide +kernel
theorem s_isiE {b : Bs} {Γ Γ1 : List Sl} {d : PyData} {ta : TE} {n : String} {k : Bool} (h : EvS b ta Γ Γ1 (.dat d)) (hk : kitB (kindOf d) n = some k) : EvS b (tCB (rIsi b.K) (tCons ta (tCons (tC (.ty n)) tNil))) Γ Γ1 (.dat (.bool k)) := s_isi h hk
theorem s_tupE {b : Bs} {Γ Γ1 : List Sl} {ds : List PyData} {ta : TA} (ha : EvA b ta Γ Γ1 ds) (hl : ds.length ≤ 100000) : EvS b (tTup ta) Γ Γ1 (.dat (.tuple ds)) := s_tup ha hl
theorem s_lstE {b : Bs} {Γ Γ1 : List Sl} {ds : List PyData} {ta : TA} (ha : EvA b ta Γ Γ1 ds) (hl : ds.length ≤ 100000) : EvS b (tLst ta) Γ Γ1 (.dat (.list ds)) := s_lstD ha hl
theorem divW {i j : Int} (h0 : 0 < j) (h : j < 2 ^ 64) : CDivW i j := ⟨h0, by
  have : j.natAbs < 2 ^ 64 := by omega
  exact Nat.lt_of_lt_of_le (PySem.Flt.log2_lt_of (by decide) this) (by decide)⟩
theorem mulL {i j : Int} (h0 : -(2 ^ 64) < i) (h : i < 2 ^ 64) : CMul i j ∨ CMulW i j := .inl (.inl ⟨h0, h⟩)
theorem mulR {i j : Int} (h0 : -(2 ^ 64) < j) (h : j < 2 ^ 64) : CMul i j ∨ CMulW i j := .inl (.inr ⟨h0, h⟩)
theorem cd_listD {K : PySem.W.Frag} {ds : List PyData} : CD K (rListOf K) [.list ds] (.dat (.list ds)) := fun C H vs ex dv Q q => by
  cases dv with | cons dx dv => cases dv; cases dx with
    | lst hq ha => exact ⟨_, _, rfl, .inl (ex_l ex hq), fun l hl => q _ _ (.list ex ha hl)⟩
theorem rd_eqS {K : PySem.W.Frag} {x y : Str} (h1 : PyData.canLay0 (.str x) = true) (h2 : PyData.canLay0 (.str y) = true) : RD K (rEqD K) (.str x) (.str y) (.dat (.bool (decide (x = y)))) := by
  have := rd_eqD (K := K) (d := .str x) (e := .str y) (by simp [SeqAt.shaped, h1, PyData.depth]) (by simp [SeqAt.shaped, h2, PyData.depth])
  rwa [eqv_str] at this
theorem dp_str {K : PySem.W.Frag} {C : Hp} : ∀ {xs : List Str} {vs : List V}, DpAll K C vs (xs.map .str) → vs = xs.map V.str
  | [], _, .nil => rfl
  | x :: xs, _, .cons r t => by
    cases r
    rw [dp_str t]; rfl
theorem in_str (x : Str) : ∀ xs : List Str, inV (.str x) (xs.map V.str) = xs.any (· == x)
  | [] => rfl
  | y :: xs => by
    have := in_str x xs
    unfold inV at this ⊢
    rw [List.map_cons, List.any_cons, List.any_cons, this]; rfl
theorem rd_inS {K : PySem.W.Frag} {x : Str} {xs : List Str} : RD K (rIn K false) (.str x) (.tuple (xs.map .str)) (.dat (.bool (xs.any (· == x)))) := fun C H v y ex dx dy Q q => by
  cases dx
  cases dy with
  | tup hq ha =>
    have e := dp_str ha
    subst e
    refine ⟨_, _, rfl, .inr (ex_t ex hq), rfl, ?_, ?_⟩
    · rw [List.all_map]; exact List.all_eq_true.mpr fun _ _ => rfl
    · show Q (.bl (inV (.str x) (xs.map V.str))) H
      rw [in_str]
      exact q _ _ (.same ex (.bl _))
theorem s_chain {b : Bs} {Γ : List Sl} {r r' : R2} {ta tb tc : TE} {d e f : PyData} {k l : Bool} (ha : EvS b ta Γ Γ (.dat d)) (hb : EvS b tb Γ Γ (.dat e)) (hr : RD b.K r d e (.dat (.bool k))) (hc : EvS b tc Γ Γ (.dat f)) (hr' : RD b.K r' e f (.dat (.bool l))) :
    EvS b (tChain r r' ta tb tc) Γ Γ (.dat (.bool (k && l))) := fun T τ σ H hs Q q =>
  ha T τ σ H hs _ fun x H1 h1 => hb _ _ σ H1 h1 _ fun y H2 h2 => by
    obtain ⟨C, dy, h3⟩ := h2.pop
    obtain ⟨dx, h4⟩ := h3.pop
    refine hr C H2 x y h4.ch dx dy _ fun v H3 rt => ?_
    obtain ⟨C3, dv, h6⟩ := ((h4.push dy).step rt).pop
    cases dv
    refine ⟨k, rfl, ?_⟩
    cases k with
    | false =>
      obtain ⟨_, h7⟩ := h6.pop
      exact iteF (q _ H3 ⟨C3, h7.push (.bl _)⟩)
    | true =>
      refine iteT (hc _ _ σ H3 ⟨C3, h6⟩ _ fun z H4 h8 => ?_)
      obtain ⟨C4, dz, h9⟩ := h8.pop
      obtain ⟨dy4, h10⟩ := h9.pop
      exact hr' C4 H4 y z h10.ch dy4 dz Q fun v H5 rt => q v H5 (h10.step rt)
theorem s_notN {b : Bs} {Γ Γ1 : List Sl} {ta : TE} {d : PyData} (h : EvS b ta Γ Γ1 (.dat d)) (hk : d ≠ .none) : EvS b (tOp rNotN ta (tC .non)) Γ Γ1 (.dat (.bool true)) := fun T τ σ H hs Q q => h T τ σ H hs _ fun v H' h' => by
  obtain ⟨C, dv, h3⟩ := h'.pop
  refine ⟨rfl, ?_⟩
  have : v ≠ .non := fun e => by subst e; cases dv; exact hk rfl
  rw [decide_eq_false this]
  exact q _ H' ⟨C, h3.push (.bl _)⟩
theorem s_notN0 {b : Bs} {Γ Γ1 : List Sl} {ta : TE} (h : EvS b ta Γ Γ1 (.dat .none)) : EvS b (tOp rNotN ta (tC .non)) Γ Γ1 (.dat (.bool false)) := fun T τ σ H hs Q q => h T τ σ H hs _ fun v H' h' => by
  obtain ⟨C, dv, h3⟩ := h'.pop
  cases dv
  refine ⟨rfl, ?_⟩
  rw [decide_eq_true rfl]
  exact q _ H' ⟨C, h3.push (.bl _)⟩
local macro_rules | `(tactic| walk_at "g_sd") => `(tactic| first | with_reducible assumption | omega | (simp; done) | (simp; omega))
local macro_rules | `(tactic| walk_at "g_so") => `(tactic| first | with_reducible assumption | omega)
local macro_rules | `(tactic| walk_at "g_hc") => `(tactic| first | walk_at "g_so" | (dsimp only; walk_at "g_so") | (refine divW ?_ ?_; all_goals walk_at "g_so") | (refine mulR ?_ ?_; all_goals walk_at "g_so") | (refine mulL ?_ ?_; all_goals walk_at "g_so") | (refine ⟨by omega, by omega, by decide⟩))
local macro_rules | `(tactic| walk_at "g_rd") => `(tactic| first | with_reducible exact rd_int | with_reducible exact rd_bl | with_reducible exact rd_eqI | with_reducible exact rd_neI | with_reducible exact rd_eqB | with_reducible exact rd_neB | with_reducible exact rd_eqT | with_reducible exact rd_neT | with_reducible exact rd_eqL | with_reducible exact rd_neL | with_reducible exact rd_inS | (with_reducible refine rd_eqS (by decide +kernel) (by decide +kernel)) | ((with_reducible refine rd_intC ?_); walk_at "g_hc") | ((with_reducible refine rd_ixTi ?_ ?_); all_goals walk_at "g_sd") | ((with_reducible refine rd_ixLi ?_ ?_); all_goals walk_at "g_sd") | ((with_reducible apply rd_ixT); exact rfl) | ((with_reducible apply rd_ixL); exact rfl))
local macro_rules | `(tactic| walk_at "g_cd") => `(tactic| first | with_reducible exact cd_lenTi | with_reducible exact cd_lenLi | with_reducible exact cd_int | with_reducible exact cd_intB | with_reducible exact cd_max2 | with_reducible exact cd_min2 | with_reducible exact cd_abs | with_reducible exact cd_tupL | with_reducible exact cd_tupT | with_reducible exact cd_all | with_reducible exact cd_any | with_reducible exact cd_lenL | with_reducible exact cd_lenT | with_reducible exact cd_listL | with_reducible exact cd_listD | with_reducible exact cd_listT)
local macro_rules | `(tactic| walk_at "g_ea") => `(tactic| first | with_reducible exact a_nil | ((with_reducible apply a_cons); (case ha => walk_at "g_ev"); (case hr => walk_at "g_ea")))
local macro_rules | `(tactic| walk_at "g_call") => `(tactic| fail "no call rule")
local macro_rules | `(tactic| walk_at "g_ev") => `(tactic| first | ((with_reducible apply s_var); exact rfl) | with_reducible exact s_int | with_reducible exact s_bl | with_reducible exact s_str | with_reducible exact s_non | ((with_reducible apply s_isiE); (case h => walk_at "g_ev"); (case hk => first | exact kk_tt | exact kk_bb | exact kk_ll | exact kk_ii | exact kk_ss | exact kk_bi | exact kk_ib | exact kk_lt | exact kk_tl | exact kk_nt | exact kk_it | exact kk_st)) | ((with_reducible apply s_ixO); (case h => exact rfl); (case hb => walk_at "g_ev"); (case ha => exact rfl)) | ((with_reducible apply s_notN); (case h => walk_at "g_ev"); (case hk => (intro h; cases h))) | ((with_reducible apply s_notN0); walk_at "g_ev") | ((with_reducible apply s_chain); (case ha => walk_at "g_ev"); (case hb => walk_at "g_ev"); (case hr => walk_at "g_rd"); (case hc => walk_at "g_ev"); (case hr' => walk_at "g_rd")) | ((with_reducible apply s_op); (case ha => walk_at "g_ev"); (case hb => walk_at "g_ev"); (case hr => walk_at "g_rd")) | ((with_reducible apply s_un); (case ha => walk_at "g_ev"); (case hr => exact ud_neg)) | walk_at "g_call" | ((with_reducible apply s_lenO); exact rfl) | ((with_reducible apply s_cb); (case ha => walk_at "g_ea"); (case hr => walk_at "g_cd")) | ((with_reducible apply s_tupE); (case ha => walk_at "g_ea"); (case hl => exact Nat.le_of_ble_eq_true rfl)) | ((with_reducible apply s_lstE); (case ha => walk_at "g_ea"); (case hl => exact Nat.le_of_ble_eq_true rfl)) | ((with_reducible apply s_notV); walk_at "g_ev"))
local macro_rules | `(tactic| walk_at "g_et") => `(tactic| first | ((with_reducible apply t_test); walk_at "g_ev") | ((with_reducible apply t_not); walk_at "g_et") | ((with_reducible apply t_and); (case h => walk_at "g_et"); (case h2 => intro _; walk_at "g_et")) | ((with_reducible apply t_or); (case h => walk_at "g_et"); (case h2 => intro _; walk_at "g_et")) | ((with_reducible apply t_B); walk_at "g_ev"))
local macro_rules | `(tactic| walk_at "g_wk") => `(tactic| repeat (first | exact trivial | refine ⟨.inl rfl, ?_⟩ | refine ⟨.inr rfl, ?_⟩))
/-! ### the tape -/
structure Tp where
  pos : Int
  rest : Int
  seed : Int
def tp (ns : List Int) (t : Tp) : List PyData := [li ns, .int t.pos, .int t.rest, .int t.seed]
def cellF (ns : List Int) (t : Tp) : Int := if t.pos < ns.length then ((ns.getD t.pos.toNat 0).natAbs : Int) else 0
def posF (ns : List Int) (t : Tp) : Int := if t.pos < ns.length then t.pos + 1 else t.pos
def seedF (ns : List Int) (t : Tp) : Int := (t.seed * 69621 + cellF ns t * 40692 + 17) % 2147483647
def nextV (ns : List Int) (t : Tp) (many : Int) : Int :=
  if t.rest = 0 then (if cellF ns t < 10 ^ 18 then seedF ns t / 5 * 48271 % 2147483647 % many else cellF ns t % many) else t.rest % many
def nextT (ns : List Int) (t : Tp) (many : Int) : Tp :=
  if t.rest = 0 then (if cellF ns t < 10 ^ 18 then ⟨posF ns t, t.rest, seedF ns t⟩ else ⟨posF ns t, cellF ns t / many, t.seed⟩) else ⟨t.pos, t.rest / many, t.seed⟩
def gr__law_next (ds args ds' : List PyData) (s : Sl) : Prop := ∃ (ns : List Int) (t : Tp) (many : Int), 0 ≤ t.pos ∧ 0 < many ∧ many < 2 ^ 62 ∧ ds = tp ns t ∧ args = [.int many] ∧ ds' = tp ns (nextT ns t many) ∧ s = .dat (.int (nextV ns t many))
def sp__law_next (K : PySem.W.Frag) : Sp := spM K gr__law_next
/-! ### instructions -/
inductive Ins where
  | set (r n : Int) | copy (r s : Int) | add (r s t : Int) | sub (r s t : Int) | mul (r s t : Int) | jump (p : Int) | branch (r p : Int) | load (r s : Int) | store (s r : Int)
def Ins.d : Ins → PyData
  | .set r n => .tuple [.str "set", .int r, .int n]
  | .copy r s => .tuple [.str "copy", .int r, .int s]
  | .add r s t => .tuple [.str "add", .int r, .int s, .int t]
  | .sub r s t => .tuple [.str "sub", .int r, .int s, .int t]
  | .mul r s t => .tuple [.str "mul", .int r, .int s, .int t]
  | .jump p => .tuple [.str "jump", .int p]
  | .branch r p => .tuple [.str "branch", .int r, .int p]
  | .load r s => .tuple [.str "load", .int r, .int s]
  | .store s r => .tuple [.str "store", .int s, .int r]
def rg (r : Int) : Prop := 0 ≤ r ∧ r < 8
def Ins.ok : Ins → Prop
  | .set r n => rg r ∧ -(2 ^ 200) < n ∧ n < 2 ^ 200
  | .copy r s => rg r ∧ rg s
  | .add r s t => rg r ∧ rg s ∧ rg t
  | .sub r s t => rg r ∧ rg s ∧ rg t
  | .mul r s t => rg r ∧ rg s ∧ rg t
  | .jump _ => True
  | .branch r _ => rg r
  | .load r s => rg r ∧ rg s
  | .store s r => rg r ∧ rg s
def Ins.mem : Ins → Prop
  | .load _ _ => True | .store _ _ => True | _ => False
def Ins.calc : Ins → Prop
  | .set _ _ => True | .copy _ _ => True | .add _ _ _ => True | .sub _ _ _ => True | .mul _ _ _ => True | _ => False
abbrev g0 (rs : List Int) (k : Int) : Int := rs.getD k.toNat 0
def touchF (rs : List Int) (w : Int) : Ins → PyData
  | .load _ s => .tuple [.str "load", .int (g0 rs s % w)]
  | .store s _ => .tuple [.str "store", .int (g0 rs s % w)]
  | _ => .none
def resF (rs : List Int) : Ins → Int
  | .set _ n => n | .copy _ s => g0 rs s | .add _ s t => g0 rs s + g0 rs t | .sub _ s t => g0 rs s - g0 rs t | .mul _ s t => g0 rs s * g0 rs t | _ => 0
def Ins.target : Ins → Int
  | .set r _ => r | .copy r _ => r | .add r _ _ => r | .sub r _ _ => r | .mul r _ _ => r | _ => 0
def aftR (rs : List Int) : Ins → List Int
  | .jump _ => rs | .branch _ _ => rs | i => rs.set i.target.toNat (resF rs i)
def aftP (rs : List Int) (pl : Int) : Ins → Int
  | .jump p => p | .branch r p => if 0 < g0 rs r then p else pl + 1 | _ => pl + 1
def small (rs : List Int) : Prop := ∀ x ∈ rs, -(2 ^ 200) < x ∧ x < 2 ^ 200
def gr_value_in (ds : List PyData) (s : Sl) : Prop := ∃ (rs : List Int) (k : Int), 0 ≤ k ∧ k < rs.length ∧ ds = [li rs, .int k] ∧ s = .dat (.int (g0 rs k))
def gr_touch_of (ds : List PyData) (s : Sl) : Prop := ∃ (i : Ins) (rs : List Int) (w : Int), i.ok ∧ rs.length = 8 ∧ 0 < w ∧ ds = [i.d, li rs, .int w] ∧ s = .dat (touchF rs w i)
def gr_result_of (ds : List PyData) (s : Sl) : Prop := ∃ (i : Ins) (rs : List Int), i.ok ∧ i.calc ∧ rs.length = 8 ∧ small rs ∧ ds = [i.d, li rs] ∧ s = .dat (.int (resF rs i))
def gr_with_value (ds : List PyData) (s : Sl) : Prop := ∃ (rs : List Int) (k v : Int), 0 ≤ k ∧ rs.length ≤ 1000 ∧ ds = [li rs, .int k, .int v] ∧ s = .own ((rs.set k.toNat v).map .int)
def gr_after (ds : List PyData) (s : Sl) : Prop := ∃ (i : Ins) (rs : List Int) (pl : Int), i.ok ∧ ¬ i.mem ∧ rs.length = 8 ∧ small rs ∧ ds = [i.d, li rs, .int pl] ∧ s = .dat (.tuple [li (aftR rs i), .int (aftP rs pl i)])
def gr__law_due (ds : List PyData) (s : Sl) : Prop := gr_after ds s
def insI (ns : List Int) (t : Tp) : Ins :=
  let a := nextV ns t 9
  let t1 := nextT ns t 9
  let b0 := nextV ns t1 8
  let t2 := nextT ns t1 8
  let b1 := nextV ns t2 8
  let t3 := nextT ns t2 8
  let b2 := nextV ns t3 8
  let t4 := nextT ns t3 8
  if a = 0 then .set b0 (g0 [b1 - 4, 1000000000000000000000, -1000000000] (nextV ns t4 3))
  else if a = 1 then .copy b0 b1 else if a = 2 then .add b0 b1 b2 else if a = 3 then .sub b0 b1 b2 else if a = 4 then .mul b0 b1 b2
  else if a = 5 then .jump (nextV ns t4 50) else if a = 6 then .branch b0 (nextV ns t4 50) else if a = 7 then .load b0 b1 else .store b0 b1
def insT (ns : List Int) (t : Tp) : Tp :=
  let a := nextV ns t 9
  let t4 := nextT ns (nextT ns (nextT ns (nextT ns t 9) 8) 8) 8
  if a = 0 then nextT ns t4 3 else if a = 5 then nextT ns t4 50 else if a = 6 then nextT ns t4 50 else t4
def gr__law_instruction (ds args ds' : List PyData) (s : Sl) : Prop := ∃ (ns : List Int) (t : Tp), 0 ≤ t.pos ∧ ds = tp ns t ∧ args = [] ∧ ds' = tp ns (insT ns t) ∧ s = .dat (insI ns t).d
def gr_law (ds : List PyData) (s : Sl) : Prop := ∃ ns : List Int, ns.length ≤ 63 ∧ ds = [li ns] ∧ s = .dat (.bool true)
def sp_value_in (K : PySem.W.Frag) : Sp := spP K gr_value_in
def sp_touch_of (K : PySem.W.Frag) : Sp := spP K gr_touch_of
def sp_result_of (K : PySem.W.Frag) : Sp := spP K gr_result_of
def sp_with_value (K : PySem.W.Frag) : Sp := spP K gr_with_value
def sp_after (K : PySem.W.Frag) : Sp := spP K gr_after
def sp__law_instruction (K : PySem.W.Frag) : Sp := spM K gr__law_instruction
def sp__law_due (K : PySem.W.Frag) : Sp := spP K gr__law_due
def sp_law (K : PySem.W.Frag) : Sp := spP K gr_law
/-! ### the text -/
def topS (i : Nat) : Stmt := PySem.Challenge.pw_commonage_k26_instructions.main.body.getD i (.Pass ⟨0, 0, 0, 0⟩)
abbrev s_value_in : Stmt := topS 1
abbrev N_value_in : List Str := ["registers", "number"]
theorem sc_value_in : FnScope N_value_in ["registers", "number"] (defScope s_value_in) := ⟨rfl, rfl, rfl, by decide +kernel, rfl, by decide +kernel, by decide +kernel⟩
abbrev s_touch_of : Stmt := topS 2
abbrev N_touch_of : List Str := ["instruction", "registers", "words", "word"]
theorem sc_touch_of : FnScope N_touch_of ["instruction", "registers", "words"] (defScope s_touch_of) := ⟨rfl, rfl, rfl, by decide +kernel, rfl, by decide +kernel, by decide +kernel⟩
abbrev s_result_of : Stmt := topS 3
abbrev N_result_of : List Str := ["instruction", "registers", "word", "first", "second"]
theorem sc_result_of : FnScope N_result_of ["instruction", "registers"] (defScope s_result_of) := ⟨rfl, rfl, rfl, by decide +kernel, rfl, by decide +kernel, by decide +kernel⟩
abbrev s_with_value : Stmt := topS 4
abbrev N_with_value : List Str := ["registers", "number", "value", "at", "old"]
theorem sc_with_value : FnScope N_with_value ["registers", "number", "value"] (defScope s_with_value) := ⟨rfl, rfl, rfl, by decide +kernel, rfl, by decide +kernel, by decide +kernel⟩
abbrev s_after : Stmt := topS 5
abbrev N_after : List Str := ["instruction", "registers", "place", "word", "is_taken", "value"]
theorem sc_after : FnScope N_after ["instruction", "registers", "place"] (defScope s_after) := ⟨rfl, rfl, rfl, by decide +kernel, rfl, by decide +kernel, by decide +kernel⟩
abbrev s__law_next : Stmt := topS 7
abbrev N__law_next : List Str := ["tape", "many", "rest", "cell"]
theorem sc__law_next : FnScope N__law_next ["tape", "many"] (defScope s__law_next) := ⟨rfl, rfl, rfl, by decide +kernel, rfl, by decide +kernel, by decide +kernel⟩
abbrev s__law_instruction : Stmt := topS 8
abbrev N__law_instruction : List Str := ["tape", "name", "parts"]
theorem sc__law_instruction : FnScope N__law_instruction ["tape"] (defScope s__law_instruction) := ⟨rfl, rfl, rfl, by decide +kernel, rfl, by decide +kernel, by decide +kernel⟩
abbrev s__law_due : Stmt := topS 9
abbrev N__law_due : List Str := ["one", "registers", "place", "changed"]
theorem sc__law_due : FnScope N__law_due ["one", "registers", "place"] (defScope s__law_due) := ⟨rfl, rfl, rfl, by decide +kernel, rfl, by decide +kernel, by decide +kernel⟩
abbrev s_law : Stmt := topS 10
abbrev N_law : List Str := ["script", "tape", "registers", "place", "words", "turn", "one", "kept", "touch", "address", "told", "k", "value"]
theorem sc_law : FnScope N_law ["script"] (defScope s_law) := ⟨rfl, rfl, rfl, by decide +kernel, rfl, by decide +kernel, by decide +kernel⟩
def tr_value_in (K : PySem.W.Frag) : TS :=
(tSeq (tIfS (tTest (tChain (rI0 fun i j => .bl (decide (i ≤ j))) (rI0 fun i j => .bl (decide (i < j))) (tC (.int 0)) (tVar 1) (tCB (rLen K) (tCons (tVar 0) tNil))))
(tRet (tOp (rIx K) (tVar 0) (tVar 1)))
tNext)
(tRet (tC (.int 0))))
def tr_touch_of (K : PySem.W.Frag) : TS :=
(tSeq (tAsg (tOp (rIx K) (tVar 0) (tC (.int 0))) (gName 3))
(tSeq (tIfS (tTest (tOp (rEqD K) (tVar 3) (tC (.str "load"))))
(tRet (tTup (tCons (tC (.str "load")) (tCons (tOp (rI (fun _ j => 0 < j) fun i j => .int (i % j)) (tCall (sp_value_in K) [] E0 (tCons (tVar 1) (tCons (tOp (rIx K) (tVar 0) (tC (.int 2))) tNil))) (tVar 2)) tNil))))
tNext)
(tSeq (tIfS (tTest (tOp (rEqD K) (tVar 3) (tC (.str "store"))))
(tRet (tTup (tCons (tC (.str "store")) (tCons (tOp (rI (fun _ j => 0 < j) fun i j => .int (i % j)) (tCall (sp_value_in K) [] E0 (tCons (tVar 1) (tCons (tOp (rIx K) (tVar 0) (tC (.int 1))) tNil))) (tVar 2)) tNil))))
tNext)
(tRet (tC .non)))))
def tr_result_of (K : PySem.W.Frag) : TS :=
(tSeq (tAsg (tOp (rIx K) (tVar 0) (tC (.int 0))) (gName 2))
(tSeq (tIfS (tTest (tOp (rEqD K) (tVar 2) (tC (.str "set"))))
(tRet (tOp (rIx K) (tVar 0) (tC (.int 2))))
tNext)
(tSeq (tAsg (tCall (sp_value_in K) [] E0 (tCons (tVar 1) (tCons (tOp (rIx K) (tVar 0) (tC (.int 2))) tNil))) (gName 3))
(tSeq (tIfS (tTest (tOp (rEqD K) (tVar 2) (tC (.str "copy"))))
(tRet (tVar 3))
tNext)
(tSeq (tAsg (tCall (sp_value_in K) [] E0 (tCons (tVar 1) (tCons (tOp (rIx K) (tVar 0) (tC (.int 3))) tNil))) (gName 4))
(tSeq (tIfS (tTest (tOp (rEqD K) (tVar 2) (tC (.str "add"))))
(tRet (tOp (rI0 fun i j => .int (i + j)) (tVar 3) (tVar 4)))
tNext)
(tSeq (tIfS (tTest (tOp (rEqD K) (tVar 2) (tC (.str "sub"))))
(tRet (tOp (rI0 fun i j => .int (i - j)) (tVar 3) (tVar 4)))
tNext)
(tRet (tOp (rI (fun i j => CMul i j ∨ CMulW i j) fun i j => .int (i * j)) (tVar 3) (tVar 4))))))))))
def tr_with_value (K : PySem.W.Frag) : TS :=
(tRet (tLc (iEnumA K (tCons (tVar 0) tNil)) (gTup K 2 (gCons (gName 3) (gCons (gName 4) gNil))) tYes (tIf (tTest (tOp (rEqD K) (tVar 3) (tVar 1))) (tVar 2) (tVar 4)) [3, 4]))
def tr_after (K : PySem.W.Frag) : TS :=
(tSeq (tAsg (tOp (rIx K) (tVar 0) (tC (.int 0))) (gName 3))
(tSeq (tIfS (tTest (tOp (rEqD K) (tVar 3) (tC (.str "jump"))))
(tRet (tTup (tCons (tCB (rListOf K) (tCons (tVar 1) tNil)) (tCons (tOp (rIx K) (tVar 0) (tC (.int 1))) tNil))))
tNext)
(tSeq (tIfS (tTest (tOp (rEqD K) (tVar 3) (tC (.str "branch"))))
(tSeq (tAsg (tOp (rI0 fun i j => .bl (decide (j < i))) (tCall (sp_value_in K) [] E0 (tCons (tVar 1) (tCons (tOp (rIx K) (tVar 0) (tC (.int 1))) tNil))) (tC (.int 0))) (gName 4))
(tRet (tTup (tCons (tCB (rListOf K) (tCons (tVar 1) tNil)) (tCons (tIf (tB (tVar 4)) (tOp (rIx K) (tVar 0) (tC (.int 2))) (tOp (rI0 fun i j => .int (i + j)) (tVar 2) (tC (.int 1)))) tNil)))))
tNext)
(tSeq (tAsg (tCall (sp_result_of K) [] E0 (tCons (tVar 0) (tCons (tVar 1) tNil))) (gName 5))
(tRet (tTup (tCons (tCall (sp_with_value K) [] E0 (tCons (tVar 1) (tCons (tOp (rIx K) (tVar 0) (tC (.int 1))) (tCons (tVar 5) tNil)))) (tCons (tOp (rI0 fun i j => .int (i + j)) (tVar 2) (tC (.int 1))) tNil))))))))
def tr__law_next (K : PySem.W.Frag) : TS :=
(tSeq (tAsg (tOp (rIx K) (tVar 0) (tC (.int 2))) (gName 2))
(tSeq (tIfS (tTest (tOp (rEqD K) (tVar 2) (tC (.int 0))))
(tSeq (tAsg (tC (.int 0)) (gName 3))
(tSeq (tIfS (tTest (tOp (rI0 fun i j => .bl (decide (i < j))) (tOp (rIx K) (tVar 0) (tC (.int 1))) (tCB (rLen K) (tCons (tOp (rIx K) (tVar 0) (tC (.int 0))) tNil))))
(tSeq (tAsg (tCB rAbs (tCons (tCB rInt1 (tCons (tOp (rIx K) (tOp (rIx K) (tVar 0) (tC (.int 0))) (tOp (rIx K) (tVar 0) (tC (.int 1)))) tNil)) tNil)) (gName 3))
(tAsg (tOp (rI0 fun i j => .int (i + j)) (tOp (rIx K) (tVar 0) (tC (.int 1))) (tC (.int 1))) (gSub (tVar 0) (tC (.int 1)) rSetL)))
tNext)
(tSeq (tAsg (tVar 3) (gName 2))
(tIfS (tTest (tOp (rI0 fun i j => .bl (decide (i < j))) (tVar 3) (tOp (rI CPow fun i j => .int (i ^ j.toNat)) (tC (.int 10)) (tC (.int 18)))))
(tSeq (tAsg (tOp (rI (fun _ j => 0 < j) fun i j => .int (i % j)) (tCB rInt1 (tCons (tOp (rI0 fun i j => .int (i + j)) (tOp (rI0 fun i j => .int (i + j)) (tOp (rI (fun i j => CMul i j ∨ CMulW i j) fun i j => .int (i * j)) (tOp (rIx K) (tVar 0) (tC (.int 3))) (tC (.int 69621))) (tOp (rI (fun i j => CMul i j ∨ CMulW i j) fun i j => .int (i * j)) (tVar 3) (tC (.int 40692)))) (tC (.int 17))) tNil)) (tC (.int 2147483647))) (gSub (tVar 0) (tC (.int 3)) rSetL))
(tRet (tOp (rI (fun _ j => 0 < j) fun i j => .int (i % j)) (tOp (rI (fun _ j => 0 < j) fun i j => .int (i % j)) (tCB rInt1 (tCons (tOp (rI (fun i j => CMul i j ∨ CMulW i j) fun i j => .int (i * j)) (tOp (rI CDivW fun i j => .int (i / j)) (tOp (rIx K) (tVar 0) (tC (.int 3))) (tC (.int 5))) (tC (.int 48271))) tNil)) (tC (.int 2147483647))) (tVar 1))))
tNext))))
tNext)
(tSeq (tAsg (tOp (rI CDivW fun i j => .int (i / j)) (tVar 2) (tVar 1)) (gSub (tVar 0) (tC (.int 2)) rSetL))
(tRet (tOp (rI (fun _ j => 0 < j) fun i j => .int (i % j)) (tCB rInt1 (tCons (tVar 2) tNil)) (tVar 1))))))
def tr__law_instruction (K : PySem.W.Frag) : TS :=
(tSeq (tAsg (tOp (rIx K) (tLst (tCons (tC (.str "set")) (tCons (tC (.str "copy")) (tCons (tC (.str "add")) (tCons (tC (.str "sub")) (tCons (tC (.str "mul")) (tCons (tC (.str "jump")) (tCons (tC (.str "branch")) (tCons (tC (.str "load")) (tCons (tC (.str "store")) tNil)))))))))) (tCall (sp__law_next K) [] E0 (tCons (tVar 0) (tCons (tC (.int 9)) tNil)))) (gName 1))
(tSeq (tAsg (tLst (tCons (tCall (sp__law_next K) [] E0 (tCons (tVar 0) (tCons (tC (.int 8)) tNil))) (tCons (tCall (sp__law_next K) [] E0 (tCons (tVar 0) (tCons (tC (.int 8)) tNil))) (tCons (tCall (sp__law_next K) [] E0 (tCons (tVar 0) (tCons (tC (.int 8)) tNil))) tNil)))) (gName 2))
(tSeq (tIfS (tTest (tOp (rEqD K) (tVar 1) (tC (.str "set"))))
(tRet (tTup (tCons (tVar 1) (tCons (tOp (rIx K) (tVar 2) (tC (.int 0))) (tCons (tOp (rIx K) (tLst (tCons (tOp (rI0 fun i j => .int (i - j)) (tOp (rIx K) (tVar 2) (tC (.int 1))) (tC (.int 4))) (tCons (tOp (rI CPow fun i j => .int (i ^ j.toNat)) (tC (.int 10)) (tC (.int 21))) (tCons (tUn (rU fun i => .int (-i)) (tOp (rI CPow fun i j => .int (i ^ j.toNat)) (tC (.int 10)) (tC (.int 9)))) tNil)))) (tCall (sp__law_next K) [] E0 (tCons (tVar 0) (tCons (tC (.int 3)) tNil)))) tNil)))))
tNext)
(tSeq (tIfS (tTest (tOp (rEqD K) (tVar 1) (tC (.str "jump"))))
(tRet (tTup (tCons (tVar 1) (tCons (tCall (sp__law_next K) [] E0 (tCons (tVar 0) (tCons (tC (.int 50)) tNil))) tNil))))
tNext)
(tSeq (tIfS (tTest (tOp (rEqD K) (tVar 1) (tC (.str "branch"))))
(tRet (tTup (tCons (tVar 1) (tCons (tOp (rIx K) (tVar 2) (tC (.int 0))) (tCons (tCall (sp__law_next K) [] E0 (tCons (tVar 0) (tCons (tC (.int 50)) tNil))) tNil)))))
tNext)
(tSeq (tIfS (tTest (tOp (rIn K false) (tVar 1) (tTup (tCons (tC (.str "add")) (tCons (tC (.str "sub")) (tCons (tC (.str "mul")) tNil))))))
(tRet (tTup (tCons (tVar 1) (tCons (tOp (rIx K) (tVar 2) (tC (.int 0))) (tCons (tOp (rIx K) (tVar 2) (tC (.int 1))) (tCons (tOp (rIx K) (tVar 2) (tC (.int 2))) tNil))))))
tNext)
(tRet (tTup (tCons (tVar 1) (tCons (tOp (rIx K) (tVar 2) (tC (.int 0))) (tCons (tOp (rIx K) (tVar 2) (tC (.int 1))) tNil)))))))))))
def tr__law_due (K : PySem.W.Frag) : TS :=
(tSeq (tAsg (tCB (rListOf K) (tCons (tVar 1) tNil)) (gName 3))
(tSeq (tIfS (tTest (tOp (rEqD K) (tOp (rIx K) (tVar 0) (tC (.int 0))) (tC (.str "jump"))))
(tRet (tTup (tCons (tVar 3) (tCons (tOp (rIx K) (tVar 0) (tC (.int 1))) tNil))))
tNext)
(tSeq (tIfS (tTest (tOp (rEqD K) (tOp (rIx K) (tVar 0) (tC (.int 0))) (tC (.str "branch"))))
(tRet (tTup (tCons (tVar 3) (tCons (tOp (rIx K) (tLst (tCons (tOp (rI0 fun i j => .int (i + j)) (tVar 2) (tC (.int 1))) (tCons (tOp (rIx K) (tVar 0) (tC (.int 2))) tNil))) (tCB rInt1 (tCons (tOp (rI0 fun i j => .bl (decide (j < i))) (tOp (rIx K) (tVar 1) (tOp (rIx K) (tVar 0) (tC (.int 1)))) (tC (.int 0))) tNil))) tNil))))
tNext)
(tSeq (tIfS (tTest (tOp (rEqD K) (tOp (rIx K) (tVar 0) (tC (.int 0))) (tC (.str "set"))))
(tAsg (tOp (rIx K) (tVar 0) (tC (.int 2))) (gSub (tVar 3) (tOp (rIx K) (tVar 0) (tC (.int 1))) rSetL))
(tIfS (tTest (tOp (rEqD K) (tOp (rIx K) (tVar 0) (tC (.int 0))) (tC (.str "copy"))))
(tAsg (tOp (rIx K) (tVar 1) (tOp (rIx K) (tVar 0) (tC (.int 2)))) (gSub (tVar 3) (tOp (rIx K) (tVar 0) (tC (.int 1))) rSetL))
(tIfS (tTest (tOp (rEqD K) (tOp (rIx K) (tVar 0) (tC (.int 0))) (tC (.str "add"))))
(tAsg (tOp (rI0 fun i j => .int (i + j)) (tOp (rIx K) (tVar 1) (tOp (rIx K) (tVar 0) (tC (.int 2)))) (tOp (rIx K) (tVar 1) (tOp (rIx K) (tVar 0) (tC (.int 3))))) (gSub (tVar 3) (tOp (rIx K) (tVar 0) (tC (.int 1))) rSetL))
(tIfS (tTest (tOp (rEqD K) (tOp (rIx K) (tVar 0) (tC (.int 0))) (tC (.str "sub"))))
(tAsg (tOp (rI0 fun i j => .int (i - j)) (tOp (rIx K) (tVar 1) (tOp (rIx K) (tVar 0) (tC (.int 2)))) (tOp (rIx K) (tVar 1) (tOp (rIx K) (tVar 0) (tC (.int 3))))) (gSub (tVar 3) (tOp (rIx K) (tVar 0) (tC (.int 1))) rSetL))
(tAsg (tOp (rI (fun i j => CMul i j ∨ CMulW i j) fun i j => .int (i * j)) (tOp (rIx K) (tVar 1) (tOp (rIx K) (tVar 0) (tC (.int 2)))) (tOp (rIx K) (tVar 1) (tOp (rIx K) (tVar 0) (tC (.int 3))))) (gSub (tVar 3) (tOp (rIx K) (tVar 0) (tC (.int 1))) rSetL))))))
(tRet (tTup (tCons (tVar 3) (tCons (tOp (rI0 fun i j => .int (i + j)) (tVar 2) (tC (.int 1))) tNil))))))))
def tr_law (K : PySem.W.Frag) : TS :=
(tSeq (tAsg (tLst (tCons (tCB (rListOf K) (tCons (tVar 0) tNil)) (tCons (tC (.int 0)) (tCons (tC (.int 0)) (tCons (tC (.int 5)) tNil))))) (gName 1))
(tSeq (tAsg (tLc (iRng1 (tCons (tC (.int 8)) tNil)) (gName 11) tYes (tOp (rIx K) (tLst (tCons (tCall (sp__law_next K) [] E0 (tCons (tVar 1) (tCons (tC (.int 9)) tNil))) (tCons (tUn (rU fun i => .int (-i)) (tC (.int 3))) (tCons (tOp (rI CPow fun i j => .int (i ^ j.toNat)) (tC (.int 10)) (tC (.int 20))) (tCons (tC (.int 0)) tNil))))) (tCall (sp__law_next K) [] E0 (tCons (tVar 1) (tCons (tC (.int 4)) tNil)))) [11]) (gName 2))
(tSeq (tAsg (tCall (sp__law_next K) [] E0 (tCons (tVar 1) (tCons (tC (.int 20)) tNil))) (gName 3))
(tSeq (tAsg (tOp (rI (fun i j => CMul i j ∨ CMulW i j) fun i j => .int (i * j)) (tC (.int 4)) (tOp (rI0 fun i j => .int (i + j)) (tC (.int 1)) (tCall (sp__law_next K) [] E0 (tCons (tVar 1) (tCons (tC (.int 12)) tNil))))) (gName 4))
(tSeq (tFor (iRng1 (tCons (tOp (rI0 fun i j => .int (i + j)) (tC (.int 1)) (tCall (sp__law_next K) [] E0 (tCons (tVar 1) (tCons (tC (.int 30)) tNil)))) tNil)) (gName 5)
(tSeq (tAsg (tCall (sp__law_instruction K) [] E0 (tCons (tVar 1) tNil)) (gName 6))
(tSeq (tAsg (tCB (rListOf K) (tCons (tVar 2) tNil)) (gName 7))
(tSeq (tAsg (tCall (sp_touch_of K) [] E0 (tCons (tVar 6) (tCons (tVar 2) (tCons (tVar 4) tNil)))) (gName 8))
(tIfS (tOr (tTest (tOp (rEqD K) (tOp (rIx K) (tVar 6) (tC (.int 0))) (tC (.str "load")))) (tTest (tOp (rEqD K) (tOp (rIx K) (tVar 6) (tC (.int 0))) (tC (.str "store")))))
(tSeq (tAsg (tOp (rIx K) (tVar 2) (tOp (rIx K) (tVar 6) (tC (.int 2)))) (gName 9))
(tSeq (tIfS (tTest (tOp (rEqD K) (tOp (rIx K) (tVar 6) (tC (.int 0))) (tC (.str "store"))))
(tAsg (tOp (rIx K) (tVar 2) (tOp (rIx K) (tVar 6) (tC (.int 1)))) (gName 9))
tNext)
(tIfS (tOr (tTest (tOp (rNeD K) (tVar 8) (tTup (tCons (tOp (rIx K) (tVar 6) (tC (.int 0))) (tCons (tOp (rI (fun _ j => 0 < j) fun i j => .int (i % j)) (tCB rInt1 (tCons (tVar 9) tNil)) (tVar 4)) tNil))))) (tTest (tOp (rNeD K) (tVar 2) (tVar 7))))
(tRet (tC (.bl false)))
tNext)))
(tSeq (tAsg (tCall (sp_after K) [] E0 (tCons (tVar 6) (tCons (tVar 2) (tCons (tVar 3) tNil)))) (gName 10))
(tSeq (tIfS (tOr (tTest (tOp rNotN (tVar 8) (tC .non))) (tOr (tTest (tOp (rNeD K) (tVar 2) (tVar 7))) (tNot (tB (tCB (rIsi K) (tCons (tVar 10) (tCons (tC (.ty "tuple")) tNil)))))))
(tRet (tC (.bl false)))
tNext)
(tSeq (tIfS (tTest (tOp (rNeD K) (tVar 10) (tCall (sp__law_due K) [] E0 (tCons (tVar 6) (tCons (tVar 2) (tCons (tVar 3) tNil))))))
(tRet (tC (.bl false)))
tNext)
(tSeq (tAsg (tVar 10) (gTup K 2 (gCons (gName 2) (gCons (gName 3) gNil))))
(tAsg (tLc (iList K (tVar 2)) (gName 12) tYes (tCB rMin2 (tCons (tCB rMax2 (tCons (tVar 12) (tCons (tUn (rU fun i => .int (-i)) (tOp (rI CPow fun i j => .int (i ^ j.toNat)) (tC (.int 10)) (tC (.int 40)))) tNil))) (tCons (tOp (rI CPow fun i j => .int (i ^ j.toNat)) (tC (.int 10)) (tC (.int 40))) tNil))) [12]) (gName 2)))))))))))
(tRet (tC (.bl true))))))))
/-! ### what the top has left -/
structure Fx (K : PySem.W.Frag) (mg : Str → Option Value) where
  a_value_in : Addr
  d_value_in : FuncData
  F_value_in : Fun K "value_in" "value_in" s_value_in a_value_in d_value_in
  b_value_in : Binds K d_value_in ["registers", "number"] []
  g_value_in : mg "value_in" = some (.ref a_value_in)
  a_touch_of : Addr
  d_touch_of : FuncData
  F_touch_of : Fun K "touch_of" "touch_of" s_touch_of a_touch_of d_touch_of
  b_touch_of : Binds K d_touch_of ["instruction", "registers", "words"] []
  g_touch_of : mg "touch_of" = some (.ref a_touch_of)
  a_result_of : Addr
  d_result_of : FuncData
  F_result_of : Fun K "result_of" "result_of" s_result_of a_result_of d_result_of
  b_result_of : Binds K d_result_of ["instruction", "registers"] []
  g_result_of : mg "result_of" = some (.ref a_result_of)
  a_with_value : Addr
  d_with_value : FuncData
  F_with_value : Fun K "with_value" "with_value" s_with_value a_with_value d_with_value
  b_with_value : Binds K d_with_value ["registers", "number", "value"] []
  g_with_value : mg "with_value" = some (.ref a_with_value)
  a_after : Addr
  d_after : FuncData
  F_after : Fun K "after" "after" s_after a_after d_after
  b_after : Binds K d_after ["instruction", "registers", "place"] []
  g_after : mg "after" = some (.ref a_after)
  a__law_next : Addr
  d__law_next : FuncData
  F__law_next : Fun K "_law_next" "_law_next" s__law_next a__law_next d__law_next
  b__law_next : Binds K d__law_next ["tape", "many"] []
  g__law_next : mg "_law_next" = some (.ref a__law_next)
  a__law_instruction : Addr
  d__law_instruction : FuncData
  F__law_instruction : Fun K "_law_instruction" "_law_instruction" s__law_instruction a__law_instruction d__law_instruction
  b__law_instruction : Binds K d__law_instruction ["tape"] []
  g__law_instruction : mg "_law_instruction" = some (.ref a__law_instruction)
  a__law_due : Addr
  d__law_due : FuncData
  F__law_due : Fun K "_law_due" "_law_due" s__law_due a__law_due d__law_due
  b__law_due : Binds K d__law_due ["one", "registers", "place"] []
  g__law_due : mg "_law_due" = some (.ref a__law_due)
  a_law : Addr
  d_law : FuncData
  F_law : Fun K "law" "law" s_law a_law d_law
  b_law : Binds K d_law ["script"] []
  g_law : mg "law" = some (.ref a_law)
  m_abs : mg "abs" = none
  m_enumerate : mg "enumerate" = none
  m_int : mg "int" = none
  m_isinstance : mg "isinstance" = none
  m_len : mg "len" = none
  m_list : mg "list" = none
  m_max : mg "max" = none
  m_min : mg "min" = none
  m_range : mg "range" = none
  m_tuple : mg "tuple" = none
section
variable {P : Program} {w : World} {K : PySem.W.Frag} {mg : Str → Option Value} {base : Heap}
theorem ps_value_in (Z : Fx K mg)  {cdv : Value} {A : Around} {outer : List Env} {s : Shared} {H : Hp} {E : XK} (hr : Room 0 (A.deeper (envOfC "value_in" (defScope s_value_in) s.heap.objs.size Z.a_value_in cdv))) :
    PSs (cxOf CX0 P w K mg base N_value_in "value_in" (defScope s_value_in) Z.a_value_in cdv A outer s H E).nox (defBody s_value_in) (tr_value_in K) :=
  (pss_cons (ps_if (pt_chain op_le op_lt pe_int (pv 1) (pe_callB cr_len (by rfl) Z.m_len (by decide +kernel) (pa_cons (pv 0) pa_nil)))
(pss_one (ps_ret (pe_ix ix_seq (pv 0) (pv 1) (fun _ _ => rfl))))
pss_nil)
(pss_one (ps_ret pe_int)))
theorem ps_touch_of (Z : Fx K mg) (G_value_in : FnOk P w K mg base CX0 1 Z.a_value_in Z.d_value_in ["registers", "number"] (sp_value_in K)) {cdv : Value} {A : Around} {outer : List Env} {s : Shared} {H : Hp} {E : XK} (hr : Room 1 (A.deeper (envOfC "touch_of" (defScope s_touch_of) s.heap.objs.size Z.a_touch_of cdv))) :
    PSs (cxOf CX0 P w K mg base N_touch_of "touch_of" (defScope s_touch_of) Z.a_touch_of cdv A outer s H E).nox (defBody s_touch_of) (tr_touch_of K) :=
  (pss_cons (ps_set (i := 3) sc_touch_of.nd rfl (.inl rfl) (pe_ix ix_seq (pv 0) pe_int (fun _ _ => rfl)))
(pss_cons (ps_if (pt_cmpR (op_eqD hr.units) (pv 3) pe_str (nomark _))
(pss_one (ps_ret (pe_tup (pa_cons pe_str (pa_cons (pe_op op_mod (pe_call (G_value_in) (hr.mono (by decide)) (by rfl) Z.g_value_in Z.F_value_in.kp Z.b_value_in .nil pass0 (pa_cons (pv 1) (pa_cons (pe_ix ix_seq (pv 0) pe_int (fun _ _ => rfl)) pa_nil))) (pv 2)) pa_nil)))))
pss_nil)
(pss_cons (ps_if (pt_cmpR (op_eqD hr.units) (pv 3) pe_str (nomark _))
(pss_one (ps_ret (pe_tup (pa_cons pe_str (pa_cons (pe_op op_mod (pe_call (G_value_in) (hr.mono (by decide)) (by rfl) Z.g_value_in Z.F_value_in.kp Z.b_value_in .nil pass0 (pa_cons (pv 1) (pa_cons (pe_ix ix_seq (pv 0) pe_int (fun _ _ => rfl)) pa_nil))) (pv 2)) pa_nil)))))
pss_nil)
(pss_one (ps_ret pe_non)))))
theorem ps_result_of (Z : Fx K mg) (G_value_in : FnOk P w K mg base CX0 1 Z.a_value_in Z.d_value_in ["registers", "number"] (sp_value_in K)) {cdv : Value} {A : Around} {outer : List Env} {s : Shared} {H : Hp} {E : XK} (hr : Room 1 (A.deeper (envOfC "result_of" (defScope s_result_of) s.heap.objs.size Z.a_result_of cdv))) :
    PSs (cxOf CX0 P w K mg base N_result_of "result_of" (defScope s_result_of) Z.a_result_of cdv A outer s H E).nox (defBody s_result_of) (tr_result_of K) :=
  (pss_cons (ps_set (i := 2) sc_result_of.nd rfl (.inl rfl) (pe_ix ix_seq (pv 0) pe_int (fun _ _ => rfl)))
(pss_cons (ps_if (pt_cmpR (op_eqD hr.units) (pv 2) pe_str (nomark _))
(pss_one (ps_ret (pe_ix ix_seq (pv 0) pe_int (fun _ _ => rfl))))
pss_nil)
(pss_cons (ps_set (i := 3) sc_result_of.nd rfl (.inl rfl) (pe_call (G_value_in) (hr.mono (by decide)) (by rfl) Z.g_value_in Z.F_value_in.kp Z.b_value_in .nil pass0 (pa_cons (pv 1) (pa_cons (pe_ix ix_seq (pv 0) pe_int (fun _ _ => rfl)) pa_nil))))
(pss_cons (ps_if (pt_cmpR (op_eqD hr.units) (pv 2) pe_str (nomark _))
(pss_one (ps_ret (pv 3)))
pss_nil)
(pss_cons (ps_set (i := 4) sc_result_of.nd rfl (.inl rfl) (pe_call (G_value_in) (hr.mono (by decide)) (by rfl) Z.g_value_in Z.F_value_in.kp Z.b_value_in .nil pass0 (pa_cons (pv 1) (pa_cons (pe_ix ix_seq (pv 0) pe_int (fun _ _ => rfl)) pa_nil))))
(pss_cons (ps_if (pt_cmpR (op_eqD hr.units) (pv 2) pe_str (nomark _))
(pss_one (ps_ret (pe_op op_add (pv 3) (pv 4))))
pss_nil)
(pss_cons (ps_if (pt_cmpR (op_eqD hr.units) (pv 2) pe_str (nomark _))
(pss_one (ps_ret (pe_op op_sub (pv 3) (pv 4))))
pss_nil)
(pss_one (ps_ret (pe_op op_mulA (pv 3) (pv 4)))))))))))
theorem ps_with_value (Z : Fx K mg)  {cdv : Value} {A : Around} {outer : List Env} {s : Shared} {H : Hp} {E : XK} (hr : Room 0 (A.deeper (envOfC "with_value" (defScope s_with_value) s.heap.objs.size Z.a_with_value cdv))) :
    PSs (cxOf CX0 P w K mg base N_with_value "with_value" (defScope s_with_value) Z.a_with_value cdv A outer s H E).nox (defBody s_with_value) (tr_with_value K) :=
  (pss_one (ps_ret (pe_lc (own := [("at", 3), ("old", 4)]) (g := (gTup K 2 (gCons (gName 3) (gCons (gName 4) gNil)))) (tt := tYes) (te := (tIf (tTest (tOp (rEqD K) (tVar 3) (tVar 1))) (tVar 2) (tVar 4))) rfl sc_with_value.nd (pi_enumA (by rfl) Z.m_enumerate (pa_cons (pv 0) pa_nil)) (blkOk_by (N := N_with_value) (sc := defScope s_with_value) (by decide +kernel)) (fun _ _ _ _ _ => pg_tup rfl (pgs_cons (pg_name (i := 3) sc_with_value.nd rfl (Or.inl rfl)) (pgs_cons (pg_name (i := 4) sc_with_value.nd rfl (Or.inl rfl)) pgs_nil))) (fun _ _ _ _ _ => pts_nil) (fun _ _ _ _ _ => (pe_ifExp (pt_cmpR (op_eqD hr.units) (pv 3) (pv 1) (nomark _)) (pv 2) (pv 4))))))
theorem ps_after (Z : Fx K mg) (G_result_of : FnOk P w K mg base CX0 2 Z.a_result_of Z.d_result_of ["instruction", "registers"] (sp_result_of K)) (G_with_value : FnOk P w K mg base CX0 1 Z.a_with_value Z.d_with_value ["registers", "number", "value"] (sp_with_value K)) (G_value_in : FnOk P w K mg base CX0 1 Z.a_value_in Z.d_value_in ["registers", "number"] (sp_value_in K)) {cdv : Value} {A : Around} {outer : List Env} {s : Shared} {H : Hp} {E : XK} (hr : Room 2 (A.deeper (envOfC "after" (defScope s_after) s.heap.objs.size Z.a_after cdv))) :
    PSs (cxOf CX0 P w K mg base N_after "after" (defScope s_after) Z.a_after cdv A outer s H E).nox (defBody s_after) (tr_after K) :=
  (pss_cons (ps_set (i := 3) sc_after.nd rfl (.inl rfl) (pe_ix ix_seq (pv 0) pe_int (fun _ _ => rfl)))
(pss_cons (ps_if (pt_cmpR (op_eqD hr.units) (pv 3) pe_str (nomark _))
(pss_one (ps_ret (pe_tup (pa_cons (pe_callTy cr_list (by rfl) Z.m_list (by decide +kernel) (pa_cons (pv 1) pa_nil)) (pa_cons (pe_ix ix_seq (pv 0) pe_int (fun _ _ => rfl)) pa_nil)))))
pss_nil)
(pss_cons (ps_if (pt_cmpR (op_eqD hr.units) (pv 3) pe_str (nomark _))
(pss_cons (ps_set (i := 4) sc_after.nd rfl (.inl rfl) (pe_cmpR op_gt (pe_call (G_value_in) (hr.mono (by decide)) (by rfl) Z.g_value_in Z.F_value_in.kp Z.b_value_in .nil pass0 (pa_cons (pv 1) (pa_cons (pe_ix ix_seq (pv 0) pe_int (fun _ _ => rfl)) pa_nil))) pe_int (nomark _)))
(pss_one (ps_ret (pe_tup (pa_cons (pe_callTy cr_list (by rfl) Z.m_list (by decide +kernel) (pa_cons (pv 1) pa_nil)) (pa_cons (pe_ifExp (pt_val (pv 4)) (pe_ix ix_seq (pv 0) pe_int (fun _ _ => rfl)) (pe_op op_add (pv 2) pe_int)) pa_nil))))))
pss_nil)
(pss_cons (ps_set (i := 5) sc_after.nd rfl (.inl rfl) (pe_call (G_result_of) (hr.mono (by decide)) (by rfl) Z.g_result_of Z.F_result_of.kp Z.b_result_of .nil pass0 (pa_cons (pv 0) (pa_cons (pv 1) pa_nil))))
(pss_one (ps_ret (pe_tup (pa_cons (pe_call (G_with_value) (hr.mono (by decide)) (by rfl) Z.g_with_value Z.F_with_value.kp Z.b_with_value .nil pass0 (pa_cons (pv 1) (pa_cons (pe_ix ix_seq (pv 0) pe_int (fun _ _ => rfl)) (pa_cons (pv 5) pa_nil)))) (pa_cons (pe_op op_add (pv 2) pe_int) pa_nil)))))))))
theorem ps__law_next (Z : Fx K mg)  {cdv : Value} {A : Around} {outer : List Env} {s : Shared} {H : Hp} {E : XK} (hr : Room 0 (A.deeper (envOfC "_law_next" (defScope s__law_next) s.heap.objs.size Z.a__law_next cdv))) :
    PSs (cxOf CX0 P w K mg base N__law_next "_law_next" (defScope s__law_next) Z.a__law_next cdv A outer s H E).nox (defBody s__law_next) (tr__law_next K) :=
  (pss_cons (ps_set (i := 2) sc__law_next.nd rfl (.inl rfl) (pe_ix ix_seq (pv 0) pe_int (fun _ _ => rfl)))
(pss_cons (ps_if (pt_cmpR (op_eqD hr.units) (pv 2) pe_int (nomark _))
(pss_cons (ps_set (i := 3) sc__law_next.nd rfl (.inl rfl) pe_int)
(pss_cons (ps_if (pt_cmpR op_lt (pe_ix ix_seq (pv 0) pe_int (fun _ _ => rfl)) (pe_callB cr_len (by rfl) Z.m_len (by decide +kernel) (pa_cons (pe_ix ix_seq (pv 0) pe_int (fun _ _ => rfl)) pa_nil)) (nomark _))
(pss_cons (ps_set (i := 3) sc__law_next.nd rfl (.inl rfl) (pe_callB cr_abs (by rfl) Z.m_abs (by decide +kernel) (pa_cons (pe_callTy cr_int1 (by rfl) Z.m_int (by decide +kernel) (pa_cons (pe_ix ix_seq (pe_ix ix_seq (pv 0) pe_int (fun _ _ => rfl)) (pe_ix ix_seq (pv 0) pe_int (fun _ _ => rfl)) (fun _ _ => rfl)) pa_nil)) pa_nil)))
(pss_one (ps_asg (pe_op op_add (pe_ix ix_seq (pv 0) pe_int (fun _ _ => rfl)) pe_int) (pg_sub (pv 0) pe_int set_list))))
pss_nil)
(pss_cons (ps_set (i := 2) sc__law_next.nd rfl (.inl rfl) (pv 3))
(pss_one (ps_if (pt_cmpR op_lt (pv 3) (pe_op op_pow pe_int pe_int) (nomark _))
(pss_cons (ps_asg (pe_op op_mod (pe_callTy cr_int1 (by rfl) Z.m_int (by decide +kernel) (pa_cons (pe_op op_add (pe_op op_add (pe_op op_mulA (pe_ix ix_seq (pv 0) pe_int (fun _ _ => rfl)) pe_int) (pe_op op_mulA (pv 3) pe_int)) pe_int) pa_nil)) pe_int) (pg_sub (pv 0) pe_int set_list))
(pss_one (ps_ret (pe_op op_mod (pe_op op_mod (pe_callTy cr_int1 (by rfl) Z.m_int (by decide +kernel) (pa_cons (pe_op op_mulA (pe_op op_fdivW (pe_ix ix_seq (pv 0) pe_int (fun _ _ => rfl)) pe_int) pe_int) pa_nil)) pe_int) (pv 1)))))
pss_nil)))))
pss_nil)
(pss_cons (ps_asg (pe_op op_fdivW (pv 2) (pv 1)) (pg_sub (pv 0) pe_int set_list))
(pss_one (ps_ret (pe_op op_mod (pe_callTy cr_int1 (by rfl) Z.m_int (by decide +kernel) (pa_cons (pv 2) pa_nil)) (pv 1)))))))
theorem ps__law_instruction (Z : Fx K mg) (G__law_next : FnOk P w K mg base CX0 1 Z.a__law_next Z.d__law_next ["tape", "many"] (sp__law_next K)) {cdv : Value} {A : Around} {outer : List Env} {s : Shared} {H : Hp} {E : XK} (hr : Room 1 (A.deeper (envOfC "_law_instruction" (defScope s__law_instruction) s.heap.objs.size Z.a__law_instruction cdv))) :
    PSs (cxOf CX0 P w K mg base N__law_instruction "_law_instruction" (defScope s__law_instruction) Z.a__law_instruction cdv A outer s H E).nox (defBody s__law_instruction) (tr__law_instruction K) :=
  (pss_cons (ps_set (i := 1) sc__law_instruction.nd rfl (.inl rfl) (pe_ix ix_seq (pe_lst (pa_cons pe_str (pa_cons pe_str (pa_cons pe_str (pa_cons pe_str (pa_cons pe_str (pa_cons pe_str (pa_cons pe_str (pa_cons pe_str (pa_cons pe_str pa_nil)))))))))) (pe_call (G__law_next) (hr.mono (by decide)) (by rfl) Z.g__law_next Z.F__law_next.kp Z.b__law_next .nil pass0 (pa_cons (pv 0) (pa_cons pe_int pa_nil))) (fun _ _ => rfl)))
(pss_cons (ps_set (i := 2) sc__law_instruction.nd rfl (.inl rfl) (pe_lst (pa_cons (pe_call (G__law_next) (hr.mono (by decide)) (by rfl) Z.g__law_next Z.F__law_next.kp Z.b__law_next .nil pass0 (pa_cons (pv 0) (pa_cons pe_int pa_nil))) (pa_cons (pe_call (G__law_next) (hr.mono (by decide)) (by rfl) Z.g__law_next Z.F__law_next.kp Z.b__law_next .nil pass0 (pa_cons (pv 0) (pa_cons pe_int pa_nil))) (pa_cons (pe_call (G__law_next) (hr.mono (by decide)) (by rfl) Z.g__law_next Z.F__law_next.kp Z.b__law_next .nil pass0 (pa_cons (pv 0) (pa_cons pe_int pa_nil))) pa_nil)))))
(pss_cons (ps_if (pt_cmpR (op_eqD hr.units) (pv 1) pe_str (nomark _))
(pss_one (ps_ret (pe_tup (pa_cons (pv 1) (pa_cons (pe_ix ix_seq (pv 2) pe_int (fun _ _ => rfl)) (pa_cons (pe_ix ix_seq (pe_lst (pa_cons (pe_op op_sub (pe_ix ix_seq (pv 2) pe_int (fun _ _ => rfl)) pe_int) (pa_cons (pe_op op_pow pe_int pe_int) (pa_cons (pe_un un_neg (pe_op op_pow pe_int pe_int)) pa_nil)))) (pe_call (G__law_next) (hr.mono (by decide)) (by rfl) Z.g__law_next Z.F__law_next.kp Z.b__law_next .nil pass0 (pa_cons (pv 0) (pa_cons pe_int pa_nil))) (fun _ _ => rfl)) pa_nil))))))
pss_nil)
(pss_cons (ps_if (pt_cmpR (op_eqD hr.units) (pv 1) pe_str (nomark _))
(pss_one (ps_ret (pe_tup (pa_cons (pv 1) (pa_cons (pe_call (G__law_next) (hr.mono (by decide)) (by rfl) Z.g__law_next Z.F__law_next.kp Z.b__law_next .nil pass0 (pa_cons (pv 0) (pa_cons pe_int pa_nil))) pa_nil)))))
pss_nil)
(pss_cons (ps_if (pt_cmpR (op_eqD hr.units) (pv 1) pe_str (nomark _))
(pss_one (ps_ret (pe_tup (pa_cons (pv 1) (pa_cons (pe_ix ix_seq (pv 2) pe_int (fun _ _ => rfl)) (pa_cons (pe_call (G__law_next) (hr.mono (by decide)) (by rfl) Z.g__law_next Z.F__law_next.kp Z.b__law_next .nil pass0 (pa_cons (pv 0) (pa_cons pe_int pa_nil))) pa_nil))))))
pss_nil)
(pss_cons (ps_if (pt_cmpR op_in_seq (pv 1) (pe_tup (pa_cons pe_str (pa_cons pe_str (pa_cons pe_str pa_nil)))) (by rfl))
(pss_one (ps_ret (pe_tup (pa_cons (pv 1) (pa_cons (pe_ix ix_seq (pv 2) pe_int (fun _ _ => rfl)) (pa_cons (pe_ix ix_seq (pv 2) pe_int (fun _ _ => rfl)) (pa_cons (pe_ix ix_seq (pv 2) pe_int (fun _ _ => rfl)) pa_nil)))))))
pss_nil)
(pss_one (ps_ret (pe_tup (pa_cons (pv 1) (pa_cons (pe_ix ix_seq (pv 2) pe_int (fun _ _ => rfl)) (pa_cons (pe_ix ix_seq (pv 2) pe_int (fun _ _ => rfl)) pa_nil))))))))))))
theorem ps__law_due (Z : Fx K mg)  {cdv : Value} {A : Around} {outer : List Env} {s : Shared} {H : Hp} {E : XK} (hr : Room 0 (A.deeper (envOfC "_law_due" (defScope s__law_due) s.heap.objs.size Z.a__law_due cdv))) :
    PSs (cxOf CX0 P w K mg base N__law_due "_law_due" (defScope s__law_due) Z.a__law_due cdv A outer s H E).nox (defBody s__law_due) (tr__law_due K) :=
  (pss_cons (ps_set (i := 3) sc__law_due.nd rfl (.inl rfl) (pe_callTy cr_list (by rfl) Z.m_list (by decide +kernel) (pa_cons (pv 1) pa_nil)))
(pss_cons (ps_if (pt_cmpR (op_eqD hr.units) (pe_ix ix_seq (pv 0) pe_int (fun _ _ => rfl)) pe_str (nomark _))
(pss_one (ps_ret (pe_tup (pa_cons (pv 3) (pa_cons (pe_ix ix_seq (pv 0) pe_int (fun _ _ => rfl)) pa_nil)))))
pss_nil)
(pss_cons (ps_if (pt_cmpR (op_eqD hr.units) (pe_ix ix_seq (pv 0) pe_int (fun _ _ => rfl)) pe_str (nomark _))
(pss_one (ps_ret (pe_tup (pa_cons (pv 3) (pa_cons (pe_ix ix_seq (pe_lst (pa_cons (pe_op op_add (pv 2) pe_int) (pa_cons (pe_ix ix_seq (pv 0) pe_int (fun _ _ => rfl)) pa_nil))) (pe_callTy cr_int1 (by rfl) Z.m_int (by decide +kernel) (pa_cons (pe_cmpR op_gt (pe_ix ix_seq (pv 1) (pe_ix ix_seq (pv 0) pe_int (fun _ _ => rfl)) (fun _ _ => rfl)) pe_int (nomark _)) pa_nil)) (fun _ _ => rfl)) pa_nil)))))
pss_nil)
(pss_cons (ps_if (pt_cmpR (op_eqD hr.units) (pe_ix ix_seq (pv 0) pe_int (fun _ _ => rfl)) pe_str (nomark _))
(pss_one (ps_asg (pe_ix ix_seq (pv 0) pe_int (fun _ _ => rfl)) (pg_sub (pv 3) (pe_ix ix_seq (pv 0) pe_int (fun _ _ => rfl)) set_list)))
(pss_one (ps_if (pt_cmpR (op_eqD hr.units) (pe_ix ix_seq (pv 0) pe_int (fun _ _ => rfl)) pe_str (nomark _))
(pss_one (ps_asg (pe_ix ix_seq (pv 1) (pe_ix ix_seq (pv 0) pe_int (fun _ _ => rfl)) (fun _ _ => rfl)) (pg_sub (pv 3) (pe_ix ix_seq (pv 0) pe_int (fun _ _ => rfl)) set_list)))
(pss_one (ps_if (pt_cmpR (op_eqD hr.units) (pe_ix ix_seq (pv 0) pe_int (fun _ _ => rfl)) pe_str (nomark _))
(pss_one (ps_asg (pe_op op_add (pe_ix ix_seq (pv 1) (pe_ix ix_seq (pv 0) pe_int (fun _ _ => rfl)) (fun _ _ => rfl)) (pe_ix ix_seq (pv 1) (pe_ix ix_seq (pv 0) pe_int (fun _ _ => rfl)) (fun _ _ => rfl))) (pg_sub (pv 3) (pe_ix ix_seq (pv 0) pe_int (fun _ _ => rfl)) set_list)))
(pss_one (ps_if (pt_cmpR (op_eqD hr.units) (pe_ix ix_seq (pv 0) pe_int (fun _ _ => rfl)) pe_str (nomark _))
(pss_one (ps_asg (pe_op op_sub (pe_ix ix_seq (pv 1) (pe_ix ix_seq (pv 0) pe_int (fun _ _ => rfl)) (fun _ _ => rfl)) (pe_ix ix_seq (pv 1) (pe_ix ix_seq (pv 0) pe_int (fun _ _ => rfl)) (fun _ _ => rfl))) (pg_sub (pv 3) (pe_ix ix_seq (pv 0) pe_int (fun _ _ => rfl)) set_list)))
(pss_one (ps_asg (pe_op op_mulA (pe_ix ix_seq (pv 1) (pe_ix ix_seq (pv 0) pe_int (fun _ _ => rfl)) (fun _ _ => rfl)) (pe_ix ix_seq (pv 1) (pe_ix ix_seq (pv 0) pe_int (fun _ _ => rfl)) (fun _ _ => rfl))) (pg_sub (pv 3) (pe_ix ix_seq (pv 0) pe_int (fun _ _ => rfl)) set_list))))))))))
(pss_one (ps_ret (pe_tup (pa_cons (pv 3) (pa_cons (pe_op op_add (pv 2) pe_int) pa_nil)))))))))
theorem ps_law (Z : Fx K mg) (G__law_next : FnOk P w K mg base CX0 1 Z.a__law_next Z.d__law_next ["tape", "many"] (sp__law_next K)) (G__law_instruction : FnOk P w K mg base CX0 2 Z.a__law_instruction Z.d__law_instruction ["tape"] (sp__law_instruction K)) (G_touch_of : FnOk P w K mg base CX0 2 Z.a_touch_of Z.d_touch_of ["instruction", "registers", "words"] (sp_touch_of K)) (G_after : FnOk P w K mg base CX0 3 Z.a_after Z.d_after ["instruction", "registers", "place"] (sp_after K)) (G__law_due : FnOk P w K mg base CX0 1 Z.a__law_due Z.d__law_due ["one", "registers", "place"] (sp__law_due K)) {cdv : Value} {A : Around} {outer : List Env} {s : Shared} {H : Hp} {E : XK} (hr : Room 3 (A.deeper (envOfC "law" (defScope s_law) s.heap.objs.size Z.a_law cdv))) :
    PSs (cxOf CX0 P w K mg base N_law "law" (defScope s_law) Z.a_law cdv A outer s H E).nox (defBody s_law) (tr_law K) :=
  (pss_cons (ps_set (i := 1) sc_law.nd rfl (.inr rfl) (pe_lst (pa_cons (pe_callTy cr_list (by rfl) Z.m_list (by decide +kernel) (pa_cons (pv 0) pa_nil)) (pa_cons pe_int (pa_cons pe_int (pa_cons pe_int pa_nil))))))
(pss_cons (ps_setLc (i := 2) (own := [("k", 11)]) (g := (gName 11)) (tt := tYes) (te := (tOp (rIx K) (tLst (tCons (tCall (sp__law_next K) [] E0 (tCons (tVar 1) (tCons (tC (.int 9)) tNil))) (tCons (tUn (rU fun i => .int (-i)) (tC (.int 3))) (tCons (tOp (rI CPow fun i j => .int (i ^ j.toNat)) (tC (.int 10)) (tC (.int 20))) (tCons (tC (.int 0)) tNil))))) (tCall (sp__law_next K) [] E0 (tCons (tVar 1) (tCons (tC (.int 4)) tNil))))) rfl sc_law.nd rfl rfl (sw_true rfl rfl rfl (by decide +kernel)) (pi_range1 rfl Z.m_range (pa_cons pe_int pa_nil)) (blkOk_by (N := N_law) (sc := defScope s_law) (by decide +kernel)) (fun _ _ _ _ _ => pg_name (i := 11) sc_law.nd rfl (Or.inl rfl)) (fun _ _ _ _ _ => pts_nil) (fun _ _ _ _ _ => (pe_ix ix_seq (pe_lst (pa_cons (pe_call (G__law_next) (hr.mono (by decide)) (by rfl) Z.g__law_next Z.F__law_next.kp Z.b__law_next .nil pass0 (pa_cons (pv 1) (pa_cons pe_int pa_nil))) (pa_cons (pe_un un_neg pe_int) (pa_cons (pe_op op_pow pe_int pe_int) (pa_cons pe_int pa_nil))))) (pe_call (G__law_next) (hr.mono (by decide)) (by rfl) Z.g__law_next Z.F__law_next.kp Z.b__law_next .nil pass0 (pa_cons (pv 1) (pa_cons pe_int pa_nil))) (fun _ _ => rfl))))
(pss_cons (ps_set (i := 3) sc_law.nd rfl (.inl rfl) (pe_call (G__law_next) (hr.mono (by decide)) (by rfl) Z.g__law_next Z.F__law_next.kp Z.b__law_next .nil pass0 (pa_cons (pv 1) (pa_cons pe_int pa_nil))))
(pss_cons (ps_set (i := 4) sc_law.nd rfl (.inl rfl) (pe_op op_mulA pe_int (pe_op op_add pe_int (pe_call (G__law_next) (hr.mono (by decide)) (by rfl) Z.g__law_next Z.F__law_next.kp Z.b__law_next .nil pass0 (pa_cons (pv 1) (pa_cons pe_int pa_nil))))))
(pss_cons (ps_for PassesOwn.never rfl (pi_range1 rfl Z.m_range (pa_cons (pe_op op_add pe_int (pe_call (G__law_next) (hr.mono (by decide)) (by rfl) Z.g__law_next Z.F__law_next.kp Z.b__law_next .nil pass0 (pa_cons (pv 1) (pa_cons pe_int pa_nil)))) pa_nil)) (pg_name (i := 5) sc_law.nd rfl (.inl rfl))
(pss_cons (ps_set (i := 6) sc_law.nd rfl (.inl rfl) (pe_call (G__law_instruction) (hr.mono (by decide)) (by rfl) Z.g__law_instruction Z.F__law_instruction.kp Z.b__law_instruction .nil pass0 (pa_cons (pv 1) pa_nil)))
(pss_cons (ps_set (i := 7) sc_law.nd rfl (.inl rfl) (pe_callTy cr_list (by rfl) Z.m_list (by decide +kernel) (pa_cons (pv 2) pa_nil)))
(pss_cons (ps_set (i := 8) sc_law.nd rfl (.inl rfl) (pe_call (G_touch_of) (hr.mono (by decide)) (by rfl) Z.g_touch_of Z.F_touch_of.kp Z.b_touch_of .nil pass0 (pa_cons (pv 6) (pa_cons (pv 2) (pa_cons (pv 4) pa_nil)))))
(pss_one (ps_if (PW.pt (pw_or (pt_cmpR (op_eqD hr.units) (pe_ix ix_seq (pv 6) pe_int (fun _ _ => rfl)) pe_str (nomark _)) (pw_or1 (pt_cmpR (op_eqD hr.units) (pe_ix ix_seq (pv 6) pe_int (fun _ _ => rfl)) pe_str (nomark _)))))
(pss_cons (ps_set (i := 9) sc_law.nd rfl (.inl rfl) (pe_ix ix_seq (pv 2) (pe_ix ix_seq (pv 6) pe_int (fun _ _ => rfl)) (fun _ _ => rfl)))
(pss_cons (ps_if (pt_cmpR (op_eqD hr.units) (pe_ix ix_seq (pv 6) pe_int (fun _ _ => rfl)) pe_str (nomark _))
(pss_one (ps_set (i := 9) sc_law.nd rfl (.inl rfl) (pe_ix ix_seq (pv 2) (pe_ix ix_seq (pv 6) pe_int (fun _ _ => rfl)) (fun _ _ => rfl))))
pss_nil)
(pss_one (ps_if (PW.pt (pw_or (pt_cmpR (op_neD hr.units) (pv 8) (pe_tup (pa_cons (pe_ix ix_seq (pv 6) pe_int (fun _ _ => rfl)) (pa_cons (pe_op op_mod (pe_callTy cr_int1 (by rfl) Z.m_int (by decide +kernel) (pa_cons (pv 9) pa_nil)) (pv 4)) pa_nil))) (nomark _)) (pw_or1 (pt_cmpR (op_neD hr.units) (pv 2) (pv 7) (nomark _)))))
(pss_one (ps_ret pe_bl))
pss_nil))))
(pss_cons (ps_set (i := 10) sc_law.nd rfl (.inl rfl) (pe_call (G_after) (hr.mono (by decide)) (by rfl) Z.g_after Z.F_after.kp Z.b_after .nil pass0 (pa_cons (pv 6) (pa_cons (pv 2) (pa_cons (pv 3) pa_nil)))))
(pss_cons (ps_if (PW.pt (pw_or (pt_cmpR op_notN1 (pv 8) pe_non (nomark _)) (pw_or (pt_cmpR (op_neD hr.units) (pv 2) (pv 7) (nomark _)) (pw_or1 (pt_not (pt_val (pe_callB call_isi (by rfl) Z.m_isinstance (by decide +kernel) (pa_cons (pv 10) (pa_cons (pe_bltn (v := .ty "tuple") (by rfl) Z.m_tuple (by decide +kernel) rfl) pa_nil)))))))))
(pss_one (ps_ret pe_bl))
pss_nil)
(pss_cons (ps_if (pt_cmpR (op_neD hr.units) (pv 10) (pe_call (G__law_due) (hr.mono (by decide)) (by rfl) Z.g__law_due Z.F__law_due.kp Z.b__law_due .nil pass0 (pa_cons (pv 6) (pa_cons (pv 2) (pa_cons (pv 3) pa_nil)))) (nomark _))
(pss_one (ps_ret pe_bl))
pss_nil)
(pss_cons (ps_asg (pv 10) (pg_tup (by rfl) (pgs_cons (pg_name (i := 2) sc_law.nd rfl (.inl rfl)) (pgs_cons (pg_name (i := 3) sc_law.nd rfl (.inl rfl)) pgs_nil))))
(pss_one (ps_setLc (i := 2) (own := [("value", 12)]) (g := (gName 12)) (tt := tYes) (te := (tCB rMin2 (tCons (tCB rMax2 (tCons (tVar 12) (tCons (tUn (rU fun i => .int (-i)) (tOp (rI CPow fun i j => .int (i ^ j.toNat)) (tC (.int 10)) (tC (.int 40)))) tNil))) (tCons (tOp (rI CPow fun i j => .int (i ^ j.toNat)) (tC (.int 10)) (tC (.int 40))) tNil)))) rfl sc_law.nd rfl rfl (sw_true rfl rfl rfl (by decide +kernel)) (pi_list (pv 2)) (blkOk_by (N := N_law) (sc := defScope s_law) (by decide +kernel)) (fun _ _ _ _ _ => pg_name (i := 12) sc_law.nd rfl (Or.inl rfl)) (fun _ _ _ _ _ => pts_nil) (fun _ _ _ _ _ => (pe_callB (cr_min2 rfl) (by rfl) Z.m_min (by decide +kernel) (pa_cons (pe_callB (cr_max2 rfl) (by rfl) Z.m_max (by decide +kernel) (pa_cons (pv 12) (pa_cons (pe_un un_neg (pe_op op_pow pe_int pe_int)) pa_nil))) (pa_cons (pe_op op_pow pe_int pe_int) pa_nil))))))))))))))))
(pss_one (ps_ret pe_bl)))))))
end
theorem len__law_next (ds args ds' : List PyData) (s : Sl) (h : gr__law_next ds args ds' s) : args.length + 1 = 2 := by obtain ⟨_, _, _, _, _, _, _, rfl, _⟩ := h; rfl
theorem rd__law_next (b : Bs) (D : Ends) (p : Addr) (ds args ds' : List PyData) (s : Sl) (h : gr__law_next ds args ds' s) (hq : ∀ v H', RetB b p ds' s v H' → D.rt v H') : Nx b (tr__law_next b.K D) [] [] (Γ0M 4 p ds args) := by
  obtain ⟨ns, t, many, h0, h1, h2, rfl, rfl, rfl, rfl⟩ := h
  obtain ⟨pos, rest, seed⟩ := t
  dsimp only at h0
  have hm64 : many < 2 ^ 64 := by omega
  show Nx b _ [] [] [.ownq (some p) [li ns, .int pos, .int rest, .int seed], .dat (.int many), .no, .no]
  refine n_go (st_set (s := .dat (.int rest)) (by walk_at "g_ev")) ?_
  show Nx b _ [] [] [.ownq (some p) [li ns, .int pos, .int rest, .int seed], .dat (.int many), .dat (.int rest), .no]
  have fin : ∀ (ps r sd : Int) (d3 : Sl), tp ns (nextT ns ⟨pos, rest, seed⟩ many) = [li ns, .int ps, .int (r / many), .int sd] → nextV ns ⟨pos, rest, seed⟩ many = r % many → ∀ x2 : Int,
      Nx b (tSeq (tAsg (tOp (rI CDivW fun i j => .int (i / j)) (tVar 2) (tVar 1)) (gSub (tVar 0) (tC (.int 2)) rSetL)) (tRet (tOp (rI (fun _ j => 0 < j) fun i j => .int (i % j)) (tCB rInt1 (tCons (tVar 2) tNil)) (tVar 1))) D) [] [] [.ownq (some p) [li ns, .int ps, .int x2, .int sd], .dat (.int many), .dat (.int r), d3] := fun ps r sd d3 e1 e2 x2 => by
    rw [e1, e2] at hq
    clear e1 e2
    refine n_go (st_setL (i := 0) (j := 2) (k := 2) rfl (by walk_at "g_ev") s_int rfl) ?_
    show Nx b _ [] [] [.ownq (some p) [li ns, .int ps, .int (r / many), .int sd], .dat (.int many), .dat (.int r), d3]
    exact n_retM (i := 0) (by walk_at "g_ev") rfl hq
  refine n_if (k := decide (rest = 0)) (by walk_at "g_et") (fun hh => ?_) (fun hh => ?_)
  · have hr := of_decide_eq_true hh
    refine n_go (st_set (s := .dat (.int 0)) s_int) ?_
    show Nx b _ [] [] [.ownq (some p) [li ns, .int pos, .int rest, .int seed], .dat (.int many), .dat (.int rest), .dat (.int 0)]
    refine n_go (Γ1 := [.ownq (some p) [li ns, .int (posF ns ⟨pos, rest, seed⟩), .int rest, .int seed], .dat (.int many), .dat (.int rest), .dat (.int (cellF ns ⟨pos, rest, seed⟩))]) (st_if (k := decide (pos < ns.length)) (t_is (by walk_at "g_et") rfl) (fun hp => ?_) (fun hp => ?_)) ?_
    · have hp := of_decide_eq_true hp
      unfold posF cellF
      dsimp only
      rw [if_pos hp, if_pos hp]
      refine st_seq (st_set (s := .dat (.int ((ns.getD pos.toNat 0).natAbs : Int))) (by walk_at "g_ev")) ?_
      exact st_is (st_setL (i := 0) (j := 1) (k := 1) (d := .int (pos + 1)) rfl (by walk_at "g_ev") s_int rfl) rfl
    · have hp := of_decide_eq_false hp
      unfold posF cellF
      dsimp only
      rw [if_neg hp, if_neg hp]
      exact st_next
    · have hc0 : 0 ≤ cellF ns ⟨pos, rest, seed⟩ := by unfold cellF; split <;> omega
      refine n_go (st_set (s := .dat (.int (cellF ns ⟨pos, rest, seed⟩))) (by walk_at "g_ev")) ?_
      show Nx b _ [] [] [.ownq (some p) [li ns, .int (posF ns ⟨pos, rest, seed⟩), .int rest, .int seed], .dat (.int many), .dat (.int (cellF ns ⟨pos, rest, seed⟩)), .dat (.int (cellF ns ⟨pos, rest, seed⟩))]
      have eN : nextT ns ⟨pos, rest, seed⟩ many = if cellF ns ⟨pos, rest, seed⟩ < 10 ^ 18 then ⟨posF ns ⟨pos, rest, seed⟩, rest, seedF ns ⟨pos, rest, seed⟩⟩ else ⟨posF ns ⟨pos, rest, seed⟩, cellF ns ⟨pos, rest, seed⟩ / many, seed⟩ := if_pos hr
      have eV : nextV ns ⟨pos, rest, seed⟩ many = if cellF ns ⟨pos, rest, seed⟩ < 10 ^ 18 then seedF ns ⟨pos, rest, seed⟩ / 5 * 48271 % 2147483647 % many else cellF ns ⟨pos, rest, seed⟩ % many := if_pos hr
      have eS : seedF ns ⟨pos, rest, seed⟩ = (seed * 69621 + cellF ns ⟨pos, rest, seed⟩ * 40692 + 17) % 2147483647 := rfl
      have hs0 : 0 ≤ seedF ns ⟨pos, rest, seed⟩ := by omega
      have hs1 : seedF ns ⟨pos, rest, seed⟩ < 2147483647 := by omega
      refine n_if (by walk_at "g_et") (fun hc => ?_) (fun hc => ?_)
      · have hc : cellF ns ⟨pos, rest, seed⟩ < 10 ^ 18 := of_decide_eq_true hc
        rw [eN, eV, if_pos hc, if_pos hc] at hq
        clear fin hc eN eV
        unfold tp at hq
        dsimp only at hq
        rw [eS] at hq hs0 hs1
        generalize cellF ns ⟨pos, rest, seed⟩ = c at hq hs0 hs1 ⊢
        refine n_go (st_setL (i := 0) (j := 3) (k := 3) (d := .int ((seed * 69621 + c * 40692 + 17) % 2147483647)) rfl (by walk_at "g_ev") s_int rfl) ?_
        show Nx b _ [] [] [.ownq (some p) [li ns, .int (posF ns ⟨pos, rest, seed⟩), .int rest, .int ((seed * 69621 + c * 40692 + 17) % 2147483647)], .dat (.int many), .dat (.int c), .dat (.int c)]
        generalize (seed * 69621 + c * 40692 + 17) % 2147483647 = sd at hq hs0 hs1 ⊢
        exact n_retM (i := 0) (by walk_at "g_ev") rfl hq
      · have hc : ¬ cellF ns ⟨pos, rest, seed⟩ < 10 ^ 18 := of_decide_eq_false hc
        exact fin _ _ _ _ (by rw [eN, if_neg hc]; rfl) (by rw [eV, if_neg hc]) _
  · have hr := of_decide_eq_false hh
    exact fin _ _ _ _ (by unfold nextT; rw [if_neg hr]; rfl) (by unfold nextV; rw [if_neg hr]) _
theorem len_value_in (ds : List PyData) (s : Sl) (h : gr_value_in ds s) : ds.length = 2 := by obtain ⟨_, _, _, _, rfl, _⟩ := h; rfl
theorem rd_value_in (b : Bs) (D : Ends) (ds : List PyData) (s : Sl) (h : gr_value_in ds s) (hq : ∀ v H', Ret b.K b.H0 b.B s v H' → D.rt v H') (hn : ∀ σ H, D.rt .non H → D.nx σ H) : Nx b (tr_value_in b.K D) [] [] (Γ0 2 ds) := by
  obtain ⟨rs, k, h0, h1, rfl, rfl⟩ := h
  show Nx b _ [] [] [.dat (li rs), .dat (.int k)]
  exact n_leave (t_is (by walk_at "g_et") (by simp [h0, h1])) (n_ret (Γ1 := [.dat (li rs), .dat (.int k)]) (by walk_at "g_ev") hq)
theorem c_value {b : Bs} {Γ Γ1 : List Sl} {ta : TA} {rs : List Int} {k : Int} (ha : EvA b ta Γ Γ1 [li rs, .int k]) (h0 : 0 ≤ k) (h1 : k < rs.length) : EvS b (tCall (sp_value_in b.K) [] E0 ta) Γ Γ1 (.dat (.int (g0 rs k))) :=
  s_call ha ⟨rs, k, h0, h1, rfl, rfl⟩
theorem c_next {b : Bs} {Γ : List Sl} {ta : TA} {i : Nat} {z : Option Addr} {ns : List Int} {t : Tp} {many : Int} (h : Γ[i]? = some (.ownq z (tp ns t))) (ha : EvA b ta Γ Γ [.int many]) (h0 : 0 ≤ t.pos) (h1 : 0 < many) (h2 : many < 2 ^ 62) :
    EvS b (tCall (sp__law_next b.K) [] E0 (tCons (tVar i) ta)) Γ (Γ.set i (.ownq z (tp ns (nextT ns t many)))) (.dat (.int (nextV ns t many))) :=
  s_callM h ha ⟨ns, t, many, h0, h1, h2, rfl, rfl, rfl, rfl⟩
theorem pos_nn (ns : List Int) (t : Tp) (many : Int) (h : 0 ≤ t.pos) : 0 ≤ (nextT ns t many).pos := by
  unfold nextT posF
  split
  · split
    · dsimp only; split <;> omega
    · dsimp only; split <;> omega
  · exact h
theorem val_lo (ns : List Int) (t : Tp) (many : Int) (h : 0 < many) : 0 ≤ nextV ns t many := by
  unfold nextV
  split
  · split
    · exact Int.emod_nonneg _ (by omega)
    · exact Int.emod_nonneg _ (by omega)
  · exact Int.emod_nonneg _ (by omega)
theorem val_hi (ns : List Int) (t : Tp) (many : Int) (h : 0 < many) : nextV ns t many < many := by
  unfold nextV
  split
  · split
    · exact Int.emod_lt_of_pos _ h
    · exact Int.emod_lt_of_pos _ h
  · exact Int.emod_lt_of_pos _ h
local macro_rules | `(tactic| walk_at "g_call") => `(tactic| first | ((with_reducible apply c_value); (case ha => walk_at "g_ea"); all_goals walk_at "g_so") | fail "no call")
theorem len_touch_of (ds : List PyData) (s : Sl) (h : gr_touch_of ds s) : ds.length = 3 := by obtain ⟨_, _, _, _, _, _, rfl, _⟩ := h; rfl
theorem rd_touch_of (b : Bs) (D : Ends) (ds : List PyData) (s : Sl) (h : gr_touch_of ds s) (hq : ∀ v H', Ret b.K b.H0 b.B s v H' → D.rt v H') (hn : ∀ σ H, D.rt .non H → D.nx σ H) : Nx b (tr_touch_of b.K D) [] [] (Γ0 4 ds) := by
  obtain ⟨i, rs, w, ho, hl, hw, rfl, rfl⟩ := h
  show Nx b _ [] [] [.dat i.d, .dat (li rs), .dat (.int w), .no]
  cases i with
  | load r s =>
    obtain ⟨⟨a1, a2⟩, a3, a4⟩ := ho
    have a5 : s < rs.length := by omega
    unfold Ins.d
    unfold touchF at hq
    refine n_go (st_set (s := .dat (.str "load")) (by walk_at "g_ev")) ?_
    show Nx b _ [] [] [.dat (.tuple [.str "load", .int r, .int s]), .dat (li rs), .dat (.int w), .dat (.str "load")]
    exact n_leave (t_is (by walk_at "g_et") (by decide)) (n_ret (by walk_at "g_ev") hq)
  | store s r =>
    obtain ⟨⟨a1, a2⟩, a3, a4⟩ := ho
    have a5 : s < rs.length := by omega
    unfold Ins.d
    unfold touchF at hq
    refine n_go (st_set (s := .dat (.str "store")) (by walk_at "g_ev")) ?_
    show Nx b _ [] [] [.dat (.tuple [.str "store", .int s, .int r]), .dat (li rs), .dat (.int w), .dat (.str "store")]
    refine n_stop (t_is (by walk_at "g_et") (by decide)) ?_
    exact n_leave (t_is (by walk_at "g_et") (by decide)) (n_ret (by walk_at "g_ev") hq)
  | _ =>
    unfold Ins.d
    unfold touchF at hq
    refine n_go (st_set (i := 3) (s_op (s_var rfl) s_int (rd_ixT rfl))) ?_
    refine n_stop (t_is (t_test (s_op (s_var rfl) s_str (rd_eqS (by decide +kernel) (by decide +kernel)))) (by decide)) ?_
    refine n_stop (t_is (t_test (s_op (s_var rfl) s_str (rd_eqS (by decide +kernel) (by decide +kernel)))) (by decide)) ?_
    exact n_ret s_non hq
theorem len_result_of (ds : List PyData) (s : Sl) (h : gr_result_of ds s) : ds.length = 2 := by obtain ⟨_, _, _, _, _, _, rfl, _⟩ := h; rfl
theorem g0_small {rs : List Int} (h : small rs) {k : Int} (h1 : 0 ≤ k) (h2 : k < rs.length) : -(2 ^ 200) < g0 rs k ∧ g0 rs k < 2 ^ 200 := by
  unfold g0
  rw [List.getD_eq_getElem?_getD, List.getElem?_eq_getElem (by omega)]
  exact h _ (List.getElem_mem _)
theorem mulS {i j : Int} (h1 : -(2 ^ 200) < i ∧ i < 2 ^ 200) (h2 : -(2 ^ 200) < j ∧ j < 2 ^ 200) : CMul i j ∨ CMulW i j := .inr (wide_mul (a := 200) (b := 200) (by omega) (by omega) (by decide) (by decide) (by decide))
theorem rd_result_of (b : Bs) (D : Ends) (ds : List PyData) (s : Sl) (h : gr_result_of ds s) (hq : ∀ v H', Ret b.K b.H0 b.B s v H' → D.rt v H') (hn : ∀ σ H, D.rt .non H → D.nx σ H) : Nx b (tr_result_of b.K D) [] [] (Γ0 5 ds) := by
  obtain ⟨i, rs, ho, hc, hl, hs, rfl, rfl⟩ := h
  show Nx b _ [] [] [.dat i.d, .dat (li rs), .no, .no, .no]
  cases i with
  | set r n =>
    unfold Ins.d
    unfold resF at hq
    refine n_go (st_set (s := .dat (.str "set")) (by walk_at "g_ev")) ?_
    show Nx b _ [] [] [.dat (.tuple [.str "set", .int r, .int n]), .dat (li rs), .dat (.str "set"), .no, .no]
    exact n_leave (t_is (by walk_at "g_et") (by decide)) (n_ret (by walk_at "g_ev") hq)
  | copy r s =>
    obtain ⟨⟨a1, a2⟩, a3, a4⟩ := ho
    have a5 : s < rs.length := by omega
    unfold Ins.d
    unfold resF at hq
    refine n_go (st_set (s := .dat (.str "copy")) (by walk_at "g_ev")) ?_
    show Nx b _ [] [] [.dat (.tuple [.str "copy", .int r, .int s]), .dat (li rs), .dat (.str "copy"), .no, .no]
    refine n_stop (t_is (by walk_at "g_et") (by decide)) ?_
    refine n_go (st_set (s := .dat (.int (g0 rs s))) (by walk_at "g_ev")) ?_
    show Nx b _ [] [] [.dat (.tuple [.str "copy", .int r, .int s]), .dat (li rs), .dat (.str "copy"), .dat (.int (g0 rs s)), .no]
    exact n_leave (t_is (by walk_at "g_et") (by decide)) (n_ret (by walk_at "g_ev") hq)
  | add r s t =>
    obtain ⟨⟨a1, a2⟩, ⟨a3, a4⟩, a5, a6⟩ := ho
    have a7 : s < rs.length := by omega
    have a8 : t < rs.length := by omega
    unfold Ins.d
    unfold resF at hq
    refine n_go (st_set (s := .dat (.str "add")) (by walk_at "g_ev")) ?_
    show Nx b _ [] [] [.dat (.tuple [.str "add", .int r, .int s, .int t]), .dat (li rs), .dat (.str "add"), .no, .no]
    refine n_stop (t_is (by walk_at "g_et") (by decide)) ?_
    refine n_go (st_set (s := .dat (.int (g0 rs s))) (by walk_at "g_ev")) ?_
    show Nx b _ [] [] [.dat (.tuple [.str "add", .int r, .int s, .int t]), .dat (li rs), .dat (.str "add"), .dat (.int (g0 rs s)), .no]
    refine n_stop (t_is (by walk_at "g_et") (by decide)) ?_
    refine n_go (st_set (s := .dat (.int (g0 rs t))) (by walk_at "g_ev")) ?_
    show Nx b _ [] [] [.dat (.tuple [.str "add", .int r, .int s, .int t]), .dat (li rs), .dat (.str "add"), .dat (.int (g0 rs s)), .dat (.int (g0 rs t))]
    exact n_leave (t_is (by walk_at "g_et") (by decide)) (n_ret (by walk_at "g_ev") hq)
  | sub r s t =>
    obtain ⟨⟨a1, a2⟩, ⟨a3, a4⟩, a5, a6⟩ := ho
    have a7 : s < rs.length := by omega
    have a8 : t < rs.length := by omega
    unfold Ins.d
    unfold resF at hq
    refine n_go (st_set (s := .dat (.str "sub")) (by walk_at "g_ev")) ?_
    show Nx b _ [] [] [.dat (.tuple [.str "sub", .int r, .int s, .int t]), .dat (li rs), .dat (.str "sub"), .no, .no]
    refine n_stop (t_is (by walk_at "g_et") (by decide)) ?_
    refine n_go (st_set (s := .dat (.int (g0 rs s))) (by walk_at "g_ev")) ?_
    show Nx b _ [] [] [.dat (.tuple [.str "sub", .int r, .int s, .int t]), .dat (li rs), .dat (.str "sub"), .dat (.int (g0 rs s)), .no]
    refine n_stop (t_is (by walk_at "g_et") (by decide)) ?_
    refine n_go (st_set (s := .dat (.int (g0 rs t))) (by walk_at "g_ev")) ?_
    show Nx b _ [] [] [.dat (.tuple [.str "sub", .int r, .int s, .int t]), .dat (li rs), .dat (.str "sub"), .dat (.int (g0 rs s)), .dat (.int (g0 rs t))]
    refine n_stop (t_is (by walk_at "g_et") (by decide)) ?_
    exact n_leave (t_is (by walk_at "g_et") (by decide)) (n_ret (by walk_at "g_ev") hq)
  | mul r s t =>
    obtain ⟨⟨a1, a2⟩, ⟨a3, a4⟩, a5, a6⟩ := ho
    have a7 : s < rs.length := by omega
    have a8 : t < rs.length := by omega
    have m1 := g0_small hs a3 a7
    have m2 := g0_small hs a5 a8
    unfold Ins.d
    unfold resF at hq
    refine n_go (st_set (s := .dat (.str "mul")) (by walk_at "g_ev")) ?_
    show Nx b _ [] [] [.dat (.tuple [.str "mul", .int r, .int s, .int t]), .dat (li rs), .dat (.str "mul"), .no, .no]
    refine n_stop (t_is (by walk_at "g_et") (by decide)) ?_
    refine n_go (st_set (s := .dat (.int (g0 rs s))) (by walk_at "g_ev")) ?_
    show Nx b _ [] [] [.dat (.tuple [.str "mul", .int r, .int s, .int t]), .dat (li rs), .dat (.str "mul"), .dat (.int (g0 rs s)), .no]
    refine n_stop (t_is (by walk_at "g_et") (by decide)) ?_
    refine n_go (st_set (s := .dat (.int (g0 rs t))) (by walk_at "g_ev")) ?_
    show Nx b _ [] [] [.dat (.tuple [.str "mul", .int r, .int s, .int t]), .dat (li rs), .dat (.str "mul"), .dat (.int (g0 rs s)), .dat (.int (g0 rs t))]
    refine n_stop (t_is (by walk_at "g_et") (by decide)) ?_
    refine n_stop (t_is (by walk_at "g_et") (by decide)) ?_
    exact n_ret (s_op (s_var rfl) (s_var rfl) (rd_intC (mulS m1 m2))) hq
  | _ => exact hc.elim
theorem zipIdx_map {α β : Type} (f : α → β) (xs : List α) : (xs.map f).zipIdx = xs.zipIdx.map fun p => (f p.1, p.2) := by
  refine List.ext_getElem? fun i => ?_
  simp [List.getElem?_zipIdx, Function.comp_def]
def enumD (p : Int × Nat) : PyData := enumT (.int p.1, p.2)
theorem i_enumL {b : Bs} {Γ Γ1 : List Sl} {ds : List PyData} {ta : TA} (h : EvA b ta Γ Γ1 [.list ds]) : EvI b (iEnumA b.K ta) Γ Γ1 [.list ds] (ds.zipIdx.map enumT) := fun T τ σ H hs R r =>
  h T τ σ H hs _ fun vs H1 C h1 dv => by
    have dv2 := dv
    obtain ⟨v, rfl, dx⟩ := dpa1 dv
    cases dx with
    | lst hq ha =>
      rename_i a xs
      refine ⟨a, xs, rfl, .inl ⟨ex_l h1.ch hq, r _ [.ref a] H1 C (fun C' H' ex dw => ?_) h1 dv2⟩⟩
      obtain ⟨v', e1, dz⟩ := dpa1 dw
      cases e1
      cases dz with
      | lst hq' ha' =>
        have hl := dpa_len ha'
        refine ⟨⟨_, ex_l ex hq', by simp; omega⟩, fun i di e => ?_⟩
        rw [List.getElem?_map] at e
        obtain ⟨⟨u1, u2⟩, e1, rfl⟩ := Option.map_eq_some_iff.mp e
        rw [List.getElem?_zipIdx] at e1
        obtain ⟨z, e2, e3⟩ := Option.map_eq_some_iff.mp e1
        cases e3
        obtain ⟨y, y1, y2⟩ := dpa_get ha' e2
        refine ⟨⟨_, y, ex_l ex hq', y1⟩, fun x H2 z2 => ?_⟩
        obtain ⟨P, z1, rfl, nP, rfl, f1⟩ := z2
        have w1 := (f1 _ (ex_l ex hq')).symm.trans y1
        cases w1
        have : ((0 + i : Nat) : Int) = (i : Int) := by omega
        exact .tup ex (.cons (this ▸ .int _) (.cons y2 .nil)) nP
theorem i_enumLI {b : Bs} {ta : TA} {Γ Γ1 : List Sl} {xs : List Int} (h : EvA b ta Γ Γ1 [li xs]) : EvI b (iEnumA b.K ta) Γ Γ1 [li xs] (xs.zipIdx.map enumD) := by
  have := i_enumL h
  rw [zipIdx_map, List.map_map] at this
  exact this
theorem len_with_value (ds : List PyData) (s : Sl) (h : gr_with_value ds s) : ds.length = 3 := by obtain ⟨_, _, _, _, _, rfl, _⟩ := h; rfl
theorem rd_with_value (b : Bs) (D : Ends) (ds : List PyData) (s : Sl) (h : gr_with_value ds s) (hq : ∀ v H', Ret b.K b.H0 b.B s v H' → D.rt v H') (hn : ∀ σ H, D.rt .non H → D.nx σ H) : Nx b (tr_with_value b.K D) [] [] (Γ0 5 ds) := by
  obtain ⟨xs, m, c, h0, h2, rfl, rfl⟩ := h
  have e : xs.set m.toNat c = xs.zipIdx.map fun p => if ((p.2 : Int) = m) then c else p.1 := by
    refine List.ext_getElem? fun i => ?_
    simp only [List.getElem?_set, List.getElem?_map, List.getElem?_zipIdx, Option.map_map]
    by_cases hi : m.toNat = i
    · subst hi
      by_cases hl : m.toNat < xs.length
      · simp [hl, Int.toNat_of_nonneg h0]
      · simp [hl]
    · rw [if_neg hi]
      by_cases hl : i < xs.length
      · have : ¬ ((i : Int) = m) := by omega
        simp [hl, this]
      · simp [hl]
  rw [e, List.map_map] at hq
  exact n_ret (s_map (ks := xs.zipIdx) (φ := enumD) (i_enumLI (Γ := [.dat (li xs), .dat (.int m), .dat (.int c), .no, .no]) (by walk_at "g_ea")) (fun p => [.dat (li xs), .dat (.int m), .dat (.int c), .dat (.int (p.2 : Int)), .dat (.int p.1)]) (fun p => .int (if ((p.2 : Int) = m) then c else p.1)) (fun p _ => gv_tup2 rfl)
    (fun p _ => s_if (k := decide ((p.2 : Int) = m)) (by walk_at "g_et") (fun hh => by rw [if_pos (of_decide_eq_true hh)]; walk_at "g_ev") (fun hh => by rw [if_neg (of_decide_eq_false hh)]; walk_at "g_ev")) (fun _ _ => rfl) rfl (by simp; omega)) hq
theorem c_result {b : Bs} {Γ Γ1 : List Sl} {ta : TA} {i : Ins} {rs : List Int} (ha : EvA b ta Γ Γ1 [i.d, li rs]) (h1 : i.ok) (h2 : i.calc) (h3 : rs.length = 8) (h4 : small rs) : EvS b (tCall (sp_result_of b.K) [] E0 ta) Γ Γ1 (.dat (.int (resF rs i))) :=
  s_call ha ⟨i, rs, h1, h2, h3, h4, rfl, rfl⟩
theorem c_withv {b : Bs} {Γ Γ1 : List Sl} {ta : TA} {rs : List Int} {k v : Int} (ha : EvA b ta Γ Γ1 [li rs, .int k, .int v]) (h0 : 0 ≤ k) (h2 : rs.length ≤ 1000) : EvS b (tCall (sp_with_value b.K) [] E0 ta) Γ Γ1 (.dat (li (rs.set k.toNat v))) :=
  s_weak (s_call ha ⟨rs, k, v, h0, h2, rfl, rfl⟩)
theorem c_after {b : Bs} {Γ Γ1 : List Sl} {ta : TA} {i : Ins} {rs : List Int} {pl : Int} (ha : EvA b ta Γ Γ1 [i.d, li rs, .int pl]) (h1 : i.ok) (h2 : ¬ i.mem) (h3 : rs.length = 8) (h4 : small rs) : EvS b (tCall (sp_after b.K) [] E0 ta) Γ Γ1 (.dat (.tuple [li (aftR rs i), .int (aftP rs pl i)])) :=
  s_call ha ⟨i, rs, pl, h1, h2, h3, h4, rfl, rfl⟩
theorem c_due {b : Bs} {Γ Γ1 : List Sl} {ta : TA} {i : Ins} {rs : List Int} {pl : Int} (ha : EvA b ta Γ Γ1 [i.d, li rs, .int pl]) (h1 : i.ok) (h2 : ¬ i.mem) (h3 : rs.length = 8) (h4 : small rs) : EvS b (tCall (sp__law_due b.K) [] E0 ta) Γ Γ1 (.dat (.tuple [li (aftR rs i), .int (aftP rs pl i)])) :=
  s_call ha ⟨i, rs, pl, h1, h2, h3, h4, rfl, rfl⟩
theorem len_after (ds : List PyData) (s : Sl) (h : gr_after ds s) : ds.length = 3 := by obtain ⟨_, _, _, _, _, _, _, rfl, _⟩ := h; rfl
theorem rd_after (b : Bs) (D : Ends) (ds : List PyData) (s : Sl) (h : gr_after ds s) (hq : ∀ v H', Ret b.K b.H0 b.B s v H' → D.rt v H') (hn : ∀ σ H, D.rt .non H → D.nx σ H) : Nx b (tr_after b.K D) [] [] (Γ0 6 ds) := by
  obtain ⟨i, rs, pl, ho, hm, hl, hs, rfl, rfl⟩ := h
  show Nx b _ [] [] [.dat i.d, .dat (li rs), .dat (.int pl), .no, .no, .no]
  have calc_case : ∀ (nm : PySem.Str) (r : Int) (rest : List PyData), i.d = .tuple (.str nm :: .int r :: rest) → decide (nm = ("jump" : PySem.Str)) = false → decide (nm = ("branch" : PySem.Str)) = false → PyData.canLay0 (.str nm) = true → i.calc → 0 ≤ r → aftR rs i = rs.set r.toNat (resF rs i) → aftP rs pl i = pl + 1 → Nx b (tr_after b.K D) [] [] [.dat i.d, .dat (li rs), .dat (.int pl), .no, .no, .no] := by
    intro nm r rest ed e1 e2 e3 hc hr ea ep
    rw [ea, ep] at hq
    have hd : EvS b (tVar 0) [.dat i.d, .dat (li rs), .dat (.int pl), .dat (.str nm), .no, .no] [.dat i.d, .dat (li rs), .dat (.int pl), .dat (.str nm), .no, .no] (.dat (.tuple (.str nm :: .int r :: rest))) := s_dat (s_var rfl) ed
    have hd5 : ∀ x : Int, EvS b (tVar 0) [.dat i.d, .dat (li rs), .dat (.int pl), .dat (.str nm), .no, .dat (.int x)] [.dat i.d, .dat (li rs), .dat (.int pl), .dat (.str nm), .no, .dat (.int x)] (.dat (.tuple (.str nm :: .int r :: rest))) := fun x => s_dat (s_var rfl) ed
    refine n_go (st_set (i := 3) (s := .dat (.str nm)) (s_op (s_dat (s_var rfl) ed) s_int (rd_ixT (d := .str nm) (i := 0) (atI_ok (by decide) rfl)))) ?_
    show Nx b _ [] [] [.dat i.d, .dat (li rs), .dat (.int pl), .dat (.str nm), .no, .no]
    refine n_stop (t_is (t_test (s_op (s_var rfl) s_str (rd_eqS e3 (by decide +kernel)))) e1) ?_
    refine n_stop (t_is (t_test (s_op (s_var rfl) s_str (rd_eqS e3 (by decide +kernel)))) e2) ?_
    refine n_go (st_set (i := 5) (c_result (a_cons (s_var rfl) (a_cons (s_var rfl) a_nil)) ho hc hl hs)) ?_
    show Nx b _ [] [] [.dat i.d, .dat (li rs), .dat (.int pl), .dat (.str nm), .no, .dat (.int (resF rs i))]
    exact n_ret (s_tupE (a_cons (c_withv (a_cons (s_var rfl) (a_cons (s_op (hd5 _) s_int (rd_ixT (d := .int r) (i := 1) (atI_ok (by decide) rfl))) (a_cons (s_var rfl) a_nil))) hr (by omega)) (a_cons (by walk_at "g_ev") a_nil)) (Nat.le_of_ble_eq_true rfl)) hq
  cases i with
  | jump p =>
    clear calc_case
    rw [show aftR rs (.jump p) = rs from rfl, show aftP rs pl (.jump p) = p from rfl] at hq
    unfold Ins.d
    refine n_go (st_set (s := .dat (.str "jump")) (by walk_at "g_ev")) ?_
    show Nx b _ [] [] [.dat (.tuple [.str "jump", .int p]), .dat (li rs), .dat (.int pl), .dat (.str "jump"), .no, .no]
    exact n_leave (t_is (by walk_at "g_et") (by decide)) (n_ret (by walk_at "g_ev") hq)
  | branch r p =>
    clear calc_case
    rw [show aftR rs (.branch r p) = rs from rfl, show aftP rs pl (.branch r p) = if 0 < g0 rs r then p else pl + 1 from rfl] at hq
    obtain ⟨a1, a2⟩ := ho
    have a3 : r < rs.length := by omega
    unfold Ins.d
    refine n_go (st_set (s := .dat (.str "branch")) (by walk_at "g_ev")) ?_
    show Nx b _ [] [] [.dat (.tuple [.str "branch", .int r, .int p]), .dat (li rs), .dat (.int pl), .dat (.str "branch"), .no, .no]
    refine n_stop (t_is (by walk_at "g_et") (by decide)) ?_
    refine n_if (t_is (by walk_at "g_et") (show decide _ = true by decide)) (fun _ => ?_) (fun z => by cases z)
    refine n_go (st_set (s := .dat (.bool (decide (0 < g0 rs r)))) (by walk_at "g_ev")) ?_
    show Nx b _ [] [] [.dat (.tuple [.str "branch", .int r, .int p]), .dat (li rs), .dat (.int pl), .dat (.str "branch"), .dat (.bool (decide (0 < g0 rs r))), .no]
    refine n_ret (Γ1 := [.dat (.tuple [.str "branch", .int r, .int p]), .dat (li rs), .dat (.int pl), .dat (.str "branch"), .dat (.bool (decide (0 < g0 rs r))), .no]) (s_tupE (a_cons (by walk_at "g_ev") (a_cons (s_if (s := .dat (.int (if 0 < g0 rs r then p else pl + 1))) (t_B (s_var rfl)) (fun hh => ?_) (fun hh => ?_)) a_nil)) (Nat.le_of_ble_eq_true rfl)) hq
    · rw [if_pos (of_decide_eq_true hh)]; walk_at "g_ev"
    · rw [if_neg (of_decide_eq_false hh)]; walk_at "g_ev"
  | set r n => exact calc_case "set" r [.int n] rfl (by decide) (by decide) (by decide +kernel) trivial ho.1.1 rfl rfl
  | copy r s => exact calc_case "copy" r [.int s] rfl (by decide) (by decide) (by decide +kernel) trivial ho.1.1 rfl rfl
  | add r s t => exact calc_case "add" r [.int s, .int t] rfl (by decide) (by decide) (by decide +kernel) trivial ho.1.1 rfl rfl
  | sub r s t => exact calc_case "sub" r [.int s, .int t] rfl (by decide) (by decide) (by decide +kernel) trivial ho.1.1 rfl rfl
  | mul r s t => exact calc_case "mul" r [.int s, .int t] rfl (by decide) (by decide) (by decide +kernel) trivial ho.1.1 rfl rfl
  | load r s => exact absurd trivial hm
  | store s r => exact absurd trivial hm
theorem st_setLi {b : Bs} {Γ : List Sl} {te tb : TE} {i : Nat} {k v : Int} {rs : List Int} {Γ2 : List Sl} (h : Γ[i]? = some (.own (rs.map .int))) (he : EvS b te Γ Γ (.dat (.int v))) (hb : EvS b tb Γ Γ (.dat (.int k))) (h0 : 0 ≤ k) (h1 : k < rs.length) (e : Γ.set i (.own ((rs.set k.toNat v).map .int)) = Γ2) :
    StS b (tAsg te (gSub (tVar i) tb rSetL)) Γ Γ2 := by
  have := st_setL (b := b) (te := te) (tb := tb) h he hb (ixN_ok h0 (by rw [List.length_map]; exact h1))
  rw [← List.map_set] at this
  exact st_is this e
theorem len__law_due (ds : List PyData) (s : Sl) (h : gr__law_due ds s) : ds.length = 3 := len_after ds s h
theorem rd__law_due (b : Bs) (D : Ends) (ds : List PyData) (s : Sl) (h : gr__law_due ds s) (hq : ∀ v H', Ret b.K b.H0 b.B s v H' → D.rt v H') (hn : ∀ σ H, D.rt .non H → D.nx σ H) : Nx b (tr__law_due b.K D) [] [] (Γ0 4 ds) := by
  obtain ⟨i, rs, pl, ho, hm, hl, hs, rfl, rfl⟩ := h
  show Nx b _ [] [] [.dat i.d, .dat (li rs), .dat (.int pl), .no]
  refine n_go (st_set (i := 3) (s_cb (a_cons (s_var rfl) a_nil) cd_listL)) ?_
  show Nx b _ [] [] [.dat i.d, .dat (li rs), .dat (.int pl), .own (rs.map .int)]
  cases i with
  | jump p =>
    rw [show aftR rs (.jump p) = rs from rfl, show aftP rs pl (.jump p) = p from rfl] at hq
    unfold Ins.d
    refine n_leave (t_is (by walk_at "g_et") (by decide)) ?_
    exact n_ret (s_tupE (a_cons (s_frz rfl) (a_cons (by walk_at "g_ev") a_nil)) (Nat.le_of_ble_eq_true rfl)) hq
  | branch r p =>
    rw [show aftR rs (.branch r p) = rs from rfl, show aftP rs pl (.branch r p) = if 0 < g0 rs r then p else pl + 1 from rfl] at hq
    obtain ⟨a1, a2⟩ := ho
    have a3 : r < rs.length := by omega
    unfold Ins.d
    refine n_stop (t_is (by walk_at "g_et") (by decide)) ?_
    refine n_leave (t_is (by walk_at "g_et") (by decide)) ?_
    refine n_ret (s_tupE (a_cons (s_frz rfl) (a_cons (s_op (d := .list [.int (pl + 1), .int p]) (by walk_at "g_ev") (by walk_at "g_ev") (rd_ixL ?_)) a_nil)) (Nat.le_of_ble_eq_true rfl)) hq
    by_cases hc : 0 < g0 rs r
    · rw [if_pos hc, decide_eq_true hc]; rfl
    · rw [if_neg hc, decide_eq_false hc]; rfl
  | set r n =>
    obtain ⟨⟨a1, a2⟩, _⟩ := ho
    have a3 : r < rs.length := by omega
    rw [show aftR rs (.set r n) = rs.set r.toNat n from rfl, show aftP rs pl (.set r n) = pl + 1 from rfl] at hq
    unfold Ins.d
    refine n_stop (t_is (by walk_at "g_et") (by decide)) (n_stop (t_is (by walk_at "g_et") (by decide)) ?_)
    refine n_go (st_if (t_is (by walk_at "g_et") (show decide _ = true by decide)) (fun _ => st_setLi (i := 3) rfl (by walk_at "g_ev") (by walk_at "g_ev") a1 a3 rfl) (fun z => by cases z)) ?_
    exact n_ret (s_tupE (a_cons (s_frz (i := 3) rfl) (a_cons (by walk_at "g_ev") a_nil)) (Nat.le_of_ble_eq_true rfl)) hq
  | copy r s =>
    obtain ⟨⟨a1, a2⟩, a4, a5⟩ := ho
    have a3 : r < rs.length := by omega
    have a6 : s < rs.length := by omega
    rw [show aftR rs (.copy r s) = rs.set r.toNat (g0 rs s) from rfl, show aftP rs pl (.copy r s) = pl + 1 from rfl] at hq
    unfold Ins.d
    refine n_stop (t_is (by walk_at "g_et") (by decide)) (n_stop (t_is (by walk_at "g_et") (by decide)) ?_)
    refine n_go (st_if (t_is (by walk_at "g_et") (show decide _ = false by decide)) (fun z => by cases z) (fun _ => st_if (t_is (by walk_at "g_et") (show decide _ = true by decide)) (fun _ => st_setLi (i := 3) (v := g0 rs s) rfl (by walk_at "g_ev") (by walk_at "g_ev") a1 a3 rfl) (fun z => by cases z))) ?_
    exact n_ret (s_tupE (a_cons (s_frz (i := 3) rfl) (a_cons (by walk_at "g_ev") a_nil)) (Nat.le_of_ble_eq_true rfl)) hq
  | add r s t =>
    obtain ⟨⟨a1, a2⟩, ⟨a4, a5⟩, a7, a8⟩ := ho
    have a3 : r < rs.length := by omega
    have a6 : s < rs.length := by omega
    have a9 : t < rs.length := by omega
    rw [show aftR rs (.add r s t) = rs.set r.toNat (g0 rs s + g0 rs t) from rfl, show aftP rs pl (.add r s t) = pl + 1 from rfl] at hq
    unfold Ins.d
    refine n_stop (t_is (by walk_at "g_et") (by decide)) (n_stop (t_is (by walk_at "g_et") (by decide)) ?_)
    refine n_go (st_if (t_is (by walk_at "g_et") (show decide _ = false by decide)) (fun z => by cases z) (fun _ => st_if (t_is (by walk_at "g_et") (show decide _ = false by decide)) (fun z => by cases z) (fun _ => st_if (t_is (by walk_at "g_et") (show decide _ = true by decide)) (fun _ => st_setLi (i := 3) (v := g0 rs s + g0 rs t) rfl (by walk_at "g_ev") (by walk_at "g_ev") a1 a3 rfl) (fun z => by cases z)))) ?_
    exact n_ret (s_tupE (a_cons (s_frz (i := 3) rfl) (a_cons (by walk_at "g_ev") a_nil)) (Nat.le_of_ble_eq_true rfl)) hq
  | sub r s t =>
    obtain ⟨⟨a1, a2⟩, ⟨a4, a5⟩, a7, a8⟩ := ho
    have a3 : r < rs.length := by omega
    have a6 : s < rs.length := by omega
    have a9 : t < rs.length := by omega
    rw [show aftR rs (.sub r s t) = rs.set r.toNat (g0 rs s - g0 rs t) from rfl, show aftP rs pl (.sub r s t) = pl + 1 from rfl] at hq
    unfold Ins.d
    refine n_stop (t_is (by walk_at "g_et") (by decide)) (n_stop (t_is (by walk_at "g_et") (by decide)) ?_)
    refine n_go (st_if (t_is (by walk_at "g_et") (show decide _ = false by decide)) (fun z => by cases z) (fun _ => st_if (t_is (by walk_at "g_et") (show decide _ = false by decide)) (fun z => by cases z) (fun _ => st_if (t_is (by walk_at "g_et") (show decide _ = false by decide)) (fun z => by cases z) (fun _ => st_if (t_is (by walk_at "g_et") (show decide _ = true by decide)) (fun _ => st_setLi (i := 3) (v := g0 rs s - g0 rs t) rfl (by walk_at "g_ev") (by walk_at "g_ev") a1 a3 rfl) (fun z => by cases z))))) ?_
    exact n_ret (s_tupE (a_cons (s_frz (i := 3) rfl) (a_cons (by walk_at "g_ev") a_nil)) (Nat.le_of_ble_eq_true rfl)) hq
  | mul r s t =>
    obtain ⟨⟨a1, a2⟩, ⟨a4, a5⟩, a7, a8⟩ := ho
    have a3 : r < rs.length := by omega
    have a6 : s < rs.length := by omega
    have a9 : t < rs.length := by omega
    have m1 := g0_small hs a4 a6
    have m2 := g0_small hs a7 a9
    rw [show aftR rs (.mul r s t) = rs.set r.toNat (g0 rs s * g0 rs t) from rfl, show aftP rs pl (.mul r s t) = pl + 1 from rfl] at hq
    unfold Ins.d
    refine n_stop (t_is (by walk_at "g_et") (by decide)) (n_stop (t_is (by walk_at "g_et") (by decide)) ?_)
    refine n_go (st_if (t_is (by walk_at "g_et") (show decide _ = false by decide)) (fun z => by cases z) (fun _ => st_if (t_is (by walk_at "g_et") (show decide _ = false by decide)) (fun z => by cases z) (fun _ => st_if (t_is (by walk_at "g_et") (show decide _ = false by decide)) (fun z => by cases z) (fun _ => st_if (t_is (by walk_at "g_et") (show decide _ = false by decide)) (fun z => by cases z) (fun _ => st_setLi (i := 3) (v := g0 rs s * g0 rs t) rfl (s_op (d := .int (g0 rs s)) (e := .int (g0 rs t)) (by walk_at "g_ev") (by walk_at "g_ev") (rd_intC (mulS m1 m2))) (by walk_at "g_ev") a1 a3 rfl))))) ?_
    exact n_ret (s_tupE (a_cons (s_frz (i := 3) rfl) (a_cons (by walk_at "g_ev") a_nil)) (Nat.le_of_ble_eq_true rfl)) hq
  | load r s => exact absurd trivial hm
  | store s r => exact absurd trivial hm
def nmF (a : Int) : PySem.Str := if a = 0 then "set" else if a = 1 then "copy" else if a = 2 then "add" else if a = 3 then "sub" else if a = 4 then "mul" else if a = 5 then "jump" else if a = 6 then "branch" else if a = 7 then "load" else "store"
theorem nm_at (a : Int) (h0 : 0 ≤ a) (h1 : a < 9) : atI [PyData.str "set", .str "copy", .str "add", .str "sub", .str "mul", .str "jump", .str "branch", .str "load", .str "store"] a = some (.str (nmF a)) := by
  have : a = 0 ∨ a = 1 ∨ a = 2 ∨ a = 3 ∨ a = 4 ∨ a = 5 ∨ a = 6 ∨ a = 7 ∨ a = 8 := by omega
  rcases this with rfl | rfl | rfl | rfl | rfl | rfl | rfl | rfl | rfl <;> rfl
theorem len__law_instruction (ds args ds' : List PyData) (s : Sl) (h : gr__law_instruction ds args ds' s) : args.length + 1 = 1 := by obtain ⟨_, _, _, _, rfl, _⟩ := h; rfl
local macro_rules | `(tactic| walk_at "g_next") => `(tactic| exact c_next rfl (a_cons s_int a_nil) (by with_reducible assumption) (by decide) (by decide))
theorem rd__law_instruction (b : Bs) (D : Ends) (p : Addr) (ds args ds' : List PyData) (s : Sl) (h : gr__law_instruction ds args ds' s) (hq : ∀ v H', RetB b p ds' s v H' → D.rt v H') : Nx b (tr__law_instruction b.K D) [] [] (Γ0M 3 p ds args) := by
  obtain ⟨ns, t, h0, rfl, rfl, rfl, rfl⟩ := h
  show Nx b _ [] [] [.ownq (some p) (tp ns t), .no, .no]
  unfold insI insT at hq
  dsimp only at hq
  have a0 := val_lo ns t 9 (by decide)
  have a1 := val_hi ns t 9 (by decide)
  have p1 := pos_nn ns t 9 h0
  have s1 : EvS b (tCall (sp__law_next b.K) [] E0 (tCons (tVar 0) (tCons (tC (.int 9)) tNil))) [.ownq (some p) (tp ns t), .no, .no] ([.ownq (some p) (tp ns t), .no, .no].set 0 (.ownq (some p) (tp ns (nextT ns t 9)))) (.dat (.int (nextV ns t 9))) := by walk_at "g_next"
  refine n_go (st_set (i := 1) (s := .dat (.str (nmF (nextV ns t 9)))) (s_op (s_lstE (by walk_at "g_ea") (by decide)) s1 (rd_ixL (nm_at _ a0 a1)))) ?_
  clear s1
  generalize nextV ns t 9 = a at hq a0 a1 ⊢
  generalize nextT ns t 9 = t1 at hq p1 ⊢
  show Nx b _ [] [] [.ownq (some p) (tp ns t1), .dat (.str (nmF a)), .no]
  have p2 := pos_nn ns t1 8 p1
  have p3 := pos_nn ns (nextT ns t1 8) 8 p2
  have p4 := pos_nn ns (nextT ns (nextT ns t1 8) 8) 8 p3
  have s3 : EvS b (tLst (tCons (tCall (sp__law_next b.K) [] E0 (tCons (tVar 0) (tCons (tC (.int 8)) tNil))) (tCons (tCall (sp__law_next b.K) [] E0 (tCons (tVar 0) (tCons (tC (.int 8)) tNil))) (tCons (tCall (sp__law_next b.K) [] E0 (tCons (tVar 0) (tCons (tC (.int 8)) tNil))) tNil)))) [.ownq (some p) (tp ns t1), .dat (.str (nmF a)), .no]
      [.ownq (some p) (tp ns (nextT ns (nextT ns (nextT ns t1 8) 8) 8)), .dat (.str (nmF a)), .no] (.dat (.list [.int (nextV ns t1 8), .int (nextV ns (nextT ns t1 8) 8), .int (nextV ns (nextT ns (nextT ns t1 8) 8) 8)])) :=
    s_lstE (a_cons (by walk_at "g_next") (a_cons (Γ1 := [.ownq (some p) (tp ns (nextT ns (nextT ns t1 8) 8)), .dat (.str (nmF a)), .no]) (by walk_at "g_next") (a_cons (Γ1 := [.ownq (some p) (tp ns (nextT ns (nextT ns (nextT ns t1 8) 8) 8)), .dat (.str (nmF a)), .no]) (by walk_at "g_next") a_nil))) (Nat.le_of_ble_eq_true rfl)
  refine n_go (st_set (i := 2) s3) ?_
  clear s3
  generalize nextV ns t1 8 = b0 at hq ⊢
  generalize nextV ns (nextT ns t1 8) 8 = b1 at hq ⊢
  generalize nextV ns (nextT ns (nextT ns t1 8) 8) 8 = b2 at hq ⊢
  generalize nextT ns (nextT ns (nextT ns t1 8) 8) 8 = t4 at hq p4 ⊢
  clear p1 p2 p3 h0
  show Nx b _ [] [] [.ownq (some p) (tp ns t4), .dat (.str (nmF a)), .dat (.list [.int b0, .int b1, .int b2])]
  have : a = 0 ∨ a = 1 ∨ a = 2 ∨ a = 3 ∨ a = 4 ∨ a = 5 ∨ a = 6 ∨ a = 7 ∨ a = 8 := by omega
  rcases this with rfl | rfl | rfl | rfl | rfl | rfl | rfl | rfl | rfl
  · -- set
    have hq : ∀ v H', RetB b p (tp ns (nextT ns t4 3)) (.dat (.tuple [.str "set", .int b0, .int (g0 [b1 - 4, 1000000000000000000000, -1000000000] (nextV ns t4 3))])) v H' → D.rt v H' := hq
    show Nx b _ [] [] [.ownq (some p) (tp ns t4), .dat (.str "set"), .dat (.list [.int b0, .int b1, .int b2])]
    refine n_leave (t_is (by walk_at "g_et") (by decide)) ?_
    have v0 := val_lo ns t4 3 (by decide)
    have v1 := val_hi ns t4 3 (by decide)
    have e1 : EvS b (tOp (rIx b.K) (tLst (tCons (tOp (rI0 fun i j => .int (i - j)) (tOp (rIx b.K) (tVar 2) (tC (.int 1))) (tC (.int 4))) (tCons (tOp (rI CPow fun i j => .int (i ^ j.toNat)) (tC (.int 10)) (tC (.int 21))) (tCons (tUn (rU fun i => .int (-i)) (tOp (rI CPow fun i j => .int (i ^ j.toNat)) (tC (.int 10)) (tC (.int 9)))) tNil)))) (tCall (sp__law_next b.K) [] E0 (tCons (tVar 0) (tCons (tC (.int 3)) tNil))))
        [.ownq (some p) (tp ns t4), .dat (.str "set"), .dat (.list [.int b0, .int b1, .int b2])] [.ownq (some p) (tp ns (nextT ns t4 3)), .dat (.str "set"), .dat (.list [.int b0, .int b1, .int b2])] (.dat (.int (g0 [b1 - 4, 1000000000000000000000, -1000000000] (nextV ns t4 3)))) := by
      refine s_op (Γ1 := [.ownq (some p) (tp ns t4), .dat (.str "set"), .dat (.list [.int b0, .int b1, .int b2])]) (d := li [b1 - 4, 1000000000000000000000, -1000000000]) (s_lstE (ds := [.int (b1 - 4), .int 1000000000000000000000, .int (-1000000000)]) (a_cons (by walk_at "g_ev") (a_cons (s_dat (by walk_at "g_ev") (congrArg PyData.int (by decide))) (a_cons (s_dat (by walk_at "g_ev") (congrArg PyData.int (by decide))) a_nil))) (Nat.le_of_ble_eq_true rfl)) (by walk_at "g_next") (rd_ixLi v0 (by show _ < (3 : Int); exact v1))
    exact n_retM (i := 0) (s_tupE (a_cons (s_var rfl) (a_cons (by walk_at "g_ev") (a_cons e1 a_nil))) (Nat.le_of_ble_eq_true rfl)) rfl hq
  · have hq : ∀ v H', RetB b p (tp ns t4) (.dat (.tuple [.str "copy", .int b0, .int b1])) v H' → D.rt v H' := hq
    show Nx b _ [] [] [.ownq (some p) (tp ns t4), .dat (.str "copy"), .dat (.list [.int b0, .int b1, .int b2])]
    refine n_stop (t_is (by walk_at "g_et") (by decide)) (n_stop (t_is (by walk_at "g_et") (by decide)) (n_stop (t_is (by walk_at "g_et") (by decide)) (n_stop (t_is (t_test (s_op (s_var rfl) (s_tupE (a_cons s_str (a_cons s_str (a_cons s_str a_nil))) (by decide)) (rd_inS (xs := ["add", "sub", "mul"])))) (by decide)) ?_)))
    exact n_retM (i := 0) (by walk_at "g_ev") rfl hq
  · have hq : ∀ v H', RetB b p (tp ns t4) (.dat (.tuple [.str "add", .int b0, .int b1, .int b2])) v H' → D.rt v H' := hq
    show Nx b _ [] [] [.ownq (some p) (tp ns t4), .dat (.str "add"), .dat (.list [.int b0, .int b1, .int b2])]
    refine n_stop (t_is (by walk_at "g_et") (by decide)) (n_stop (t_is (by walk_at "g_et") (by decide)) (n_stop (t_is (by walk_at "g_et") (by decide)) (n_leave (t_is (t_test (s_op (s_var rfl) (s_tupE (a_cons s_str (a_cons s_str (a_cons s_str a_nil))) (by decide)) (rd_inS (xs := ["add", "sub", "mul"])))) (by decide)) ?_)))
    exact n_retM (i := 0) (by walk_at "g_ev") rfl hq
  · have hq : ∀ v H', RetB b p (tp ns t4) (.dat (.tuple [.str "sub", .int b0, .int b1, .int b2])) v H' → D.rt v H' := hq
    show Nx b _ [] [] [.ownq (some p) (tp ns t4), .dat (.str "sub"), .dat (.list [.int b0, .int b1, .int b2])]
    refine n_stop (t_is (by walk_at "g_et") (by decide)) (n_stop (t_is (by walk_at "g_et") (by decide)) (n_stop (t_is (by walk_at "g_et") (by decide)) (n_leave (t_is (t_test (s_op (s_var rfl) (s_tupE (a_cons s_str (a_cons s_str (a_cons s_str a_nil))) (by decide)) (rd_inS (xs := ["add", "sub", "mul"])))) (by decide)) ?_)))
    exact n_retM (i := 0) (by walk_at "g_ev") rfl hq
  · have hq : ∀ v H', RetB b p (tp ns t4) (.dat (.tuple [.str "mul", .int b0, .int b1, .int b2])) v H' → D.rt v H' := hq
    show Nx b _ [] [] [.ownq (some p) (tp ns t4), .dat (.str "mul"), .dat (.list [.int b0, .int b1, .int b2])]
    refine n_stop (t_is (by walk_at "g_et") (by decide)) (n_stop (t_is (by walk_at "g_et") (by decide)) (n_stop (t_is (by walk_at "g_et") (by decide)) (n_leave (t_is (t_test (s_op (s_var rfl) (s_tupE (a_cons s_str (a_cons s_str (a_cons s_str a_nil))) (by decide)) (rd_inS (xs := ["add", "sub", "mul"])))) (by decide)) ?_)))
    exact n_retM (i := 0) (by walk_at "g_ev") rfl hq
  · have hq : ∀ v H', RetB b p (tp ns (nextT ns t4 50)) (.dat (.tuple [.str "jump", .int (nextV ns t4 50)])) v H' → D.rt v H' := hq
    show Nx b _ [] [] [.ownq (some p) (tp ns t4), .dat (.str "jump"), .dat (.list [.int b0, .int b1, .int b2])]
    refine n_stop (t_is (by walk_at "g_et") (by decide)) (n_leave (t_is (by walk_at "g_et") (by decide)) ?_)
    exact n_retM (i := 0) (s_tupE (a_cons (s_var rfl) (a_cons (by walk_at "g_next") a_nil)) (Nat.le_of_ble_eq_true rfl)) rfl hq
  · have hq : ∀ v H', RetB b p (tp ns (nextT ns t4 50)) (.dat (.tuple [.str "branch", .int b0, .int (nextV ns t4 50)])) v H' → D.rt v H' := hq
    show Nx b _ [] [] [.ownq (some p) (tp ns t4), .dat (.str "branch"), .dat (.list [.int b0, .int b1, .int b2])]
    refine n_stop (t_is (by walk_at "g_et") (by decide)) (n_stop (t_is (by walk_at "g_et") (by decide)) (n_leave (t_is (by walk_at "g_et") (by decide)) ?_))
    exact n_retM (i := 0) (s_tupE (a_cons (s_var rfl) (a_cons (by walk_at "g_ev") (a_cons (by walk_at "g_next") a_nil))) (Nat.le_of_ble_eq_true rfl)) rfl hq
  · have hq : ∀ v H', RetB b p (tp ns t4) (.dat (.tuple [.str "load", .int b0, .int b1])) v H' → D.rt v H' := hq
    show Nx b _ [] [] [.ownq (some p) (tp ns t4), .dat (.str "load"), .dat (.list [.int b0, .int b1, .int b2])]
    refine n_stop (t_is (by walk_at "g_et") (by decide)) (n_stop (t_is (by walk_at "g_et") (by decide)) (n_stop (t_is (by walk_at "g_et") (by decide)) (n_stop (t_is (t_test (s_op (s_var rfl) (s_tupE (a_cons s_str (a_cons s_str (a_cons s_str a_nil))) (by decide)) (rd_inS (xs := ["add", "sub", "mul"])))) (by decide)) ?_)))
    exact n_retM (i := 0) (by walk_at "g_ev") rfl hq
  · have hq : ∀ v H', RetB b p (tp ns t4) (.dat (.tuple [.str "store", .int b0, .int b1])) v H' → D.rt v H' := hq
    show Nx b _ [] [] [.ownq (some p) (tp ns t4), .dat (.str "store"), .dat (.list [.int b0, .int b1, .int b2])]
    refine n_stop (t_is (by walk_at "g_et") (by decide)) (n_stop (t_is (by walk_at "g_et") (by decide)) (n_stop (t_is (by walk_at "g_et") (by decide)) (n_stop (t_is (t_test (s_op (s_var rfl) (s_tupE (a_cons s_str (a_cons s_str (a_cons s_str a_nil))) (by decide)) (rd_inS (xs := ["add", "sub", "mul"])))) (by decide)) ?_)))
    exact n_retM (i := 0) (by walk_at "g_ev") rfl hq
def regT (ns : List Int) : Nat → Tp
  | 0 => ⟨0, 0, 5⟩
  | i + 1 => nextT ns (nextT ns (regT ns i) 9) 4
def regV (ns : List Int) (i : Nat) : Int := g0 [nextV ns (regT ns i) 9, -3, 100000000000000000000, 0] (nextV ns (nextT ns (regT ns i) 9) 4)
theorem regT_pos (ns : List Int) : ∀ i, 0 ≤ (regT ns i).pos
  | 0 => Int.le_refl _
  | i + 1 => pos_nn _ _ _ (pos_nn _ _ _ (regT_pos ns i))
def big (x : Int) : Prop := -10000000000000000000000000000000000000000 ≤ x ∧ x ≤ 10000000000000000000000000000000000000000
theorem g0_cases {p : Int → Prop} (l : List Int) (k : Int) (h : ∀ x ∈ l, p x) (h0 : p 0) : p (g0 l k) := by
  unfold g0
  rw [List.getD_eq_getElem?_getD]
  cases e : l[k.toNat]? with
  | none => exact h0
  | some x => exact h x (List.mem_of_getElem? e)
theorem regV_big (ns : List Int) (i : Nat) : big (regV ns i) := by
  have a0 := val_lo ns (regT ns i) 9 (by decide)
  have a1 := val_hi ns (regT ns i) 9 (by decide)
  refine g0_cases _ _ (fun x hx => ?_) (by unfold big; omega)
  simp at hx
  unfold big
  omega
structure W26 where
  t : Tp
  rs : List Int
  pl : Int
def clampF (x : Int) : Int := min (max x (-10000000000000000000000000000000000000000)) 10000000000000000000000000000000000000000
def isMem : Ins → Bool
  | .load _ _ => true | .store _ _ => true | _ => false
def stepW (ns : List Int) (w : W26) : W26 :=
  if isMem (insI ns w.t) = true then ⟨insT ns w.t, w.rs, w.pl⟩ else ⟨insT ns w.t, (aftR w.rs (insI ns w.t)).map clampF, aftP w.rs w.pl (insI ns w.t)⟩
def iterW (ns : List Int) (w : W26) : Nat → W26
  | 0 => w
  | i + 1 => stepW ns (iterW ns w i)
def goodW (w : W26) : Prop := 0 ≤ w.t.pos ∧ w.rs.length = 8 ∧ ∀ x ∈ w.rs, big x
theorem insT_pos (ns : List Int) (t : Tp) (h : 0 ≤ t.pos) : 0 ≤ (insT ns t).pos := by
  have h4 := pos_nn ns _ 8 (pos_nn ns _ 8 (pos_nn ns _ 8 (pos_nn ns t 9 h)))
  unfold insT
  dsimp only
  repeat' split
  all_goals first | exact h4 | exact pos_nn _ _ _ h4
theorem insI_ok (ns : List Int) (t : Tp) : (insI ns t).ok := by
  have r : ∀ t, rg (nextV ns t 8) := fun t => ⟨val_lo ns t 8 (by decide), val_hi ns t 8 (by decide)⟩
  unfold insI
  dsimp only
  repeat' split
  · refine ⟨r _, ?_⟩
    have b1 := r (nextT ns (nextT ns t 9) 8)
    unfold rg at b1
    refine g0_cases (p := fun x => -(2 ^ 200) < x ∧ x < 2 ^ 200) _ _ (fun x hx => ?_) (by omega)
    simp at hx
    omega
  · exact ⟨r _, r _⟩
  · exact ⟨r _, r _, r _⟩
  · exact ⟨r _, r _, r _⟩
  · exact ⟨r _, r _, r _⟩
  · exact trivial
  · exact r _
  · exact ⟨r _, r _⟩
  · exact ⟨r _, r _⟩
theorem clamp_big (x : Int) : big (clampF x) := by unfold big clampF; omega
theorem aftR_len (rs : List Int) (i : Ins) : (aftR rs i).length = rs.length := by
  cases i <;> simp [aftR]
theorem goodW_step (ns : List Int) (w : W26) (h : goodW w) : goodW (stepW ns w) := by
  obtain ⟨h1, h2, h3⟩ := h
  unfold stepW
  split
  · exact ⟨insT_pos ns _ h1, h2, h3⟩
  · refine ⟨insT_pos ns _ h1, ?_, fun x hx => ?_⟩
    · dsimp only
      rw [List.length_map, aftR_len]; exact h2
    · obtain ⟨y, _, rfl⟩ := List.mem_map.mp hx
      exact clamp_big y
theorem goodW_iter (ns : List Int) (w : W26) (h : goodW w) : ∀ i, goodW (iterW ns w i)
  | 0 => h
  | i + 1 => goodW_step ns _ (goodW_iter ns w h i)
theorem small_of {w : W26} (h : goodW w) : small w.rs := fun x hx => by
  have := h.2.2 x hx
  unfold big at this
  omega
theorem c_instr {b : Bs} {Γ : List Sl} {i : Nat} {z : Option Addr} {ns : List Int} {t : Tp} (h : Γ[i]? = some (.ownq z (tp ns t))) (h0 : 0 ≤ t.pos) : EvS b (tCall (sp__law_instruction b.K) [] E0 (tCons (tVar i) tNil)) Γ (Γ.set i (.ownq z (tp ns (insT ns t)))) (.dat (insI ns t).d) :=
  s_callM h a_nil ⟨ns, t, h0, rfl, rfl, rfl, rfl⟩
theorem c_touch {b : Bs} {Γ Γ1 : List Sl} {ta : TA} {i : Ins} {rs : List Int} {w : Int} (ha : EvA b ta Γ Γ1 [i.d, li rs, .int w]) (h1 : i.ok) (h2 : rs.length = 8) (h3 : 0 < w) : EvS b (tCall (sp_touch_of b.K) [] E0 ta) Γ Γ1 (.dat (touchF rs w i)) :=
  s_call ha ⟨i, rs, w, h1, h2, h3, rfl, rfl⟩
theorem eqv_same {d : PyData} (h : SeqAt.shaped d = true) : PyData.eqv d d = true := SeqAt.eqv_refl d (SeqAt.canLay_of_shaped h)
theorem rd_neSame {K : PySem.W.Frag} {d : PyData} (h : SeqAt.shaped d = true) : RD K (rNeD K) d d (.dat (.bool false)) := by
  have := rd_neD (K := K) h h
  rwa [eqv_same h] at this
theorem sh_pairS (x : PySem.Str) (n : Int) (h : PyData.canLay0 (.str x) = true) : SeqAt.shaped (.tuple [.str x, .int n]) = true := by
  simp only [SeqAt.shaped, PyData.canLay0, PyData.canLayAll0, PyData.depth, PyData.depthAll] at h ⊢
  simp [h]
theorem sh_pairL (xs : List Int) (n : Int) : SeqAt.shaped (.tuple [li xs, .int n]) = true := by
  have h1 := lay_ints xs
  have h2 := dep_ints xs
  simp only [SeqAt.shaped, PyData.canLay0, PyData.canLayAll0, PyData.depth, PyData.depthAll, h1]
  simp
  omega
theorem st_asgT2 {b : Bs} {K : PySem.W.Frag} (hK : b.K = K) {Γ Γ1 : List Sl} {te : TE} {d e : PyData} {i j : Nat} (h : EvS b te Γ Γ1 (.dat (.tuple [d, e]))) : StS b (tAsg te (gTup K 2 (gCons (gName i) (gCons (gName j) gNil)))) Γ ((Γ1.set i (.dat d)).set j (.dat e)) := fun D T τ k σ H hs =>
  h T τ σ H hs _ fun v H' h' => g_tup2 hK T τ σ H' v h' _ fun σ' h2 _ => k _ _ h2
theorem len_law (ds : List PyData) (s : Sl) (h : gr_law ds s) : ds.length = 1 := by obtain ⟨_, _, rfl, _⟩ := h; rfl
def lawG (ns : List Int) (words : Int) (w : W26) : List Sl := [.dat (li ns), .own (tp ns w.t), .dat (li w.rs), .dat (.int w.pl), .dat (.int words), .no, .no, .no, .no, .no, .no, .no, .no]
theorem mem_case (i : Ins) (h : isMem i = true) : (∃ r s, i = .load r s) ∨ ∃ s r, i = .store s r := by
  cases i with
  | load r s => exact .inl ⟨r, s, rfl⟩
  | store s r => exact .inr ⟨s, r, rfl⟩
  | _ => cases h
theorem not_mem (i : Ins) (h : ¬ isMem i = true) : ¬ i.mem := by
  cases i with
  | load r s => exact absurd rfl h
  | store s r => exact absurd rfl h
  | _ => exact id
theorem touch_none (rs : List Int) (w : Int) (i : Ins) (h : ¬ isMem i = true) : touchF rs w i = .none := by
  cases i with
  | load r s => exact absurd rfl h
  | store s r => exact absurd rfl h
  | _ => rfl
theorem head_not (i : Ins) (h : ¬ isMem i = true) : ∃ (nm : PySem.Str) (rest : List PyData), i.d = .tuple (.str nm :: rest) ∧ decide (nm = ("load" : PySem.Str)) = false ∧ decide (nm = ("store" : PySem.Str)) = false ∧ PyData.canLay0 (.str nm) = true := by
  cases i with
  | load r s => exact absurd rfl h
  | store s r => exact absurd rfl h
  | set r n => exact ⟨_, _, rfl, by decide, by decide, by decide +kernel⟩
  | copy r n => exact ⟨_, _, rfl, by decide, by decide, by decide +kernel⟩
  | add r s t => exact ⟨_, _, rfl, by decide, by decide, by decide +kernel⟩
  | sub r s t => exact ⟨_, _, rfl, by decide, by decide, by decide +kernel⟩
  | mul r s t => exact ⟨_, _, rfl, by decide, by decide, by decide +kernel⟩
  | jump p => exact ⟨_, _, rfl, by decide, by decide, by decide +kernel⟩
  | branch r p => exact ⟨_, _, rfl, by decide, by decide, by decide +kernel⟩
theorem st_pass {b : Bs} {c : TT} {t : TS} {Γ Γ1 : List Sl} (h : EvT b c Γ Γ1 false) : StS b (tIfS c t tNext) Γ Γ1 := st_if h (fun z => by cases z) fun _ => st_next
theorem e1040 : ((10 : Int) ^ (40 : Int).toNat) = 10000000000000000000000000000000000000000 := by decide
theorem map_dat (l : List Int) (f : Int → Int) : (l.map fun x => PyData.int (f x)) = (l.map f).map PyData.int := by rw [List.map_map]; rfl
set_option maxHeartbeats 4000000 in
theorem rd_law (b : Bs) (D : Ends) (ds : List PyData) (s : Sl) (h : gr_law ds s) (hq : ∀ v H', Ret b.K b.H0 b.B s v H' → D.rt v H') (hn : ∀ σ H, D.rt .non H → D.nx σ H) : Nx b (tr_law b.K D) [] [] (Γ0 13 ds) := by
  obtain ⟨ns, hlen, rfl, rfl⟩ := h
  show Nx b _ [] [] [.dat (li ns), .no, .no, .no, .no, .no, .no, .no, .no, .no, .no, .no, .no]
  refine n_go (st_set (i := 1) (s_lst (ds := tp ns ⟨0, 0, 5⟩) (a_cons (by walk_at "g_ev") (a_cons s_int (a_cons s_int (a_cons s_int a_nil)))) (Nat.le_of_ble_eq_true rfl))) ?_
  show Nx b _ [] [] [.dat (li ns), .own (tp ns (regT ns 0)), .no, .no, .no, .no, .no, .no, .no, .no, .no, .no, .no]
  have e1 : EvS b (tLc (iRng1 (tCons (tC (.int 8)) tNil)) (gName 11) tYes (tOp (rIx b.K) (tLst (tCons (tCall (sp__law_next b.K) [] E0 (tCons (tVar 1) (tCons (tC (.int 9)) tNil))) (tCons (tUn (rU fun i => .int (-i)) (tC (.int 3))) (tCons (tOp (rI CPow fun i j => .int (i ^ j.toNat)) (tC (.int 10)) (tC (.int 20))) (tCons (tC (.int 0)) tNil))))) (tCall (sp__law_next b.K) [] E0 (tCons (tVar 1) (tCons (tC (.int 4)) tNil)))) [11])
      [.dat (li ns), .own (tp ns (regT ns 0)), .no, .no, .no, .no, .no, .no, .no, .no, .no, .no, .no] [.dat (li ns), .own (tp ns (regT ns 8)), .no, .no, .no, .no, .no, .no, .no, .no, .no, .no, .no] (.dat (li ((List.range 8).map (regV ns)))) := by
    have := s_lc (b := b) (tt := tYes) (te := tOp (rIx b.K) (tLst (tCons (tCall (sp__law_next b.K) [] E0 (tCons (tVar 1) (tCons (tC (.int 9)) tNil))) (tCons (tUn (rU fun i => .int (-i)) (tC (.int 3))) (tCons (tOp (rI CPow fun i j => .int (i ^ j.toNat)) (tC (.int 10)) (tC (.int 20))) (tCons (tC (.int 0)) tNil))))) (tCall (sp__law_next b.K) [] E0 (tCons (tVar 1) (tCons (tC (.int 4)) tNil)))) (g := gName 11) (vs := [11])
      (i_range1 (ta := tCons (tC (.int 8)) tNil) (Γ := [.dat (li ns), .own (tp ns (regT ns 0)), .no, .no, .no, .no, .no, .no, .no, .no, .no, .no, .no]) (Γ1 := [.dat (li ns), .own (tp ns (regT ns 0)), .no, .no, .no, .no, .no, .no, .no, .no, .no, .no, .no]) (n := 8) (a_cons s_int a_nil) (by decide) (by decide))
      (fun i => [.dat (li ns), .own (tp ns (regT ns i)), .no, .no, .no, .no, .no, .no, .no, .no, .no, .no, .no])
      (fun i => [.dat (li ns), .own (tp ns (regT ns i)), .no, .no, .no, .no, .no, .no, .no, .no, .no, .dat (.int (i : Int)), .no])
      (fun i => [.dat (li ns), .own (tp ns (regT ns (i + 1))), .no, .no, .no, .no, .no, .no, .no, .no, .no, .dat (.int (i : Int)), .no]) (fun _ => true) (fun i => .int (regV ns i)) rfl
      (fun i di e => by
        rw [List.getElem?_map] at e
        obtain ⟨k, hk, rfl⟩ := Option.map_eq_some_iff.mp e
        obtain ⟨hlt, rfl⟩ := List.getElem?_eq_some_iff.mp hk
        rw [List.getElem_range]
        exact gv_name) (fun i di e => t_yes) (fun i di e _ => by
        have h0 := regT_pos ns i
        have h1 := pos_nn ns (regT ns i) 9 h0
        have v0 := val_lo ns (nextT ns (regT ns i) 9) 4 (by decide)
        have v1 := val_hi ns (nextT ns (regT ns i) 9) 4 (by decide)
        refine s_op (Γ1 := [.dat (li ns), .own (tp ns (nextT ns (regT ns i) 9)), .no, .no, .no, .no, .no, .no, .no, .no, .no, .dat (.int (i : Int)), .no]) (d := li [nextV ns (regT ns i) 9, -3, 100000000000000000000, 0]) (s_lstE (ds := [.int (nextV ns (regT ns i) 9), .int (-3), .int 100000000000000000000, .int 0]) (a_cons (Γ1 := [.dat (li ns), .own (tp ns (nextT ns (regT ns i) 9)), .no, .no, .no, .no, .no, .no, .no, .no, .no, .dat (.int (i : Int)), .no]) (by walk_at "g_next") (a_cons (by walk_at "g_ev") (a_cons (s_dat (by walk_at "g_ev") (congrArg PyData.int (by decide))) (a_cons s_int a_nil)))) (Nat.le_of_ble_eq_true rfl)) (by walk_at "g_next") (rd_ixLi v0 (by show _ < (4 : Int); exact v1)))
      (fun i hi => ⟨rfl, rfl⟩) (by simp)
    refine s_dat (s_weak this) ?_
    rw [List.filter_eq_self.mpr (fun _ _ => rfl)]
    simp [li, Function.comp_def]
  refine n_go (st_set (i := 2) e1) ?_
  clear e1
  have hp8 := regT_pos ns 8
  have hbig : ∀ x ∈ (List.range 8).map (regV ns), big x := fun x hx => by
    obtain ⟨k, _, rfl⟩ := List.mem_map.mp hx
    exact regV_big ns k
  have hl8 : ((List.range 8).map (regV ns)).length = 8 := by simp
  generalize (List.range 8).map (regV ns) = rs at hbig hl8 ⊢
  generalize regT ns 8 = t at hp8 ⊢
  show Nx b _ [] [] [.dat (li ns), .own (tp ns t), .dat (li rs), .no, .no, .no, .no, .no, .no, .no, .no, .no, .no]
  have hp1 := pos_nn ns t 20 hp8
  refine n_go (st_set (i := 3) (by walk_at "g_next")) ?_
  generalize nextV ns t 20 = pl
  generalize nextT ns t 20 = t1 at hp1 ⊢
  show Nx b _ [] [] [.dat (li ns), .own (tp ns t1), .dat (li rs), .dat (.int pl), .no, .no, .no, .no, .no, .no, .no, .no, .no]
  have hp2 := pos_nn ns t1 12 hp1
  have w0 := val_lo ns t1 12 (by decide)
  refine n_go (st_set (i := 4) (s_op s_int (s_op s_int (by walk_at "g_next") rd_int) (rd_intC (mulL (by decide) (by decide))))) ?_
  have hwd : 0 < 4 * (1 + nextV ns t1 12) := by omega
  generalize 4 * (1 + nextV ns t1 12) = words at hwd ⊢
  generalize nextT ns t1 12 = t2 at hp2 ⊢
  show Nx b _ [] [] [.dat (li ns), .own (tp ns t2), .dat (li rs), .dat (.int pl), .dat (.int words), .no, .no, .no, .no, .no, .no, .no, .no]
  have hp3 := pos_nn ns t2 30 hp2
  have v0 := val_lo ns t2 30 (by decide)
  have v1 := val_hi ns t2 30 (by decide)
  have e2 : EvA b (tCons (tOp (rI0 fun i j => .int (i + j)) (tC (.int 1)) (tCall (sp__law_next b.K) [] E0 (tCons (tVar 1) (tCons (tC (.int 30)) tNil)))) tNil) [.dat (li ns), .own (tp ns t2), .dat (li rs), .dat (.int pl), .dat (.int words), .no, .no, .no, .no, .no, .no, .no, .no] [.dat (li ns), .own (tp ns (nextT ns t2 30)), .dat (li rs), .dat (.int pl), .dat (.int words), .no, .no, .no, .no, .no, .no, .no, .no] [.int (1 + nextV ns t2 30)] :=
    a_cons (s_op s_int (by walk_at "g_next") rd_int) a_nil
  generalize nextV ns t2 30 = n at v0 v1 e2 ⊢
  generalize nextT ns t2 30 = t3 at hp3 e2 ⊢
  have hg : goodW ⟨t3, rs, pl⟩ := ⟨hp3, hl8, hbig⟩
  refine n_go (st_for (i_range1 e2 (by omega) (by omega)) (fun i => lawG ns words (iterW ns ⟨t3, rs, pl⟩ i)) (fun i => (lawG ns words (iterW ns ⟨t3, rs, pl⟩ i)).set 5 (.dat (.int (i : Int)))) (by show wk _ (lawG ns words ⟨t3, rs, pl⟩); unfold lawG; walk_at "g_wk") (fun i di e => ?_) (fun i di e => ?_)) ?_
  · rw [List.getElem?_map] at e
    obtain ⟨k, hk, rfl⟩ := Option.map_eq_some_iff.mp e
    obtain ⟨hlt, rfl⟩ := List.getElem?_eq_some_iff.mp hk
    rw [List.getElem_range]
    exact g_name
  · clear e e2 hq hn
    have hw := goodW_iter ns _ hg i
    show StS b _ _ (lawG ns words (stepW ns (iterW ns ⟨t3, rs, pl⟩ i)))
    generalize iterW ns ⟨t3, rs, pl⟩ i = w at hw ⊢
    clear hg hbig hl8 hp3 hp2 hp1 hp8 v0 v1 w0
    obtain ⟨t, rs, pl⟩ := w
    obtain ⟨hw1, hw2, hw3⟩ := hw
    have hsm : small rs := small_of (w := ⟨t, rs, pl⟩) ⟨hw1, hw2, hw3⟩
    dsimp only at hw1 hw2 hw3
    have hok := insI_ok ns t
    show StS b _ [.dat (li ns), .own (tp ns t), .dat (li rs), .dat (.int pl), .dat (.int words), .dat (.int (i : Int)), .no, .no, .no, .no, .no, .no, .no] _
    refine st_seq (st_set (i := 6) (c_instr rfl hw1)) ?_
    unfold stepW
    dsimp only
    generalize insI ns t = ins at hok ⊢
    generalize insT ns t = t'
    show StS b _ [.dat (li ns), .own (tp ns t'), .dat (li rs), .dat (.int pl), .dat (.int words), .dat (.int (i : Int)), .dat ins.d, .no, .no, .no, .no, .no, .no] _
    refine st_seq (st_set (i := 7) (s := .dat (li rs)) (by walk_at "g_ev")) ?_
    show StS b _ [.dat (li ns), .own (tp ns t'), .dat (li rs), .dat (.int pl), .dat (.int words), .dat (.int (i : Int)), .dat ins.d, .dat (li rs), .no, .no, .no, .no, .no] _
    refine st_seq (st_set (i := 8) (c_touch (a_cons (s_var rfl) (a_cons (s_var rfl) (a_cons (s_var rfl) a_nil))) hok hw2 hwd)) ?_
    show StS b _ [.dat (li ns), .own (tp ns t'), .dat (li rs), .dat (.int pl), .dat (.int words), .dat (.int (i : Int)), .dat ins.d, .dat (li rs), .dat (touchF rs words ins), .no, .no, .no, .no] _
    by_cases hm : isMem ins = true
    · rw [if_pos hm]
      rcases mem_case ins hm with ⟨r, s, rfl⟩ | ⟨s, r, rfl⟩
      · obtain ⟨⟨a1, a2⟩, a3, a4⟩ := hok
        have a5 : s < rs.length := by omega
        unfold Ins.d touchF
        refine st_if (t_is (by walk_at "g_et") (show (decide _ || decide _) = true by decide)) (fun _ => ?_) (fun z => by cases z)
        refine st_seq (st_set (i := 9) (s := .dat (.int (g0 rs s))) (by walk_at "g_ev")) ?_
        show StS b _ [.dat (li ns), .own (tp ns t'), .dat (li rs), .dat (.int pl), .dat (.int words), .dat (.int (i : Int)), .dat (.tuple [.str "load", .int r, .int s]), .dat (li rs), .dat (.tuple [.str "load", .int (g0 rs s % words)]), .dat (.int (g0 rs s)), .no, .no, .no] _
        refine st_seq (st_pass (t_is (by walk_at "g_et") (by decide))) ?_
        refine st_wk ?_ (st_pass (t_is (t_or (t_test (s_op (d := .tuple [.str "load", .int (g0 rs s % words)]) (e := .tuple [.str "load", .int (g0 rs s % words)]) (s_var rfl) (by walk_at "g_ev") (rd_neSame (sh_pairS _ _ (by decide +kernel))))) (fun _ => by walk_at "g_et")) (by simp)))
        unfold lawG
        walk_at "g_wk"
      · obtain ⟨⟨a1, a2⟩, a3, a4⟩ := hok
        have a5 : s < rs.length := by omega
        have a6 : r < rs.length := by omega
        unfold Ins.d touchF
        refine st_if (t_is (by walk_at "g_et") (show (decide _ || decide _) = true by decide)) (fun _ => ?_) (fun z => by cases z)
        refine st_seq (st_set (i := 9) (s := .dat (.int (g0 rs r))) (by walk_at "g_ev")) ?_
        show StS b _ [.dat (li ns), .own (tp ns t'), .dat (li rs), .dat (.int pl), .dat (.int words), .dat (.int (i : Int)), .dat (.tuple [.str "store", .int s, .int r]), .dat (li rs), .dat (.tuple [.str "store", .int (g0 rs s % words)]), .dat (.int (g0 rs r)), .no, .no, .no] _
        refine st_seq (st_if (t_is (by walk_at "g_et") (show decide _ = true by decide)) (fun _ => st_set (i := 9) (s := .dat (.int (g0 rs s))) (by walk_at "g_ev")) (fun z => by cases z)) ?_
        show StS b _ [.dat (li ns), .own (tp ns t'), .dat (li rs), .dat (.int pl), .dat (.int words), .dat (.int (i : Int)), .dat (.tuple [.str "store", .int s, .int r]), .dat (li rs), .dat (.tuple [.str "store", .int (g0 rs s % words)]), .dat (.int (g0 rs s)), .no, .no, .no] _
        refine st_wk ?_ (st_pass (t_is (t_or (t_test (s_op (d := .tuple [.str "store", .int (g0 rs s % words)]) (e := .tuple [.str "store", .int (g0 rs s % words)]) (s_var rfl) (by walk_at "g_ev") (rd_neSame (sh_pairS _ _ (by decide +kernel))))) (fun _ => by walk_at "g_et")) (by simp)))
        unfold lawG
        walk_at "g_wk"
    · rw [if_neg hm, touch_none rs words ins hm]
      obtain ⟨nm, rest, ed, n1, n2, n3⟩ := head_not ins hm
      have hnm := not_mem ins hm
      refine st_if (t_is (t_or (t_test (s_op (s_op (s_dat (s_var rfl) ed) s_int (rd_ixT (d := .str nm) (i := 0) (atI_ok (by decide) rfl))) s_str (rd_eqS n3 (by decide +kernel)))) (fun _ => t_test (s_op (s_op (s_dat (s_var rfl) ed) s_int (rd_ixT (d := .str nm) (i := 0) (atI_ok (by decide) rfl))) s_str (rd_eqS n3 (by decide +kernel))))) (by rw [n1, n2])) (fun z => by cases z) (fun _ => ?_)
      have hl' := aftR_len rs ins
      refine st_seq (st_set (i := 10) (c_after (a_cons (s_var rfl) (a_cons (s_var rfl) (a_cons (s_var rfl) a_nil))) hok hnm hw2 hsm)) ?_
      have edue : ∀ Γ : List Sl, Γ[6]? = some (.dat ins.d) → Γ[2]? = some (.dat (li rs)) → Γ[3]? = some (.dat (.int pl)) → EvS b (tCall (sp__law_due b.K) [] E0 (tCons (tVar 6) (tCons (tVar 2) (tCons (tVar 3) tNil)))) Γ Γ (.dat (.tuple [li (aftR rs ins), .int (aftP rs pl ins)])) := fun Γ g1 g2 g3 => c_due (a_cons (s_var g1) (a_cons (s_var g2) (a_cons (s_var g3) a_nil))) hok hnm hw2 hsm
      generalize aftR rs ins = rs2 at hl' edue ⊢
      generalize aftP rs pl ins = pl2 at edue ⊢
      show StS b _ [.dat (li ns), .own (tp ns t'), .dat (li rs), .dat (.int pl), .dat (.int words), .dat (.int (i : Int)), .dat ins.d, .dat (li rs), .dat .none, .no, .dat (.tuple [li rs2, .int pl2]), .no, .no] _
      refine st_seq (st_pass (t_is (t_or (t_test (s_notN0 (s_var rfl))) (fun _ => by walk_at "g_et")) (by simp))) ?_
      refine st_seq (st_pass (t_is (t_test (s_op (s_var rfl) (edue _ rfl rfl rfl) (rd_neSame (sh_pairL _ _)))) rfl)) ?_
      refine st_seq (st_asgT2 (i := 2) (j := 3) rfl (s_var rfl)) ?_
      show StS b _ [.dat (li ns), .own (tp ns t'), .dat (li rs2), .dat (.int pl2), .dat (.int words), .dat (.int (i : Int)), .dat ins.d, .dat (li rs), .dat .none, .no, .dat (.tuple [li rs2, .int pl2]), .no, .no] _
      have := s_map (b := b) (te := tCB rMin2 (tCons (tCB rMax2 (tCons (tVar 12) (tCons (tUn (rU fun i => .int (-i)) (tOp (rI CPow fun i j => .int (i ^ j.toNat)) (tC (.int 10)) (tC (.int 40)))) tNil))) (tCons (tOp (rI CPow fun i j => .int (i ^ j.toNat)) (tC (.int 10)) (tC (.int 40))) tNil))) (g := gName 12) (vs := [12]) (ks := rs2) (φ := PyData.int)
        (i_list (tl := tVar 2) (Γ := [.dat (li ns), .own (tp ns t'), .dat (li rs2), .dat (.int pl2), .dat (.int words), .dat (.int (i : Int)), .dat ins.d, .dat (li rs), .dat .none, .no, .dat (.tuple [li rs2, .int pl2]), .no, .no]) (s_var rfl))
        (fun x => [.dat (li ns), .own (tp ns t'), .dat (li rs2), .dat (.int pl2), .dat (.int words), .dat (.int (i : Int)), .dat ins.d, .dat (li rs), .dat .none, .no, .dat (.tuple [li rs2, .int pl2]), .no, .dat (.int x)]) (fun x => .int (clampF x)) (fun x _ => gv_name) (fun x _ => by
          refine s_cb (a_cons (s_cb (a_cons (s_var rfl) (a_cons (s_dat (by walk_at "g_ev") (congrArg (fun z => PyData.int (-z)) e1040)) a_nil)) cd_max2) (a_cons (s_dat (by walk_at "g_ev") (congrArg PyData.int e1040)) a_nil)) cd_min2) (fun _ _ => rfl) rfl (by omega)
      rw [map_dat] at this
      refine st_wk ?_ (st_set (i := 2) (s_weak this))
      unfold lawG
      walk_at "g_wk"
  · unfold lawG
    exact n_ret s_bl hq
def spLaw (K : PySem.W.Frag) : Sp := fun vs H Q _ => ∃ (a : Addr) (ns : List Int), vs = [.ref a] ∧ SqL K H a (ns.map V.int) ∧ ns.length ≤ 63 ∧ ∀ H', Q (.bl true) H'
theorem law_imp {K : PySem.W.Frag} {vs : List V} {H : Hp} {Q : VK} {E : XK} (h : spLaw K vs H Q E) : sp_law K vs H Q E := by
  obtain ⟨a, ns, rfl, hS, hl, q⟩ := h
  refine ⟨H, [li ns], .dat (.bool true), Ex.refl H, .cons (.lst hS dpa_ints) .nil, ⟨ns, hl, rfl, rfl⟩, fun v H' r => ?_⟩
  obtain ⟨C', ps, _, _, _, _, hh, _⟩ := r
  cases hh with
  | dat d _ => cases d; exact q H'
section
variable {P : Program} {w : World} {K : PySem.W.Frag} {mg : Str → Option Value} {base : Heap}
theorem ok_value_in (Z : Fx K mg) : FnOk P w K mg base CX0 1 Z.a_value_in Z.d_value_in ["registers", "number"] (sp_value_in K) :=
  fn_ok Z.F_value_in sc_value_in len_value_in (fun _ _ _ _ _ _ hr => ps_value_in Z  hr) rd_value_in
theorem ok_touch_of (Z : Fx K mg) : FnOk P w K mg base CX0 2 Z.a_touch_of Z.d_touch_of ["instruction", "registers", "words"] (sp_touch_of K) :=
  fn_ok Z.F_touch_of sc_touch_of len_touch_of (fun _ _ _ _ _ _ hr => ps_touch_of Z (ok_value_in Z) hr) rd_touch_of
theorem ok_result_of (Z : Fx K mg) : FnOk P w K mg base CX0 2 Z.a_result_of Z.d_result_of ["instruction", "registers"] (sp_result_of K) :=
  fn_ok Z.F_result_of sc_result_of len_result_of (fun _ _ _ _ _ _ hr => ps_result_of Z (ok_value_in Z) hr) rd_result_of
theorem ok_with_value (Z : Fx K mg) : FnOk P w K mg base CX0 1 Z.a_with_value Z.d_with_value ["registers", "number", "value"] (sp_with_value K) :=
  fn_ok Z.F_with_value sc_with_value len_with_value (fun _ _ _ _ _ _ hr => ps_with_value Z  hr) rd_with_value
theorem ok_after (Z : Fx K mg) : FnOk P w K mg base CX0 3 Z.a_after Z.d_after ["instruction", "registers", "place"] (sp_after K) :=
  fn_ok Z.F_after sc_after len_after (fun _ _ _ _ _ _ hr => ps_after Z (ok_result_of Z) (ok_with_value Z) (ok_value_in Z) hr) rd_after
theorem ok__law_next (Z : Fx K mg) : FnOk P w K mg base CX0 1 Z.a__law_next Z.d__law_next ["tape", "many"] (sp__law_next K) :=
  fn_okM Z.F__law_next sc__law_next len__law_next (fun _ _ _ _ _ _ hr => ps__law_next Z  hr) rd__law_next
theorem ok__law_instruction (Z : Fx K mg) : FnOk P w K mg base CX0 2 Z.a__law_instruction Z.d__law_instruction ["tape"] (sp__law_instruction K) :=
  fn_okM Z.F__law_instruction sc__law_instruction len__law_instruction (fun _ _ _ _ _ _ hr => ps__law_instruction Z (ok__law_next Z) hr) rd__law_instruction
theorem ok__law_due (Z : Fx K mg) : FnOk P w K mg base CX0 1 Z.a__law_due Z.d__law_due ["one", "registers", "place"] (sp__law_due K) :=
  fn_ok Z.F__law_due sc__law_due len__law_due (fun _ _ _ _ _ _ hr => ps__law_due Z  hr) rd__law_due
theorem ok_law (Z : Fx K mg) : FnOk P w K mg base CX0 4 Z.a_law Z.d_law ["script"] (sp_law K) :=
  fn_ok Z.F_law sc_law len_law (fun _ _ _ _ _ _ hr => ps_law Z (ok__law_next Z) (ok__law_instruction Z) (ok_touch_of Z) (ok_after Z) (ok__law_due Z) hr) rd_law
end
theorem all_mk {l : PySem.W.OpenLaw} {w : World} {K : PySem.W.Frag} {h : Heap} {mg : Str → Option Value} {fa f0 f1 f2 f3 f4 f5 f6 f7 f8 : Addr} (X : K.In h) (G : h.Ns mainGlobals mg) (hfa : mg "law" = some (.ref fa))
    {od0 an0 : Option Addr} {sl0 : Array (Option Value)} {oc0 kV0 dc0 pm0 cd0 ct0 : Value}
    (a0 : PySem.W.nsIn K mainGlobals "value_in" = some (some (.ref f0))) (l0 : K.lookup f0 = some ⟨oc0, od0, .func (PySem.W.fnOf "value_in" "value_in" (defArgs s_value_in) (defBody s_value_in) (defScope s_value_in) .none kV0 dc0 pm0 an0 cd0 ct0), sl0⟩) (c0 : PySem.W.codeIn K cd0 "value_in" = true) (k0 : PySem.W.keepIn K (.ref f0) = true)
    {od1 an1 : Option Addr} {sl1 : Array (Option Value)} {oc1 kV1 dc1 pm1 cd1 ct1 : Value}
    (a1 : PySem.W.nsIn K mainGlobals "touch_of" = some (some (.ref f1))) (l1 : K.lookup f1 = some ⟨oc1, od1, .func (PySem.W.fnOf "touch_of" "touch_of" (defArgs s_touch_of) (defBody s_touch_of) (defScope s_touch_of) .none kV1 dc1 pm1 an1 cd1 ct1), sl1⟩) (c1 : PySem.W.codeIn K cd1 "touch_of" = true) (k1 : PySem.W.keepIn K (.ref f1) = true)
    {od2 an2 : Option Addr} {sl2 : Array (Option Value)} {oc2 kV2 dc2 pm2 cd2 ct2 : Value}
    (a2 : PySem.W.nsIn K mainGlobals "result_of" = some (some (.ref f2))) (l2 : K.lookup f2 = some ⟨oc2, od2, .func (PySem.W.fnOf "result_of" "result_of" (defArgs s_result_of) (defBody s_result_of) (defScope s_result_of) .none kV2 dc2 pm2 an2 cd2 ct2), sl2⟩) (c2 : PySem.W.codeIn K cd2 "result_of" = true) (k2 : PySem.W.keepIn K (.ref f2) = true)
    {od3 an3 : Option Addr} {sl3 : Array (Option Value)} {oc3 kV3 dc3 pm3 cd3 ct3 : Value}
    (a3 : PySem.W.nsIn K mainGlobals "with_value" = some (some (.ref f3))) (l3 : K.lookup f3 = some ⟨oc3, od3, .func (PySem.W.fnOf "with_value" "with_value" (defArgs s_with_value) (defBody s_with_value) (defScope s_with_value) .none kV3 dc3 pm3 an3 cd3 ct3), sl3⟩) (c3 : PySem.W.codeIn K cd3 "with_value" = true) (k3 : PySem.W.keepIn K (.ref f3) = true)
    {od4 an4 : Option Addr} {sl4 : Array (Option Value)} {oc4 kV4 dc4 pm4 cd4 ct4 : Value}
    (a4 : PySem.W.nsIn K mainGlobals "after" = some (some (.ref f4))) (l4 : K.lookup f4 = some ⟨oc4, od4, .func (PySem.W.fnOf "after" "after" (defArgs s_after) (defBody s_after) (defScope s_after) .none kV4 dc4 pm4 an4 cd4 ct4), sl4⟩) (c4 : PySem.W.codeIn K cd4 "after" = true) (k4 : PySem.W.keepIn K (.ref f4) = true)
    {od5 an5 : Option Addr} {sl5 : Array (Option Value)} {oc5 kV5 dc5 pm5 cd5 ct5 : Value}
    (a5 : PySem.W.nsIn K mainGlobals "_law_next" = some (some (.ref f5))) (l5 : K.lookup f5 = some ⟨oc5, od5, .func (PySem.W.fnOf "_law_next" "_law_next" (defArgs s__law_next) (defBody s__law_next) (defScope s__law_next) .none kV5 dc5 pm5 an5 cd5 ct5), sl5⟩) (c5 : PySem.W.codeIn K cd5 "_law_next" = true) (k5 : PySem.W.keepIn K (.ref f5) = true)
    {od6 an6 : Option Addr} {sl6 : Array (Option Value)} {oc6 kV6 dc6 pm6 cd6 ct6 : Value}
    (a6 : PySem.W.nsIn K mainGlobals "_law_instruction" = some (some (.ref f6))) (l6 : K.lookup f6 = some ⟨oc6, od6, .func (PySem.W.fnOf "_law_instruction" "_law_instruction" (defArgs s__law_instruction) (defBody s__law_instruction) (defScope s__law_instruction) .none kV6 dc6 pm6 an6 cd6 ct6), sl6⟩) (c6 : PySem.W.codeIn K cd6 "_law_instruction" = true) (k6 : PySem.W.keepIn K (.ref f6) = true)
    {od7 an7 : Option Addr} {sl7 : Array (Option Value)} {oc7 kV7 dc7 pm7 cd7 ct7 : Value}
    (a7 : PySem.W.nsIn K mainGlobals "_law_due" = some (some (.ref f7))) (l7 : K.lookup f7 = some ⟨oc7, od7, .func (PySem.W.fnOf "_law_due" "_law_due" (defArgs s__law_due) (defBody s__law_due) (defScope s__law_due) .none kV7 dc7 pm7 an7 cd7 ct7), sl7⟩) (c7 : PySem.W.codeIn K cd7 "_law_due" = true) (k7 : PySem.W.keepIn K (.ref f7) = true)
    {od8 an8 : Option Addr} {sl8 : Array (Option Value)} {oc8 kV8 dc8 pm8 cd8 ct8 : Value}
    (a8 : PySem.W.nsIn K mainGlobals "law" = some (some (.ref f8))) (l8 : K.lookup f8 = some ⟨oc8, od8, .func (PySem.W.fnOf "law" "law" (defArgs s_law) (defBody s_law) (defScope s_law) .none kV8 dc8 pm8 an8 cd8 ct8), sl8⟩) (c8 : PySem.W.codeIn K cd8 "law" = true) (k8 : PySem.W.keepIn K (.ref f8) = true)
    (z0 : PySem.W.nsIn K mainGlobals "abs" = some none)
    (z1 : PySem.W.nsIn K mainGlobals "enumerate" = some none)
    (z2 : PySem.W.nsIn K mainGlobals "int" = some none)
    (z3 : PySem.W.nsIn K mainGlobals "isinstance" = some none)
    (z4 : PySem.W.nsIn K mainGlobals "len" = some none)
    (z5 : PySem.W.nsIn K mainGlobals "list" = some none)
    (z6 : PySem.W.nsIn K mainGlobals "max" = some none)
    (z7 : PySem.W.nsIn K mainGlobals "min" = some none)
    (z8 : PySem.W.nsIn K mainGlobals "range" = some none)
    (z9 : PySem.W.nsIn K mainGlobals "tuple" = some none)
    : ∃ fd : FuncData, (∀ (s : Shared) (v : Value), BindsTo s fd ⟨[v], []⟩ [("script", v)]) ∧ ∀ base : Heap, K.In base → base.Ns mainGlobals mg → FnOk l.prog w K mg base CX0 4 fa fd ["script"] (spLaw K) := by
  have e := hfa.symm.trans (PySem.W.mg_of X G a8)
  cases e
  have F0 := fun_mk (st := s_value_in) l0 c0 k0
  have b0 := F0.binds (ps := ["registers", "number"]) fun _ _ _ _ _ _ us hl => match us, hl with | [_, _], _ => rfl
  have F1 := fun_mk (st := s_touch_of) l1 c1 k1
  have b1 := F1.binds (ps := ["instruction", "registers", "words"]) fun _ _ _ _ _ _ us hl => match us, hl with | [_, _, _], _ => rfl
  have F2 := fun_mk (st := s_result_of) l2 c2 k2
  have b2 := F2.binds (ps := ["instruction", "registers"]) fun _ _ _ _ _ _ us hl => match us, hl with | [_, _], _ => rfl
  have F3 := fun_mk (st := s_with_value) l3 c3 k3
  have b3 := F3.binds (ps := ["registers", "number", "value"]) fun _ _ _ _ _ _ us hl => match us, hl with | [_, _, _], _ => rfl
  have F4 := fun_mk (st := s_after) l4 c4 k4
  have b4 := F4.binds (ps := ["instruction", "registers", "place"]) fun _ _ _ _ _ _ us hl => match us, hl with | [_, _, _], _ => rfl
  have F5 := fun_mk (st := s__law_next) l5 c5 k5
  have b5 := F5.binds (ps := ["tape", "many"]) fun _ _ _ _ _ _ us hl => match us, hl with | [_, _], _ => rfl
  have F6 := fun_mk (st := s__law_instruction) l6 c6 k6
  have b6 := F6.binds (ps := ["tape"]) fun _ _ _ _ _ _ us hl => match us, hl with | [_], _ => rfl
  have F7 := fun_mk (st := s__law_due) l7 c7 k7
  have b7 := F7.binds (ps := ["one", "registers", "place"]) fun _ _ _ _ _ _ us hl => match us, hl with | [_, _, _], _ => rfl
  have F8 := fun_mk (st := s_law) l8 c8 k8
  have b8 := F8.binds (ps := ["script"]) fun _ _ _ _ _ _ us hl => match us, hl with | [_], _ => rfl
  let Z : Fx K mg := ⟨f0, _, F0, b0, PySem.W.mg_of X G a0,
    f1, _, F1, b1, PySem.W.mg_of X G a1,
    f2, _, F2, b2, PySem.W.mg_of X G a2,
    f3, _, F3, b3, PySem.W.mg_of X G a3,
    f4, _, F4, b4, PySem.W.mg_of X G a4,
    f5, _, F5, b5, PySem.W.mg_of X G a5,
    f6, _, F6, b6, PySem.W.mg_of X G a6,
    f7, _, F7, b7, PySem.W.mg_of X G a7,
    fa, _, F8, b8, PySem.W.mg_of X G a8,
    PySem.W.mg_none_of X G z0,
    PySem.W.mg_none_of X G z1,
    PySem.W.mg_none_of X G z2,
    PySem.W.mg_none_of X G z3,
    PySem.W.mg_none_of X G z4,
    PySem.W.mg_none_of X G z5,
    PySem.W.mg_none_of X G z6,
    PySem.W.mg_none_of X G z7,
    PySem.W.mg_none_of X G z8,
    PySem.W.mg_none_of X G z9⟩
  exact ⟨PySem.W.fnOf "law" "law" (defArgs s_law) (defBody s_law) (defScope s_law) .none kV8 dc8 pm8 an8 cd8 ct8, fun s v => .of_eq rfl, fun base _ _ => (ok_law Z).imp fun _ _ _ _ h => law_imp h⟩
end G
open PySem PySem.W PyProof.Rows
set_option maxHeartbeats 0 in
theorem PySem.Challenge.cw_commonage_k26_instructions_holds : PySem.Challenge.rw_commonage_k26_instructions.Holds := by
  w_on; o_law; k_head; (case hw => w_witness2)
  k_fill
  refine L2.walk_of (l := PySem.Challenge.rw_commonage_k26_instructions) (n := 63) (k := 4) (x := "script") (CX := fun _ => L2.CX0) (sp := fun w => G.spLaw _) rfl (by decide) rfl ⟨rfl, by decide, by decide⟩ (fun w h Y => PySem.W.kIn_of Y) ?F (fun _ _ a ns hl _ hS => ⟨a, ns, rfl, hS, hl, fun _ => rfl⟩) (fun _ _ _ _ _ h => h)
  case F =>
    intro w mg fa h KX hG0 hmg
    refine' _root_.G.all_mk KX hG0 hmg ?a0 ?l0 ?c0 ?k0 ?a1 ?l1 ?c1 ?k1 ?a2 ?l2 ?c2 ?k2 ?a3 ?l3 ?c3 ?k3 ?a4 ?l4 ?c4 ?k4 ?a5 ?l5 ?c5 ?k5 ?a6 ?l6 ?c6 ?k6 ?a7 ?l7 ?c7 ?k7 ?a8 ?l8 ?c8 ?k8 ?z0 ?z1 ?z2 ?z3 ?z4 ?z5 ?z6 ?z7 ?z8 ?z9
    (case a0 => k_is); (case l0 => k_is); (case c0 => k_is); (case k0 => k_is); (case a1 => k_is); (case l1 => k_is); (case c1 => k_is); (case k1 => k_is); (case a2 => k_is); (case l2 => k_is); (case c2 => k_is); (case k2 => k_is); (case a3 => k_is); (case l3 => k_is); (case c3 => k_is); (case k3 => k_is); (case a4 => k_is); (case l4 => k_is); (case c4 => k_is); (case k4 => k_is); (case a5 => k_is); (case l5 => k_is); (case c5 => k_is); (case k5 => k_is); (case a6 => k_is); (case l6 => k_is); (case c6 => k_is); (case k6 => k_is); (case a7 => k_is); (case l7 => k_is); (case c7 => k_is); (case k7 => k_is); (case a8 => k_is); (case l8 => k_is); (case c8 => k_is); (case k8 => k_is); (case z0 => k_is); (case z1 => k_is); (case z2 => k_is); (case z3 => k_is); (case z4 => k_is); (case z5 => k_is); (case z6 => k_is); (case z7 => k_is); (case z8 => k_is); (case z9 => k_is)

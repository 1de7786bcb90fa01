import PyProof.Rows.All
import Wide.All
import OpenK.AllK
import Wide.FinOn
import HandS.Evl
import HandS.ForMost
import HandS.IsInst
import HandS.Zip
import HandS.Wide
import HandS.TupMul
import HandS.EndBits
import HandS.Steps
import HandS.SetFor
import HandS.Strs
import KE.GoesMore
import KE.GoesEnum
import PySem.Challenge.RW_commonage_k02_happens_before_is_an_order
set_option Elab.async false
set_option linter.all false
set_option maxRecDepth 100000
set_option maxHeartbeats 4000000
namespace G
open PySem PySem.Spec PyProof.Rows L2
open Evl (Ex ex_rd ex_l ex_t rMax2)
theorem ex_none {H H' : Hp} {p : Addr} (e : Ex H H') (h : H' p = none) : H p = none := Evl.fresh_back e h
section
variable {K : PySem.W.Frag} {H H' : Hp}
mutual
theorem dpx (e : Ex H H') : ∀ {v : V} {d : PyData}, Dp K H v d → Dp K H' v d
  | _, _, .non => .non
  | _, _, .bl b => .bl b
  | _, _, .int i => .int i
  | _, _, .str x => .str x
  | _, _, .lst h a => .lst (ex_l e h) (dpax e a)
  | _, _, .tup h a => .tup (ex_t e h) (dpax e a)
theorem dpax (e : Ex H H') : ∀ {vs : List V} {ds : List PyData}, DpAll K H vs ds → DpAll K H' vs ds
  | _, _, .nil => .nil
  | _, _, .cons h t => .cons (dpx e h) (dpax e t)
end
theorem dpa_len : ∀ {vs : List V} {ds : List PyData}, DpAll K H vs ds → vs.length = ds.length
  | _, _, .nil => rfl
  | _, _, .cons _ t => congrArg (· + 1) (dpa_len t)
theorem dpa_get : ∀ {vs : List V} {ds : List PyData} {i : Nat} {d : PyData}, DpAll K H vs ds → ds[i]? = some d → ∃ v, vs[i]? = some v ∧ Dp K H v d
  | _, _, _, _, .nil, e => by simp at e
  | _, _, 0, _, .cons r _, e => by simp at e; subst e; exact ⟨_, rfl, r⟩
  | _, _, i + 1, d, .cons _ t, e => by
    obtain ⟨u, h1, h2⟩ := dpa_get (i := i) (d := d) t (by simpa using e)
    exact ⟨u, by simpa using h1, h2⟩
theorem dpa_app : ∀ {vs ws : List V} {ds es : List PyData}, DpAll K H vs ds → DpAll K H ws es → DpAll K H (vs ++ ws) (ds ++ es)
  | _, _, _, _, .nil, s => s
  | _, _, _, _, .cons r t, s => .cons r (dpa_app t s)
theorem dpa_set {v : V} {d : PyData} (r : Dp K H v d) : ∀ {vs : List V} {ds : List PyData} (i : Nat), DpAll K H vs ds → DpAll K H (vs.set i v) (ds.set i d)
  | _, _, _, .nil => .nil
  | _, _, 0, .cons _ t => .cons r t
  | _, _, i + 1, .cons q t => .cons q (dpa_set r i t)
theorem dpa_ints : ∀ {xs : List Int}, DpAll K H (xs.map V.int) (xs.map PyData.int)
  | [] => .nil
  | x :: xs => .cons (.int x) (dpa_ints)
end
/-! ### slots -/
inductive Sl where
  | no
  | dat (d : PyData)
  | ownq (z : Option Addr) (ds : List PyData)
abbrev Sl.own (ds : List PyData) : Sl := .ownq none ds
abbrev Sl.int (i : Int) : Sl := .dat (.int i)
abbrev Sl.bl (b : Bool) : Sl := .dat (.bool b)
inductive Has (K : PySem.W.Frag) (C H : Hp) : List Sl → L2.St → List Addr → Prop
  | nil : Has K C H [] [] []
  | no {Γ : List Sl} {σ : L2.St} {ps : List Addr} {x : Option V} : Has K C H Γ σ ps → Has K C H (.no :: Γ) (x :: σ) ps
  | dat {Γ : List Sl} {σ : L2.St} {ps : List Addr} {v : V} {d : PyData} : Dp K C v d → Has K C H Γ σ ps → Has K C H (.dat d :: Γ) (some v :: σ) ps
  | own {Γ : List Sl} {σ : L2.St} {ps : List Addr} {p : Addr} {vs : List V} {ds : List PyData} {z : Option Addr} : (∀ r, z = some r → r = p) → H p = some (.lst vs) → DpAll K C vs ds → Has K C H Γ σ ps → Has K C H (.ownq z ds :: Γ) (some (.ref p) :: σ) (p :: ps)
section
variable {K : PySem.W.Frag} {C C' H H' : Hp} {Γ : List Sl} {σ : L2.St} {ps : List Addr}
theorem Has.own_some (h : Has K C H Γ σ ps) : ∀ p ∈ ps, ∃ xs, H p = some (.lst xs) := by
  induction h with
  | nil => intro p hp; cases hp
  | no _ ih => exact ih
  | dat _ _ ih => exact ih
  | own _ e _ _ ih =>
    intro p hp
    rcases List.mem_cons.mp hp with rfl | hp
    · exact ⟨_, e⟩
    · exact ih p hp
theorem Has.mono (h : Has K C H Γ σ ps) (e : Ex C C') (f : ∀ p ∈ ps, ∀ o, H p = some o → H' p = some o) : Has K C' H' Γ σ ps := by
  induction h with
  | nil => exact .nil
  | no _ ih => exact .no (ih f)
  | dat d _ ih => exact .dat (dpx e d) (ih f)
  | own y q d _ ih => exact .own y (f _ List.mem_cons_self _ q) (dpax e d) (ih fun p hp => f p (List.mem_cons_of_mem _ hp))
theorem Has.len (h : Has K C H Γ σ ps) : Γ.length = σ.length := by
  induction h with
  | nil => rfl
  | no _ ih => simp [ih]
  | dat _ _ ih => simp [ih]
  | own _ _ _ _ ih => simp [ih]
theorem Has.get_dat (h : Has K C H Γ σ ps) : ∀ {i : Nat} {d : PyData}, Γ[i]? = some (.dat d) → ∃ v, σ[i]? = some (some v) ∧ Dp K C v d := by
  induction h with
  | nil => intro i d e; simp at e
  | no _ ih => intro i d e; cases i with
    | zero => simp at e
    | succ i => exact ih (by simpa using e)
  | dat q _ ih => intro i d e; cases i with
    | zero => simp at e; subst e; exact ⟨_, rfl, q⟩
    | succ i => exact ih (by simpa using e)
  | own _ _ _ _ ih => intro i d e; cases i with
    | zero => simp at e
    | succ i => exact ih (by simpa using e)
/-- a slot is given another content -/
theorem Has.set {s : Sl} {x : Option V} {rs : List Addr} (h : Has K C H Γ σ ps) (r : Has K C H [s] [x] rs) : ∀ (i : Nat), ∃ qs, Has K C H (Γ.set i s) (σ.set i x) qs ∧ (∀ p ∈ qs, p ∈ rs ∨ p ∈ ps) ∧ ((rs ++ ps).Nodup → qs.Nodup) := by
  have keep : ∀ {Γ : List Sl} {σ : L2.St} {ps : List Addr}, Has K C H Γ σ ps → ∃ qs, Has K C H (s :: Γ) (x :: σ) qs ∧ qs = rs ++ ps := by
    intro Γ σ ps q
    cases r with
    | no r => cases r; exact ⟨_, .no q, rfl⟩
    | dat d r => cases r; exact ⟨_, .dat d q, rfl⟩
    | own y e d r => cases r; exact ⟨_, .own y e d q, rfl⟩
  induction h with
  | nil => intro i; exact ⟨[], .nil, (fun p hp => by cases hp), fun _ => List.nodup_nil⟩
  | no q ih => intro i; cases i with
    | zero => obtain ⟨qs, h1, rfl⟩ := keep q; exact ⟨_, h1, fun p hp => List.mem_append.mp hp, fun n => n⟩
    | succ i => obtain ⟨qs, h1, h2, h3⟩ := ih i; exact ⟨qs, .no h1, h2, h3⟩
  | dat d q ih => intro i; cases i with
    | zero => obtain ⟨qs, h1, rfl⟩ := keep q; exact ⟨_, h1, fun p hp => List.mem_append.mp hp, fun n => n⟩
    | succ i => obtain ⟨qs, h1, h2, h3⟩ := ih i; exact ⟨qs, .dat d h1, h2, h3⟩
  | own y e d q ih => intro i; cases i with
    | zero =>
      obtain ⟨qs, h1, rfl⟩ := keep q
      refine ⟨_, h1, fun p hp => ?_, fun n => ?_⟩
      · rcases List.mem_append.mp hp with z | z
        · exact .inl z
        · exact .inr (List.mem_cons_of_mem _ z)
      · exact n.sublist (List.Sublist.append_left (List.sublist_cons_self _ _) rs)
    | succ i =>
      obtain ⟨qs, h1, h2, h3⟩ := ih i
      refine ⟨_, .own y e d h1, fun p hp => ?_, fun n => ?_⟩
      · rcases List.mem_cons.mp hp with rfl | z
        · exact .inr List.mem_cons_self
        · rcases h2 p z with z | z
          · exact .inl z
          · exact .inr (List.mem_cons_of_mem _ z)
      · have n' := (List.perm_middle.nodup_iff).mp n
        refine List.nodup_cons.mpr ⟨fun hm => ?_, h3 (List.nodup_cons.mp n').2⟩
        rcases h2 _ hm with z | z
        · exact (List.nodup_cons.mp n').1 (List.mem_append_left _ z)
        · exact (List.nodup_cons.mp n').1 (List.mem_append_right _ z)
end
/-! ### the state: what is known of slots and heap -/
structure Bs where
  K : PySem.W.Frag
  H0 : Hp
  B : Hp
structure Cfg (b : Bs) (C H : Hp) (ps : List Addr) : Prop where
  bc : Ex b.B C
  ch : Ex C H
  h0 : Ex b.H0 H
  fr : ∀ a, b.H0 a ≠ none → b.B a = none → C a = none
  ow : ∀ p ∈ ps, C p = none ∧ b.H0 p = none
  nd : ps.Nodup
def HsC (b : Bs) (C : Hp) (T : List Sl) (τ : L2.St) (Γ : List Sl) (σ : L2.St) (H : Hp) : Prop := ∃ ps qs, Cfg b C H (ps ++ qs) ∧ Has b.K C H T τ ps ∧ Has b.K C H Γ σ qs
def Hs (b : Bs) (T : List Sl) (τ : L2.St) (Γ : List Sl) (σ : L2.St) (H : Hp) : Prop := ∃ C, HsC b C T τ Γ σ H
/-- from a heap H of which C is known: the value v, told by s, in H' -/
def Ret (K : PySem.W.Frag) (H C : Hp) (s : Sl) (v : V) (H' : Hp) : Prop :=
  ∃ C' ps, Ex C C' ∧ Ex C' H' ∧ Ex H H' ∧ (∀ a, H a ≠ none → C a = none → C' a = none) ∧ Has K C' H' [s] [some v] ps ∧ ∀ p ∈ ps, C' p = none ∧ H p = none
section
variable {K : PySem.W.Frag} {C H H' : Hp} {s : Sl} {v : V} {d : PyData} {ds : List PyData} {vs : List V} {p : Addr}
theorem Ret.same (e : Ex C H) (h : Dp K C v d) : Ret K H C (.dat d) v H := ⟨C, [], Ex.refl C, e, Ex.refl H, fun _ _ z => z, .dat h .nil, fun p hp => by cases hp⟩
theorem ret_fresh (hp : H p = none) {o : HO} (e : Ex C H) : Ex (upd C p o) (upd H p o) := fun a u h => by
  by_cases z : a = p
  · subst z; rw [upd_same] at h ⊢; exact h
  · rw [upd_ne z] at h ⊢; exact e a u h
theorem Ret.tup (e : Ex C H) (h : DpAll K C vs ds) (hp : H p = none) : Ret K H C (.dat (.tuple ds)) (.ref p) (upd H p (.tup vs)) := by
  have hc : C p = none := ex_none e hp
  refine ⟨upd C p (.tup vs), [], Ex.new hc, ret_fresh hp e, Ex.new hp, fun a z c => ?_, .dat (.tup (.inl (.inl upd_same)) (dpax (Ex.new hc) h)) .nil, fun p hp => by cases hp⟩
  rw [upd_ne (fun q => z (by rw [q]; exact hp))]; exact c
theorem Ret.lst (e : Ex C H) (h : DpAll K C vs ds) (hp : H p = none) : Ret K H C (.own ds) (.ref p) (upd H p (.lst vs)) :=
  ⟨C, [p], Ex.refl C, e.trans (Ex.new hp), Ex.new hp, fun _ _ z => z, .own (fun _ q => nomatch q) upd_same h .nil, fun q hq => by
    rcases List.mem_singleton.mp hq with rfl
    exact ⟨ex_none e hp, hp⟩⟩
theorem Ret.list (e : Ex C H) (h : DpAll K C vs ds) (hp : H p = none) : Ret K H C (.dat (.list ds)) (.ref p) (upd H p (.lst vs)) := by
  have hc : C p = none := ex_none e hp
  refine ⟨upd C p (.lst vs), [], Ex.new hc, ret_fresh hp e, Ex.new hp, fun a z c => ?_, .dat (.lst (.inl (.inl upd_same)) (dpax (Ex.new hc) h)) .nil, fun p hp => by cases hp⟩
  rw [upd_ne (fun q => z (by rw [q]; exact hp))]; exact c
theorem Ret.freeze {z : Option Addr} (r : Ret K H C (.ownq z ds) v H') : Ret K H C (.dat (.list ds)) v H' := by
  obtain ⟨C', ps, e1, e2, e3, fr, h, ow⟩ := r
  cases h with
  | own y e d r =>
    cases r
    rename_i q vs
    obtain ⟨o1, o2⟩ := ow q List.mem_cons_self
    refine ⟨upd C' q (.lst vs), [], e1.trans (Ex.new o1), fun a u h => ?_, e3, fun a z c => ?_, .dat (.lst (.inl (.inl upd_same)) (dpax (Ex.new o1) d)) .nil, fun p hp => by cases hp⟩
    · by_cases z : a = q
      · subst z; rw [upd_same] at h; cases h; exact e
      · rw [upd_ne z] at h; exact e2 a u h
    · rw [upd_ne (fun y => z (by rw [y]; exact o2))]; exact fr a z c
end
section
variable {b : Bs} {C : Hp} {T Γ Γ' Γ1 Γ2 : List Sl} {τ σ : L2.St} {H H' : Hp} {s s' : Sl} {v : V} {d e : PyData} {ds es : List PyData} {vs : List V}
theorem HsC.ch (h : HsC b C T τ Γ σ H) : Ex C H := by obtain ⟨ps, qs, c, _⟩ := h; exact c.ch
/-- a computation's result is put on the pile -/
theorem HsC.step (h : HsC b C T τ Γ σ H) (r : Ret b.K H C s v H') : Hs b (s :: T) (some v :: τ) Γ σ H' := by
  obtain ⟨ps, qs, c, h1, h2⟩ := h
  obtain ⟨C', rs, e1, e2, e3, fr, h3, ow⟩ := r
  have hsome : ∀ p ∈ ps ++ qs, ∃ xs, H p = some (.lst xs) := fun p hp => by
    rcases List.mem_append.mp hp with z | z
    · exact h1.own_some p z
    · exact h2.own_some p z
  have hT : Has b.K C' H' (s :: T) (some v :: τ) (rs ++ ps) := by
    have h1' := h1.mono e1 (fun p _ o q => e3 p o q)
    cases h3 with
    | no z => cases z; exact .no h1'
    | dat q z => cases z; exact .dat q h1'
    | own y q q2 z => cases z; exact .own y q q2 h1'
  refine ⟨C', rs ++ ps, qs, ⟨c.bc.trans e1, e2, c.h0.trans e3, fun a z y => ?_, fun p hp => ?_, ?_⟩, hT, h2.mono e1 (fun p _ o q => e3 p o q)⟩
  · refine fr a (fun q => ?_) (c.fr a z y)
    cases z1 : b.H0 a with
    | none => exact z z1
    | some o => rw [c.h0 a o z1] at q; cases q
  · rw [List.append_assoc] at hp
    rcases List.mem_append.mp hp with z | z
    · exact ⟨(ow p z).1, ex_none c.h0 (ow p z).2⟩
    · obtain ⟨xs, hx⟩ := hsome p z
      exact ⟨fr p (by rw [hx]; intro q; cases q) (c.ow p z).1, (c.ow p z).2⟩
  · rw [List.append_assoc]
    refine List.nodup_append.mpr ⟨?_, c.nd, fun p hp q hq e => ?_⟩
    · cases h3 with
      | no z => cases z; exact List.nodup_nil
      | dat _ z => cases z; exact List.nodup_nil
      | own _ _ _ z => cases z; simp
    · subst e
      obtain ⟨xs, hx⟩ := hsome p hq
      rw [(ow p hp).2] at hx; cases hx
theorem HsC.sub {T' : List Sl} {τ' : L2.St} {ps' qs' : List Addr} (c : Cfg b C H ps') (h1 : Has b.K C H T' τ' qs') (h2 : ∀ p ∈ qs', p ∈ ps') (h3 : qs'.Nodup) : Cfg b C H qs' :=
  ⟨c.bc, c.ch, c.h0, c.fr, fun p hp => c.ow p (h2 p hp), h3⟩
theorem Cfg.sub {ps' qs' : List Addr} (c : Cfg b C H ps') (h2 : ∀ p ∈ qs', p ∈ ps') (h3 : qs'.Nodup) : Cfg b C H qs' :=
  ⟨c.bc, c.ch, c.h0, c.fr, fun p hp => c.ow p (h2 p hp), h3⟩
/-- the top of the pile is read, data -/
theorem HsC.pop (h : HsC b C (.dat d :: T) (some v :: τ) Γ σ H) : Dp b.K C v d ∧ HsC b C T τ Γ σ H := by
  obtain ⟨ps, qs, c, h1, h2⟩ := h
  cases h1 with
  | dat q h1 => exact ⟨q, ps, qs, c, h1, h2⟩
theorem HsC.drop {x : Option V} (h : HsC b C (s :: T) (x :: τ) Γ σ H) : HsC b C T τ Γ σ H := by
  obtain ⟨ps, qs, c, h1, h2⟩ := h
  cases h1 with
  | no h1 => exact ⟨ps, qs, c, h1, h2⟩
  | dat q h1 => exact ⟨ps, qs, c, h1, h2⟩
  | own y q q2 h1 => exact ⟨_, qs, c.sub (fun p hp => List.mem_cons_of_mem _ hp) (List.nodup_cons.mp c.nd).2, h1, h2⟩
theorem HsC.push (h : HsC b C T τ Γ σ H) (q : Dp b.K C v d) : HsC b C (.dat d :: T) (some v :: τ) Γ σ H := by
  obtain ⟨ps, qs, c, h1, h2⟩ := h
  exact ⟨ps, qs, c, .dat q h1, h2⟩
theorem HsC.pushAll (h : HsC b C T τ Γ σ H) : ∀ {vs : List V} {ds : List PyData}, DpAll b.K C vs ds → HsC b C (ds.map Sl.dat ++ T) (vs.map some ++ τ) Γ σ H
  | _, _, .nil => h
  | _, _, .cons r t => (h.pushAll t).push r
theorem HsC.popAll : ∀ {vs : List V} {ds : List PyData}, vs.length = ds.length → HsC b C (ds.map Sl.dat ++ T) (vs.map some ++ τ) Γ σ H → DpAll b.K C vs ds ∧ HsC b C T τ Γ σ H
  | [], [], _, h => ⟨.nil, h⟩
  | v :: vs, d :: ds, e, h => by
    obtain ⟨q, h⟩ := HsC.pop (T := ds.map Sl.dat ++ T) (τ := vs.map some ++ τ) h
    obtain ⟨q2, h⟩ := HsC.popAll (vs := vs) (ds := ds) (by simpa using e) h
    exact ⟨.cons q q2, h⟩
/-- the top of the pile is stored in a slot -/
theorem Hs.store {x : Option V} (h : Hs b (s :: T) (x :: τ) Γ σ H) (i : Nat) : Hs b T τ (Γ.set i s) (σ.set i x) H := by
  obtain ⟨C, ps, qs, c, h1, h2⟩ := h
  have main : ∀ {rs ps' : List Addr}, Has b.K C H [s] [x] rs → Has b.K C H T τ ps' → ps = rs ++ ps' → Hs b T τ (Γ.set i s) (σ.set i x) H := by
    clear h1
    rintro rs ps' r h1 rfl
    obtain ⟨qs', g1, g2, g3⟩ := h2.set r i
    have nd := c.nd
    refine ⟨C, ps', qs', c.sub (fun p hp => ?_) ?_, h1, g1⟩
    · rcases List.mem_append.mp hp with z | z
      · exact List.mem_append_left _ (List.mem_append_right _ z)
      · rcases g2 p z with z | z
        · exact List.mem_append_left _ (List.mem_append_left _ z)
        · exact List.mem_append_right _ z
    · rw [List.append_assoc] at nd
      have n1 := List.nodup_append.mp nd
      have n2 := List.nodup_append.mp n1.2.1
      refine List.nodup_append.mpr ⟨n2.1, g3 (List.nodup_append.mpr ⟨n1.1, n2.2.1, fun p hp q hq => n1.2.2 p hp q (List.mem_append_right _ hq)⟩), fun p hp q hq => ?_⟩
      rcases g2 q hq with z | z
      · exact fun e => n1.2.2 q z p (List.mem_append_left _ hp) e.symm
      · exact n2.2.2 p hp q z
  cases h1 with
  | no h1 => exact main (.no .nil) h1 rfl
  | dat q h1 => exact main (.dat q .nil) h1 rfl
  | own y q q2 h1 => exact main (.own y q q2 .nil) h1 rfl
theorem Hs.pop (h : Hs b (.dat d :: T) (some v :: τ) Γ σ H) : ∃ C, Dp b.K C v d ∧ HsC b C T τ Γ σ H := by
  obtain ⟨C, h⟩ := h
  exact ⟨C, h.pop⟩
theorem Hs.drop {x : Option V} (h : Hs b (s :: T) (x :: τ) Γ σ H) : Hs b T τ Γ σ H := by
  obtain ⟨C, h⟩ := h
  exact ⟨C, h.drop⟩
/-- a list of one's own becomes data -/
theorem Hs.freeze {z : Option Addr} (h : Hs b (.ownq z ds :: T) (some v :: τ) Γ σ H) : Hs b (.dat (.list ds) :: T) (some v :: τ) Γ σ H := by
  obtain ⟨C, ps, qs, c, h1, h2⟩ := h
  cases h1 with
  | own y e d h1 =>
    rename_i ps q vs
    obtain ⟨o1, o2⟩ := c.ow q (List.mem_append_left _ List.mem_cons_self)
    have hne : ∀ p ∈ ps ++ qs, p ≠ q := fun p hp z => by
      subst z
      exact (List.nodup_cons.mp c.nd).1 hp
    refine ⟨upd C q (.lst vs), ps, qs, ⟨c.bc.trans (Ex.new o1), fun a u h => ?_, c.h0, fun a z y => ?_, fun p hp => ?_, (List.nodup_cons.mp c.nd).2⟩, .dat (.lst (.inl (.inl upd_same)) (dpax (Ex.new o1) d)) (h1.mono (Ex.new o1) fun _ _ _ z => z), h2.mono (Ex.new o1) fun _ _ _ z => z⟩
    · by_cases z : a = q
      · subst z; rw [upd_same] at h; cases h; exact e
      · rw [upd_ne z] at h; exact c.ch a u h
    · rw [upd_ne (fun y => z (by rw [y]; exact o2))]; exact c.fr a z y
    · rw [upd_ne (hne p hp)]; exact c.ow p (List.mem_cons_of_mem _ hp)
/-- the end of a def: what its caller gets -/
theorem Hs.ret {τ' : L2.St} {x : V} (h : Hs b (s :: T) (some x :: τ') Γ σ H) : Ret b.K b.H0 b.B s x H := by
  obtain ⟨C, ps, qs, c, h1, h2⟩ := h
  have main : ∀ {rs ps' : List Addr}, Has b.K C H [s] [some x] rs → ps = rs ++ ps' → Ret b.K b.H0 b.B s x H := by
    rintro rs ps' r rfl
    exact ⟨C, rs, c.bc, c.ch, c.h0, c.fr, r, fun p hp => c.ow p (List.mem_append_left _ (List.mem_append_left _ hp))⟩
  cases h1 with
  | no h1 => exact main (.no .nil) rfl
  | dat q h1 => exact main (.dat q .nil) rfl
  | own y q q2 h1 => exact main (.own y q q2 .nil) rfl
/-! ### expressions -/
def EvS (b : Bs) (te : TE) (Γ Γ' : List Sl) (s : Sl) : Prop := ∀ T τ σ H, Hs b T τ Γ σ H → ∀ Q : VK, (∀ v H', Hs b (s :: T) (some v :: τ) Γ' σ H' → Q v H') → te σ H Q
def EvT (b : Bs) (tt : TT) (Γ Γ' : List Sl) (k : Bool) : Prop := ∀ T τ σ H, Hs b T τ Γ σ H → ∀ Q : Bool → Hp → Prop, (∀ H', Hs b T τ Γ' σ H' → Q k H') → tt σ H Q
def EvA (b : Bs) (ta : TA) (Γ Γ' : List Sl) (ds : List PyData) : Prop := ∀ T τ σ H, Hs b T τ Γ σ H → ∀ Q : List V → Hp → Prop, (∀ vs H' C, HsC b C T τ Γ' σ H' → DpAll b.K C vs ds → Q vs H') → ta σ H Q
def RD (K : PySem.W.Frag) (r : R2) (d e : PyData) (s : Sl) : Prop := ∀ C H x y, Ex C H → Dp K C x d → Dp K C y e → ∀ Q : VK, (∀ v H', Ret K H C s v H' → Q v H') → r x y H Q
def UD (K : PySem.W.Frag) (r : V → Hp → VK → Prop) (d : PyData) (s : Sl) : Prop := ∀ C H x, Ex C H → Dp K C x d → ∀ Q : VK, (∀ v H', Ret K H C s v H' → Q v H') → r x H Q
def CD (K : PySem.W.Frag) (r : List V → Hp → VK → Prop) (ds : List PyData) (s : Sl) : Prop := ∀ C H vs, Ex C H → DpAll K C vs ds → ∀ Q : VK, (∀ v H', Ret K H C s v H' → Q v H') → r vs H Q
theorem s_var {i : Nat} (h : Γ[i]? = some (.dat d)) : EvS b (tVar i) Γ Γ (.dat d) := fun T τ σ H hs Q q => by
  obtain ⟨C, ps, qs, c, h1, h2⟩ := hs
  obtain ⟨v, e, dv⟩ := h2.get_dat h
  exact ⟨v, e, q v H ⟨C, ps, qs, c, .dat dv h1, h2⟩⟩
theorem s_ret {v : V} {te : TE} (h : ∀ σ H Q, Q v H → te σ H Q) (hd : ∀ C, Dp b.K C v d) : EvS b te Γ Γ (.dat d) := fun T τ σ H hs Q q => by
  obtain ⟨C, hs⟩ := hs
  exact h σ H Q (q v H ⟨C, hs.push (hd C)⟩)
theorem s_int {i : Int} : EvS b (tC (.int i)) Γ Γ (.dat (.int i)) := s_ret (v := .int i) (fun _ _ _ q => q) fun _ => .int i
theorem s_bl {k : Bool} : EvS b (tC (.bl k)) Γ Γ (.dat (.bool k)) := s_ret (v := .bl k) (fun _ _ _ q => q) fun _ => .bl k
theorem s_str {x : Str} : EvS b (tC (.str x)) Γ Γ (.dat (.str x)) := s_ret (v := .str x) (fun _ _ _ q => q) fun _ => .str x
theorem s_non : EvS b (tC .non) Γ Γ (.dat .none) := s_ret (v := .non) (fun _ _ _ q => q) fun _ => .non
theorem s_op {ta tb : TE} {r : R2} (ha : EvS b ta Γ Γ1 (.dat d)) (hb : EvS b tb Γ1 Γ2 (.dat e)) (hr : RD b.K r d e s) : EvS b (tOp r ta tb) Γ Γ2 s := fun T τ σ H hs Q q =>
  ha T τ σ H hs _ fun x H1 h1 => hb _ _ σ H1 h1 _ fun y H2 h2 => by
    obtain ⟨C, dy, h3⟩ := h2.pop
    obtain ⟨dx, h4⟩ := h3.pop
    exact hr C H2 x y h4.ch dx dy Q fun v H3 rt => q v H3 (h4.step rt)
theorem s_un {ta : TE} {r : V → Hp → VK → Prop} (ha : EvS b ta Γ Γ1 (.dat d)) (hr : UD b.K r d s) : EvS b (tUn r ta) Γ Γ1 s := fun T τ σ H hs Q q =>
  ha T τ σ H hs _ fun x H1 h1 => by
    obtain ⟨C, dx, h4⟩ := h1.pop
    exact hr C H1 x h4.ch dx Q fun v H3 rt => q v H3 (h4.step rt)
theorem a_nil : EvA b tNil Γ Γ [] := fun T τ σ H hs Q q => by
  obtain ⟨C, hs⟩ := hs
  exact q [] H C hs .nil
theorem a_cons {ta : TE} {tr : TA} (ha : EvS b ta Γ Γ1 (.dat d)) (hr : EvA b tr Γ1 Γ2 ds) : EvA b (tCons ta tr) Γ Γ2 (d :: ds) := fun T τ σ H hs Q q =>
  ha T τ σ H hs _ fun x H1 h1 => hr _ _ σ H1 h1 _ fun xs H2 C h2 dxs => by
    obtain ⟨dx, h3⟩ := h2.pop
    exact q _ H2 C h3 (.cons dx dxs)
theorem s_cb {ta : TA} {r : List V → Hp → VK → Prop} (ha : EvA b ta Γ Γ1 ds) (hr : CD b.K r ds s) : EvS b (tCB r ta) Γ Γ1 s := fun T τ σ H hs Q q =>
  ha T τ σ H hs _ fun vs H1 C h1 dv => hr C H1 vs h1.ch dv Q fun v H2 rt => q v H2 (h1.step rt)
theorem s_tup {ta : TA} (ha : EvA b ta Γ Γ1 ds) (hl : ds.length ≤ 100000 := by decide) : EvS b (tTup ta) Γ Γ1 (.dat (.tuple ds)) := fun T τ σ H hs Q q =>
  ha T τ σ H hs _ fun vs H1 C h1 dv => ⟨by rw [dpa_len dv]; exact Nat.le_trans hl (by decide), fun p hp => q _ _ (h1.step (Ret.tup h1.ch dv hp))⟩
theorem s_lst {ta : TA} (ha : EvA b ta Γ Γ1 ds) (hl : ds.length ≤ 100000 := by decide) : EvS b (tLst ta) Γ Γ1 (.own ds) := fun T τ σ H hs Q q =>
  ha T τ σ H hs _ fun vs H1 C h1 dv => ⟨by rw [dpa_len dv]; exact Nat.le_trans hl (by decide), fun p hp => q _ _ (h1.step (Ret.lst h1.ch dv hp))⟩
theorem s_weak {te : TE} {z : Option Addr} (h : EvS b te Γ Γ1 (.ownq z ds)) : EvS b te Γ Γ1 (.dat (.list ds)) := fun T τ σ H hs Q q => h T τ σ H hs Q fun v H' h' => q v H' h'.freeze
theorem s_lstD {ta : TA} (ha : EvA b ta Γ Γ1 ds) (hl : ds.length ≤ 100000 := by decide) : EvS b (tLst ta) Γ Γ1 (.dat (.list ds)) := s_weak (s_lst ha hl)
theorem s_is {te : TE} (h : EvS b te Γ Γ1 s) (e : s = s') : EvS b te Γ Γ1 s' := e ▸ h
theorem s_dat {te : TE} {d d' : PyData} (h : EvS b te Γ Γ1 (.dat d)) (e : d = d') : EvS b te Γ Γ1 (.dat d') := e ▸ h
theorem t_is {tt : TT} {k k' : Bool} (h : EvT b tt Γ Γ1 k) (e : k = k') : EvT b tt Γ Γ1 k' := e ▸ h
/-! ### promises of pure defs -/
def spP (K : PySem.W.Frag) (f : List PyData → Sl → Prop) : Sp := fun vs H Q _ => ∃ C ds s, Ex C H ∧ DpAll K C vs ds ∧ f ds s ∧ ∀ v H', Ret K H C s v H' → Q v H'
theorem s_call {ta : TA} {f : List PyData → Sl → Prop} {E : XK} (ha : EvA b ta Γ Γ1 ds) (hf : f ds s) : EvS b (tCall (spP b.K f) [] E ta) Γ Γ1 s := fun T τ σ H hs Q q =>
  ha T τ σ H hs _ fun vs H1 C h1 dv => by
    rw [List.append_nil]
    exact ⟨C, ds, s, h1.ch, dv, hf, fun v H2 rt => q v H2 (h1.step rt)⟩
/-! ### tests -/
theorem t_test {te : TE} {k : Bool} (h : EvS b te Γ Γ1 (.dat (.bool k))) : EvT b (tTest te) Γ Γ1 k := fun T τ σ H hs Q q =>
  h T τ σ H hs _ fun v H' h' => by
    obtain ⟨C, dv, h2⟩ := h'.pop
    cases dv
    exact ⟨k, rfl, q H' ⟨C, h2⟩⟩
theorem t_B {te : TE} {k : Bool} (h : EvS b te Γ Γ1 (.dat (.bool k))) : EvT b (tB te) Γ Γ1 k := t_test h
theorem t_yes : EvT b tYes Γ Γ true := fun T τ σ H hs Q q => q H hs
theorem t_not {t : TT} {k : Bool} (h : EvT b t Γ Γ1 k) : EvT b (tNot t) Γ Γ1 (!k) := fun T τ σ H hs Q q => h T τ σ H hs _ fun H' h' => q H' h'
theorem t_and {t u : TT} {k l : Bool} (h : EvT b t Γ Γ k) (h2 : k = true → EvT b u Γ Γ l) : EvT b (tAnd t u) Γ Γ (k && l) := fun T τ σ H hs Q q => h T τ σ H hs _ fun H' h' => by
  cases k with
  | true => exact (iteT (h2 rfl T τ σ H' h' Q q))
  | false => exact (iteF (q H' h'))
theorem t_or {t u : TT} {k l : Bool} (h : EvT b t Γ Γ k) (h2 : k = false → EvT b u Γ Γ l) : EvT b (tOr t u) Γ Γ (k || l) := fun T τ σ H hs Q q => h T τ σ H hs _ fun H' h' => by
  cases k with
  | true => exact (iteT (q H' h'))
  | false => exact (iteF (h2 rfl T τ σ H' h' Q q))
theorem s_andV {ta tb : TE} {k l : Bool} (h : EvS b ta Γ Γ (.dat (.bool k))) (h2 : k = true → EvS b tb Γ Γ (.dat (.bool l))) : EvS b (tAndV ta tb) Γ Γ (.dat (.bool (k && l))) := fun T τ σ H hs Q q => h T τ σ H hs _ fun v H' h' => by
  obtain ⟨C, dv, h3⟩ := h'.pop
  cases dv
  refine ⟨k, rfl, ?_⟩
  cases k with
  | true => exact (iteT (h2 rfl T τ σ H' ⟨C, h3⟩ Q q))
  | false => exact (iteF (q _ H' h'))
theorem s_orV {ta tb : TE} {k l : Bool} (h : EvS b ta Γ Γ (.dat (.bool k))) (h2 : k = false → EvS b tb Γ Γ (.dat (.bool l))) : EvS b (tOrV ta tb) Γ Γ (.dat (.bool (k || l))) := fun T τ σ H hs Q q => h T τ σ H hs _ fun v H' h' => by
  obtain ⟨C, dv, h3⟩ := h'.pop
  cases dv
  refine ⟨k, rfl, ?_⟩
  cases k with
  | true => exact (iteT (q _ H' h'))
  | false => exact (iteF (h2 rfl T τ σ H' ⟨C, h3⟩ Q q))
theorem s_notV {ta : TE} {k : Bool} (h : EvS b ta Γ Γ1 (.dat (.bool k))) : EvS b (tNotV ta) Γ Γ1 (.dat (.bool (!k))) := fun T τ σ H hs Q q => h T τ σ H hs _ fun v H' h' => by
  obtain ⟨C, dv, h3⟩ := h'.pop
  cases dv
  exact ⟨k, rfl, q _ H' ⟨C, h3.push (.bl _)⟩⟩
theorem s_if {t : TT} {ta tb : TE} {k : Bool} (h : EvT b t Γ Γ1 k) (h1 : k = true → EvS b ta Γ1 Γ2 s) (h2 : k = false → EvS b tb Γ1 Γ2 s) : EvS b (tIf t ta tb) Γ Γ2 s := fun T τ σ H hs Q q => h T τ σ H hs _ fun H' h' => by
  cases k with
  | true => exact iteT (h1 rfl T τ σ H' h' Q q)
  | false => exact iteF (h2 rfl T τ σ H' h' Q q)
/-! ### statements: N is shown in every state that is so -/
def Nx (b : Bs) (N : L2.St → Hp → Prop) (T : List Sl) (τ : L2.St) (Γ : List Sl) : Prop := ∀ σ H, Hs b T τ Γ σ H → N σ H
variable {D : Ends} {t u : TS} {te : TE}
theorem n_seq (h : Nx b (t { D with nx := u D }) T τ Γ) : Nx b (tSeq t u D) T τ Γ := h
theorem n_set {i : Nat} (h : EvS b te Γ Γ1 s) (k : Nx b D.nx T τ (Γ1.set i s)) : Nx b (tAsg te (gName i) D) T τ Γ := fun σ H hs => h T τ σ H hs _ fun v H' h' => k _ _ (h'.store i)
theorem n_drop (h : EvS b te Γ Γ1 s) (k : Nx b D.nx T τ Γ1) : Nx b (tDrop te D) T τ Γ := fun σ H hs => h T τ σ H hs _ fun v H' h' => k _ _ h'.drop
theorem n_ret (h : EvS b te Γ Γ1 s) (k : ∀ v H', Ret b.K b.H0 b.B s v H' → D.rt v H') : Nx b (tRet te D) T τ Γ := fun σ H hs => h T τ σ H hs _ fun v H' h' => k v H' h'.ret
theorem n_if {tt : TT} {k : Bool} (h : EvT b tt Γ Γ1 k) (h1 : k = true → Nx b (t D) T τ Γ1) (h2 : k = false → Nx b (u D) T τ Γ1) : Nx b (tIfS tt t u D) T τ Γ := fun σ H hs => h T τ σ H hs _ fun H' h' => by
  cases k with
  | true => exact iteT (h1 rfl σ H' h')
  | false => exact iteF (h2 rfl σ H' h')
theorem n_next (k : Nx b D.nx T τ Γ) : Nx b (tNext D) T τ Γ := k
theorem n_hs : Nx b (fun σ H => Hs b T τ Γ σ H) T τ Γ := fun _ _ h => h
/-! ### what is walked -/
def ItOk (K : PySem.W.Frag) (J : It) (vs : List V) (ds its : List PyData) : Prop := ∀ C H, Ex C H → DpAll K C vs ds → J.stop its.length H ∧ ∀ i di, its[i]? = some di → J.go i H ∧ ∀ x H', J.yld i H x H' → Ret K H C (.dat di) x H'
def EvI (b : Bs) (wi : TI) (Γ Γ' : List Sl) (ds its : List PyData) : Prop := ∀ T τ σ H, Hs b T τ Γ σ H → ∀ R : It → Hp → Prop, (∀ J vs H' C, ItOk b.K J vs ds its → HsC b C T τ Γ' σ H' → DpAll b.K C vs ds → R J H') → wi σ H R
/-- what a target does -/
def EvG (b : Bs) (g : TG) (d : PyData) (Γ Γ' : List Sl) : Prop := ∀ T τ σ H x, Hs b (.dat d :: T) (some x :: τ) Γ σ H → ∀ Q : L2.St → Hp → Prop, (∀ σ', Hs b T τ Γ' σ' H → σ'.length = σ.length → Q σ' H) → g x σ H Q
theorem g_name {i : Nat} : EvG b (gName i) d Γ (Γ.set i (.dat d)) := fun T τ σ H x hs Q q => q _ (hs.store i) (by simp)
theorem g_tup2 {K : PySem.W.Frag} (hK : b.K = K) {i j : Nat} {d e : PyData} : EvG b (gTup K 2 (gCons (gName i) (gCons (gName j) gNil))) (.tuple [d, e]) Γ ((Γ.set i (.dat d)).set j (.dat e)) := fun T τ σ H x hs Q q => by
  obtain ⟨C, dx, h⟩ := hs.pop
  subst hK
  cases dx with
  | tup hq ha =>
    rename_i a xs
    cases ha with
    | cons r1 ha =>
      cases ha with
      | cons r2 ha =>
        cases ha
        rename_i v1 v2
        refine ⟨a, _, rfl, ex_t h.ch hq, rfl, v1, _, rfl, v2, _, rfl, rfl, ?_⟩
        have s1 : Hs b (.dat d :: .dat e :: T) (some v1 :: some v2 :: τ) Γ σ H := ⟨C, (h.push r2).push r1⟩
        exact q _ ((s1.store i).store j) (by simp)
theorem n_for {wi : TI} {g : TG} {tb : TS} {its : List PyData} (hI : EvI b wi Γ Γ1 ds its) (G G' : Nat → List Sl) (h0 : G 0 = Γ1)
    (hg : ∀ i di, its[i]? = some di → EvG b g di (G i) (G' i))
    (hb : ∀ i di (vs : List V), vs.length = ds.length → its[i]? = some di → Nx b (tb { D with nx := fun σ H => Hs b (ds.map Sl.dat ++ T) (vs.map some ++ τ) (G (i + 1)) σ H, ct := fun σ H => Hs b (ds.map Sl.dat ++ T) (vs.map some ++ τ) (G (i + 1)) σ H, bk := D.nx }) (ds.map Sl.dat ++ T) (vs.map some ++ τ) (G' i))
    (hd : Nx b D.nx T τ (G its.length)) : Nx b (tFor wi g tb D) T τ Γ := fun σ H hs => hI T τ σ H hs _ fun J vs H1 C ok h1 dv => by
  have hl := dpa_len dv
  refine ⟨fun i m σ' H' => i ≤ its.length ∧ m = its.length - i ∧ Hs b (ds.map Sl.dat ++ T) (vs.map some ++ τ) (G i) σ' H', ⟨_, Nat.zero_le _, rfl, h0 ▸ ⟨C, h1.pushAll dv⟩⟩, ?_⟩
  rintro i m σ' H' ⟨hi, rfl, C', h2⟩
  obtain ⟨dv', h3⟩ := HsC.popAll hl h2
  obtain ⟨st, go⟩ := ok C' H' h3.ch dv'
  by_cases hlt : i < its.length
  · obtain ⟨g1, g2⟩ := go i its[i] (by simp [hlt])
    refine .inr ⟨g1, _, fun σ2 H2 n => ⟨its.length - (i + 1), by omega, hlt, rfl, n⟩, fun x H2 y => ?_⟩
    exact hg i its[i] (by simp [hlt]) _ _ _ _ _ (h2.step (g2 x H2 y)) _ fun σ3 h5 _ => hb i its[i] vs hl (by simp [hlt]) σ3 H2 h5
  · have e : i = its.length := by omega
    subst e
    exact .inl ⟨st, hd σ' H' ⟨C', h3⟩⟩
/-- wiped slots -/
def wipeG : List Sl → List Nat → List Sl
  | Γ, [] => Γ
  | Γ, v :: vs => (wipeG Γ vs).set v .no
theorem hs_wipe (h : Hs b T τ Γ σ H) : ∀ vs : List Nat, Hs b T τ (wipeG Γ vs) (wipe σ vs) H
  | [] => h
  | v :: vs => by
    have h1 := hs_wipe h vs
    have h2 : Hs b (.no :: T) (none :: τ) (wipeG Γ vs) (wipe σ vs) H := by
      obtain ⟨C, ps, qs, c, g1, g2⟩ := h1
      exact ⟨C, ps, qs, c, .no g1, g2⟩
    exact h2.store v
end
end G
namespace G
open PySem PySem.Spec PyProof.Rows L2
open Evl (Ex ex_rd ex_l ex_t rMax2)
section
variable {K : PySem.W.Frag} {C H : Hp} {i j : Int} {d e : PyData} {ds es : List PyData} {s : Sl}
/-! ### operations on data -/
theorem rd_int {g : Int → Int → Int} : RD K (rI0 fun i j => V.int (g i j)) (.int i) (.int j) (.dat (.int (g i j))) := fun C H x y e dx dy Q q => by
  cases dx; cases dy
  exact ⟨i, j, rfl, rfl, q _ _ (.same e (.int _))⟩
theorem rd_bl {g : Int → Int → Bool} : RD K (rI0 fun i j => V.bl (g i j)) (.int i) (.int j) (.dat (.bool (g i j))) := fun C H x y e dx dy Q q => by
  cases dx; cases dy
  exact ⟨i, j, rfl, rfl, q _ _ (.same e (.bl _))⟩
theorem rd_intC {c : Int → Int → Prop} {g : Int → Int → Int} (hc : c i j) : RD K (rI c fun i j => V.int (g i j)) (.int i) (.int j) (.dat (.int (g i j))) := fun C H x y e dx dy Q q => by
  cases dx; cases dy
  exact ⟨i, j, rfl, rfl, hc, q _ _ (.same e (.int _))⟩
theorem rd_eqD (h1 : SeqAt.shaped d = true) (h2 : SeqAt.shaped e = true) : RD K (rEqD K) d e (.dat (.bool (PyData.eqv d e))) := fun C H x y ex dx dy Q q =>
  ⟨d, e, dpx ex dx, dpx ex dy, h1, h2, q _ _ (.same ex (.bl _))⟩
theorem rd_neD (h1 : SeqAt.shaped d = true) (h2 : SeqAt.shaped e = true) : RD K (rNeD K) d e (.dat (.bool (!PyData.eqv d e))) := fun C H x y ex dx dy Q q =>
  ⟨d, e, dpx ex dx, dpx ex dy, h1, h2, q _ _ (.same ex (.bl _))⟩
theorem atI_dpa {vs : List V} (h : DpAll K C vs ds) (a : atI ds i = some d) : ∃ v, atI vs i = some v ∧ Dp K C v d := by
  unfold atI at a ⊢
  rw [dpa_len h]
  cases hx : ixN ds.length i with
  | none => rw [hx] at a; cases a
  | some j =>
    rw [hx] at a
    exact dpa_get h a
theorem rd_ixL (a : atI ds i = some d) : RD K (rIx K) (.list ds) (.int i) (.dat d) := fun C H x y ex dx dy Q q => by
  cases dy
  cases dx with
  | lst hq ha =>
    obtain ⟨v, h1, h2⟩ := atI_dpa ha a
    exact .inl ⟨_, _, i, v, rfl, rfl, ex_l ex hq, h1, q _ _ (.same ex h2)⟩
theorem rd_ixT (a : atI ds i = some d) : RD K (rIx K) (.tuple ds) (.int i) (.dat d) := fun C H x y ex dx dy Q q => by
  cases dy
  cases dx with
  | tup hq ha =>
    obtain ⟨v, h1, h2⟩ := atI_dpa ha a
    exact .inr (.inl ⟨_, _, i, v, rfl, rfl, ex_t ex hq, h1, q _ _ (.same ex h2)⟩)
theorem ud_neg : UD K (rU fun i => V.int (-i)) (.int i) (.dat (.int (-i))) := fun C H x ex dx Q q => by
  cases dx
  exact ⟨i, rfl, q _ _ (.same ex (.int _))⟩
/-! ### built-in calls -/
def rLen (K : PySem.W.Frag) : List V → Hp → VK → Prop := fun xs H Q => ∃ p ys, xs = [.ref p] ∧ (SqL K H p ys ∨ SqT K H p ys) ∧ Q (.int ys.length) H
def rMin2 : List V → Hp → VK → Prop := fun xs H Q => ∃ i j, xs = [.int i, .int j] ∧ Q (.int (if j < i then j else i)) H
def rInt1 : List V → Hp → VK → Prop := fun xs H Q => (∃ i, xs = [.int i] ∧ Q (.int i) H) ∨ ∃ k, xs = [.bl k] ∧ Q (.int (if k then 1 else 0)) H
def rAbs : List V → Hp → VK → Prop := fun xs H Q => ∃ i, xs = [.int i] ∧ Q (.int (if i < 0 then -i else i)) H
def rTupOf (K : PySem.W.Frag) : List V → Hp → VK → Prop := fun xs H Q => ∃ p ys, xs = [.ref p] ∧ ((SqL K H p ys ∧ ∀ l, H l = none → Q (.ref l) (upd H l (.tup ys))) ∨ (SqT K H p ys ∧ Q (.ref p) H))
def rListOf (K : PySem.W.Frag) : List V → Hp → VK → Prop := fun xs H Q => ∃ p ys, xs = [.ref p] ∧ (SqL K H p ys ∨ SqT K H p ys) ∧ ∀ l, H l = none → Q (.ref l) (upd H l (.lst ys))
theorem cr_len {X : Cx} : CallR X (.builtin "len") (rLen X.K) := call_len_seq
theorem cr_max2 {X : Cx} (hc : X.calm = true) : CallR X (.builtin "max") rMax2 := call_max2 hc
theorem cr_min2 {X : Cx} (hc : X.calm = true) : CallR X (.builtin "min") rMin2 := call_min2 hc
theorem cr_int1 {X : Cx} : CallR X (.type "int") rInt1 := call_int1
theorem cr_abs {X : Cx} : CallR X (.builtin "abs") rAbs := call_abs
theorem cr_tup {X : Cx} : CallR X (.type "tuple") (rTupOf X.K) := call_tuple_of
theorem cr_list {X : Cx} : CallR X (.type "list") (rListOf X.K) := call_list_of
theorem cd_lenL : CD K (rLen K) [.list ds] (.dat (.int ds.length)) := fun C H vs ex dv Q q => by
  cases dv with | cons dx dv => cases dv; cases dx with
    | lst hq ha => exact ⟨_, _, rfl, .inl (ex_l ex hq), by rw [dpa_len ha]; exact q _ _ (.same ex (.int _))⟩
theorem cd_lenT : CD K (rLen K) [.tuple ds] (.dat (.int ds.length)) := fun C H vs ex dv Q q => by
  cases dv with | cons dx dv => cases dv; cases dx with
    | tup hq ha => exact ⟨_, _, rfl, .inr (ex_t ex hq), by rw [dpa_len ha]; exact q _ _ (.same ex (.int _))⟩
theorem cd_max2 : CD K rMax2 [.int i, .int j] (.dat (.int (max i j))) := fun C H vs ex dv Q q => by
  cases dv with | cons dx dv => cases dv with | cons dy dv => cases dv; cases dx; cases dy; exact ⟨i, j, rfl, by
    have e : (if j > i then j else i) = max i j := by by_cases h : j > i <;> simp [h] <;> omega
    rw [e]; exact q _ _ (.same ex (.int _))⟩
theorem cd_min2 : CD K rMin2 [.int i, .int j] (.dat (.int (min i j))) := fun C H vs ex dv Q q => by
  cases dv with | cons dx dv => cases dv with | cons dy dv => cases dv; cases dx; cases dy; exact ⟨i, j, rfl, by
    have e : (if j < i then j else i) = min i j := by by_cases h : j < i <;> simp [h] <;> omega
    rw [e]; exact q _ _ (.same ex (.int _))⟩
theorem cd_int : CD K rInt1 [.int i] (.dat (.int i)) := fun C H vs ex dv Q q => by
  cases dv with | cons dx dv => cases dv; cases dx; exact .inl ⟨i, rfl, q _ _ (.same ex (.int _))⟩
theorem cd_intB {k : Bool} : CD K rInt1 [.bool k] (.dat (.int (if k then 1 else 0))) := fun C H vs ex dv Q q => by
  cases dv with | cons dx dv => cases dv; cases dx; exact .inr ⟨k, rfl, q _ _ (.same ex (.int _))⟩
theorem cd_abs : CD K rAbs [.int i] (.dat (.int (i.natAbs : Int))) := fun C H vs ex dv Q q => by
  cases dv with | cons dx dv => cases dv; cases dx; exact ⟨i, rfl, by
    have e : (if i < 0 then -i else i) = (i.natAbs : Int) := by by_cases h : i < 0 <;> simp [h] <;> omega
    rw [e]; exact q _ _ (.same ex (.int _))⟩
theorem cd_tupL : CD K (rTupOf K) [.list ds] (.dat (.tuple ds)) := fun C H vs ex dv Q q => by
  cases dv with | cons dx dv => cases dv; cases dx with
    | lst hq ha => exact ⟨_, _, rfl, .inl ⟨ex_l ex hq, fun l hl => q _ _ (.tup ex ha hl)⟩⟩
theorem cd_tupT : CD K (rTupOf K) [.tuple ds] (.dat (.tuple ds)) := fun C H vs ex dv Q q => by
  cases dv with | cons dx dv => cases dv; cases dx with
    | tup hq ha => exact ⟨_, _, rfl, .inr ⟨ex_t ex hq, q _ _ (.same ex (.tup hq ha))⟩⟩
theorem cd_listL : CD K (rListOf K) [.list ds] (.own ds) := fun C H vs ex dv Q q => by
  cases dv with | cons dx dv => cases dv; cases dx with
    | lst hq ha => exact ⟨_, _, rfl, .inl (ex_l ex hq), fun l hl => q _ _ (.lst ex ha hl)⟩
theorem cd_listT : CD K (rListOf K) [.tuple ds] (.own ds) := fun C H vs ex dv Q q => by
  cases dv with | cons dx dv => cases dv; cases dx with
    | tup hq ha => exact ⟨_, _, rfl, .inr (ex_t ex hq), fun l hl => q _ _ (.lst ex ha hl)⟩
theorem dpa_bools : ∀ {bs : List Bool} {vs : List V}, DpAll K C vs (bs.map PyData.bool) → vs = bs.map V.bl
  | [], _, .nil => rfl
  | b :: bs, _, .cons r t => by
    cases r
    rw [dpa_bools t]; rfl
theorem cd_all {bs : List Bool} : CD K (rAll K) [.list (bs.map .bool)] (.dat (.bool (bs.all id))) := fun C H vs ex dv Q q => by
  cases dv with | cons dx dv => cases dv; cases dx with
    | lst hq ha => exact ⟨_, bs, rfl, by rw [← dpa_bools ha]; exact ex_l ex hq, q _ _ (.same ex (.bl _))⟩
theorem cd_any {bs : List Bool} : CD K (rAny K) [.list (bs.map .bool)] (.dat (.bool (bs.any id))) := fun C H vs ex dv Q q => by
  cases dv with | cons dx dv => cases dv; cases dx with
    | lst hq ha => exact ⟨_, bs, rfl, by rw [← dpa_bools ha]; exact ex_l ex hq, q _ _ (.same ex (.bl _))⟩
/-- the kind of data -/
def kindOf : PyData → String
  | .bool _ => "bool" | .int _ => "int" | .none => "NoneType"
  | .list _ => "list" | .tuple _ => "tuple"
  | .str _ => "str" | .dict _ => "dict"
theorem tyx (h : Dp K H x d) : TyX K H x (.type (kindOf d)) := by
  cases h with
  | non => exact .base .non
  | bl b => exact .base (.bl b)
  | int i => exact .base (.int i)
  | str z => exact .base (.str z)
  | lst hq ha =>
    rcases hq with (h | ⟨o, h⟩) | ⟨o, its, n, h, c, _⟩
    · exact .base (.lst h)
    · exact .base (.frz h)
    · exact .kList h c
  | tup hq ha =>
    rcases hq with (h | ⟨o, h⟩) | ⟨o, its, n, h, c, _⟩
    · exact .base (.tup h)
    · exact .fTuple h
    · exact .kTuple h c
/-- isinstance(x, T), T the name of a built-in type -/
def tIsi (K : PySem.W.Frag) (ta : TE) (T : String) : TE := tCB (rIsi K) (tCons ta (tCons (tC (.ty T)) tNil))
end
section
variable {b : Bs} {C : Hp} {T Γ Γ' Γ1 Γ2 : List Sl} {τ σ : L2.St} {H H' : Hp} {s s' : Sl} {v : V} {d e : PyData} {ds es : List PyData} {vs : List V}
theorem s_isi {ta : TE} {n : String} {k : Bool} (h : EvS b ta Γ Γ1 (.dat d)) (hk : kitB (kindOf d) n = some k) : EvS b (tIsi b.K ta n) Γ Γ1 (.dat (.bool k)) := fun T τ σ H hs Q q =>
  h T τ σ H hs _ fun v H1 h1 => by
    obtain ⟨C, dv, h2⟩ := h1.pop
    exact ⟨v, .ty n, _, .type n, k, rfl, .ty n, tyx (dpx h2.ch dv), kit_ty hk, q _ _ ⟨C, h2.push (.bl k)⟩⟩
/-! ### a list of one's own in a slot -/
theorem Has.own_at {K : PySem.W.Frag} {ps : List Addr} (h : Has K C H Γ σ ps) : ∀ {i : Nat} {z : Option Addr} {ds : List PyData}, Γ[i]? = some (.ownq z ds) → ps.Nodup →
    ∃ p vs, σ[i]? = some (some (.ref p)) ∧ p ∈ ps ∧ H p = some (.lst vs) ∧ DpAll K C vs ds ∧ ∀ vs' ds', DpAll K C vs' ds' → Has K C (upd H p (.lst vs')) (Γ.set i (.ownq z ds')) σ ps := by
  induction h with
  | nil => intro i z ds e; simp at e
  | no q ih =>
    intro i z ds e n
    cases i with
    | zero => simp at e
    | succ i =>
      obtain ⟨p, vs, h1, h2, h3, h4, h5⟩ := ih (by simpa using e) n
      exact ⟨p, vs, by simpa using h1, h2, h3, h4, fun vs' ds' q => .no (h5 vs' ds' q)⟩
  | dat dd q ih =>
    intro i z ds e n
    cases i with
    | zero => simp at e
    | succ i =>
      obtain ⟨p, vs, h1, h2, h3, h4, h5⟩ := ih (by simpa using e) n
      exact ⟨p, vs, by simpa using h1, h2, h3, h4, fun vs' ds' q => .dat dd (h5 vs' ds' q)⟩
  | own y0 e0 d0 q ih =>
    rename_i Γ σ ps p0 vs0 ds0 z0
    intro i z ds e n
    have n2 := List.nodup_cons.mp n
    cases i with
    | zero =>
      simp at e; obtain ⟨rfl, rfl⟩ := e
      refine ⟨p0, vs0, rfl, List.mem_cons_self, e0, d0, fun vs' ds' r => .own y0 upd_same r (q.mono (Ex.refl C) fun p hp o z => ?_)⟩
      rw [upd_ne (fun y => n2.1 (by rw [← y]; exact hp))]; exact z
    | succ i =>
      obtain ⟨p, vs, h1, h2, h3, h4, h5⟩ := ih (by simpa using e) n2.2
      refine ⟨p, vs, by simpa using h1, List.mem_cons_of_mem _ h2, h3, h4, fun vs' ds' r => .own y0 ?_ d0 (h5 vs' ds' r)⟩
      rw [upd_ne (fun y => n2.1 (by rw [y]; exact h2))]; exact e0
theorem Cfg.upd {ps : List Addr} {p : Addr} {o : HO} (c : Cfg b C H ps) (hp : p ∈ ps) : Cfg b C (upd H p o) ps :=
  ⟨c.bc, fun a u h => by rw [upd_ne (fun z => by rw [z, (c.ow p hp).1] at h; cases h)]; exact c.ch a u h,
   fun a u h => by rw [upd_ne (fun z => by rw [z, (c.ow p hp).2] at h; cases h)]; exact c.h0 a u h, c.fr, c.ow, c.nd⟩
theorem HsC.own_at {i : Nat} {z : Option Addr} (h : HsC b C T τ Γ σ H) (e : Γ[i]? = some (.ownq z ds)) : ∃ p vs, σ[i]? = some (some (.ref p)) ∧ H p = some (.lst vs) ∧ DpAll b.K C vs ds ∧
    ∀ vs' ds', DpAll b.K C vs' ds' → HsC b C T τ (Γ.set i (.ownq z ds')) σ (upd H p (.lst vs')) := by
  obtain ⟨ps, qs, c, h1, h2⟩ := h
  have nd := List.nodup_append.mp c.nd
  obtain ⟨p, vs, g1, g2, g3, g4, g5⟩ := h2.own_at e nd.2.1
  refine ⟨p, vs, g1, g3, g4, fun vs' ds' r => ⟨ps, qs, c.upd (List.mem_append_right _ g2), h1.mono (Ex.refl C) fun q hq o z => ?_, g5 vs' ds' r⟩⟩
  rw [upd_ne (nd.2.2 q hq p g2)]; exact z
/-- on top of the pile -/
theorem HsC.own_top {x : Option V} {z : Option Addr} (h : HsC b C (.ownq z ds :: T) (x :: τ) Γ σ H) : ∃ p vs, x = some (.ref p) ∧ H p = some (.lst vs) ∧ DpAll b.K C vs ds ∧
    ∀ vs' ds', DpAll b.K C vs' ds' → HsC b C (.ownq z ds' :: T) (x :: τ) Γ σ (upd H p (.lst vs')) := by
  obtain ⟨ps, qs, c, h1, h2⟩ := h
  cases h1 with
  | own y0 e0 d0 h1 =>
    rename_i ps p vs
    have n2 := List.nodup_cons.mp c.nd
    refine ⟨p, vs, rfl, e0, d0, fun vs' ds' r => ⟨p :: ps, qs, Cfg.upd c List.mem_cons_self, .own y0 upd_same r (h1.mono (Ex.refl C) fun q hq o z => ?_), h2.mono (Ex.refl C) fun q hq o z => ?_⟩⟩
    · rw [upd_ne (fun y => n2.1 (by rw [← y]; exact List.mem_append_left _ hq))]; exact z
    · rw [upd_ne (fun y => n2.1 (by rw [← y]; exact List.mem_append_right _ hq))]; exact z
theorem Has.take {K : PySem.W.Frag} {ps : List Addr} (h : Has K C H Γ σ ps) : ∀ {i : Nat} {z : Option Addr} {ds : List PyData}, Γ[i]? = some (.ownq z ds) →
    ∃ p qs vs, (∀ r, z = some r → r = p) ∧ σ[i]? = some (some (.ref p)) ∧ H p = some (.lst vs) ∧ DpAll K C vs ds ∧ Has K C H (Γ.set i .no) σ qs ∧ ps.Perm (p :: qs) := by
  induction h with
  | nil => intro i z ds e; simp at e
  | no q ih =>
    intro i z ds e
    cases i with
    | zero => simp at e
    | succ i =>
      obtain ⟨p, qs, vs, h0, h1, h2, h3, h4, h5⟩ := ih (by simpa using e)
      exact ⟨p, qs, vs, h0, by simpa using h1, h2, h3, .no h4, h5⟩
  | dat dd q ih =>
    intro i z ds e
    cases i with
    | zero => simp at e
    | succ i =>
      obtain ⟨p, qs, vs, h0, h1, h2, h3, h4, h5⟩ := ih (by simpa using e)
      exact ⟨p, qs, vs, h0, by simpa using h1, h2, h3, .dat dd h4, h5⟩
  | own y0 e0 d0 q ih =>
    intro i z ds e
    cases i with
    | zero => simp at e; obtain ⟨rfl, rfl⟩ := e; exact ⟨_, _, _, y0, rfl, e0, d0, .no q, List.Perm.refl _⟩
    | succ i =>
      obtain ⟨p, qs, vs, h0, h1, h2, h3, h4, h5⟩ := ih (by simpa using e)
      exact ⟨p, _, vs, h0, by simpa using h1, h2, h3, .own y0 e0 d0 h4, (h5.cons _).trans (List.Perm.swap _ _ _)⟩
/-- the slot gives its list away -/
theorem s_own {i : Nat} {z : Option Addr} (h : Γ[i]? = some (.ownq z ds)) : EvS b (tVar i) Γ (Γ.set i .no) (.ownq z ds) := fun T τ σ H hs Q q => by
  obtain ⟨C, ps, qs, c, h1, h2⟩ := hs
  obtain ⟨p, rs, vs, g0, g1, g2, g3, g4, g5⟩ := h2.take h
  refine ⟨.ref p, g1, q _ H ⟨C, p :: ps, rs, ?_, .own g0 g2 g3 h1, g4⟩⟩
  have pm : (ps ++ qs).Perm (p :: ps ++ rs) := (g5.append_left ps).trans List.perm_middle
  exact ⟨c.bc, c.ch, c.h0, c.fr, fun a ha => c.ow a (pm.mem_iff.mpr ha), (pm.nodup_iff).mp c.nd⟩
/-- the slot's list is read as data, for good -/
theorem s_frz {i : Nat} {z : Option Addr} (h : Γ[i]? = some (.ownq z ds)) : EvS b (tVar i) Γ (Γ.set i .no) (.dat (.list ds)) := s_weak (s_own h)
theorem s_ixO {i : Nat} {k : Int} {tb : TE} {z : Option Addr} (h : Γ[i]? = some (.ownq z ds)) (hb : EvS b tb Γ Γ (.dat (.int k))) (ha : atI ds k = some d) : EvS b (tOp (rIx b.K) (tVar i) tb) Γ Γ (.dat d) := fun T τ σ H hs Q q => by
  obtain ⟨C, hs⟩ := hs
  obtain ⟨p, vs, g1, g2, g3, _⟩ := hs.own_at h
  refine ⟨.ref p, g1, hb T τ σ H ⟨C, hs⟩ _ fun v H1 h1 => ?_⟩
  obtain ⟨C1, dv, h2⟩ := h1.pop
  cases dv
  obtain ⟨p', vs', f1, f2, f3, _⟩ := h2.own_at h
  rw [g1] at f1
  cases f1
  obtain ⟨y, y1, y2⟩ := atI_dpa f3 ha
  exact .inl ⟨p, vs', k, y, rfl, rfl, .inl (.inl f2), y1, q _ _ ⟨C1, h2.push y2⟩⟩
theorem s_lenO {i : Nat} {z : Option Addr} (h : Γ[i]? = some (.ownq z ds)) : EvS b (tCB (rLen b.K) (tCons (tVar i) tNil)) Γ Γ (.dat (.int ds.length)) := fun T τ σ H hs Q q => by
  obtain ⟨C, hs⟩ := hs
  obtain ⟨p, vs, g1, g2, g3, _⟩ := hs.own_at h
  exact ⟨.ref p, g1, p, vs, rfl, .inl (.inl (.inl g2)), by rw [dpa_len g3]; exact q _ _ ⟨C, hs.push (.int _)⟩⟩
variable {D : Ends} {t u : TS} {te : TE}
theorem n_append {i : Nat} {z : Option Addr} (h : Γ[i]? = some (.ownq z ds)) (he : EvS b te Γ Γ (.dat d)) (hz : ds.length < 100000) (k : Nx b D.nx T τ (Γ.set i (.ownq z (ds ++ [d])))) :
    Nx b (tDrop (tBM b.K "list" rAppend (tVar i) (tCons te tNil)) D) T τ Γ := fun σ H hs => by
  obtain ⟨C, hs⟩ := hs
  obtain ⟨p, vs, g1, g2, g3, _⟩ := hs.own_at h
  refine ⟨.ref p, g1, .inl ⟨rfl, vs, .inl (.inl g2)⟩, he T τ σ H ⟨C, hs⟩ _ fun v H1 h1 => ?_⟩
  obtain ⟨C1, dv, h2⟩ := h1.pop
  obtain ⟨p', vs', f1, f2, f3, f4⟩ := h2.own_at h
  rw [g1] at f1
  cases f1
  exact ⟨p, vs', v, rfl, rfl, f2, by rw [dpa_len f3]; exact Nat.lt_of_lt_of_le hz (by decide), k _ _ ⟨C1, f4 _ _ (dpa_app f3 (.cons dv .nil))⟩⟩
theorem ixN_ok {n : Nat} {i : Int} (h0 : 0 ≤ i) (h1 : i < n) : ixN n i = some i.toNat := by
  unfold ixN
  rw [if_pos h0, if_pos h1]
theorem atI_ok {α : Type} {xs : List α} {i : Int} {x : α} (h0 : 0 ≤ i) (h : xs[i.toNat]? = some x) : atI xs i = some x := by
  have := atI_nat (xs := xs) (j := i.toNat) h
  rwa [Int.toNat_of_nonneg h0] at this
theorem n_setL {i j : Nat} {k : Int} {tb : TE} {z : Option Addr} (h : Γ[i]? = some (.ownq z ds)) (he : EvS b te Γ Γ (.dat d)) (hb : EvS b tb Γ Γ (.dat (.int k))) (hj : ixN ds.length k = some j) (kk : Nx b D.nx T τ (Γ.set i (.ownq z (ds.set j d)))) :
    Nx b (tAsg te (gSub (tVar i) tb rSetL) D) T τ Γ := fun σ H hs => by
  refine he T τ σ H hs _ fun v H1 h1 => ?_
  have hs1 := h1
  obtain ⟨C, hs1⟩ := hs1
  obtain ⟨p, vs, g1, g2, g3, _⟩ := hs1.own_at h
  refine ⟨.ref p, g1, hb _ _ σ H1 h1 _ fun y H2 h2 => ?_⟩
  obtain ⟨C2, dy, h3⟩ := h2.pop
  cases dy
  obtain ⟨dv, h4⟩ := h3.pop
  obtain ⟨p', vs', f1, f2, f3, f4⟩ := h4.own_at h
  rw [g1] at f1
  cases f1
  exact ⟨p, vs', k, j, rfl, rfl, f2, by rw [dpa_len f3]; exact hj, kk _ _ ⟨C2, f4 _ _ (dpa_set dv j f3)⟩⟩
/-! ### iterators -/
theorem dpa1 {K : PySem.W.Frag} {d : PyData} (h : DpAll K C vs [d]) : ∃ v, vs = [v] ∧ Dp K C v d := by
  cases h with | cons r t => cases t; exact ⟨_, rfl, r⟩
theorem dpa2 {K : PySem.W.Frag} {d e : PyData} (h : DpAll K C vs [d, e]) : ∃ v v', vs = [v, v'] ∧ Dp K C v d ∧ Dp K C v' e := by
  cases h with | cons r t => cases t with | cons r2 t => cases t; exact ⟨_, _, rfl, r, r2⟩
theorem i_range1 {ta : TA} {n : Int} (h : EvA b ta Γ Γ1 [.int n]) (hn : n ≤ 100000000) (h0 : -100000000 ≤ n) : EvI b (iRng1 ta) Γ Γ1 [] ((List.range n.toNat).map fun (k : Nat) => .int (k : Int)) := fun T τ σ H hs R r =>
  h T τ σ H hs _ fun vs H1 C h1 dv => by
    obtain ⟨v, rfl, dx⟩ := dpa1 dv
    cases dx
    refine ⟨n, rfl, by omega, by omega, r _ [] H1 C (fun C' H' ex _ => ?_) h1 .nil⟩
    refine ⟨(by show _ ≤ _; simp only [List.length_map, List.length_range]; exact Nat.le_refl _), fun i di e => ?_⟩
    rw [List.getElem?_map] at e
    obtain ⟨k, hk, rfl⟩ := Option.map_eq_some_iff.mp e
    obtain ⟨hlt, rfl⟩ := List.getElem?_eq_some_iff.mp hk
    refine ⟨(by show i < _; simpa only [List.length_range] using hlt), fun x H' y => ?_⟩
    obtain ⟨rfl, rfl⟩ := y
    have : (0 : Int) + (i : Int) = (i : Int) := Int.zero_add _
    rw [this, List.getElem_range]
    exact .same ex (.int _)
theorem i_range2 {ta : TA} {m n : Int} (h : EvA b ta Γ Γ1 [.int m, .int n]) (hn : -100000000 ≤ m ∧ m ≤ 100000000 ∧ -100000000 ≤ n ∧ n ≤ 100000000) : EvI b (iRng2 ta) Γ Γ1 [] ((List.range (n - m).toNat).map fun (k : Nat) => .int (m + (k : Int))) := fun T τ σ H hs R r =>
  h T τ σ H hs _ fun vs H1 C h1 dv => by
    obtain ⟨v, v', rfl, dx, dy⟩ := dpa2 dv
    cases dx
    cases dy
    refine ⟨m, n, rfl, by omega, r _ [] H1 C (fun C' H' ex _ => ?_) h1 .nil⟩
    refine ⟨(by show _ ≤ _; simp only [List.length_map, List.length_range]; exact Nat.le_refl _), fun i di e => ?_⟩
    rw [List.getElem?_map] at e
    obtain ⟨k, hk, rfl⟩ := Option.map_eq_some_iff.mp e
    obtain ⟨hlt, rfl⟩ := List.getElem?_eq_some_iff.mp hk
    refine ⟨(by show i < _; simpa only [List.length_range] using hlt), fun x H' y => ?_⟩
    obtain ⟨rfl, rfl⟩ := y
    rw [List.getElem_range]
    exact .same ex (.int _)
theorem i_list {tl : TE} (h : EvS b tl Γ Γ1 (.dat (.list ds))) : EvI b (iList b.K tl) Γ Γ1 [.list ds] ds := fun T τ σ H hs R r =>
  h T τ σ H hs _ fun v H1 h1 => by
    obtain ⟨C, dv, h2⟩ := h1.pop
    have dv2 := dv
    cases dv with
    | lst hq ha =>
      rename_i a xs
      refine ⟨a, rfl, ⟨xs, ex_l h2.ch hq⟩, r _ [.ref a] H1 C (fun C' H' ex dw => ?_) h2 (.cons dv2 .nil)⟩
      cases dw with | cons dz _ => cases dz with
        | lst hq' ha' =>
          have hl := dpa_len ha'
          refine ⟨⟨_, ex_l ex hq', by rw [hl]; exact Nat.le_refl _⟩, fun i di e => ?_⟩
          obtain ⟨y, y1, y2⟩ := dpa_get ha' e
          refine ⟨⟨_, y, ex_l ex hq', y1⟩, fun x H2 z => ?_⟩
          obtain ⟨rfl, z⟩ := z
          have := (z _ (ex_l ex hq')).symm.trans y1
          cases this
          exact .same ex y2
theorem i_tup {tl : TE} (h : EvS b tl Γ Γ1 (.dat (.tuple ds))) : EvI b (iTup b.K tl) Γ Γ1 [.tuple ds] ds := fun T τ σ H hs R r =>
  h T τ σ H hs _ fun v H1 h1 => by
    obtain ⟨C, dv, h2⟩ := h1.pop
    have dv2 := dv
    cases dv with
    | tup hq ha =>
      rename_i a xs
      refine ⟨a, rfl, ⟨xs, ex_t h2.ch hq⟩, r _ [.ref a] H1 C (fun C' H' ex dw => ?_) h2 (.cons dv2 .nil)⟩
      cases dw with | cons dz _ => cases dz with
        | tup hq' ha' =>
          have hl := dpa_len ha'
          refine ⟨⟨_, ex_t ex hq', by rw [hl]; exact Nat.le_refl _⟩, fun i di e => ?_⟩
          obtain ⟨y, y1, y2⟩ := dpa_get ha' e
          refine ⟨⟨_, y, ex_t ex hq', y1⟩, fun x H2 z => ?_⟩
          obtain ⟨rfl, z⟩ := z
          have := (z _ (ex_t ex hq')).symm.trans y1
          cases this
          exact .same ex y2
def pairT (p : PyData × PyData) : PyData := .tuple [p.1, p.2]
theorem i_zipT {ta : TA} (h : EvA b ta Γ Γ1 [.tuple ds, .tuple es]) : EvI b (RZ.iZipA b.K ta) Γ Γ1 [.tuple ds, .tuple es] ((ds.zip es).map pairT) := fun T τ σ H hs R r =>
  h T τ σ H hs _ fun vs H1 C h1 dv => by
    have dv2 := dv
    cases dv with | cons dx dv => cases dv with | cons dy dv => cases dv; cases dx with
      | tup hq ha => cases dy with
        | tup hq2 ha2 =>
          rename_i a xs a2 xs2
          refine ⟨a, a2, xs, xs2, rfl, .inr ⟨ex_t h1.ch hq, ex_t h1.ch hq2, r _ [.ref a, .ref a2] H1 C (fun C' H' ex dw => ?_) h1 dv2⟩⟩
          cases dw with | cons dz dw => cases dw with | cons dz2 _ => cases dz with
            | tup hq' ha' => cases dz2 with
              | tup hq2' ha2' =>
                have hl := dpa_len ha'
                have hl2 := dpa_len ha2'
                refine ⟨⟨_, _, ex_t ex hq', ex_t ex hq2', by simp; omega⟩, fun i di e => ?_⟩
                rw [List.getElem?_map] at e
                obtain ⟨⟨u1, u2⟩, e1, rfl⟩ := Option.map_eq_some_iff.mp e
                obtain ⟨e2, e3⟩ := List.getElem?_zip_eq_some.mp e1
                obtain ⟨y, y1, y2⟩ := dpa_get ha' e2
                obtain ⟨y', y1', y2'⟩ := dpa_get ha2' e3
                refine ⟨⟨_, _, y, y', ex_t ex hq', ex_t ex hq2', y1, y1'⟩, fun x H2 z => ?_⟩
                obtain ⟨P, z1, z2, rfl, nP, rfl, f1, f2⟩ := z
                have w1 := (f1 _ (ex_t ex hq')).symm.trans y1
                have w2 := (f2 _ (ex_t ex hq2')).symm.trans y1'
                cases w1; cases w2
                exact .tup ex (.cons y2 (.cons y2' .nil)) nP
end
end G
namespace G
open PySem PySem.Spec PyProof.Rows L2
open Evl (Ex ex_rd ex_l ex_t rMax2)
section
variable {b : Bs} {C : Hp} {T Γ Γ' Γ1 Γ2 : List Sl} {τ σ : L2.St} {H H' : Hp} {s s' : Sl} {v : V} {d e : PyData} {ds es : List PyData} {vs : List V}
/-! ### comprehensions -/
theorem wipe_get (σ : L2.St) : ∀ (vs : List Nat) (k : Nat), (wipe σ vs)[k]? = if k ∈ vs then (if k < σ.length then some none else none) else σ[k]?
  | [], k => by simp [wipe]
  | v :: vs, k => by
    unfold wipe
    rw [List.getElem?_set, wipe_get σ vs k, wipe_length]
    by_cases h : v = k
    · subst h; simp
    · rw [if_neg h]
      have : (k ∈ v :: vs) ↔ k ∈ vs := by simp [Ne.symm h]
      simp only [this]
theorem wipe_eq {σ σ' : L2.St} {vs : List Nat} (hl : σ'.length = σ.length) (h : ∀ k, k ∉ vs → σ'[k]? = σ[k]?) : wipe σ' vs = wipe σ vs := by
  refine List.ext_getElem? fun k => ?_
  rw [wipe_get, wipe_get, hl]
  by_cases hk : k ∈ vs
  · rw [if_pos hk, if_pos hk]
  · rw [if_neg hk, if_neg hk, h k hk]
theorem wipe_wipe (σ : L2.St) (vs : List Nat) : wipe (wipe σ vs) vs = wipe σ vs := wipe_eq (wipe_length _ _) fun k hk => by rw [wipe_get, if_neg hk]
/-- a target with the slots that it stores -/
def EvGv (b : Bs) (g : TG) (d : PyData) (js : List Nat) (Γ Γ' : List Sl) : Prop := ∀ T τ σ H x, Hs b (.dat d :: T) (some x :: τ) Γ σ H → ∀ Q : L2.St → Hp → Prop, (∀ σ', Hs b T τ Γ' σ' H → wipe σ' js = wipe σ js → Q σ' H) → g x σ H Q
theorem gv_name {i : Nat} : EvGv b (gName i) d [i] Γ (Γ.set i (.dat d)) := fun T τ σ H x hs Q q => q _ (hs.store i) (wipe_eq (by simp) fun k hk => by
  rw [List.getElem?_set_ne]
  simpa [eq_comm] using hk)
theorem gv_tup2 {K : PySem.W.Frag} (hK : b.K = K) {i j : Nat} {d e : PyData} : EvGv b (gTup K 2 (gCons (gName i) (gCons (gName j) gNil))) (.tuple [d, e]) [i, j] Γ ((Γ.set i (.dat d)).set j (.dat e)) := fun T τ σ H x hs Q q => by
  obtain ⟨C, dx, h⟩ := hs.pop
  subst hK
  cases dx with
  | tup hq ha =>
    rename_i a xs
    cases ha with
    | cons r1 ha =>
      cases ha with
      | cons r2 ha =>
        cases ha
        rename_i v1 v2
        refine ⟨a, _, rfl, ex_t h.ch hq, rfl, v1, _, rfl, v2, _, rfl, rfl, ?_⟩
        have s1 : Hs b (.dat d :: .dat e :: T) (some v1 :: some v2 :: τ) Γ σ H := ⟨C, (h.push r2).push r1⟩
        refine q _ ((s1.store i).store j) (wipe_eq (by simp) fun k hk => ?_)
        simp at hk
        rw [List.getElem?_set_ne (by omega), List.getElem?_set_ne (by omega)]
/-- slots of which nothing is said may hold anything -/
theorem has_unwipe {K : PySem.W.Frag} : ∀ {Γ : List Sl} {σ : L2.St} {ps : List Addr} {σ' : L2.St}, Has K C H Γ σ ps → σ'.length = σ.length → (∀ k : Nat, Γ[k]? ≠ some Sl.no → σ'[k]? = σ[k]?) → Has K C H Γ σ' ps
  | _, _, _, [], .nil, _, _ => .nil
  | _, _, _, y :: σ', .no h, l, f => .no (has_unwipe h (by simpa using l) fun k z => by simpa using f (k + 1) (by simpa using z))
  | _, _, _, y :: σ', .dat d h, l, f => by
    have e := f 0 (by simp)
    simp at e
    subst e
    exact .dat d (has_unwipe h (by simpa using l) fun k z => by simpa using f (k + 1) (by simpa using z))
  | _, _, _, y :: σ', .own y0 q d h, l, f => by
    have e := f 0 (by simp)
    simp at e
    subst e
    exact .own y0 q d (has_unwipe h (by simpa using l) fun k z => by simpa using f (k + 1) (by simpa using z))
theorem wipeG_get (Γ : List Sl) : ∀ (vs : List Nat) (k : Nat), k ∈ vs → (wipeG Γ vs)[k]? = some .no ∨ (wipeG Γ vs)[k]? = none
  | [], k, h => by cases h
  | v :: vs, k, h => by
    unfold wipeG
    rw [List.getElem?_set]
    by_cases e : v = k
    · subst e
      simp only [if_true]
      by_cases hl : v < (wipeG Γ vs).length
      · rw [if_pos hl]; exact .inl rfl
      · rw [if_neg hl]; exact .inr rfl
    · rw [if_neg e]
      rcases List.mem_cons.mp h with z | z
      · exact absurd z.symm e
      · exact wipeG_get Γ vs k z
theorem hs_unwipe {vs : List Nat} (h : Hs b T τ (wipeG Γ vs) (wipe σ vs) H) : Hs b T τ (wipeG Γ vs) σ H := by
  obtain ⟨C, ps, qs, c, h1, h2⟩ := h
  have hl := h2.len
  refine ⟨C, ps, qs, c, h1, has_unwipe h2 (wipe_length σ vs).symm fun k z => ?_⟩
  rw [wipe_get]
  by_cases hk : k ∈ vs
  · rcases wipeG_get Γ vs k hk with q | q
    · exact absurd q z
    · rw [List.getElem?_eq_none_iff, hl, wipe_length] at q
      rw [if_pos hk, if_neg (by omega), List.getElem?_eq_none_iff]; exact q
  · rw [if_neg hk]
theorem s_lc {wi : TI} {g : TG} {tt : TT} {te : TE} {vs : List Nat} {its : List PyData} (hI : EvI b wi Γ Γ1 ds its) (G G' G'' : Nat → List Sl) (c : Nat → Bool) (e : Nat → PyData) (h0 : G 0 = wipeG Γ1 vs)
    (hg : ∀ i di, its[i]? = some di → EvGv b g di vs (G i) (G' i)) (ht : ∀ i di, its[i]? = some di → EvT b tt (G' i) (G' i) (c i)) (he : ∀ i di, its[i]? = some di → c i = true → EvS b te (G' i) (G'' i) (.dat (e i)))
    (hs : ∀ i, i < its.length → wipeG (if c i then G'' i else G' i) vs = wipeG (G (i + 1)) vs ∧ wipeG (G (i + 1)) vs = G (i + 1)) (hz : its.length ≤ 100000) :
    EvS b (tLc wi g tt te vs) Γ (G its.length) (.own (((List.range its.length).filter c).map e)) := fun T τ σ H hs0 Q q => hI T τ σ H hs0 _ fun J ws H1 C ok h1 dv D hD => by
  have hl := dpa_len dv
  let acc : Nat → List PyData := fun i => ((List.range i).filter c).map e
  have hw : wipeG (G 0) vs = G 0 := by
    rw [h0]
    have aux : ∀ (Γ : List Sl) (us : List Nat) (k : Nat), k ∈ us → (wipeG Γ us).set k .no = wipeG Γ us := fun Γ us k hk => by
      refine List.ext_getElem? fun j => ?_
      rw [List.getElem?_set]
      by_cases ej : k = j
      · subst ej
        rw [if_pos rfl]
        rcases wipeG_get Γ us k hk with z | z
        · have := (List.getElem?_eq_some_iff.mp z).1
          rw [if_pos this, z]
        · have := List.getElem?_eq_none_iff.mp z
          rw [if_neg (by omega), z]
      · rw [if_neg ej]
    have aux2 : ∀ (ws us : List Nat) (Γ : List Sl), (∀ k ∈ ws, k ∈ us) → wipeG (wipeG Γ us) ws = wipeG Γ us := by
      intro ws
      induction ws with
      | nil => intro us Γ _; rfl
      | cons w ws ih =>
        intro us Γ hk
        show (wipeG (wipeG Γ us) ws).set w .no = _
        rw [ih us Γ fun k z => hk k (List.mem_cons_of_mem _ z)]
        exact aux Γ us w (hk w List.mem_cons_self)
    exact aux2 vs vs Γ1 fun _ z => z
  have hwi : ∀ i, i ≤ its.length → wipeG (G i) vs = G i := fun i hi => by
    cases i with
    | zero => exact hw
    | succ i => exact (hs i (by omega)).2
  have start : Hs b (ds.map Sl.dat ++ (.own [] :: T)) (ws.map some ++ (some (.ref D) :: τ)) (G 0) (wipe σ vs) (upd H1 D (.lst [])) := by
    rw [h0]
    have a1 : Hs b (.own [] :: T) (some (.ref D) :: τ) Γ1 σ (upd H1 D (.lst [])) := h1.step (Ret.lst h1.ch .nil hD)
    obtain ⟨C1, ps, qs, c1, g1, g2⟩ := hs_wipe a1 vs
    -- the walked data, still known
    have : ∃ C2, HsC b C2 (.own [] :: T) (some (.ref D) :: τ) (wipeG Γ1 vs) (wipe σ vs) (upd H1 D (.lst [])) ∧ DpAll b.K C2 ws ds := by
      have a2 : Hs b (.own [] :: (ds.map Sl.dat ++ T)) (some (.ref D) :: (ws.map some ++ τ)) Γ1 σ (upd H1 D (.lst [])) := (h1.pushAll dv).step (Ret.lst h1.ch .nil hD)
      obtain ⟨C2, ps2, qs2, c2, k1, k2⟩ := hs_wipe a2 vs
      cases k1 with
      | own y0 e0 d0 k1 =>
        have hh : HsC b C2 (ds.map Sl.dat ++ T) (ws.map some ++ τ) (wipeG Γ1 vs) (wipe σ vs) (upd H1 D (.lst [])) := ⟨_, qs2, c2.sub (fun p hp => List.mem_cons_of_mem _ hp) (List.nodup_cons.mp c2.nd).2, k1, k2⟩
        obtain ⟨dw, ps3, qs3, c3, m1, m2⟩ := HsC.popAll hl hh
        have popHas : ∀ {ws : List V} {ds : List PyData} {ps : List Addr}, ws.length = ds.length → Has b.K C2 (upd H1 D (.lst [])) (ds.map Sl.dat ++ T) (ws.map some ++ τ) ps → Has b.K C2 (upd H1 D (.lst [])) T τ ps := by
          intro ws
          induction ws with
          | nil => intro ds ps l h; cases ds with
            | nil => exact h
            | cons _ _ => cases l
          | cons w ws ih => intro ds ps l h; cases ds with
            | nil => cases l
            | cons d ds => cases h with
              | dat _ h => exact ih (by simpa using l) h
        exact ⟨C2, ⟨_, qs2, c2, .own y0 e0 d0 (popHas hl k1), k2⟩, dw⟩
    obtain ⟨C2, a3, dw⟩ := this
    exact ⟨C2, a3.pushAll dw⟩
  refine ⟨fun i m H' => i ≤ its.length ∧ m = its.length - i ∧ Hs b (ds.map Sl.dat ++ (.own (acc i) :: T)) (ws.map some ++ (some (.ref D) :: τ)) (G i) (wipe σ vs) H', ⟨_, Nat.zero_le _, rfl, start⟩, ?_⟩
  rintro i m H' ⟨hi, rfl, C', h2⟩
  obtain ⟨dv', h3⟩ := HsC.popAll hl h2
  obtain ⟨st, go⟩ := ok C' H' h3.ch dv'
  by_cases hlt : i < its.length
  · have hdi : its[i]? = some its[i] := by simp [hlt]
    obtain ⟨g1, g2⟩ := go i its[i] hdi
    refine .inr ⟨g1, fun H2 => Hs b (ds.map Sl.dat ++ (.own (acc (i + 1)) :: T)) (ws.map some ++ (some (.ref D) :: τ)) (G (i + 1)) (wipe σ vs) H2, fun H2 n => ⟨its.length - (i + 1), by omega, hlt, rfl, n⟩, fun x H2 y => ?_⟩
    refine hg i its[i] hdi _ _ _ _ _ (h2.step (g2 x H2 y)) _ fun σ2 h5 hw2 => ⟨by rw [hw2, wipe_wipe], ?_⟩
    refine ht i its[i] hdi _ _ σ2 H2 h5 _ fun H3 h6 => ?_
    have hsi := hs i hlt
    cases hc : c i with
    | true =>
      rw [hc] at hsi
      refine iteT (he i its[i] hdi hc _ _ σ2 H3 h6 _ fun y H4 h7 => ?_)
      obtain ⟨C4, dy, h8⟩ := h7.pop
      obtain ⟨dv4, h9⟩ := HsC.popAll hl h8
      obtain ⟨p, us, f1, f2, f3, f4⟩ := h9.own_top
      cases f1
      refine ⟨us, f2, ?_, ?_⟩
      · rw [dpa_len f3]
        refine Nat.lt_of_le_of_lt (?_ : _ ≤ 100000) (by decide)
        show (((List.range i).filter c).map e).length ≤ 100000
        rw [List.length_map]
        have := List.length_filter_le c (List.range i)
        rw [List.length_range] at this
        omega
      · have ea : acc (i + 1) = acc i ++ [e i] := by
          show ((List.range (i + 1)).filter c).map e = ((List.range i).filter c).map e ++ [e i]
          rw [List.range_succ, List.filter_append, List.map_append, List.filter_cons, if_pos hc]; rfl
        rw [ea]
        have h10 := hs_wipe ⟨C4, (f4 _ _ (dpa_app f3 (.cons dy .nil))).pushAll dv4⟩ vs
        rw [hw2, wipe_wipe] at h10
        have e2 : wipeG (G'' i) vs = G (i + 1) := by simpa using hsi.1.trans hsi.2
        rw [e2] at h10
        exact h10
    | false =>
      rw [hc] at hsi
      refine iteF ?_
      have ea : acc (i + 1) = acc i := by
        show ((List.range (i + 1)).filter c).map e = ((List.range i).filter c).map e
        rw [List.range_succ, List.filter_append, List.map_append, List.filter_cons, if_neg (by rw [hc]; decide)]; simp
      have h10 := hs_wipe h6 vs
      rw [hw2, wipe_wipe] at h10
      have e2 : wipeG (G' i) vs = G (i + 1) := by simpa using hsi.1.trans hsi.2
      rw [e2] at h10
      show Hs b (ds.map Sl.dat ++ (.own (acc (i + 1)) :: T)) _ (G (i + 1)) (wipe σ vs) H3
      rw [ea]
      exact h10
  · have e1 : i = its.length := by omega
    subst e1
    refine .inl ⟨st, q _ _ ?_⟩
    have := hs_unwipe (Γ := G its.length) (σ := σ) (vs := vs) (T := .own (acc its.length) :: T) (τ := some (.ref D) :: τ) (b := b) (H := H') ⟨C', by rw [hwi _ (Nat.le_refl _)]; exact h3⟩
    rw [hwi _ (Nat.le_refl _)] at this
    exact this
/-- no test, nothing changes: one item a turn -/
theorem s_map {α : Type} {wi : TI} {g : TG} {te : TE} {vs : List Nat} {ks : List α} {φ : α → PyData} (hI : EvI b wi Γ Γ1 ds (ks.map φ)) (G' : α → List Sl) (f : α → PyData)
    (hg : ∀ k ∈ ks, EvGv b g (φ k) vs (wipeG Γ1 vs) (G' k)) (he : ∀ k ∈ ks, EvS b te (G' k) (G' k) (.dat (f k))) (hs : ∀ k ∈ ks, wipeG (G' k) vs = wipeG (wipeG Γ1 vs) vs) (hw : wipeG (wipeG Γ1 vs) vs = wipeG Γ1 vs) (hz : ks.length ≤ 100000) :
    EvS b (tLc wi g tYes te vs) Γ (wipeG Γ1 vs) (.own (ks.map f)) := by
  cases ks with
  | nil =>
    have := s_lc (b := b) (tt := tYes) (te := te) (g := g) (vs := vs) hI (fun _ => wipeG Γ1 vs) (fun _ => []) (fun _ => []) (fun _ => true) (fun _ => .none) rfl (fun i di e => by simp at e) (fun i di e => by simp at e) (fun i di e => by simp at e) (fun i hi => by simp at hi) (by simp)
    simpa using this
  | cons k0 kr =>
    have hget : ∀ i di, ((k0 :: kr).map φ)[i]? = some di → ∃ k, (k0 :: kr)[i]? = some k ∧ φ k = di := fun i di e => by
      rw [List.getElem?_map] at e
      obtain ⟨k, hk, r⟩ := Option.map_eq_some_iff.mp e
      exact ⟨k, hk, r⟩
    have hD : ∀ i k, (k0 :: kr)[i]? = some k → (k0 :: kr).getD i k0 = k := fun i k e => by rw [List.getD_eq_getElem?_getD, e]; rfl
    have := s_lc (b := b) (tt := tYes) (te := te) (g := g) (vs := vs) hI (fun _ => wipeG Γ1 vs) (fun i => G' ((k0 :: kr).getD i k0)) (fun i => G' ((k0 :: kr).getD i k0)) (fun _ => true) (fun i => f ((k0 :: kr).getD i k0)) rfl
      (fun i di e => by obtain ⟨k, hk, rfl⟩ := hget i di e; rw [hD i k hk]; exact hg k (List.mem_of_getElem? hk)) (fun i di e => t_yes)
      (fun i di e _ => by obtain ⟨k, hk, rfl⟩ := hget i di e; rw [hD i k hk]; exact he k (List.mem_of_getElem? hk))
      (fun i hi => by
        have hi' : i < (k0 :: kr).length := by simpa using hi
        have hk : (k0 :: kr)[i]? = some (k0 :: kr)[i] := by simp [hi']
        refine ⟨?_, hw⟩
        simp only [if_true]
        rw [hD i _ hk]
        exact hs _ (List.getElem_mem hi')) (by simpa using hz)
    refine s_is this ?_
    congr 1
    refine List.ext_getElem? fun i => ?_
    rw [List.filter_eq_self.mpr (fun _ _ => rfl)]
    simp only [List.getElem?_map]
    by_cases hi : i < (k0 :: kr).length
    · have hk : (k0 :: kr)[i]? = some (k0 :: kr)[i] := by simp [hi]
      rw [hk, List.getElem?_range (by simpa using hi)]
      simp only [Option.map_some]
      rw [hD i _ hk]
    · rw [List.getElem?_eq_none_iff.mpr (by simpa using hi), List.getElem?_eq_none_iff.mpr (by simpa using hi)]; rfl
theorem range_getD {α : Type} (ks : List α) (k0 : α) : (List.range ks.length).map (fun i => ks.getD i k0) = ks := by
  refine List.ext_getElem? fun i => ?_
  rw [List.getElem?_map]
  by_cases hi : i < ks.length
  · rw [List.getElem?_range hi]
    simp [List.getD_eq_getElem?_getD, hi]
  · rw [List.getElem?_eq_none_iff.mpr (by simpa using hi), List.getElem?_eq_none_iff.mpr (by simpa using hi)]; rfl
theorem filt_getD {α β : Type} (ks : List α) (k0 : α) (c : α → Bool) (f : α → β) : ((List.range ks.length).filter (fun i => c (ks.getD i k0))).map (fun i => f (ks.getD i k0)) = (ks.filter c).map f := by
  have h := range_getD ks k0
  have e : (ks.filter c).map f = (((List.range ks.length).map (fun i => ks.getD i k0)).filter c).map f := by rw [h]
  rw [e, List.filter_map, List.map_map]
  rfl
/-- with a test -/
theorem s_filt {α : Type} {wi : TI} {g : TG} {tt : TT} {te : TE} {vs : List Nat} {ks : List α} {φ : α → PyData} (hI : EvI b wi Γ Γ1 ds (ks.map φ)) (G' : α → List Sl) (c : α → Bool) (f : α → PyData)
    (hg : ∀ k ∈ ks, EvGv b g (φ k) vs (wipeG Γ1 vs) (G' k)) (ht : ∀ k ∈ ks, EvT b tt (G' k) (G' k) (c k)) (he : ∀ k ∈ ks, c k = true → EvS b te (G' k) (G' k) (.dat (f k))) (hs : ∀ k ∈ ks, wipeG (G' k) vs = wipeG (wipeG Γ1 vs) vs) (hw : wipeG (wipeG Γ1 vs) vs = wipeG Γ1 vs) (hz : ks.length ≤ 100000) :
    EvS b (tLc wi g tt te vs) Γ (wipeG Γ1 vs) (.own ((ks.filter c).map f)) := by
  cases ks with
  | nil =>
    have := s_lc (b := b) (tt := tt) (te := te) (g := g) (vs := vs) hI (fun _ => wipeG Γ1 vs) (fun _ => []) (fun _ => []) (fun _ => true) (fun _ => .none) rfl (fun i di e => by simp at e) (fun i di e => by simp at e) (fun i di e => by simp at e) (fun i hi => by simp at hi) (by simp)
    simpa using this
  | cons k0 kr =>
    have hget : ∀ i di, ((k0 :: kr).map φ)[i]? = some di → ∃ k, (k0 :: kr)[i]? = some k ∧ φ k = di := fun i di e => by
      rw [List.getElem?_map] at e
      obtain ⟨k, hk, r⟩ := Option.map_eq_some_iff.mp e
      exact ⟨k, hk, r⟩
    have hD : ∀ i k, (k0 :: kr)[i]? = some k → (k0 :: kr).getD i k0 = k := fun i k e => by rw [List.getD_eq_getElem?_getD, e]; rfl
    have := s_lc (b := b) (tt := tt) (te := te) (g := g) (vs := vs) hI (fun _ => wipeG Γ1 vs) (fun i => G' ((k0 :: kr).getD i k0)) (fun i => G' ((k0 :: kr).getD i k0)) (fun i => c ((k0 :: kr).getD i k0)) (fun i => f ((k0 :: kr).getD i k0)) rfl
      (fun i di e => by obtain ⟨k, hk, rfl⟩ := hget i di e; rw [hD i k hk]; exact hg k (List.mem_of_getElem? hk)) (fun i di e => by obtain ⟨k, hk, rfl⟩ := hget i di e; rw [hD i k hk]; exact ht k (List.mem_of_getElem? hk))
      (fun i di e hc => by obtain ⟨k, hk, rfl⟩ := hget i di e; rw [hD i k hk] at hc ⊢; exact he k (List.mem_of_getElem? hk) hc)
      (fun i hi => by
        have hi' : i < (k0 :: kr).length := by simpa using hi
        have hk : (k0 :: kr)[i]? = some (k0 :: kr)[i] := by simp [hi']
        refine ⟨?_, hw⟩
        rw [ite_self, hD i _ hk]
        exact hs _ (List.getElem_mem hi')) (by simpa using hz)
    refine s_is this ?_
    rw [List.length_map]
    exact congrArg Sl.own (filt_getD (k0 :: kr) k0 c f)
end
end G
namespace PySem
open Sem (wp)
open AutoSeq1 (wpAny_loadPart')
theorem g_enumerate_newT (l : Addr) (items : Array Value) (n : Nat) (dct : Option Addr) (sl : Array (Option Value)) :
    Meets (Builtin.«enumerate.__new__» ⟨[.type "enumerate", .ref l], []⟩) (fun _ R s => s.heap.get? l = some { cls := .type "tuple", dict := dct, data := .seq items n, slots := sl } ∧
      R (.ok (.ret (.ref (s.heap.push { cls := .type "tuple_iterator", data := .fields #[.ref l, .int 0 0] }).objs.size)))
        { s with heap := (s.heap.push { cls := .type "tuple_iterator", data := .fields #[.ref l, .int 0 0] }).push { cls := .type "enumerate", data := .fields #[.none, .bool false, .ref s.heap.objs.size, rawInt 0, .none, .none] } }) :=
  .of_wp fun prog w A R s h => by
    obtain ⟨hp0, g, d, tkq, os⟩ := s; obtain ⟨ll, h⟩ := h
    have hsub := sub_enumerate
    have hLt : Heap.IsTuple (Shared.heap ⟨hp0, g, d, tkq, os⟩) l items := ⟨_, ll, rfl, n, rfl⟩
    wp_walk using wpAny_loadPart' ll
    refine wpAny_stack_any fun st => wpAny_pure ?_
    split
    · rename_i c _ _ _ _ _
      cases (c == Value.type "enumerate")
      · wp_walk using wpAny_loadPart' ll, wpAny_pyIter_tuple hLt
        exact ⟨_, rfl, h⟩
      · wp_walk using wpAny_loadPart' ll, wpAny_pyIter_tuple hLt
        exact ⟨_, rfl, h⟩
    · wp_walk using wpAny_loadPart' ll, wpAny_pyIter_tuple hLt
      exact ⟨_, rfl, h⟩
theorem g_call_enumerate_tuple {prog : Program} {w : World} {A : Around} {E : Value → Shared → Prop} {s : Shared} {l : Addr} {items : Array Value} {Q : Value → Shared → Prop} (hLt : s.heap.IsTuple l items)
    (h : ∀ hh, IsEnum hh (s.heap.objs.size + 1) s.heap.objs.size 0 .none → hh.IsTupleIter s.heap.objs.size l 0 → hh.objs.size = s.heap.objs.size + 2 →
      (∀ b o, s.heap.get? b = some o → hh.get? b = some o) → Q (.ref (s.heap.objs.size + 1)) { s with heap := hh }) :
    wpAny (model prog w) A (call (.type "enumerate") [.ref l]) Q E s := by
  obtain ⟨⟨c, dct, dt, sl⟩, ll, hcq, n, hdq⟩ := hLt
  replace hcq : c = .type "tuple" := hcq
  replace hdq : dt = .seq items n := hdq
  subst hcq hdq
  refine callType_new F.called_enumerate (by decide) (F.typeCall_enumerate_1 _) (F.newCall_enumerate_1 _) (fun obj => F.args_object_init_2 obj _) F.entry_enumerate_new
    (g_enumerate_newT l items n dct sl) ⟨ll, ?_⟩
  have zz : (s.heap.push { cls := .type "tuple_iterator", data := .fields #[.ref l, .int 0 0] }).objs.size = s.heap.objs.size + 1 := Heap.size_push ..
  show _ ∧ _
  rw [zz]
  have eE : IsEnum ((s.heap.push { cls := .type "tuple_iterator", data := .fields #[.ref l, .int 0 0] }).push
      { cls := .type "enumerate", data := .fields #[.none, .bool false, .ref s.heap.objs.size, rawInt 0, .none, .none] }) (s.heap.objs.size + 1) s.heap.objs.size 0 .none := by
    have := Heap.get?_push_size (s.heap.push { cls := .type "tuple_iterator", data := .fields #[.ref l, .int 0 0] })
      (o := { cls := .type "enumerate", data := .fields #[.none, .bool false, .ref s.heap.objs.size, rawInt 0, .none, .none] }) rfl
    rw [zz] at this; exact this
  refine ⟨⟨_, eE, rfl⟩, h _ eE ⟨_, Heap.get?_push_of_some _ (Heap.get?_push_size _ rfl), rfl, rfl⟩ (by rw [Heap.size_push, zz]) fun b o x => Heap.get?_push_of_some _ (Heap.get?_push_of_some _ x)⟩
end PySem
namespace G
open PySem PySem.Spec PyProof.Rows L2
open Evl (Ex ex_rd ex_l ex_t rMax2)
section
variable {X : Cx}
/-! ### a tuple times k, k from 1 on -/
theorem tuple_mul1 (l : Addr) (items : Array Value) (n : Nat) (dd : Option Addr) (sl : Array (Option Value)) (u : Tok) :
    Meets (Builtin.«tuple.__mul__» ⟨[.ref l, .int 1 u], []⟩) (fun _ R s => s.heap.get? l = some { cls := .type "tuple", dict := dd, data := .seq items n, slots := sl } ∧ R (.ok (.ret (Value.ref l))) s) :=
  .of_wp fun prog w A R s h => by
    obtain ⟨hp0, g, d, tkq, os⟩ := s
    obtain ⟨ll, h⟩ := h
    have w1 := AutoSeq1.idx_int
    have c1x : (items.isEmpty || (1 : Int) == 1) = true := by simp
    wp_walk using PySem.AutoSeq1.wpAny_loadPart' ll
    exact ⟨_, rfl, h⟩
def rRepA (K : PySem.W.Frag) : R2 := fun x y H Q => ∃ l k xs, x = .ref l ∧ y = .int k ∧ SqT K H l xs ∧ xs ≠ [] ∧ 1 ≤ k ∧ k ≤ 1000 ∧ xs.length ≤ 1000 ∧ (k = 1 → Q (.ref l) H) ∧ (k ≠ 1 → ∀ p, H p = none → Q (.ref p) (upd H p (.tup (List.replicate k.toNat xs).flatten)))
theorem op_repA : OpR X (binaryOp .Mult) (rRepA X.K) := by
  intro pins s σ H x y v u Q I rx ry h
  obtain ⟨l, k, xs, rfl, rfl, tyE, neE, h1, h2, zz, q1x, q2⟩ := h
  by_cases kk : k = 1
  · subst kk
    have q := q1x rfl
    cases rx
    obtain ⟨t, rfl⟩ := ry
    obtain ⟨uu, r, ⟨⟨cls, dd, data, sl⟩, oq, hcq, n, hdq⟩, hs⟩ := I.tuple tyE
    simp only at hcq hdq
    subst hcq hdq
    exact wpAny_binaryOp_repeat_ref (T := "tuple") (U := "int") (by decide) ⟨_, oq, rfl⟩ (fun s' => typeIs_int s' 1 t) noFill_tuple_mul F.fills_int_mul F.slot_int_rmul repeat_tuple F.slot_int_index.lookup
      (call_meets F.slot_int_rmul (typeIs_int s 1 t) F.entry_int_rmul (F.args_int_rmul_2 _ _) (int_rmul_tuple 1 t l uu.toArray n dd sl)
        ⟨oq, rfl, ⟨_, oq, rfl⟩, call_meets F.slot_tuple_mul ⟨_, oq, rfl⟩ F.entry_tuple_mul (F.args_tuple_mul_2 _ _) (tuple_mul1 l uu.toArray n dd sl t) ⟨oq, ⟨.ref l, H, I, rfl, q⟩⟩⟩)
  · exact op_repT pins s σ H _ _ v u Q I rx ry ⟨l, k, xs, rfl, rfl, tyE, neE, by omega, h2, zz, q2 kk⟩
/-! ### enumerate of a list or a tuple -/
def IteT (K : PySem.W.Frag) (a : Addr) : It :=
  ⟨fun i H => ∃ (xs : List V) (x : V), SqT K H a xs ∧ xs[i]? = some x, fun i H v H' => ∃ T x, v = .ref T ∧ H T = none ∧ H' = upd H T (.tup [.int (i : Nat), x]) ∧ ∀ xs, SqT K H a xs → xs[i]? = some x, fun i H => ∃ xs : List V, SqT K H a xs ∧ xs.length ≤ i⟩
theorem turn_enumT {P : Program} {w : World} {K : PySem.W.Frag} {elts : List Expr} {kk : Nat} {tpos : Pos} (a e it : Addr) :
    Turn P w K (.Tuple elts kk tpos) (IteT K a) [e, it] e (fun i h => (∃ prev, IsEnum h e it ((i : Nat) : Int) prev) ∧ h.IsTupleIter it a i ∧ e ≠ it) where
  mem := by simp
  obj := fun i h st b hbm => by
    obtain ⟨⟨prev, eE⟩, ⟨o, oq, hcq, hdq⟩, _⟩ := st
    have eq1 : b = e ∨ b = it := by simpa using hbm
    rcases eq1 with z | z
    · rw [z]; exact ⟨_, eE, fun v q => nomatch q⟩
    · rw [z]; exact ⟨o, oq, fun v q => by rw [hdq] at q; cases q⟩
  keep := fun i h hh st k => let ⟨⟨prev, eE⟩, hi, neE⟩ := st; ⟨⟨prev, k e (by simp) _ eE⟩, hi.at fun o q => k it (by simp) o q, neE⟩
  item := by
    intro X eP eW eK hcq i pins s σ H E I hfp st hgo
    subst eP eW eK
    obtain ⟨⟨prev, eE⟩, itE, neE⟩ := st
    obtain ⟨xs, x, rdq, atx⟩ := hgo
    obtain ⟨uu, pr, p, zz⟩ := I.tuple rdq
    obtain ⟨u, atu, rlu⟩ := pr.get atx
    have ltE : e < s.heap.objs.size := Heap.lt_size eE
    have ltI : it < s.heap.objs.size := by obtain ⟨_, q, _⟩ := itE; exact Heap.lt_size q
    have nai : a ≠ it := fun z => by
      subst z
      obtain ⟨o1, e1x, c1x, _⟩ := p
      obtain ⟨o2, e2, c2, _⟩ := itE
      rw [e1x] at e2; cases e2; rw [c1x] at c2; exact absurd c2 (by decide)
    have nae : a ≠ e := fun z => by
      subst z
      obtain ⟨o1, e1x, c1x, _⟩ := p
      have h2 : s.heap.get? a = some _ := eE
      rw [e1x] at h2; cases h2
      have c2 : Value.type "enumerate" = Value.type "tuple" := c1x
      exact absurd c2 (by decide)
    have tupA : s.heap.IsTuple a uu.toArray := p
    refine wpAny_pyNext_enum_itemD (Draws.tuple (A := X.A.in1) (I.ok.hd hcq) it a nai uu.toArray) eE ⟨itE, tupA⟩ (n := uu.toArray.size) (i := i) ?_ neE (by simp [neE, Ne.symm nae]) fun x' hh tkq pxq oq stq tyE szq kk => ?_
    · have := (List.getElem?_eq_some_iff.mp atu).1
      simpa using this
    · have exx : x' = u := by
        have q : uu.toArray[i]? = some x' := pxq
        have q2 : uu.toArray[i]? = some u := by simpa using atu
        rw [q] at q2; exact Option.some.inj q2
      subst exx
      refine ⟨_, rfl, wpAny_letOwnedTupleGo_enum (s := { s with heap := hh, toks := tkq + 1 }) oq fun hhh he' sbq => ?_⟩
      have tyE2 : hhh.get? s.heap.objs.size = some { cls := .type "tuple", data := .seq #[.int i tkq, x'] } := (sbq.2 _ (Nat.ne_of_gt ltE)).trans tyE
      have newq : ObjOk X.prog X.w (upd H s.heap.objs.size (.tup [.int (i : Nat), x])) hhh s.heap.objs.size (.tup [.int (i : Nat), x]) :=
        ⟨by show 2 ≤ sizeLine; decide, [.int i tkq, x'], .cons ⟨_, rfl⟩ (.cons rlu .nil), ⟨_, tyE2, rfl, _, rfl⟩⟩
      have J1 : Inv X pins σ (upd H s.heap.objs.size (.tup [.int (i : Nat), x])) { s with heap := hhh, toks := tkq + 1 } :=
        I.turnedNew (ch := [e, it]) (fun b ob hbm q => (sbq.2 b (fun z => hbm (by simp [z]))).trans (kk b ob (fun z => hbm (by simp [z])) (fun z => hbm (by simp [z])) q)) hfp (Nat.le_refl _) newq
      refine ⟨.ref s.heap.objs.size, _, J1, rfl, ⟨_, x, rfl, I.hok.fresh (Nat.le_refl _), rfl, fun ys hy => by rw [I.tuple_inj hy rdq]; exact atx⟩, ⟨⟨x', ?_⟩, stq.1.at fun o q => (sbq.2 it (Ne.symm neE)).trans q, neE⟩, fun b hbm => ?_⟩
      · have e1x : ((i + 1 : Nat) : Int) = (i : Int) + 1 := by omega
        rw [e1x]; exact he'
      · have hbq : b < s.heap.objs.size := by
          have eq1 : b = e ∨ b = it := by simpa using hbm
          rcases eq1 with z | z
          · rw [z]; exact ltE
          · rw [z]; exact ltI
        rw [upd_ne (Nat.ne_of_lt hbq)]
        exact (hfp b hbm).1
  done := by
    intro X eP eW eK hcq i pins s σ H E I hfp st hgo
    subst eP eW eK
    obtain ⟨⟨prev, eE⟩, itE, neE⟩ := st
    obtain ⟨xs, rdq, atx⟩ := hgo
    obtain ⟨uu, pr, p, zz⟩ := I.tuple rdq
    obtain ⟨w0, w1, w2, w3, w4, w5⟩ := hfp it (by simp)
    have ll := pr.length
    have tyE : s.TypeIs (.ref e) "enumerate" := ⟨_, eE, rfl⟩
    have tupA : s.heap.IsTuple a uu.toArray := p
    unfold pyNext
    refine wpAny_bind (wpAny_attempt (wpAny_callSpecial?_slot (name := Str.ofString "__next__") tyE F.slot_enumerate_next
      (wpAny_call_entry F.slot_enumerate_next tyE F.entry_enumerate_next ?_ (F.args_enumerate_next_1 _))))
    show wpAny _ _ (field (.ref e) 2 >>= _) _ _ _
    refine wpAny_bind (wpAny_field eE rfl (x := .ref it) rfl ?_)
    refine wpAny_bind (wpAny_nextOf_tuple_end (by exact I.ok.hd hcq) itE tupA (by simp; omega) fun hh x he' hx' => ?_)
    obtain ⟨o, oq, hc'⟩ := hx'
    refine wpAny_bind (wpAny_isInstance (T := "StopIteration") (b := true) ⟨o, oq, hc'⟩ isSubtype_stop ?_)
    exact wpAny_pure ⟨rfl, I.turned (t' := s.toks) (fun b o hbm q => he' b o hbm q) w0 w1 w3 w4 w5⟩
  self := fun A i s Q E st h => let ⟨⟨_, eE⟩, _⟩ := st; wpAny_pyIter_enum eE h
def iEnumA (K : PySem.W.Frag) (ta : TA) : TI := fun σ H R => ta σ H fun vs H1 => ∃ a xs, vs = [.ref a] ∧ ((SqL K H1 a xs ∧ R (Ite K a) H1) ∨ (SqT K H1 a xs ∧ R (IteT K a) H1))
theorem pi_enumA {e : Expr} {ta : TA} {p pos tpos : Pos} {elts : List Expr} {kk : Nat} (hgo : Gl X "enumerate") (mgx : X.mg "enumerate" = none) (hargs : PA X [e] ta) (hs : starEach [e] X.env = [(false, eval e X.env)] := by rfl) :
    PI X (.Tuple elts kk tpos) (.Call (.Name "enumerate" p) [e] [] pos) (iEnumA X.K ta) := by
  refine ⟨fun pins s σ H R I h => ?_⟩
  refine Call_ (ld_blt I hgo mgx boot_enumerate (PyProof.Rows.callWith_type1 (thn (hargs.run pos pins s σ H _ I h) fun us s1 ⟨vs, H1, J1, r1q, q1x⟩ => ?_) hs rfl))
  obtain ⟨a, xs, exx, q1x⟩ := q1x
  subst exx
  cases r1q with
  | cons r rrq =>
    cases rrq
    cases r
    have fin : ∀ b, b ∈ [s1.heap.objs.size + 1, s1.heap.objs.size] → FpOk X pins H1 b := fun b hbm => by
      have eq1 : b = s1.heap.objs.size + 1 ∨ b = s1.heap.objs.size := by simpa using hbm
      have leq1 : s1.heap.objs.size ≤ b := by
        rcases eq1 with z | z
        · rw [z]; exact Nat.le_add_right _ _
        · rw [z]; exact Nat.le_refl _
      exact J1.fpOk leq1 (J1.hok.fresh leq1)
    rcases q1x with ⟨rdq, q⟩ | ⟨rdq, q⟩
    · obtain ⟨uu, pr, p', zz⟩ := J1.list rdq
      refine call_enumerate_list p'.isList fun hh eE itE szq kk => wpAny_pyIter_enum eE ?_
      have J2 : Inv X pins σ H1 { s1 with heap := hh } := J1.kept (t' := s1.toks) kk
      exact ⟨s1.heap.objs.size + 1, [s1.heap.objs.size + 1, s1.heap.objs.size], _, _, H1, rfl, J2, turn_enum a (s1.heap.objs.size + 1) s1.heap.objs.size, ⟨⟨.none, eE⟩, itE, Nat.succ_ne_self _⟩, fin, q⟩
    · obtain ⟨uu, pr, p', zz⟩ := J1.tuple rdq
      refine g_call_enumerate_tuple (show s1.heap.IsTuple a uu.toArray from p') fun hh eE itE szq kk => wpAny_pyIter_enum eE ?_
      have J2 : Inv X pins σ H1 { s1 with heap := hh } := J1.kept (t' := s1.toks) kk
      exact ⟨s1.heap.objs.size + 1, [s1.heap.objs.size + 1, s1.heap.objs.size], _, _, H1, rfl, J2, turn_enumT a (s1.heap.objs.size + 1) s1.heap.objs.size, ⟨⟨.none, eE⟩, itE, Nat.succ_ne_self _⟩, fin, q⟩
/-! ### a product, one factor below 2 ^ 64 or both below a million bits together -/
theorem op_mulA : OpR X (binaryOp .Mult) (rI (fun i j => CMul i j ∨ CMulW i j) fun i j => .int (i * j)) := opI fun _ _ _ _ _ _ _ hc q => hc.elim (fun h => mul_int q h.ok) (fun h => mul_int q h.ok)
end
section
variable {b : Bs} {C : Hp} {T Γ Γ' Γ1 Γ2 : List Sl} {τ σ : L2.St} {H H' : Hp} {s s' : Sl} {v : V} {d e : PyData} {ds es : List PyData} {vs : List V}
theorem rd_repA {K : PySem.W.Frag} {k : Int} (h : ds ≠ []) (hz : ds.length ≤ 1000) (h1 : 1 ≤ k) (h2 : k ≤ 1000) : RD K (rRepA K) (.tuple ds) (.int k) (.dat (.tuple (List.replicate k.toNat ds).flatten)) := fun C H x y ex dx dy Q q => by
  cases dy
  have dx2 := dx
  cases dx with
  | tup hq ha =>
    rename_i a xs
    have hl := dpa_len ha
    refine ⟨a, k, xs, rfl, rfl, ex_t ex hq, fun z => h (by subst z; simpa using hl.symm), h1, h2, by omega, fun z => ?_, fun _ p hp => ?_⟩
    · subst z
      have : (List.replicate (1 : Int).toNat ds).flatten = ds := by simp
      rw [this] at q
      exact q _ _ (.same ex dx2)
    · refine q _ _ (.tup ex ?_ hp)
      generalize k.toNat = n
      induction n with
      | zero => exact .nil
      | succ n ih =>
        rw [List.replicate_succ, List.replicate_succ, List.flatten_cons, List.flatten_cons]
        exact dpa_app ha ih
def enumT (p : PyData × Nat) : PyData := .tuple [.int (p.2 : Int), p.1]
theorem i_enumT {ta : TA} (h : EvA b ta Γ Γ1 [.tuple ds]) : EvI b (iEnumA b.K ta) Γ Γ1 [.tuple ds] (ds.zipIdx.map enumT) := fun T τ σ H hs R r =>
  h T τ σ H hs _ fun vs H1 C h1 dv => by
    have dv2 := dv
    obtain ⟨v, rfl, dx⟩ := dpa1 dv
    cases dx with
    | tup hq ha =>
      rename_i a xs
      refine ⟨a, xs, rfl, .inr ⟨ex_t h1.ch hq, r _ [.ref a] H1 C (fun C' H' ex dw => ?_) h1 dv2⟩⟩
      obtain ⟨v', e1, dz⟩ := dpa1 dw
      cases e1
      cases dz with
      | tup hq' ha' =>
        have hl := dpa_len ha'
        refine ⟨⟨_, ex_t ex hq', by simp; omega⟩, fun i di e => ?_⟩
        rw [List.getElem?_map] at e
        obtain ⟨⟨u1, u2⟩, e1, rfl⟩ := Option.map_eq_some_iff.mp e
        rw [List.getElem?_zipIdx] at e1
        obtain ⟨z, e2, e3⟩ := Option.map_eq_some_iff.mp e1
        cases e3
        obtain ⟨y, y1, y2⟩ := dpa_get ha' e2
        refine ⟨⟨_, y, ex_t ex hq', y1⟩, fun x H2 z2 => ?_⟩
        obtain ⟨P, z1, rfl, nP, rfl, f1⟩ := z2
        have w1 := (f1 _ (ex_t ex hq')).symm.trans y1
        cases w1
        have : ((0 + i : Nat) : Int) = (i : Int) := by omega
        exact .tup ex (.cons (this ▸ .int _) (.cons y2 .nil)) nP
end
end G
namespace G
open PySem PySem.Spec PyProof.Rows L2
open Evl (Ex ex_rd ex_l ex_t rMax2)
abbrev ti (xs : List Int) : PyData := .tuple (xs.map .int)
abbrev li (xs : List Int) : PyData := .list (xs.map .int)
theorem eqv_int (i j : Int) : PyData.eqv (.int i) (.int j) = decide (i = j) := by
  rw [PyData.eqv]
  by_cases h : i = j <;> simp [h]
theorem eqv_bool (i j : Bool) : PyData.eqv (.bool i) (.bool j) = decide (i = j) := by
  rw [PyData.eqv]
  cases i <;> cases j <;> rfl
theorem eqv_str (i j : Str) : PyData.eqv (.str i) (.str j) = decide (i = j) := by
  rw [PyData.eqv]
  by_cases h : i = j <;> simp [h]
theorem eqvAll_ints : ∀ xs ys : List Int, PyData.eqvAll (xs.map .int) (ys.map .int) = decide (xs = ys)
  | [], [] => by simp [PyData.eqvAll]
  | [], _ :: _ => by simp [PyData.eqvAll]
  | _ :: _, [] => by simp [PyData.eqvAll]
  | x :: xs, y :: ys => by
    rw [List.map_cons, List.map_cons, PyData.eqvAll, eqv_int, eqvAll_ints xs ys]
    by_cases h : x = y <;> by_cases h2 : xs = ys <;> simp [h, h2]
theorem eqv_ti (xs ys : List Int) : PyData.eqv (ti xs) (ti ys) = decide (xs = ys) := by rw [PyData.eqv]; exact eqvAll_ints xs ys
theorem eqv_li (xs ys : List Int) : PyData.eqv (li xs) (li ys) = decide (xs = ys) := by rw [PyData.eqv]; exact eqvAll_ints xs ys
theorem lay_ints : ∀ xs : List Int, PyData.canLayAll0 (xs.map .int) = true
  | [] => by simp [PyData.canLayAll0]
  | x :: xs => by rw [List.map_cons, PyData.canLayAll0, lay_ints xs]; simp [PyData.canLay0]
theorem dep_ints : ∀ xs : List Int, PyData.depthAll (xs.map .int) ≤ 1
  | [] => by simp [PyData.depthAll]
  | x :: xs => by
    rw [List.map_cons, PyData.depthAll]
    have := dep_ints xs
    simp only [PyData.depth]
    omega
theorem sh_int (i : Int) : SeqAt.shaped (.int i) = true := by simp [SeqAt.shaped, PyData.canLay0, PyData.depth]
theorem sh_bool (i : Bool) : SeqAt.shaped (.bool i) = true := by simp [SeqAt.shaped, PyData.canLay0, PyData.depth]
theorem sh_none : SeqAt.shaped .none = true := by simp [SeqAt.shaped, PyData.canLay0, PyData.depth]
theorem sh_ti (xs : List Int) : SeqAt.shaped (ti xs) = true := by
  have := dep_ints xs
  unfold SeqAt.shaped
  rw [PyData.canLay0, lay_ints, PyData.depth]
  simp; omega
theorem sh_li (xs : List Int) : SeqAt.shaped (li xs) = true := by
  have := dep_ints xs
  unfold SeqAt.shaped
  rw [PyData.canLay0, lay_ints, PyData.depth]
  simp; omega
section
variable {K : PySem.W.Frag} {i j : Int} {xs ys : List Int}
theorem rd_eqI : RD K (rEqD K) (.int i) (.int j) (.dat (.bool (decide (i = j)))) := by
  have := rd_eqD (K := K) (sh_int i) (sh_int j)
  rwa [eqv_int] at this
theorem rd_neI : RD K (rNeD K) (.int i) (.int j) (.dat (.bool (!decide (i = j)))) := by
  have := rd_neD (K := K) (sh_int i) (sh_int j)
  rwa [eqv_int] at this
theorem rd_eqB {i j : Bool} : RD K (rEqD K) (.bool i) (.bool j) (.dat (.bool (decide (i = j)))) := by
  have := rd_eqD (K := K) (sh_bool i) (sh_bool j)
  rwa [eqv_bool] at this
theorem rd_neB {i j : Bool} : RD K (rNeD K) (.bool i) (.bool j) (.dat (.bool (!decide (i = j)))) := by
  have := rd_neD (K := K) (sh_bool i) (sh_bool j)
  rwa [eqv_bool] at this
theorem rd_eqT : RD K (rEqD K) (ti xs) (ti ys) (.dat (.bool (decide (xs = ys)))) := by
  have := rd_eqD (K := K) (sh_ti xs) (sh_ti ys)
  rwa [eqv_ti] at this
theorem rd_neT : RD K (rNeD K) (ti xs) (ti ys) (.dat (.bool (!decide (xs = ys)))) := by
  have := rd_neD (K := K) (sh_ti xs) (sh_ti ys)
  rwa [eqv_ti] at this
theorem rd_eqL : RD K (rEqD K) (li xs) (li ys) (.dat (.bool (decide (xs = ys)))) := by
  have := rd_eqD (K := K) (sh_li xs) (sh_li ys)
  rwa [eqv_li] at this
theorem rd_neL : RD K (rNeD K) (li xs) (li ys) (.dat (.bool (!decide (xs = ys)))) := by
  have := rd_neD (K := K) (sh_li xs) (sh_li ys)
  rwa [eqv_li] at this
theorem atI_ints (h0 : 0 ≤ i) (h1 : i < xs.length) : atI (xs.map PyData.int) i = some (.int (xs.getD i.toNat 0)) := by
  refine atI_ok h0 ?_
  rw [List.getElem?_map, List.getElem?_eq_getElem (by omega), Option.map_some, List.getD_eq_getElem?_getD, List.getElem?_eq_getElem (by omega)]
  rfl
theorem rd_ixTi (h0 : 0 ≤ i) (h1 : i < xs.length) : RD K (rIx K) (ti xs) (.int i) (.dat (.int (xs.getD i.toNat 0))) := rd_ixT (atI_ints h0 h1)
theorem rd_ixLi (h0 : 0 ≤ i) (h1 : i < xs.length) : RD K (rIx K) (li xs) (.int i) (.dat (.int (xs.getD i.toNat 0))) := rd_ixL (atI_ints h0 h1)
theorem cd_lenTi : CD K (rLen K) [ti xs] (.dat (.int xs.length)) := by
  have := cd_lenT (K := K) (ds := xs.map .int)
  rwa [List.length_map] at this
theorem cd_lenLi : CD K (rLen K) [li xs] (.dat (.int xs.length)) := by
  have := cd_lenL (K := K) (ds := xs.map .int)
  rwa [List.length_map] at this
end
/-! ### less is known -/
def wk : List Sl → List Sl → Prop
  | [], [] => True
  | s :: Γ, s' :: Γ' => (s' = s ∨ s' = .no) ∧ wk Γ Γ'
  | _, _ => False
theorem has_wk {K : PySem.W.Frag} {C H : Hp} : ∀ {Γ Γ' : List Sl} {σ : L2.St} {ps : List Addr}, wk Γ Γ' → Has K C H Γ σ ps → ∃ qs, Has K C H Γ' σ qs ∧ qs.Sublist ps
  | [], [], _, _, _, h => ⟨_, h, List.Sublist.refl _⟩
  | s :: Γ, s' :: Γ', _, _, ⟨e, w⟩, h => by
    have go : ∀ {x : Option V} {σ : L2.St} {ps : List Addr}, Has K C H Γ σ ps → ∃ qs, Has K C H (.no :: Γ') (x :: σ) qs ∧ qs.Sublist ps := fun h => by
      obtain ⟨qs, h1, h2⟩ := has_wk w h
      exact ⟨qs, .no h1, h2⟩
    rcases e with rfl | rfl
    · cases h with
      | no h => exact go h
      | dat d h => obtain ⟨qs, h1, h2⟩ := has_wk w h; exact ⟨qs, .dat d h1, h2⟩
      | own y e d h => obtain ⟨qs, h1, h2⟩ := has_wk w h; exact ⟨_, .own y e d h1, h2.cons_cons _⟩
    · cases h with
      | no h => exact go h
      | dat d h => exact go h
      | own y e d h => obtain ⟨qs, h1, h2⟩ := go h; exact ⟨qs, h1, h2.cons _⟩
theorem hs_wk {b : Bs} {T Γ Γ' : List Sl} {τ σ : L2.St} {H : Hp} (w : wk Γ Γ') (h : Hs b T τ Γ σ H) : Hs b T τ Γ' σ H := by
  obtain ⟨C, ps, qs, c, h1, h2⟩ := h
  obtain ⟨rs, h3, h4⟩ := has_wk w h2
  exact ⟨C, ps, rs, c.sub (fun p hp => (List.Sublist.append_left h4 ps).subset hp) (c.nd.sublist (List.Sublist.append_left h4 ps)), h1, h3⟩
theorem n_end {b : Bs} {T Γ Γ' : List Sl} {τ : L2.St} (w : wk Γ Γ') : Nx b (fun σ H => Hs b T τ Γ' σ H) T τ Γ := fun _ _ h => hs_wk w h
theorem n_wk {b : Bs} {T Γ Γ' : List Sl} {τ : L2.St} {N : L2.St → Hp → Prop} (w : wk Γ Γ') (k : Nx b N T τ Γ') : Nx b N T τ Γ := fun _ _ h => k _ _ (hs_wk w h)
/-! ### statements that go on -/
def StS (b : Bs) (t : TS) (Γ Γ' : List Sl) : Prop := ∀ (D : Ends) (T : List Sl) (τ : L2.St), Nx b D.nx T τ Γ' → Nx b (t D) T τ Γ
section
variable {b : Bs} {T Γ Γ' Γ1 Γ2 : List Sl} {τ : L2.St} {D : Ends} {t u : TS} {te : TE} {s : Sl} {d : PyData} {ds : List PyData}
theorem n_go (h : StS b t Γ Γ1) (k : Nx b (u D) T τ Γ1) : Nx b (tSeq t u D) T τ Γ := h { D with nx := u D } T τ k
theorem n_stop {c : TT} (h : EvT b c Γ Γ1 false) (k : Nx b (u D) T τ Γ1) : Nx b (tSeq (tIfS c t tNext) u D) T τ Γ := n_if (D := { D with nx := u D }) h (fun z => by cases z) fun _ => k
theorem n_leave {c : TT} (h : EvT b c Γ Γ1 true) (k : Nx b (tRet te D) T τ Γ1) : Nx b (tSeq (tIfS c (tRet te) t) u D) T τ Γ := n_if (t := tRet te) (D := { D with nx := u D }) h (fun _ => k) fun z => by cases z
theorem n_fork {c : TT} {k : Bool} (h : EvT b c Γ Γ1 k) (h1 : k = true → Nx b (tRet te D) T τ Γ1) (h2 : k = false → Nx b (u D) T τ Γ1) : Nx b (tSeq (tIfS c (tRet te) tNext) u D) T τ Γ :=
  n_if (t := tRet te) (u := tNext) (D := { D with nx := u D }) h (fun z => h1 z) fun z => h2 z
theorem st_set {i : Nat} (h : EvS b te Γ Γ1 s) : StS b (tAsg te (gName i)) Γ (Γ1.set i s) := fun D T τ k => n_set h k
theorem st_drop (h : EvS b te Γ Γ1 s) : StS b (tDrop te) Γ Γ1 := fun D T τ k => n_drop h k
theorem st_append {i : Nat} {z : Option Addr} (h : Γ[i]? = some (.ownq z ds)) (he : EvS b te Γ Γ (.dat d)) (hz : ds.length < 100000) : StS b (tDrop (tBM b.K "list" rAppend (tVar i) (tCons te tNil))) Γ (Γ.set i (.ownq z (ds ++ [d]))) := fun D T τ k => n_append h he hz k
theorem st_setL {i j : Nat} {k : Int} {tb : TE} {z : Option Addr} (h : Γ[i]? = some (.ownq z ds)) (he : EvS b te Γ Γ (.dat d)) (hb : EvS b tb Γ Γ (.dat (.int k))) (hj : ixN ds.length k = some j) :
    StS b (tAsg te (gSub (tVar i) tb rSetL)) Γ (Γ.set i (.ownq z (ds.set j d))) := fun D T τ k => n_setL h he hb hj k
theorem st_seq (h : StS b t Γ Γ1) (h2 : StS b u Γ1 Γ2) : StS b (tSeq t u) Γ Γ2 := fun D T τ k => h { D with nx := u D } T τ (h2 D T τ k)
theorem st_next : StS b tNext Γ Γ := fun D T τ k => k
theorem st_if {c : TT} {k : Bool} (h : EvT b c Γ Γ1 k) (h1 : k = true → StS b t Γ1 Γ2) (h2 : k = false → StS b u Γ1 Γ2) : StS b (tIfS c t u) Γ Γ2 := fun D T τ q => n_if h (fun z => h1 z D T τ q) fun z => h2 z D T τ q
theorem st_wk (w : wk Γ1 Γ2) (h : StS b t Γ Γ1) : StS b t Γ Γ2 := fun D T τ k => h D T τ (n_wk w k)
theorem st_is (h : StS b t Γ Γ1) (e : Γ1 = Γ2) : StS b t Γ Γ2 := e ▸ h
theorem st_for {wi : TI} {g : TG} {tb : TS} {ds its : List PyData} (hI : EvI b wi Γ Γ1 ds its) (G G' : Nat → List Sl) (h0 : wk Γ1 (G 0)) (hg : ∀ i di, its[i]? = some di → EvG b g di (G i) (G' i))
    (hb : ∀ i di, its[i]? = some di → StS b tb (G' i) (G (i + 1))) : StS b (tFor wi g tb) Γ (G its.length) := fun D T τ k => by
  have hI' : EvI b wi Γ (G 0) ds its := fun T τ σ H hs R r => hI T τ σ H hs R fun J vs H' C ok h dv => by
    obtain ⟨ps, qs, c, h1, h2⟩ := h
    obtain ⟨rs, h3, h4⟩ := has_wk h0 h2
    exact r J vs H' C ok ⟨ps, rs, c.sub (fun p hp => (List.Sublist.append_left h4 ps).subset hp) (c.nd.sublist (List.Sublist.append_left h4 ps)), h1, h3⟩ dv
  exact n_for hI' G G' rfl hg (fun i di vs hv e => hb i di e _ _ _ n_hs) k
end
/-! ### a def -/
def Γ0 (n : Nat) (ds : List PyData) : List Sl := ds.map Sl.dat ++ List.replicate (n - ds.length) Sl.no
theorem has_dats {K : PySem.W.Frag} {C H : Hp} {Γ : List Sl} {σ : L2.St} {ps : List Addr} (h : Has K C H Γ σ ps) : ∀ {vs : List V} {ds : List PyData}, DpAll K C vs ds → Has K C H (ds.map Sl.dat ++ Γ) (vs.map some ++ σ) ps
  | _, _, .nil => h
  | _, _, .cons r t => .dat r (has_dats h t)
theorem has_no {K : PySem.W.Frag} {C H : Hp} : ∀ n : Nat, Has K C H (List.replicate n Sl.no) (List.replicate n none) []
  | 0 => .nil
  | n + 1 => .no (has_no n)
theorem fn_ok {P : Program} {w : World} {K : PySem.W.Frag} {mg : Str → Option Value} {base : Heap} {x qual : Str} {st : Stmt} {f : Addr} {fd : FuncData} {N ps : List Str} {k : Nat} {gr : List PyData → Sl → Prop} {tr : PySem.W.Frag → TS}
    (F : Fun K x qual st f fd) (S : FnScope N ps (defScope st)) (len : ∀ ds s, gr ds s → ds.length = ps.length)
    (pst : ∀ (cdv : Value) (A : Around) (outer : List Env) (s : Shared) (H : Hp) (E : XK), Room k (A.deeper (envOfC qual (defScope st) s.heap.objs.size f cdv)) → PSs (cxOf CX0 P w K mg base N qual (defScope st) f cdv A outer s H E).nox (defBody st) (tr K))
    (rd : ∀ (b : Bs) (D : Ends) ds s, gr ds s → (∀ v H', Ret b.K b.H0 b.B s v H' → D.rt v H') → (∀ σ H, D.rt .non H → D.nx σ H) → Nx b (tr b.K D) [] [] (Γ0 N.length ds)) :
    FnOk P w K mg base CX0 (k + 1) f fd ps (spP K gr) := by
  refine F.ok S (fun vs H Q E h => ?_) (fun cdv A outer s H vs Q E hr h => ?_)
  · obtain ⟨C, ds, s, e, dv, g, q⟩ := h
    rw [dpa_len dv]; exact len ds s g
  · obtain ⟨C, ds, sl, e, dv, g, q⟩ := h
    refine ⟨_, pst cdv A outer s H E hr, ?_⟩
    refine rd ⟨K, H, C⟩ _ ds sl g q (fun _ _ h => h) _ _ ⟨C, [], [], ⟨Ex.refl C, e, Ex.refl H, fun _ _ z => z, (fun p hp => by cases hp), List.nodup_nil⟩, .nil, ?_⟩
    unfold L2.start Γ0
    rw [dpa_len dv]
    exact has_dats (has_no _) dv
end G
namespace G
open PySem PySem.Spec PyProof.Rows L2
open Evl (Ex ex_rd ex_l ex_t rMax2)
/-! ### a def that is lent a list (its first argument) and changes it -/
def RetM (K : PySem.W.Frag) (H C : Hp) (p : Addr) (ds' : List PyData) (s : Sl) (v : V) (H' : Hp) : Prop :=
  ∃ C' rs vs', Ex C C' ∧ Ex C' H' ∧ (∀ a o, a ≠ p → H a = some o → H' a = some o) ∧ (∀ a, H a ≠ none → C a = none → C' a = none) ∧ Has K C' H' [s] [some v] rs ∧ (∀ q ∈ rs, C' q = none ∧ H q = none) ∧ H' p = some (.lst vs') ∧ DpAll K C' vs' ds'
def RetB (b : Bs) (p : Addr) (ds' : List PyData) (s : Sl) (v : V) (H' : Hp) : Prop :=
  ∃ C' rs vs', Ex b.B C' ∧ Ex C' H' ∧ Ex b.H0 H' ∧ (∀ a, b.H0 a ≠ none → b.B a = none → C' a = none) ∧ C' p = none ∧ Has b.K C' H' [s] [some v] rs ∧ (∀ q ∈ rs, C' q = none ∧ b.H0 q = none ∧ q ≠ p) ∧ H' p = some (.lst vs') ∧ DpAll b.K C' vs' ds'
def spM (K : PySem.W.Frag) (f : List PyData → List PyData → List PyData → Sl → Prop) : Sp := fun vs H Q _ => ∃ C p vs0 rest ds args ds' s, vs = .ref p :: rest ∧ H p = some (.lst vs0) ∧ C p = none ∧ Ex C H ∧ DpAll K C vs0 ds ∧ DpAll K C rest args ∧
  f ds args ds' s ∧ ∀ v H', RetM K H C p ds' s v H' → Q v H'
theorem Has.own_z {K : PySem.W.Frag} {C H : Hp} {Γ : List Sl} {σ : L2.St} {ps : List Addr} (h : Has K C H Γ σ ps) : ∀ {i : Nat} {z : Option Addr} {ds : List PyData}, Γ[i]? = some (.ownq z ds) → ∃ p, σ[i]? = some (some (.ref p)) ∧ p ∈ ps ∧ ∀ r, z = some r → r = p := by
  induction h with
  | nil => intro i z ds e; simp at e
  | no q ih =>
    intro i z ds e
    cases i with
    | zero => simp at e
    | succ i => obtain ⟨p, h1, h2, h3⟩ := ih (by simpa using e); exact ⟨p, by simpa using h1, h2, h3⟩
  | dat dd q ih =>
    intro i z ds e
    cases i with
    | zero => simp at e
    | succ i => obtain ⟨p, h1, h2, h3⟩ := ih (by simpa using e); exact ⟨p, by simpa using h1, h2, h3⟩
  | own y0 e0 d0 q ih =>
    intro i z ds e
    cases i with
    | zero => simp at e; obtain ⟨rfl, rfl⟩ := e; exact ⟨_, rfl, List.mem_cons_self, y0⟩
    | succ i => obtain ⟨p, h1, h2, h3⟩ := ih (by simpa using e); exact ⟨p, by simpa using h1, List.mem_cons_of_mem _ h2, h3⟩
section
variable {b : Bs} {C : Hp} {T Γ Γ' Γ1 Γ2 : List Sl} {τ σ : L2.St} {H H' : Hp} {s s' : Sl} {v : V} {d e : PyData} {ds ds' es args : List PyData} {vs : List V}
theorem HsC.stepM {i : Nat} {z : Option Addr} {p : Addr} (h : HsC b C T τ Γ σ H) (e : Γ[i]? = some (.ownq z ds)) (ep : σ[i]? = some (some (.ref p))) (r : RetM b.K H C p ds' s v H') : Hs b (s :: T) (some v :: τ) (Γ.set i (.ownq z ds')) σ H' := by
  obtain ⟨ps, qs, c, h1, h2⟩ := h
  obtain ⟨C', rs, vs', e1, e2, e3, fr, h3, ow, hp', dv'⟩ := r
  have nd := List.nodup_append.mp c.nd
  obtain ⟨p1, g1, g2, g3⟩ := h2.own_z e
  have ep1 : p1 = p := by
    rw [ep] at g1
    injection g1 with g1; injection g1 with g1; injection g1 with g1; exact g1.symm
  subst ep1
  have hsome : ∀ q ∈ ps ++ qs, ∃ xs, H q = some (.lst xs) := fun q hq => by
    rcases List.mem_append.mp hq with y | y
    · exact h1.own_some q y
    · exact h2.own_some q y
  have hCn : ∀ q ∈ ps ++ qs, C' q = none := fun q hq => by
    obtain ⟨xs, hx⟩ := hsome q hq
    exact fr q (by rw [hx]; intro y; cases y) (c.ow q hq).1
  have hpT : ∀ q ∈ ps, q ≠ p1 := fun q hq => nd.2.2 q hq p1 g2
  have hT : Has b.K C' H' (s :: T) (some v :: τ) (rs ++ ps) := by
    have h1' := h1.mono e1 (fun q hq o y => e3 q o (hpT q hq) y)
    cases h3 with
    | no y => cases y; exact .no h1'
    | dat q y => cases y; exact .dat q h1'
    | own y0 q q2 y => cases y; exact .own y0 q q2 h1'
  have h2' := h2.mono (C' := C') (H' := H) e1 (fun _ _ _ y => y)
  obtain ⟨p2, vs2, k1, k2, k3, k4, k5⟩ := h2'.own_at e nd.2.1
  have ep2 : p2 = p1 := by
    rw [ep] at k1
    injection k1 with k1; injection k1 with k1; injection k1 with k1; exact k1.symm
  subst ep2
  have h5 := (k5 vs' ds' dv').mono (C' := C') (H' := H') (Ex.refl C') (fun q hq o y => by
    by_cases hqp : q = p2
    · subst hqp; rw [upd_same] at y; cases y; exact hp'
    · rw [upd_ne hqp] at y; exact e3 q o hqp y)
  refine ⟨C', rs ++ ps, qs, ⟨c.bc.trans e1, e2, fun a o y => e3 a o (fun y2 => ?_) (c.h0 a o y), fun a y1 y2 => ?_, fun q hq => ?_, ?_⟩, hT, h5⟩
  · rw [y2, (c.ow p2 (List.mem_append_right _ g2)).2] at y; cases y
  · refine fr a (fun q => ?_) (c.fr a y1 y2)
    cases z1 : b.H0 a with
    | none => exact y1 z1
    | some o => rw [c.h0 a o z1] at q; cases q
  · rw [List.append_assoc] at hq
    rcases List.mem_append.mp hq with y | y
    · exact ⟨(ow q y).1, ex_none c.h0 (ow q y).2⟩
    · exact ⟨hCn q y, (c.ow q y).2⟩
  · rw [List.append_assoc]
    refine List.nodup_append.mpr ⟨?_, c.nd, fun q hq q' hq' eq => ?_⟩
    · cases h3 with
      | no y => cases y; exact List.nodup_nil
      | dat _ y => cases y; exact List.nodup_nil
      | own _ _ _ y => cases y; simp
    · subst eq
      obtain ⟨xs, hx⟩ := hsome q hq'
      rw [(ow q hq).2] at hx; cases hx
theorem s_callM {i : Nat} {z : Option Addr} {ta : TA} {f : List PyData → List PyData → List PyData → Sl → Prop} {E : XK} (h : Γ[i]? = some (.ownq z ds)) (ha : EvA b ta Γ Γ args) (hf : f ds args ds' s) :
    EvS b (tCall (spM b.K f) [] E (tCons (tVar i) ta)) Γ (Γ.set i (.ownq z ds')) s := fun T τ σ H hs Q q => by
  obtain ⟨C0, hs0⟩ := hs
  obtain ⟨p, vs0, g1, g2, g3, _⟩ := hs0.own_at h
  refine ⟨.ref p, g1, ha T τ σ H ⟨C0, hs0⟩ _ fun rest H1 C h1 dv => ?_⟩
  obtain ⟨p', vs1, f1, f2, f3, _⟩ := h1.own_at h
  rw [g1] at f1
  cases f1
  have hC : C p = none := by
    obtain ⟨ps, qs, c, k1, k2⟩ := h1
    obtain ⟨p1, m1, m2, _⟩ := k2.own_z h
    rw [g1] at m1
    cases m1
    exact (c.ow p (List.mem_append_right _ m2)).1
  rw [List.append_nil]
  exact ⟨C, p, vs1, rest, ds, args, ds', s, rfl, f2, hC, h1.ch, f3, dv, hf, fun v H' r => q v H' (h1.stepM h g1 r)⟩
theorem n_retM {te : TE} {D : Ends} {p : Addr} {i : Nat} (h : EvS b te Γ Γ1 s) (e : Γ1[i]? = some (.ownq (some p) ds')) (k : ∀ v H', RetB b p ds' s v H' → D.rt v H') : Nx b (tRet te D) T τ Γ := fun σ H hs => h T τ σ H hs _ fun v H' h' => by
  refine k v H' ?_
  obtain ⟨C, ps, qs, c, h1, h2⟩ := h'
  have nd := List.nodup_append.mp c.nd
  obtain ⟨p1, vs1, g1, g2, g3, g4, _⟩ := h2.own_at e nd.2.1
  obtain ⟨p2, k1, k2, k3⟩ := h2.own_z e
  have e2 := k3 p rfl
  subst e2
  rw [k1] at g1
  cases g1
  have main : ∀ {rs ps' : List Addr}, Has b.K C H' [s] [some v] rs → ps = rs ++ ps' → RetB b p ds' s v H' := by
    rintro rs ps' r rfl
    refine ⟨C, rs, vs1, c.bc, c.ch, c.h0, c.fr, (c.ow p (List.mem_append_right _ k2)).1, r, fun q hq => ⟨(c.ow q (List.mem_append_left _ (List.mem_append_left _ hq))).1, (c.ow q (List.mem_append_left _ (List.mem_append_left _ hq))).2, nd.2.2 q (List.mem_append_left _ hq) p k2⟩, g3, g4⟩
  cases h1 with
  | no h1 => exact main (.no .nil) rfl
  | dat q h1 => exact main (.dat q .nil) rfl
  | own y q q2 h1 => exact main (.own y q q2 .nil) rfl
end
def Γ0M (n : Nat) (p : Addr) (ds args : List PyData) : List Sl := .ownq (some p) ds :: (args.map Sl.dat ++ List.replicate (n - (args.length + 1)) Sl.no)
theorem fn_okM {P : Program} {w : World} {K : PySem.W.Frag} {mg : Str → Option Value} {base : Heap} {x qual : Str} {st : Stmt} {f : Addr} {fd : FuncData} {N ps : List Str} {k : Nat} {gr : List PyData → List PyData → List PyData → Sl → Prop} {tr : PySem.W.Frag → TS}
    (F : Fun K x qual st f fd) (S : FnScope N ps (defScope st)) (len : ∀ ds args ds' s, gr ds args ds' s → args.length + 1 = ps.length)
    (pst : ∀ (cdv : Value) (A : Around) (outer : List Env) (s : Shared) (H : Hp) (E : XK), Room k (A.deeper (envOfC qual (defScope st) s.heap.objs.size f cdv)) → PSs (cxOf CX0 P w K mg base N qual (defScope st) f cdv A outer s H E).nox (defBody st) (tr K))
    (rd : ∀ (b : Bs) (D : Ends) (p : Addr) ds args ds' s, gr ds args ds' s → (∀ v H', RetB b p ds' s v H' → D.rt v H') → Nx b (tr b.K D) [] [] (Γ0M N.length p ds args)) :
    FnOk P w K mg base CX0 (k + 1) f fd ps (spM K gr) := by
  refine F.ok S (fun vs H Q E h => ?_) (fun cdv A outer s H vs Q E hr h => ?_)
  · obtain ⟨C, p, vs0, rest, ds, args, ds', s, rfl, _, _, _, _, da, g, _⟩ := h
    rw [List.length_cons, dpa_len da]; exact len ds args ds' s g
  · obtain ⟨C, p, vs0, rest, ds, args, ds', sl, rfl, hp, hC, ex, dv, da, g, q⟩ := h
    refine ⟨_, pst cdv A outer s H E hr, ?_⟩
    let Hd : Hp := fun a => if a = p then none else H a
    have hd : Ex Hd H := fun a o y => by
      show H a = some o
      have y2 : (if a = p then none else H a) = some o := y
      by_cases hap : a = p
      · rw [if_pos hap] at y2; cases y2
      · rw [if_neg hap] at y2; exact y2
    have hdp : Hd p = none := if_pos rfl
    refine rd ⟨K, Hd, C⟩ _ p ds args ds' sl g (fun v H' r => q v H' ?_) _ _ ⟨C, [], [p], ⟨Ex.refl C, ex, hd, fun _ _ y => y, fun a ha => ?_, by simp⟩, .nil, ?_⟩
    · obtain ⟨C', rs, vs', a1, a2, a3, a4, a5, a6, a7, a8, a9⟩ := r
      refine ⟨C', rs, vs', a1, a2, fun a o hap y => a3 a o ?_, fun a y1 y2 => ?_, a6, fun c hc => ⟨(a7 c hc).1, ?_⟩, a8, a9⟩
      · show (if a = p then none else H a) = some o
        rw [if_neg hap]; exact y
      · by_cases hap : a = p
        · rw [hap]; exact a5
        · exact a4 a (by show (if a = p then none else H a) ≠ none; rw [if_neg hap]; exact y1) y2
      · have h0 : (if c = p then none else H c) = none := (a7 c hc).2.1
        rw [if_neg (a7 c hc).2.2] at h0; exact h0
    · rcases List.mem_singleton.mp ha with rfl
      exact ⟨hC, hdp⟩
    · have := has_dats (K := K) (C := C) (H := H) (has_no (N.length - (args.length + 1))) da
      unfold L2.start Γ0M
      rw [List.length_cons, dpa_len da]
      exact .own (fun r y => (Option.some.inj y).symm ▸ rfl) hp dv this
end G
namespace G
open PySem PySem.Spec PyProof.Rows L2
open Evl (Ex ex_rd ex_l ex_t rMax2)
/-! ### a set made of a list of ints -/
section
variable {P : Program} {w : World} {A : Around} {E : Value → Shared → Prop} {s : Shared}
abbrev nakedSet (w : World) : Obj := { cls := .type "set", dict := none, data := .set #[] 0 (.fresh 0 0 (!w.params.followText "set-order")) }
theorem g_set_list {l : Addr} {items : Array Value} (ns : List Int) {Q : Value → Shared → Prop} (calm : A.handled = none) (isl : s.heap.IsList l items) (allI : IntsAre items.toList ns) (room : ns.length + 1 < scanBound)
    (go : ∀ (g : Heap) (k c : Nat), SetR w g s.heap.objs.size (fun j => decide (j ∈ ns)) c → c ≤ ns.length → (∀ b o, s.heap.get? b = some o → g.get? b = some o) → Q (.ref s.heap.objs.size) { s with heap := g, toks := k }) :
    wpAny (model P w) A (call (.type "set") [.ref l]) Q E s := by
  have size : items.size = ns.length := by
    have z := IntsAre.length allI
    rwa [Array.length_toList] at z
  obtain ⟨c, tl, mro⟩ := F.called_set.mro
  have made := F.called_set.made
  have sub := F.called_set.sub
  refine wpAny_call (codeAny_of_tree ?_)
  show wpAny _ _ (callAny (.type "set") _) _ _ _
  refine wpAny_pure ⟨Code.quiet_builtin _ (by decide +kernel), codeAny_builtin F.entry_type_call ?_⟩
  rw [Around.under_plain (weight_type_call_type "set" [.ref l] []) rfl]
  have n1 := F.called_set.notType
  have n2 := F.called_set.canCreate
  have n3 := F.typeCall_set_1 (.ref l)
  repeat (any_goals (first | assumption | wp_step))
  refine codeAny_mono (code_set_led1 (.ref l) (E := E) (Q₁ := fun obj s₁ => obj = .ref s.heap.objs.size ∧ s₁ = { s with heap := s.heap.push (nakedSet w) }) ⟨rfl, rfl⟩) fun r s₁ hr => ?_
  cases r with
  | error e => exact hr
  | ok fl =>
    cases fl with
    | ret obj =>
      obtain ⟨rfl, rfl⟩ := hr
      have at0 : (s.heap.push (nakedSet w)).get? s.heap.objs.size = some (nakedSet w) := Heap.get?_push_size _ rfl
      have ty0 : Shared.TypeIs { s with heap := s.heap.push (nakedSet w) } (.ref s.heap.objs.size) "set" := ⟨_, at0, rfl⟩
      have i1 := F.called_set.init.lookup
      have i2 := F.called_set.init.bind (.ref s.heap.objs.size)
      repeat (any_goals (first | assumption | wp_step))
      refine codeAny_mono (codeAny_call_builtin (R := wants (fun r s₂ => r = .none ∧ ∃ g k c, s₂ = { s with heap := g, toks := k } ∧ SetR w g s.heap.objs.size (fun j => decide (j ∈ ns)) c ∧ c ≤ ns.length ∧
          (∀ b o, s.heap.get? b = some o → g.get? b = some o)) E) F.called_set.init.plain F.entry_set_init (check_set_init_1 ty0 ?_)) fun r₂ s₂ hr₂ => ?_
      · obtain ⟨ol, gl, cl, nl, dl⟩ := isl
        obtain ⟨ocls, odict, odata, oslots⟩ := ol
        simp only at cl dl
        subst cl; subst dl
        have gl1 : (s.heap.push (nakedSet w)).get? l = some { cls := .type "list", dict := odict, data := .seq items nl, slots := oslots } := Heap.get?_push_of_some _ gl
        have u1 := F.sub_list_set
        have u2 := F.sub_list_frozenset
        have u3 : (Value.type "list" == Value.type "dict") = false := by decide
        have list1 : (s.heap.push (nakedSet w)).IsList l items := ⟨_, gl1, rfl, nl, rfl⟩
        unfold Builtin.«set.__init__» noKeywords Builtin.Frozenset.updateFrom
        generalize hPI : pyIter = PI
        wp_walk
        subst hPI
        refine wpAny_pyIter_list list1 ?_
        refine wpAny_bind (wpAny_runValue ?_)
        have ltl : l < s.heap.objs.size := Heap.lt_size gl
        have calm3 : A.in1.in1.in1.handled = none := by simp [calm]
        have apart : l ≠ (s.heap.push (nakedSet w)).objs.size := by
          rw [Heap.size_push]; exact Nat.ne_of_lt (Nat.lt_succ_of_lt ltl)
        have outside : s.heap.objs.size ∉ [(s.heap.push (nakedSet w)).objs.size, l] := by
          rw [Heap.size_push]; simp only [List.mem_cons, List.mem_singleton, List.not_mem_nil, or_false, not_or]
          exact ⟨Nat.ne_of_lt (Nat.lt_succ_self _), Nat.ne_of_gt ltl⟩
        have each : ∀ (i : Nat) (v : Value), items[i]? = some v → ∃ k t, ns[i]? = some k ∧ v = .int k t := fun i v hv => by
          have lt : i < ns.length := by rw [← size]; exact (Array.getElem?_eq_some_iff.mp hv).1
          obtain ⟨t, e⟩ := PyProof.Rows.IntsAre.int_at allI i v (by rw [Array.getElem?_toList]; exact hv)
          refine ⟨ns[i], t, List.getElem?_eq_getElem lt, ?_⟩
          rw [e, List.getD_eq_getElem?_getD, List.getElem?_eq_getElem lt] <;> rfl
        refine set_update_ints ((Walks.list calm3 _ l apart items).toS) s.heap.objs.size
          outside ns size room each (items.size - 0) 0 _ (by omega) (Nat.zero_le _)
          ⟨⟨_, Heap.get?_push_size _ rfl, rfl, rfl⟩, (list1.push _)⟩ ?first ?fin
        case first =>
          have g1 : ((s.heap.push (nakedSet w)).push { cls := .type "list_iterator", data := .fields #[.ref l, .int 0 0] }).get? s.heap.objs.size = some (nakedSet w) := Heap.get?_push_of_some _ at0
          exact ⟨0, Nat.le_refl 0, setR_new_at g1⟩
        case fin =>
          intro s' c' moved le' set'
          obtain ⟨g, g2, d2, k2, o2⟩ := s'
          obtain rfl : g2 = s.gens := moved.gens
          obtain rfl : d2 = s.drawn := moved.drawn
          obtain rfl : o2 = s.os := moved.os
          show wpAny _ _ _ _ _ _
          refine wpAny_pure ?_
          show wpAny _ _ (ret Value.none) _ _ _
          rw [size] at le'
          refine wpAny_pure ⟨rfl, g, k2, c', rfl, set', le', fun b o e => ?_⟩
          have b0 : b < s.heap.objs.size := Heap.lt_size e
          have b2 : b ≠ (s.heap.push (nakedSet w)).objs.size := by
            rw [Heap.size_push]; exact Nat.ne_of_lt (Nat.lt_succ_of_lt b0)
          exact moved.heap b o (by simp only [List.mem_cons, List.mem_singleton, List.not_mem_nil, or_false, not_or]; exact ⟨Nat.ne_of_lt b0, b2⟩) (Heap.get?_push_of_some _ (Heap.get?_push_of_some _ e))
      · cases r₂ with
        | error e => exact hr₂
        | ok fl₂ =>
          cases fl₂ with
          | ret r =>
            obtain ⟨rfl, g, k, c', rfl, set', le', old'⟩ := hr₂
            repeat (any_goals (first | assumption | wp_step))
            exact go _ _ _ set' le' old'
          | _ => exact hr₂.elim
    | _ => exact hr.elim
end
end G
namespace G
open PySem PySem.Spec PyProof.Rows L2
open Evl (Ex ex_rd ex_l ex_t rMax2)
/-! ### sorted(set(xs)) -/
def rSetLi (w : World) (K : PySem.W.Frag) : List V → Hp → VK → Prop := fun vs H Q => ∃ (a : Addr) (ns : List Int), vs = [V.ref a] ∧ SqL K H a (ns.map V.int) ∧ ns.length + 1 < scanBound ∧ ∀ (p : Addr) (n : Nat), n ≤ ns.length → H p = none → Q (.ref p) (upd H p (SetO w p (fun j => decide (j ∈ ns)) n))
def tSoSet (K : PySem.W.Frag) (t : TA) : TE := fun σ H Q => ∀ w : World, tCB (rSortedSet w) (tCons (tCB (rSetLi w K) t) tNil) σ H Q
section
variable {X : Cx}
theorem cr_setLi (hc : X.calm = true) : CallR X (.type "set") (rSetLi X.w X.K) := by
  intro pins s σ H vs us Q I r h
  obtain ⟨a, ns, rfl, hs, room, q⟩ := h
  obtain ⟨its, rv, hl, _⟩ := I.list hs
  rw [Vals.ref1 r]
  refine g_set_list ns (I.ok.hd hc) hl.isList rv.ints room fun g k c st le old => ?_
  have hp := I.hok.fresh (Nat.le_refl _)
  exact ⟨.ref _, upd H s.heap.objs.size (SetO X.w s.heap.objs.size (fun j => decide (j ∈ ns)) c), I.laid (t' := k) old (Nat.le_refl _) (setO_new st), rfl, q _ c le hp⟩
theorem pe_soSet {p p2 pos pos2 : Pos} {e : Expr} {t : TA} (hc : X.calm = true) (g1 : Gl X "sorted") (m1 : X.mg "sorted" = none) (g2 : Gl X "set") (m2 : X.mg "set" = none) (ha : PA X [e] t)
    (h1 : starEach [e] X.env = (false, eval e X.env) :: starEach [] X.env := by rfl) (h2 : starEach [Expr.Call (.Name "set" p2) [e] [] pos2] X.env = (false, eval (Expr.Call (.Name "set" p2) [e] [] pos2) X.env) :: starEach [] X.env := by rfl)
    (h3 : (backTo pos2 (starEach [] X.env)).any (·.1) = false := by rfl) (h4 : (backTo pos (starEach [] X.env)).any (·.1) = false := by rfl) :
    PE X (.Call (.Name "sorted" p) [.Call (.Name "set" p2) [e] [] pos2] [] pos) (tSoSet X.K t) := by
  have A := pe_callTy (p := p2) (cr_setLi hc) g2 m2 (by decide +kernel) ha (he := h1) (hpl := h3)
  have B := pe_callB (p := p) (cr_sortedSet hc) g1 m1 (by decide +kernel) (pa_cons A pa_nil h2) (he := h2) (hpl := h4)
  exact ⟨fun pins s σ H Q I h => B.run pins s σ H Q I (h X.w)⟩
end
theorem Dp.ints_back {K : PySem.W.Frag} {C : Hp} : ∀ {vs : List V} {ns : List Int}, DpAll K C vs (ns.map .int) → vs = ns.map V.int
  | [], [], .nil => rfl
  | v :: vs, n :: ns, .cons r t => by
    cases r
    rw [Dp.ints_back t]; rfl
/-- the ascending list of different numbers is one -/
theorem asc_uniq : ∀ {xs ys : List Int}, xs.Pairwise (· < ·) → ys.Pairwise (· < ·) → (∀ k, k ∈ xs ↔ k ∈ ys) → xs = ys
  | [], [], _, _, _ => rfl
  | [], y :: ys, _, _, h => absurd ((h y).mpr List.mem_cons_self) (by simp)
  | x :: xs, [], _, _, h => absurd ((h x).mp List.mem_cons_self) (by simp)
  | x :: xs, y :: ys, hx, hy, h => by
    have ax := List.pairwise_cons.mp hx
    have ay := List.pairwise_cons.mp hy
    have e : x = y := by
      rcases List.mem_cons.mp ((h x).mp List.mem_cons_self) with e | m
      · exact e
      · rcases List.mem_cons.mp ((h y).mpr List.mem_cons_self) with e | m'
        · exact e.symm
        · have p1 := ay.1 x m
          have p2 := ax.1 y m'
          omega
    subst e
    rw [asc_uniq ax.2 ay.2 fun k => ?_]
    constructor
    · intro m
      rcases List.mem_cons.mp ((h k).mp (List.mem_cons_of_mem _ m)) with e | m'
      · subst e; exact absurd (ax.1 k m) (by omega)
      · exact m'
    · intro m
      rcases List.mem_cons.mp ((h k).mpr (List.mem_cons_of_mem _ m)) with e | m'
      · subst e; exact absurd (ay.1 k m) (by omega)
      · exact m'
theorem s_soSet {b : Bs} {Γ Γ1 : List Sl} {t : TA} {ns ms : List Int} (h : EvA b t Γ Γ1 [li ns]) (hz : ns.length < 64) (hm : ms.Pairwise (· < ·)) (he : ∀ k, k ∈ ms ↔ k ∈ ns) : EvS b (tSoSet b.K t) Γ Γ1 (.own (ms.map .int)) := fun T τ σ H hs Q q w =>
  h T τ σ H hs _ fun vs H1 C hc dv => by
    obtain ⟨v, rfl, dx⟩ := dpa1 dv
    cases dx with
    | lst hq ha =>
      have e := Dp.ints_back ha
      subst e
      refine ⟨_, ns, rfl, ex_l hc.ch hq, by simp only [scanBound]; omega, fun p n le hp => ?_⟩
      show rSortedSet w [V.ref p] _ Q
      refine ⟨p, _, n, rfl, upd_same, by omega, fun ks q2 h1 h2 _ h3 => ?_⟩
      have e2 : ks = ms := asc_uniq h1 hm fun k => by rw [h2 k, he k]; simp
      subst e2
      have hq1 : H1 q2 = none := by
        by_cases z : q2 = p
        · rw [z]; exact hp
        · rwa [upd_ne z] at h3
      have dpa : ∀ C', DpAll b.K C' (ks.map V.int) (ks.map PyData.int) := fun C' => dpa_ints
      have x12 := (Ex.new (o := SetO w p (fun j => decide (j ∈ ns)) n) hp).trans (Ex.new (o := .lst (ks.map V.int)) h3)
      have r : Ret b.K H1 C (.own (ks.map .int)) (.ref q2) _ := ⟨C, [q2], Ex.refl C, hc.ch.trans x12, x12, fun _ _ z => z, .own (fun _ q => nomatch q) upd_same (dpa C) .nil, fun q' hq' => by
        rcases List.mem_singleton.mp hq' with rfl
        exact ⟨ex_none hc.ch hq1, hq1⟩⟩
      exact q _ _ (hc.step r)
/-! ### list + list -/
def rCatS (K : PySem.W.Frag) : R2 := fun x y H Q => ∃ l b xs zs, x = .ref l ∧ y = .ref b ∧ SqL K H l xs ∧ SqL K H b zs ∧ xs.length + zs.length ≤ 100000 ∧ ∀ p, H p = none → Q (.ref p) (upd H p (.lst (xs ++ zs)))
theorem op_catS {X : Cx} : OpR X (binaryOp .Add) (rCatS X.K) := by
  intro pins s σ H x y v u Q I rx ry h
  obtain ⟨l, b, xs, zs, rfl, rfl, h1, h2, hz, q⟩ := h
  obtain ⟨its, r1, p1, _⟩ := I.list h1
  obtain ⟨its2, r2, p2, _⟩ := I.list h2
  have l1 := r1.length
  have l2 := r2.length
  have z0 : (100000 : Nat) ≤ sizeLine := by rw [sizeLine_eq]; decide
  cases rx
  cases ry
  obtain ⟨⟨cls, dd, data, sl⟩, ho, hc, n, hd⟩ := p1.isList
  obtain ⟨⟨cls2, dd2, data2, sl2⟩, ho2, hc2, n2, hd2⟩ := p2.isList
  simp only at hc hd hc2 hd2
  subst hc hd hc2 hd2
  have e : its.toArray ++ its2.toArray = (its ++ its2).toArray := by simp
  refine concat_meets ⟨_, ho, rfl⟩ ⟨_, ho2, rfl⟩ noFill_list_add seq_list_add PySem.F.slot_list_add PySem.F.entry_list_add (PySem.F.args_list_add_2 _ _) (list_addW l b its.toArray its2.toArray n n2 dd dd2 sl sl2 (by rw [List.size_toArray, List.size_toArray]; omega)) ⟨ho, ho2, ?_⟩
  rw [e]
  exact ⟨.ref _, _, I.lnew (t' := s.toks) (r1.append r2) (by rw [List.length_append]; omega), rfl, q _ I.fresh⟩
theorem rd_catS {K : PySem.W.Frag} {ds es : List PyData} (hz : ds.length + es.length ≤ 100000) : RD K (rCatS K) (.list ds) (.list es) (.own (ds ++ es)) := fun C H x y ex dx dy Q q => by
  cases dx with
  | lst hq ha =>
    cases dy with
    | lst hq2 ha2 =>
      have l1 := dpa_len ha
      have l2 := dpa_len ha2
      exact ⟨_, _, _, _, rfl, rfl, ex_l ex hq, ex_l ex hq2, by omega, fun p hp => q _ _ (.lst ex (dpa_app ha ha2) hp)⟩
theorem s_repO {b : Bs} {Γ Γ1 Γ2 : List Sl} {ta tb : TE} {z : Option Addr} {ds : List PyData} {k : Int} (ha : EvS b ta Γ Γ1 (.ownq z ds)) (hb : EvS b tb Γ1 Γ2 (.dat (.int k))) (h0 : 0 ≤ k) (h1 : k ≤ 1000) (hl : ds.length ≤ 10) : EvS b (tOp rRep ta tb) Γ Γ2 (.own (List.replicate k.toNat ds).flatten) := fun T τ σ H hs Q q =>
  ha T τ σ H hs _ fun x H1 h1' => hb _ _ σ H1 h1' _ fun y H2 h2' => by
    obtain ⟨C, dy, h3⟩ := h2'.pop
    cases dy
    obtain ⟨p, us, f1, f2, f3, f4⟩ := h3.own_top
    cases f1
    have l1 := dpa_len f3
    have z0 : (100000 : Nat) ≤ sizeLine := by rw [sizeLine_eq]; decide
    have hk : k.toNat ≤ 1000 := by omega
    have hm : us.length * k.toNat ≤ 10 * 1000 := Nat.mul_le_mul (by omega) hk
    refine ⟨_, _, _, rfl, rfl, f2, by omega, by omega, by omega, fun p' hp => ?_⟩
    refine q _ _ ((HsC.drop h3).step (.lst h3.ch ?_ hp))
    generalize k.toNat = n
    induction n with
    | zero => exact .nil
    | succ n ih =>
      rw [List.replicate_succ, List.replicate_succ, List.flatten_cons, List.flatten_cons]
      exact dpa_app f3 ih
end G
namespace G
open PySem PySem.Spec PyProof.Rows L2
open Evl (Ex ex_rd ex_l ex_t rMax2)
/-! ### a comprehension over an own list -/
theorem s_lcO {b : Bs} {Γ : List Sl} {kk : Nat} {z0 : Option Addr} {g : TG} {tt : TT} {te : TE} {vs : List Nat} {its : List PyData} (hk0 : Γ[kk]? = some (.ownq z0 its)) (hkv : kk ∉ vs) (G G' G'' : Nat → List Sl) (c : Nat → Bool) (e : Nat → PyData) (h0 : G 0 = wipeG Γ vs) (hG : ∀ i, i ≤ its.length → (G i)[kk]? = some (.ownq z0 its))
    (hg : ∀ i di, its[i]? = some di → EvGv b g di vs (G i) (G' i)) (ht : ∀ i di, its[i]? = some di → EvT b tt (G' i) (G' i) (c i)) (he : ∀ i di, its[i]? = some di → c i = true → EvS b te (G' i) (G'' i) (.dat (e i)))
    (hs : ∀ i, i < its.length → wipeG (if c i then G'' i else G' i) vs = wipeG (G (i + 1)) vs ∧ wipeG (G (i + 1)) vs = G (i + 1)) (hz : its.length ≤ 100000) :
    EvS b (tLc (iList b.K (tVar kk)) g tt te vs) Γ (G its.length) (.own (((List.range its.length).filter c).map e)) := fun T τ σ H hs0 Q q => by
  obtain ⟨C, h1⟩ := hs0
  obtain ⟨p, xs0, ep, hp0, hl0, _⟩ := h1.own_at hk0
  refine ⟨.ref p, ep, p, rfl, ⟨xs0, .inl (.inl hp0)⟩, ?_⟩
  intro D hD
  let acc : Nat → List PyData := fun i => ((List.range i).filter c).map e
  have hw : wipeG (G 0) vs = G 0 := by
    rw [h0]
    have aux : ∀ (Γ : List Sl) (us : List Nat) (k : Nat), k ∈ us → (wipeG Γ us).set k .no = wipeG Γ us := fun Γ us k hk => by
      refine List.ext_getElem? fun j => ?_
      rw [List.getElem?_set]
      by_cases ej : k = j
      · subst ej
        rw [if_pos rfl]
        rcases wipeG_get Γ us k hk with z | z
        · have := (List.getElem?_eq_some_iff.mp z).1
          rw [if_pos this, z]
        · have := List.getElem?_eq_none_iff.mp z
          rw [if_neg (by omega), z]
      · rw [if_neg ej]
    have aux2 : ∀ (ws us : List Nat) (Γ : List Sl), (∀ k ∈ ws, k ∈ us) → wipeG (wipeG Γ us) ws = wipeG Γ us := by
      intro ws
      induction ws with
      | nil => intro us Γ _; rfl
      | cons w ws ih =>
        intro us Γ hk
        show (wipeG (wipeG Γ us) ws).set w .no = _
        rw [ih us Γ fun k z => hk k (List.mem_cons_of_mem _ z)]
        exact aux Γ us w (hk w List.mem_cons_self)
    exact aux2 vs vs Γ fun _ z => z
  have hwi : ∀ i, i ≤ its.length → wipeG (G i) vs = G i := fun i hi => by
    cases i with
    | zero => exact hw
    | succ i => exact (hs i (by omega)).2
  have start : Hs b (.own [] :: T) (some (.ref D) :: τ) (G 0) (wipe σ vs) (upd H D (.lst [])) := by
    rw [h0]
    exact hs_wipe (h1.step (Ret.lst h1.ch .nil hD)) vs
  have hwk : (wipe σ vs)[kk]? = some (some (.ref p)) := by rw [wipe_get, if_neg hkv]; exact ep
  refine ⟨fun i m H' => i ≤ its.length ∧ m = its.length - i ∧ Hs b (.own (acc i) :: T) (some (.ref D) :: τ) (G i) (wipe σ vs) H', ⟨_, Nat.zero_le _, rfl, start⟩, ?_⟩
  rintro i m H' ⟨hi, rfl, C', h3⟩
  obtain ⟨p', xs, e', hp', ha', _⟩ := h3.own_at (hG i hi)
  rw [hwk] at e'
  cases e'
  have hlx := dpa_len ha'
  by_cases hlt : i < its.length
  · have hdi : its[i]? = some its[i] := by simp [hlt]
    obtain ⟨yy, y1, y2⟩ := dpa_get ha' hdi
    have g2 : ∀ x H2, (Itl b.K p).yld i H' x H2 → Ret b.K H' C' (.dat its[i]) x H2 := fun x H2 z => by
      obtain ⟨rfl, z⟩ := z
      have := (z _ (.inl (.inl hp'))).symm.trans y1
      cases this
      exact .same h3.ch y2
    refine .inr ⟨⟨_, yy, .inl (.inl hp'), y1⟩, fun H2 => Hs b (.own (acc (i + 1)) :: T) (some (.ref D) :: τ) (G (i + 1)) (wipe σ vs) H2, fun H2 n => ⟨its.length - (i + 1), by omega, hlt, rfl, n⟩, fun x H2 y => ?_⟩
    refine hg i its[i] hdi _ _ _ _ _ (h3.step (g2 x H2 y)) _ fun σ2 h5 hw2 => ⟨by rw [hw2, wipe_wipe], ?_⟩
    refine ht i its[i] hdi _ _ σ2 H2 h5 _ fun H3 h6 => ?_
    have hsi := hs i hlt
    cases hc : c i with
    | true =>
      rw [hc] at hsi
      refine iteT (he i its[i] hdi hc _ _ σ2 H3 h6 _ fun y H4 h7 => ?_)
      obtain ⟨C4, dy, h8⟩ := h7.pop
      obtain ⟨p, us, f1, f2, f3, f4⟩ := h8.own_top
      cases f1
      refine ⟨us, f2, ?_, ?_⟩
      · rw [dpa_len f3]
        refine Nat.lt_of_le_of_lt (?_ : _ ≤ 100000) (by decide)
        show (((List.range i).filter c).map e).length ≤ 100000
        rw [List.length_map]
        have := List.length_filter_le c (List.range i)
        rw [List.length_range] at this
        omega
      · have ea : acc (i + 1) = acc i ++ [e i] := by
          show ((List.range (i + 1)).filter c).map e = ((List.range i).filter c).map e ++ [e i]
          rw [List.range_succ, List.filter_append, List.map_append, List.filter_cons, if_pos hc]; rfl
        rw [ea]
        have h10 := hs_wipe ⟨C4, f4 _ _ (dpa_app f3 (.cons dy .nil))⟩ vs
        rw [hw2, wipe_wipe] at h10
        have e2 : wipeG (G'' i) vs = G (i + 1) := by simpa using hsi.1.trans hsi.2
        rw [e2] at h10
        exact h10
    | false =>
      rw [hc] at hsi
      refine iteF ?_
      have ea : acc (i + 1) = acc i := by
        show ((List.range (i + 1)).filter c).map e = ((List.range i).filter c).map e
        rw [List.range_succ, List.filter_append, List.map_append, List.filter_cons, if_neg (by rw [hc]; decide)]; simp
      have h10 := hs_wipe h6 vs
      rw [hw2, wipe_wipe] at h10
      have e2 : wipeG (G' i) vs = G (i + 1) := by simpa using hsi.1.trans hsi.2
      rw [e2] at h10
      show Hs b (.own (acc (i + 1)) :: T) _ (G (i + 1)) (wipe σ vs) H3
      rw [ea]
      exact h10
  · have e1 : i = its.length := by omega
    subst e1
    refine .inl ⟨⟨_, .inl (.inl hp'), by omega⟩, q _ _ ?_⟩
    have := hs_unwipe (Γ := G its.length) (σ := σ) (vs := vs) (T := .own (acc its.length) :: T) (τ := some (.ref D) :: τ) (b := b) (H := H') ⟨C', by rw [hwi _ (Nat.le_refl _)]; exact h3⟩
    rw [hwi _ (Nat.le_refl _)] at this
    exact this
theorem s_filtO {b : Bs} {Γ : List Sl} {α : Type} {kk : Nat} {z0 : Option Addr} {g : TG} {tt : TT} {te : TE} {vs : List Nat} {ks : List α} {φ : α → PyData} (hk0 : Γ[kk]? = some (.ownq z0 (ks.map φ))) (hkv : kk ∉ vs) (hkw : (wipeG Γ vs)[kk]? = some (.ownq z0 (ks.map φ))) (G' : α → List Sl) (c : α → Bool) (f : α → PyData)
    (hg : ∀ k ∈ ks, EvGv b g (φ k) vs (wipeG Γ vs) (G' k)) (ht : ∀ k ∈ ks, EvT b tt (G' k) (G' k) (c k)) (he : ∀ k ∈ ks, c k = true → EvS b te (G' k) (G' k) (.dat (f k))) (hs : ∀ k ∈ ks, wipeG (G' k) vs = wipeG (wipeG Γ vs) vs) (hw : wipeG (wipeG Γ vs) vs = wipeG Γ vs) (hz : ks.length ≤ 100000) :
    EvS b (tLc (iList b.K (tVar kk)) g tt te vs) Γ (wipeG Γ vs) (.own ((ks.filter c).map f)) := by
  cases ks with
  | nil =>
    have := s_lcO (b := b) (tt := tt) (te := te) (g := g) (vs := vs) hk0 hkv (fun _ => wipeG Γ vs) (fun _ => []) (fun _ => []) (fun _ => true) (fun _ => .none) rfl (fun _ _ => hkw) (fun i di e => by simp at e) (fun i di e => by simp at e) (fun i di e => by simp at e) (fun i hi => by simp at hi) (by simp)
    simpa using this
  | cons k0 kr =>
    have hget : ∀ i di, ((k0 :: kr).map φ)[i]? = some di → ∃ k, (k0 :: kr)[i]? = some k ∧ φ k = di := fun i di e => by
      rw [List.getElem?_map] at e
      obtain ⟨k, hk, r⟩ := Option.map_eq_some_iff.mp e
      exact ⟨k, hk, r⟩
    have hD : ∀ i k, (k0 :: kr)[i]? = some k → (k0 :: kr).getD i k0 = k := fun i k e => by rw [List.getD_eq_getElem?_getD, e]; rfl
    have := s_lcO (b := b) (tt := tt) (te := te) (g := g) (vs := vs) hk0 hkv (fun _ => wipeG Γ vs) (fun i => G' ((k0 :: kr).getD i k0)) (fun i => G' ((k0 :: kr).getD i k0)) (fun i => c ((k0 :: kr).getD i k0)) (fun i => f ((k0 :: kr).getD i k0)) rfl (fun _ _ => hkw)
      (fun i di e => by obtain ⟨k, hk, rfl⟩ := hget i di e; rw [hD i k hk]; exact hg k (List.mem_of_getElem? hk))
      (fun i di e => by obtain ⟨k, hk, rfl⟩ := hget i di e; rw [hD i k hk]; exact ht k (List.mem_of_getElem? hk))
      (fun i di e hc => by obtain ⟨k, hk, rfl⟩ := hget i di e; rw [hD i k hk] at hc ⊢; exact he k (List.mem_of_getElem? hk) hc)
      (fun i hi => by
        have hi' : i < (k0 :: kr).length := by simpa using hi
        have hk : (k0 :: kr)[i]? = some (k0 :: kr)[i] := by simp [hi']
        refine ⟨?_, hw⟩
        rw [hD i _ hk]
        simp only [ite_self]
        exact hs _ (List.getElem_mem hi')) (by simpa using hz)
    refine s_is this ?_
    congr 1
    rw [List.length_map]
    exact filt_getD (k0 :: kr) k0 c f
end G
namespace G
open PySem PySem.Spec PyProof.Rows L2
open Evl (Ex ex_rd ex_l ex_t rMax2)
/-! ### the ascending list of different numbers -/
def insA (x : Int) : List Int → List Int
  | [] => [x]
  | y :: ys => if x < y then x :: y :: ys else if x = y then y :: ys else y :: insA x ys
def onceF : List Int → List Int
  | [] => []
  | x :: xs => insA x (onceF xs)
theorem insA_mem (x k : Int) : ∀ xs, k ∈ insA x xs ↔ k = x ∨ k ∈ xs
  | [] => by simp [insA]
  | y :: ys => by
    unfold insA
    split
    · simp
    · split
      · rename_i h; subst h; simp
      · rw [List.mem_cons, insA_mem x k ys, List.mem_cons]
        constructor
        · rintro (h | h | h)
          · exact .inr (.inl h)
          · exact .inl h
          · exact .inr (.inr h)
        · rintro (h | h | h)
          · exact .inr (.inl h)
          · exact .inl h
          · exact .inr (.inr h)
theorem insA_asc (x : Int) : ∀ xs : List Int, xs.Pairwise (· < ·) → (insA x xs).Pairwise (· < ·)
  | [], _ => by simp [insA]
  | y :: ys, h => by
    have a := List.pairwise_cons.mp h
    unfold insA
    split
    · rename_i hl
      refine List.pairwise_cons.mpr ⟨fun z hz => ?_, h⟩
      rcases List.mem_cons.mp hz with e | m
      · omega
      · have := a.1 z m; omega
    · split
      · exact h
      · refine List.pairwise_cons.mpr ⟨fun z hz => ?_, insA_asc x ys a.2⟩
        rcases (insA_mem x z ys).mp hz with e | m
        · omega
        · exact a.1 z m
theorem once_mem (k : Int) : ∀ xs, k ∈ onceF xs ↔ k ∈ xs
  | [] => by simp [onceF]
  | x :: xs => by rw [onceF, insA_mem, once_mem k xs, List.mem_cons]
theorem once_asc : ∀ xs : List Int, (onceF xs).Pairwise (· < ·)
  | [] => .nil
  | x :: xs => insA_asc x _ (once_asc xs)
/-! ### what the defs give -/
structure Rc where
  p : Int
  n : Int
  c : List Int
  lo : List Int
  st : List Int
def Rc.d (r : Rc) : PyData := .tuple [.int r.p, .int r.n, ti r.c, ti r.lo, ti r.st]
def cov (r : Rc) (c : List Int) : Bool := decide (r.n ≤ c.getD r.p.toNat 0)
def same (a b : Rc) : Bool := decide (a.p = b.p) && decide (a.n = b.n)
def bef (a b : Rc) : Bool := cov a b.c && !same a b
def unord (a b : Rc) : Bool := if a.p = b.p then false else !bef a b && !bef b a
def Rc.fits (r : Rc) (c : List Int) : Prop := 0 ≤ r.p ∧ r.p < c.length
def gr_covers (ds : List PyData) (s : Sl) : Prop := ∃ (xs : List Int) (m n : Int), 0 ≤ m ∧ m < xs.length ∧ ds = [ti xs, .int m, .int n] ∧ s = .dat (.bool (decide (n ≤ xs.getD m.toNat 0)))
def gr_each_once (ds : List PyData) (s : Sl) : Prop := ∃ xs : List Int, xs.length < 64 ∧ ds = [li xs] ∧ s = .dat (ti (onceF xs))
def gr_make_record (ds : List PyData) (s : Sl) : Prop := ∃ (p n : Int) (c lo st : List Int), lo.length < 64 ∧ st.length < 64 ∧ ds = [.int p, .int n, ti c, li lo, li st] ∧ s = .dat (Rc.d ⟨p, n, c, onceF lo, onceF st⟩)
def gr_is_same (ds : List PyData) (s : Sl) : Prop := ∃ a b : Rc, ds = [a.d, b.d] ∧ s = .dat (.bool (same a b))
def gr_is_covered (ds : List PyData) (s : Sl) : Prop := ∃ (a : Rc) (c : List Int), a.fits c ∧ ds = [a.d, ti c] ∧ s = .dat (.bool (cov a c))
def gr_is_before (ds : List PyData) (s : Sl) : Prop := ∃ a b : Rc, a.fits b.c ∧ ds = [a.d, b.d] ∧ s = .dat (.bool (bef a b))
def gr_are_unordered (ds : List PyData) (s : Sl) : Prop := ∃ a b : Rc, a.fits b.c ∧ b.fits a.c ∧ ds = [a.d, b.d] ∧ s = .dat (.bool (unord a b))
def gr__law_cell (ds : List PyData) (s : Sl) : Prop := ∃ (ns : List Int) (k : Int), 0 ≤ k ∧ ds = [li ns, .int k] ∧ s = .dat (.int (ns.getD k.toNat 0))
def digStep (cell : Int) (st : List Int × Int) (b : Int) : List Int × Int :=
  if 10 ^ 18 ≤ cell then (st.1 ++ [st.2 % b], st.2 / b)
  else ((st.1 ++ [((st.2 * 48271 + 1009 * (st.1.length : Int) + 12345) % 2147483647) * ((st.2 * 48271 + 1009 * (st.1.length : Int) + 12345) % 2147483647) % 2147483629 / 13 % b]), (st.2 * 48271 + 1009 * (st.1.length : Int) + 12345) % 2147483647)
def digitsF (cell : Int) (bases : List Int) : List Int := (bases.foldl (digStep cell) ([], cell)).1
def gr__law_digits (ds : List PyData) (s : Sl) : Prop := ∃ (cell : Int) (bs : List Int), (∀ b ∈ bs, 0 < b ∧ b < 2 ^ 62) ∧ bs.length ≤ 100 ∧ ds = [.int cell, li bs] ∧ s = .own ((digitsF cell bs).map .int)
def manyF (ns : List Int) (few many : Int) : Int := if (decide (0 < (ns.length : Int)) && decide (ns.getD 0 0 / 1009 % 5 = 1)) = true then many else few
def gr__law_many (ds : List PyData) (s : Sl) : Prop := ∃ (ns : List Int) (few many : Int), ds = [li ns, .int few, .int many] ∧ s = .dat (.int (manyF ns few many))
def gr__law_clock (ds : List PyData) (s : Sl) : Prop := ∃ (cell m k : Int), 1 ≤ m ∧ m ≤ 4 ∧ 0 < k ∧ k < 2 ^ 62 ∧ ds = [.int cell, .int m, .int k] ∧ s = .dat (ti ((digitsF cell [k, k, k, k]).take m.toNat))
/-! ### the run -/
structure Rw where
  p : Int
  c : List Int
  g : List Int
abbrev gi (g : List Int) (k : Nat) : Int := g.getD k 0
def touF (g : List Int) : List Int := ((List.range 8).filter fun w : Nat => decide ((w : Int) = gi g 3) || (decide (gi g 5 = 1) && decide ((w : Int) = gi g 4))).map fun w : Nat => (w : Int)
def loaF (g : List Int) : List Int := (touF g).filter fun _ => !decide (gi g 2 = 1)
def stoF (g : List Int) : List Int := (touF g).filter fun w => decide (gi g 2 = 1) || (decide (gi g 2 = 2) && decide (w = gi g 3))
def Rw.n (r : Rw) : Int := r.c.getD r.p.toNat 0
def Rw.d (r : Rw) : PyData := .list [.int r.p, .int r.n, ti r.c, li (loaF r.g), li (stoF r.g), .tuple [.int r.p, .int (gi r.g 1), .int (gi r.g 5)]]
abbrev RS := List Rw × List (List Int)
def dgF (cells : List Int) (m : Int) (k : Nat) : List Int := digitsF (cells.getD k 0 + 5 * (k : Int)) [m, m, 4, 8, 8, 3]
def lastRow (q : Int) (rows : List Rw) : Option Rw := (rows.filter fun r => decide (r.p = q)).getLast?
def ownF (rows : List Rw) (c : List Int) (g : List Int) : List Int :=
  let c1 := c.set (gi g 0).toNat (c.getD (gi g 0).toNat 0 + 1)
  if 0 < gi g 5 ∧ gi g 1 ≠ gi g 0 then (match lastRow (gi g 1) rows with | some r => List.zipWith max c1 r.c | none => c1) else c1
def rowStep (g : List Int) (st : RS) : RS :=
  let c := st.2.getD (gi g 0).toNat []
  let rows := st.1 ++ [⟨gi g 0, c, g⟩]
  (rows, st.2.set (gi g 0).toNat (ownF rows c g))
def firstClocks (m : Nat) : List (List Int) := (List.range m).map fun p => (List.range m).map fun q => if p = q then 1 else 0
def runSt (cells : List Int) (m : Int) : Nat → RS
  | 0 => ([], firstClocks m.toNat)
  | k + 1 => rowStep (dgF cells m k) (runSt cells m k)
def runF (cells : List Int) (m : Int) : List Rw := (runSt cells m cells.length).1
def gr__law_run (ds : List PyData) (s : Sl) : Prop := ∃ (cells : List Int) (m : Int), 1 ≤ m ∧ m ≤ 4 ∧ cells.length ≤ 30 ∧ ds = [li cells, .int m] ∧ s = .own ((runF cells m).map Rw.d)
/-! ### the ways -/
structure Wy where
  bf : List (List Int)
  la : List Int
  ta : List Int
def foundF (bf : List (List Int)) (start : Int) : List Int := if 0 ≤ start then start :: bf.getD start.toNat [] else []
def wayStep (k : Nat) (r : Rw) (s : Wy) : Wy :=
  let p := r.p.toNat
  let q := gi r.g 1
  let found := foundF s.bf (s.la.getD p 0) ++ foundF s.bf (s.ta.getD p 0)
  let la := s.la.set p (k : Int)
  ⟨s.bf ++ [onceF found], la, if 0 < gi r.g 5 ∧ q ≠ r.p then (s.ta.set p (-1)).set p (la.getD q.toNat 0) else s.ta.set p (-1)⟩
def waySt (rows : List Rw) (m : Int) : Nat → Wy
  | 0 => ⟨[], List.replicate m.toNat (-1), List.replicate m.toNat (-1)⟩
  | k + 1 => match rows[k]? with
    | some r => wayStep k r (waySt rows m k)
    | none => waySt rows m k
def waysF (rows : List Rw) (m : Int) : List (List Int) := (waySt rows m rows.length).bf
def Rw.good (m : Int) (r : Rw) : Prop := 0 ≤ r.p ∧ r.p < m ∧ 0 ≤ gi r.g 1 ∧ gi r.g 1 < m
def gr__law_ways (ds : List PyData) (s : Sl) : Prop := ∃ (rows : List Rw) (m : Int), 1 ≤ m ∧ m ≤ 4 ∧ rows.length ≤ 30 ∧ (∀ r ∈ rows, r.good m) ∧ ds = [.list (rows.map Rw.d), .int m] ∧ s = .own ((waysF rows m).map li)
def gr_law (ds : List PyData) (s : Sl) : Prop := ∃ ns : List Int, ns.length ≤ 63 ∧ ds = [li ns] ∧ s = .dat (.bool true)
def sp_covers (K : PySem.W.Frag) : Sp := spP K gr_covers
def sp_each_once (K : PySem.W.Frag) : Sp := spP K gr_each_once
def sp_make_record (K : PySem.W.Frag) : Sp := spP K gr_make_record
def sp_is_same (K : PySem.W.Frag) : Sp := spP K gr_is_same
def sp_is_covered (K : PySem.W.Frag) : Sp := spP K gr_is_covered
def sp_is_before (K : PySem.W.Frag) : Sp := spP K gr_is_before
def sp_are_unordered (K : PySem.W.Frag) : Sp := spP K gr_are_unordered
def sp__law_cell (K : PySem.W.Frag) : Sp := spP K gr__law_cell
def sp__law_digits (K : PySem.W.Frag) : Sp := spP K gr__law_digits
def sp__law_many (K : PySem.W.Frag) : Sp := spP K gr__law_many
def sp__law_clock (K : PySem.W.Frag) : Sp := spP K gr__law_clock
def sp__law_run (K : PySem.W.Frag) : Sp := spP K gr__law_run
def sp__law_ways (K : PySem.W.Frag) : Sp := spP K gr__law_ways
def sp_law (K : PySem.W.Frag) : Sp := spP K gr_law
/-! ### the text -/
def topS (i : Nat) : Stmt := PySem.Challenge.pw_commonage_k02_happens_before_is_an_order.main.body.getD i (.Pass ⟨0, 0, 0, 0⟩)
abbrev s_covers : Stmt := topS 1
abbrev N_covers : List Str := ["clock", "machine", "number"]
theorem sc_covers : FnScope N_covers ["clock", "machine", "number"] (defScope s_covers) := ⟨rfl, rfl, rfl, by decide +kernel, rfl, by decide +kernel, by decide +kernel⟩
abbrev s_each_once : Stmt := topS 2
abbrev N_each_once : List Str := ["words"]
theorem sc_each_once : FnScope N_each_once ["words"] (defScope s_each_once) := ⟨rfl, rfl, rfl, by decide +kernel, rfl, by decide +kernel, by decide +kernel⟩
abbrev s_make_record : Stmt := topS 3
abbrev N_make_record : List Str := ["machine", "number", "clock", "loads", "stores"]
theorem sc_make_record : FnScope N_make_record ["machine", "number", "clock", "loads", "stores"] (defScope s_make_record) := ⟨rfl, rfl, rfl, by decide +kernel, rfl, by decide +kernel, by decide +kernel⟩
abbrev s_is_same : Stmt := topS 4
abbrev N_is_same : List Str := ["one", "other"]
theorem sc_is_same : FnScope N_is_same ["one", "other"] (defScope s_is_same) := ⟨rfl, rfl, rfl, by decide +kernel, rfl, by decide +kernel, by decide +kernel⟩
abbrev s_is_covered : Stmt := topS 5
abbrev N_is_covered : List Str := ["record", "clock"]
theorem sc_is_covered : FnScope N_is_covered ["record", "clock"] (defScope s_is_covered) := ⟨rfl, rfl, rfl, by decide +kernel, rfl, by decide +kernel, by decide +kernel⟩
abbrev s_is_before : Stmt := topS 6
abbrev N_is_before : List Str := ["one", "other"]
theorem sc_is_before : FnScope N_is_before ["one", "other"] (defScope s_is_before) := ⟨rfl, rfl, rfl, by decide +kernel, rfl, by decide +kernel, by decide +kernel⟩
abbrev s_are_unordered : Stmt := topS 7
abbrev N_are_unordered : List Str := ["one", "other"]
theorem sc_are_unordered : FnScope N_are_unordered ["one", "other"] (defScope s_are_unordered) := ⟨rfl, rfl, rfl, by decide +kernel, rfl, by decide +kernel, by decide +kernel⟩
abbrev s__law_cell : Stmt := topS 9
abbrev N__law_cell : List Str := ["script", "k"]
theorem sc__law_cell : FnScope N__law_cell ["script", "k"] (defScope s__law_cell) := ⟨rfl, rfl, rfl, by decide +kernel, rfl, by decide +kernel, by decide +kernel⟩
abbrev s__law_digits : Stmt := topS 10
abbrev N__law_digits : List Str := ["cell", "bases", "digits", "rest", "base", "mixed"]
theorem sc__law_digits : FnScope N__law_digits ["cell", "bases"] (defScope s__law_digits) := ⟨rfl, rfl, rfl, by decide +kernel, rfl, by decide +kernel, by decide +kernel⟩
abbrev s__law_many : Stmt := topS 11
abbrev N__law_many : List Str := ["script", "few", "many"]
theorem sc__law_many : FnScope N__law_many ["script", "few", "many"] (defScope s__law_many) := ⟨rfl, rfl, rfl, by decide +kernel, rfl, by decide +kernel, by decide +kernel⟩
abbrev s__law_clock : Stmt := topS 12
abbrev N__law_clock : List Str := ["cell", "machines", "most", "digits"]
theorem sc__law_clock : FnScope N__law_clock ["cell", "machines", "most"] (defScope s__law_clock) := ⟨rfl, rfl, rfl, by decide +kernel, rfl, by decide +kernel, by decide +kernel⟩
abbrev s__law_run : Stmt := topS 13
abbrev N__law_run : List Str := ["cells", "machines", "rows", "clocks", "q", "p", "k", "digits", "touched", "loads", "stores", "own", "seen", "w", "row", "m"]
theorem sc__law_run : FnScope N__law_run ["cells", "machines"] (defScope s__law_run) := ⟨rfl, rfl, rfl, by decide +kernel, rfl, by decide +kernel, by decide +kernel⟩
abbrev s__law_ways : Stmt := topS 14
abbrev N__law_ways : List Str := ["rows", "machines", "before", "last", "taken", "k", "p", "q", "kind", "found", "start"]
theorem sc__law_ways : FnScope N__law_ways ["rows", "machines"] (defScope s__law_ways) := ⟨rfl, rfl, rfl, by decide +kernel, rfl, by decide +kernel, by decide +kernel⟩
abbrev s_law : Stmt := topS 15
abbrev N_law : List Str := ["script", "machines", "cells", "k", "rows", "records", "ways", "n", "told", "free", "row"]
theorem sc_law : FnScope N_law ["script"] (defScope s_law) := ⟨rfl, rfl, rfl, by decide +kernel, rfl, by decide +kernel, by decide +kernel⟩
def tr_covers (K : PySem.W.Frag) : TS :=
(tRet (tOp (rI0 fun i j => .bl (decide (j ≤ i))) (tOp (rIx K) (tVar 0) (tVar 1)) (tVar 2)))
def tr_each_once (K : PySem.W.Frag) : TS :=
(tRet (tCB (rTupOf K) (tCons (tSoSet K (tCons (tVar 0) tNil)) tNil)))
def tr_make_record (K : PySem.W.Frag) : TS :=
(tRet (tTup (tCons (tVar 0) (tCons (tVar 1) (tCons (tVar 2) (tCons (tCall (sp_each_once K) [] E0 (tCons (tVar 3) tNil)) (tCons (tCall (sp_each_once K) [] E0 (tCons (tVar 4) tNil)) tNil)))))))
def tr_is_same (K : PySem.W.Frag) : TS :=
(tRet (tAndV (tOp (rEqD K) (tOp (rIx K) (tVar 0) (tC (.int 0))) (tOp (rIx K) (tVar 1) (tC (.int 0)))) (tOp (rEqD K) (tOp (rIx K) (tVar 0) (tC (.int 1))) (tOp (rIx K) (tVar 1) (tC (.int 1))))))
def tr_is_covered (K : PySem.W.Frag) : TS :=
(tRet (tCall (sp_covers K) [] E0 (tCons (tVar 1) (tCons (tOp (rIx K) (tVar 0) (tC (.int 0))) (tCons (tOp (rIx K) (tVar 0) (tC (.int 1))) tNil)))))
def tr_is_before (K : PySem.W.Frag) : TS :=
(tRet (tAndV (tCall (sp_is_covered K) [] E0 (tCons (tVar 0) (tCons (tOp (rIx K) (tVar 1) (tC (.int 2))) tNil))) (tNotV (tCall (sp_is_same K) [] E0 (tCons (tVar 0) (tCons (tVar 1) tNil))))))
def tr_are_unordered (K : PySem.W.Frag) : TS :=
(tSeq (tIfS (tTest (tOp (rEqD K) (tOp (rIx K) (tVar 0) (tC (.int 0))) (tOp (rIx K) (tVar 1) (tC (.int 0)))))
(tRet (tC (.bl false)))
tNext)
(tRet (tAndV (tNotV (tCall (sp_is_before K) [] E0 (tCons (tVar 0) (tCons (tVar 1) tNil)))) (tNotV (tCall (sp_is_before K) [] E0 (tCons (tVar 1) (tCons (tVar 0) tNil)))))))
def tr__law_cell (K : PySem.W.Frag) : TS :=
(tSeq (tIfS (tTest (tOp (rI0 fun i j => .bl (decide (i < j))) (tVar 1) (tCB (rLen K) (tCons (tVar 0) tNil))))
(tRet (tCB rInt1 (tCons (tOp (rIx K) (tVar 0) (tVar 1)) tNil)))
tNext)
(tRet (tC (.int 0))))
def tr__law_digits (K : PySem.W.Frag) : TS :=
(tSeq (tAsg (tLst tNil) (gName 2))
(tSeq (tAsg (tCB rInt1 (tCons (tVar 0) tNil)) (gName 3))
(tSeq (tFor (iList K (tVar 1)) (gName 4)
(tIfS (tTest (tOp (rI0 fun i j => .bl (decide (j ≤ i))) (tVar 0) (tOp (rI CPow fun i j => .int (i ^ j.toNat)) (tC (.int 10)) (tC (.int 18)))))
(tSeq (tDrop (tBM K "list" rAppend (tVar 2) (tCons (tOp (rI (fun _ j => 0 < j) fun i j => .int (i % j)) (tCB rInt1 (tCons (tVar 3) tNil)) (tVar 4)) tNil)))
(tAsg (tOp (rI CDivW fun i j => .int (i / j)) (tVar 3) (tVar 4)) (gName 3)))
(tSeq (tAsg (tOp (rI (fun _ j => 0 < j) fun i j => .int (i % j)) (tOp (rI0 fun i j => .int (i + j)) (tOp (rI0 fun i j => .int (i + j)) (tOp (rI (fun i j => CMul i j ∨ CMulW i j) fun i j => .int (i * j)) (tCB rInt1 (tCons (tVar 3) tNil)) (tC (.int 48271))) (tOp (rI (fun i j => CMul i j ∨ CMulW i j) fun i j => .int (i * j)) (tC (.int 1009)) (tCB (rLen K) (tCons (tVar 2) tNil)))) (tC (.int 12345))) (tC (.int 2147483647))) (gName 3))
(tSeq (tAsg (tOp (rI (fun _ j => 0 < j) fun i j => .int (i % j)) (tOp (rI (fun i j => CMul i j ∨ CMulW i j) fun i j => .int (i * j)) (tCB rInt1 (tCons (tVar 3) tNil)) (tCB rInt1 (tCons (tVar 3) tNil))) (tC (.int 2147483629))) (gName 5))
(tDrop (tBM K "list" rAppend (tVar 2) (tCons (tOp (rI (fun _ j => 0 < j) fun i j => .int (i % j)) (tOp (rI CDivW fun i j => .int (i / j)) (tCB rInt1 (tCons (tVar 5) tNil)) (tC (.int 13))) (tVar 4)) tNil)))))))
(tRet (tVar 2)))))
def tr__law_many (K : PySem.W.Frag) : TS :=
(tSeq (tIfS (tAnd (tTest (tOp (rI0 fun i j => .bl (decide (j < i))) (tCB (rLen K) (tCons (tVar 0) tNil)) (tC (.int 0)))) (tTest (tOp (rEqD K) (tOp (rI (fun _ j => 0 < j) fun i j => .int (i % j)) (tOp (rI CDivW fun i j => .int (i / j)) (tCB rInt1 (tCons (tOp (rIx K) (tVar 0) (tC (.int 0))) tNil)) (tC (.int 1009))) (tC (.int 5))) (tC (.int 1)))))
(tRet (tVar 2))
tNext)
(tRet (tVar 1)))
def tr__law_clock (K : PySem.W.Frag) : TS :=
(tSeq (tAsg (tCall (sp__law_digits K) [] E0 (tCons (tVar 0) (tCons (tLst (tCons (tVar 2) (tCons (tVar 2) (tCons (tVar 2) (tCons (tVar 2) tNil))))) tNil))) (gName 3))
(tRet (tCB (rTupOf K) (tCons (tSl (rSlL K) (tVar 3) tNoPart (tPart (tVar 1))) tNil))))
def tr__law_run (K : PySem.W.Frag) : TS :=
(tSeq (tAsg (tLst tNil) (gName 2))
(tSeq (tAsg (tLc (iRng1 (tCons (tVar 1) tNil)) (gName 5) tYes (tCB (rTupOf K) (tCons (tLc (iRng1 (tCons (tVar 1) tNil)) (gName 4) tYes (tCB rInt1 (tCons (tOp (rEqD K) (tVar 5) (tVar 4)) tNil)) [4]) tNil)) [5]) (gName 3))
(tSeq (tFor (iRng1 (tCons (tCB (rLen K) (tCons (tVar 0) tNil)) tNil)) (gName 6)
(tSeq (tAsg (tCall (sp__law_digits K) [] E0 (tCons (tOp (rI0 fun i j => .int (i + j)) (tOp (rIx K) (tVar 0) (tVar 6)) (tOp (rI (fun i j => CMul i j ∨ CMulW i j) fun i j => .int (i * j)) (tC (.int 5)) (tVar 6))) (tCons (tLst (tCons (tVar 1) (tCons (tVar 1) (tCons (tC (.int 4)) (tCons (tC (.int 8)) (tCons (tC (.int 8)) (tCons (tC (.int 3)) tNil))))))) tNil))) (gName 7))
(tSeq (tAsg (tTup (tCons (tOp (rIx K) (tVar 7) (tC (.int 0))) (tCons (tOp (rIx K) (tVar 7) (tC (.int 1))) tNil))) (gTup K 2 (gCons (gName 5) (gCons (gName 4) gNil))))
(tSeq (tAsg (tLc (iRng1 (tCons (tC (.int 8)) tNil)) (gName 13) (tOr (tTest (tOp (rEqD K) (tVar 13) (tOp (rIx K) (tVar 7) (tC (.int 3))))) (tAnd (tTest (tOp (rEqD K) (tOp (rIx K) (tVar 7) (tC (.int 5))) (tC (.int 1)))) (tTest (tOp (rEqD K) (tVar 13) (tOp (rIx K) (tVar 7) (tC (.int 4))))))) (tVar 13) [13]) (gName 8))
(tSeq (tAsg (tLc (iList K (tVar 8)) (gName 13) (tTest (tOp (rNeD K) (tOp (rIx K) (tVar 7) (tC (.int 2))) (tC (.int 1)))) (tVar 13) [13]) (gName 9))
(tSeq (tAsg (tLc (iList K (tVar 8)) (gName 13) (tOr (tTest (tOp (rEqD K) (tOp (rIx K) (tVar 7) (tC (.int 2))) (tC (.int 1)))) (tAnd (tTest (tOp (rEqD K) (tOp (rIx K) (tVar 7) (tC (.int 2))) (tC (.int 2)))) (tTest (tOp (rEqD K) (tVar 13) (tOp (rIx K) (tVar 7) (tC (.int 3))))))) (tVar 13) [13]) (gName 10))
(tSeq (tDrop (tBM K "list" rAppend (tVar 2) (tCons (tLst (tCons (tVar 5) (tCons (tOp (rIx K) (tOp (rIx K) (tVar 3) (tVar 5)) (tVar 5)) (tCons (tOp (rIx K) (tVar 3) (tVar 5)) (tCons (tVar 9) (tCons (tVar 10) (tCons (tTup (tCons (tVar 5) (tCons (tVar 4) (tCons (tOp (rIx K) (tVar 7) (tC (.int 5))) tNil)))) tNil))))))) tNil)))
(tSeq (tAsg (tCB (rListOf K) (tCons (tOp (rIx K) (tVar 3) (tVar 5)) tNil)) (gName 11))
(tSeq (tAsg (tOp (rI0 fun i j => .int (i + j)) (tOp (rIx K) (tVar 11) (tVar 5)) (tC (.int 1))) (gSub (tVar 11) (tVar 5) rSetL))
(tSeq (tIfS (tAnd (tTest (tOp (rI0 fun i j => .bl (decide (j < i))) (tOp (rIx K) (tVar 7) (tC (.int 5))) (tC (.int 0)))) (tTest (tOp (rNeD K) (tVar 4) (tVar 5))))
(tSeq (tAsg (tLc (iList K (tVar 2)) (gName 14) (tTest (tOp (rEqD K) (tOp (rIx K) (tVar 14) (tC (.int 0))) (tVar 4))) (tVar 14) [14]) (gName 12))
(tIfS (tTest (tOp (rNeD K) (tVar 12) (tLst tNil)))
(tAsg (tLc (iRng1 (tCons (tVar 1) tNil)) (gName 15) tYes (tCB rMax2 (tCons (tOp (rIx K) (tVar 11) (tVar 15)) (tCons (tOp (rIx K) (tOp (rIx K) (tOp (rIx K) (tVar 12) (tUn (rU fun i => .int (-i)) (tC (.int 1)))) (tC (.int 2))) (tVar 15)) tNil))) [15]) (gName 11))
tNext))
tNext)
(tAsg (tCB (rTupOf K) (tCons (tVar 11) tNil)) (gSub (tVar 3) (tVar 5) rSetL))))))))))))
(tRet (tVar 2)))))
def tr__law_ways (K : PySem.W.Frag) : TS :=
(tSeq (tAsg (tLst tNil) (gName 2))
(tSeq (tAsg (tOp rRep (tLst (tCons (tUn (rU fun i => .int (-i)) (tC (.int 1))) tNil)) (tVar 1)) (gName 3))
(tSeq (tAsg (tOp rRep (tLst (tCons (tUn (rU fun i => .int (-i)) (tC (.int 1))) tNil)) (tVar 1)) (gName 4))
(tSeq (tFor (iRng1 (tCons (tCB (rLen K) (tCons (tVar 0) tNil)) tNil)) (gName 5)
(tSeq (tAsg (tOp (rIx K) (tOp (rIx K) (tVar 0) (tVar 5)) (tC (.int 5))) (gTup K 3 (gCons (gName 6) (gCons (gName 7) (gCons (gName 8) gNil)))))
(tSeq (tAsg (tLst tNil) (gName 9))
(tSeq (tFor (iTup K (tTup (tCons (tOp (rIx K) (tVar 3) (tVar 6)) (tCons (tOp (rIx K) (tVar 4) (tVar 6)) tNil)))) (gName 10)
(tIfS (tTest (tOp (rI0 fun i j => .bl (decide (j ≤ i))) (tVar 10) (tC (.int 0))))
(tAsg (tOp (rCatS K) (tOp (rCatS K) (tVar 9) (tLst (tCons (tVar 10) tNil))) (tOp (rIx K) (tVar 2) (tVar 10))) (gName 9))
tNext))
(tSeq (tDrop (tBM K "list" rAppend (tVar 2) (tCons (tSoSet K (tCons (tVar 9) tNil)) tNil)))
(tSeq (tAsg (tVar 5) (gSub (tVar 3) (tVar 6) rSetL))
(tSeq (tAsg (tUn (rU fun i => .int (-i)) (tC (.int 1))) (gSub (tVar 4) (tVar 6) rSetL))
(tIfS (tAnd (tTest (tOp (rI0 fun i j => .bl (decide (j < i))) (tVar 8) (tC (.int 0)))) (tTest (tOp (rNeD K) (tVar 7) (tVar 6))))
(tAsg (tOp (rIx K) (tVar 3) (tVar 7)) (gSub (tVar 4) (tVar 6) rSetL))
tNext))))))))
(tRet (tVar 2))))))
def tr_law (K : PySem.W.Frag) : TS :=
(tSeq (tAsg (tOp (rI0 fun i j => .int (i + j)) (tC (.int 2)) (tOp (rI (fun _ j => 0 < j) fun i j => .int (i % j)) (tCB rInt1 (tCons (tCall (sp__law_cell K) [] E0 (tCons (tVar 0) (tCons (tC (.int 0)) tNil))) tNil)) (tC (.int 3)))) (gName 1))
(tSeq (tAsg (tLc (iRng1 (tCons (tCB rMin2 (tCons (tCB (rLen K) (tCons (tVar 0) tNil)) (tCons (tCall (sp__law_many K) [] E0 (tCons (tVar 0) (tCons (tC (.int 10)) (tCons (tC (.int 30)) tNil)))) tNil))) tNil)) (gName 3) tYes (tCall (sp__law_cell K) [] E0 (tCons (tVar 0) (tCons (tVar 3) tNil))) [3]) (gName 2))
(tSeq (tAsg (tCall (sp__law_run K) [] E0 (tCons (tVar 2) (tCons (tVar 1) tNil))) (gName 4))
(tSeq (tAsg (tLc (iList K (tVar 4)) (gName 10) tYes (tCall (sp_make_record K) [] E0 (tCons (tOp (rIx K) (tVar 10) (tC (.int 0))) (tCons (tOp (rIx K) (tVar 10) (tC (.int 1))) (tCons (tOp (rIx K) (tVar 10) (tC (.int 2))) (tCons (tOp (rIx K) (tVar 10) (tC (.int 3))) (tCons (tOp (rIx K) (tVar 10) (tC (.int 4))) tNil)))))) [10]) (gName 5))
(tSeq (tAsg (tCall (sp__law_ways K) [] E0 (tCons (tVar 4) (tCons (tVar 1) tNil))) (gName 6))
(tSeq (tFor (iRng1 (tCons (tCB (rLen K) (tCons (tVar 5) tNil)) tNil)) (gName 3)
(tFor (iRng1 (tCons (tCB (rLen K) (tCons (tVar 5) tNil)) tNil)) (gName 7)
(tSeq (tAsg (tCall (sp_is_before K) [] E0 (tCons (tOp (rIx K) (tVar 5) (tVar 7)) (tCons (tOp (rIx K) (tVar 5) (tVar 3)) tNil))) (gName 8))
(tSeq (tIfS (tOr (tNot (tB (tCB (rIsi K) (tCons (tVar 8) (tCons (tC (.ty "bool")) tNil))))) (tTest (tOp (rNeD K) (tVar 8) (tOp (rIn K false) (tVar 7) (tOp (rIx K) (tVar 6) (tVar 3))))))
(tRet (tC (.bl false)))
tNext)
(tSeq (tAsg (tCall (sp_are_unordered K) [] E0 (tCons (tOp (rIx K) (tVar 5) (tVar 7)) (tCons (tOp (rIx K) (tVar 5) (tVar 3)) tNil))) (gName 9))
(tIfS (tTest (tOp (rNeD K) (tVar 9) (tAndV (tOp (rNeD K) (tVar 7) (tVar 3)) (tAndV (tOp (rIn K true) (tVar 7) (tOp (rIx K) (tVar 6) (tVar 3))) (tOp (rIn K true) (tVar 3) (tOp (rIx K) (tVar 6) (tVar 7)))))))
(tRet (tC (.bl false)))
tNext))))))
(tRet (tC (.bl true)))))))))
/-! ### what the top has left -/
structure Fx (K : PySem.W.Frag) (mg : Str → Option Value) where
  a_covers : Addr
  d_covers : FuncData
  F_covers : Fun K "covers" "covers" s_covers a_covers d_covers
  b_covers : Binds K d_covers ["clock", "machine", "number"] []
  g_covers : mg "covers" = some (.ref a_covers)
  a_each_once : Addr
  d_each_once : FuncData
  F_each_once : Fun K "each_once" "each_once" s_each_once a_each_once d_each_once
  b_each_once : Binds K d_each_once ["words"] []
  g_each_once : mg "each_once" = some (.ref a_each_once)
  a_make_record : Addr
  d_make_record : FuncData
  F_make_record : Fun K "make_record" "make_record" s_make_record a_make_record d_make_record
  b_make_record : Binds K d_make_record ["machine", "number", "clock", "loads", "stores"] []
  g_make_record : mg "make_record" = some (.ref a_make_record)
  a_is_same : Addr
  d_is_same : FuncData
  F_is_same : Fun K "is_same" "is_same" s_is_same a_is_same d_is_same
  b_is_same : Binds K d_is_same ["one", "other"] []
  g_is_same : mg "is_same" = some (.ref a_is_same)
  a_is_covered : Addr
  d_is_covered : FuncData
  F_is_covered : Fun K "is_covered" "is_covered" s_is_covered a_is_covered d_is_covered
  b_is_covered : Binds K d_is_covered ["record", "clock"] []
  g_is_covered : mg "is_covered" = some (.ref a_is_covered)
  a_is_before : Addr
  d_is_before : FuncData
  F_is_before : Fun K "is_before" "is_before" s_is_before a_is_before d_is_before
  b_is_before : Binds K d_is_before ["one", "other"] []
  g_is_before : mg "is_before" = some (.ref a_is_before)
  a_are_unordered : Addr
  d_are_unordered : FuncData
  F_are_unordered : Fun K "are_unordered" "are_unordered" s_are_unordered a_are_unordered d_are_unordered
  b_are_unordered : Binds K d_are_unordered ["one", "other"] []
  g_are_unordered : mg "are_unordered" = some (.ref a_are_unordered)
  a__law_cell : Addr
  d__law_cell : FuncData
  F__law_cell : Fun K "_law_cell" "_law_cell" s__law_cell a__law_cell d__law_cell
  b__law_cell : Binds K d__law_cell ["script", "k"] []
  g__law_cell : mg "_law_cell" = some (.ref a__law_cell)
  a__law_digits : Addr
  d__law_digits : FuncData
  F__law_digits : Fun K "_law_digits" "_law_digits" s__law_digits a__law_digits d__law_digits
  b__law_digits : Binds K d__law_digits ["cell", "bases"] []
  g__law_digits : mg "_law_digits" = some (.ref a__law_digits)
  a__law_many : Addr
  d__law_many : FuncData
  F__law_many : Fun K "_law_many" "_law_many" s__law_many a__law_many d__law_many
  b__law_many : Binds K d__law_many ["script", "few", "many"] []
  g__law_many : mg "_law_many" = some (.ref a__law_many)
  a__law_clock : Addr
  d__law_clock : FuncData
  F__law_clock : Fun K "_law_clock" "_law_clock" s__law_clock a__law_clock d__law_clock
  b__law_clock : Binds K d__law_clock ["cell", "machines", "most"] []
  g__law_clock : mg "_law_clock" = some (.ref a__law_clock)
  a__law_run : Addr
  d__law_run : FuncData
  F__law_run : Fun K "_law_run" "_law_run" s__law_run a__law_run d__law_run
  b__law_run : Binds K d__law_run ["cells", "machines"] []
  g__law_run : mg "_law_run" = some (.ref a__law_run)
  a__law_ways : Addr
  d__law_ways : FuncData
  F__law_ways : Fun K "_law_ways" "_law_ways" s__law_ways a__law_ways d__law_ways
  b__law_ways : Binds K d__law_ways ["rows", "machines"] []
  g__law_ways : mg "_law_ways" = some (.ref a__law_ways)
  a_law : Addr
  d_law : FuncData
  F_law : Fun K "law" "law" s_law a_law d_law
  b_law : Binds K d_law ["script"] []
  g_law : mg "law" = some (.ref a_law)
  m_bool : mg "bool" = none
  m_int : mg "int" = none
  m_isinstance : mg "isinstance" = none
  m_len : mg "len" = none
  m_list : mg "list" = none
  m_max : mg "max" = none
  m_min : mg "min" = none
  m_range : mg "range" = none
  m_set : mg "set" = none
  m_sorted : mg "sorted" = none
  m_tuple : mg "tuple" = none
section
variable {P : Program} {w : World} {K : PySem.W.Frag} {mg : Str → Option Value} {base : Heap}
theorem ps_covers (Z : Fx K mg)  {cdv : Value} {A : Around} {outer : List Env} {s : Shared} {H : Hp} {E : XK} (hr : Room 0 (A.deeper (envOfC "covers" (defScope s_covers) s.heap.objs.size Z.a_covers cdv))) :
    PSs (cxOf CX0 P w K mg base N_covers "covers" (defScope s_covers) Z.a_covers cdv A outer s H E).nox (defBody s_covers) (tr_covers K) :=
  (pss_one (ps_ret (pe_cmpR op_ge (pe_ix ix_seq (pv 0) (pv 1) (fun _ _ => rfl)) (pv 2) (nomark _))))
theorem ps_each_once (Z : Fx K mg)  {cdv : Value} {A : Around} {outer : List Env} {s : Shared} {H : Hp} {E : XK} (hr : Room 0 (A.deeper (envOfC "each_once" (defScope s_each_once) s.heap.objs.size Z.a_each_once cdv))) :
    PSs (cxOf CX0 P w K mg base N_each_once "each_once" (defScope s_each_once) Z.a_each_once cdv A outer s H E).nox (defBody s_each_once) (tr_each_once K) :=
  (pss_one (ps_ret (pe_callTy cr_tup (by rfl) Z.m_tuple (by decide +kernel) (pa_cons (pe_soSet rfl (by rfl) Z.m_sorted (by rfl) Z.m_set (pa_cons (pv 0) pa_nil)) pa_nil))))
theorem ps_make_record (Z : Fx K mg) (G_each_once : FnOk P w K mg base CX0 1 Z.a_each_once Z.d_each_once ["words"] (sp_each_once K)) {cdv : Value} {A : Around} {outer : List Env} {s : Shared} {H : Hp} {E : XK} (hr : Room 1 (A.deeper (envOfC "make_record" (defScope s_make_record) s.heap.objs.size Z.a_make_record cdv))) :
    PSs (cxOf CX0 P w K mg base N_make_record "make_record" (defScope s_make_record) Z.a_make_record cdv A outer s H E).nox (defBody s_make_record) (tr_make_record K) :=
  (pss_one (ps_ret (pe_tup (pa_cons (pv 0) (pa_cons (pv 1) (pa_cons (pv 2) (pa_cons (pe_call (G_each_once) (hr.mono (by decide)) (by rfl) Z.g_each_once Z.F_each_once.kp Z.b_each_once .nil pass0 (pa_cons (pv 3) pa_nil)) (pa_cons (pe_call (G_each_once) (hr.mono (by decide)) (by rfl) Z.g_each_once Z.F_each_once.kp Z.b_each_once .nil pass0 (pa_cons (pv 4) pa_nil)) pa_nil))))))))
theorem ps_is_same (Z : Fx K mg)  {cdv : Value} {A : Around} {outer : List Env} {s : Shared} {H : Hp} {E : XK} (hr : Room 0 (A.deeper (envOfC "is_same" (defScope s_is_same) s.heap.objs.size Z.a_is_same cdv))) :
    PSs (cxOf CX0 P w K mg base N_is_same "is_same" (defScope s_is_same) Z.a_is_same cdv A outer s H E).nox (defBody s_is_same) (tr_is_same K) :=
  (pss_one (ps_ret (pe_and (pe_cmpR (op_eqD hr.units) (pe_ix ix_seq (pv 0) pe_int (fun _ _ => rfl)) (pe_ix ix_seq (pv 1) pe_int (fun _ _ => rfl)) (nomark _)) (pe_one (pe_cmpR (op_eqD hr.units) (pe_ix ix_seq (pv 0) pe_int (fun _ _ => rfl)) (pe_ix ix_seq (pv 1) pe_int (fun _ _ => rfl)) (nomark _))))))
theorem ps_is_covered (Z : Fx K mg) (G_covers : FnOk P w K mg base CX0 1 Z.a_covers Z.d_covers ["clock", "machine", "number"] (sp_covers K)) {cdv : Value} {A : Around} {outer : List Env} {s : Shared} {H : Hp} {E : XK} (hr : Room 1 (A.deeper (envOfC "is_covered" (defScope s_is_covered) s.heap.objs.size Z.a_is_covered cdv))) :
    PSs (cxOf CX0 P w K mg base N_is_covered "is_covered" (defScope s_is_covered) Z.a_is_covered cdv A outer s H E).nox (defBody s_is_covered) (tr_is_covered K) :=
  (pss_one (ps_ret (pe_call (G_covers) (hr.mono (by decide)) (by rfl) Z.g_covers Z.F_covers.kp Z.b_covers .nil pass0 (pa_cons (pv 1) (pa_cons (pe_ix ix_seq (pv 0) pe_int (fun _ _ => rfl)) (pa_cons (pe_ix ix_seq (pv 0) pe_int (fun _ _ => rfl)) pa_nil))))))
theorem ps_is_before (Z : Fx K mg) (G_is_covered : FnOk P w K mg base CX0 2 Z.a_is_covered Z.d_is_covered ["record", "clock"] (sp_is_covered K)) (G_is_same : FnOk P w K mg base CX0 1 Z.a_is_same Z.d_is_same ["one", "other"] (sp_is_same K)) {cdv : Value} {A : Around} {outer : List Env} {s : Shared} {H : Hp} {E : XK} (hr : Room 2 (A.deeper (envOfC "is_before" (defScope s_is_before) s.heap.objs.size Z.a_is_before cdv))) :
    PSs (cxOf CX0 P w K mg base N_is_before "is_before" (defScope s_is_before) Z.a_is_before cdv A outer s H E).nox (defBody s_is_before) (tr_is_before K) :=
  (pss_one (ps_ret (pe_and (pe_call (G_is_covered) (hr.mono (by decide)) (by rfl) Z.g_is_covered Z.F_is_covered.kp Z.b_is_covered .nil pass0 (pa_cons (pv 0) (pa_cons (pe_ix ix_seq (pv 1) pe_int (fun _ _ => rfl)) pa_nil))) (pe_one (pe_not (pe_call (G_is_same) (hr.mono (by decide)) (by rfl) Z.g_is_same Z.F_is_same.kp Z.b_is_same .nil pass0 (pa_cons (pv 0) (pa_cons (pv 1) pa_nil))))))))
theorem ps_are_unordered (Z : Fx K mg) (G_is_before : FnOk P w K mg base CX0 3 Z.a_is_before Z.d_is_before ["one", "other"] (sp_is_before K)) {cdv : Value} {A : Around} {outer : List Env} {s : Shared} {H : Hp} {E : XK} (hr : Room 3 (A.deeper (envOfC "are_unordered" (defScope s_are_unordered) s.heap.objs.size Z.a_are_unordered cdv))) :
    PSs (cxOf CX0 P w K mg base N_are_unordered "are_unordered" (defScope s_are_unordered) Z.a_are_unordered cdv A outer s H E).nox (defBody s_are_unordered) (tr_are_unordered K) :=
  (pss_cons (ps_if (pt_cmpR (op_eqD hr.units) (pe_ix ix_seq (pv 0) pe_int (fun _ _ => rfl)) (pe_ix ix_seq (pv 1) pe_int (fun _ _ => rfl)) (nomark _))
(pss_one (ps_ret pe_bl))
pss_nil)
(pss_one (ps_ret (pe_and (pe_not (pe_call (G_is_before) (hr.mono (by decide)) (by rfl) Z.g_is_before Z.F_is_before.kp Z.b_is_before .nil pass0 (pa_cons (pv 0) (pa_cons (pv 1) pa_nil)))) (pe_one (pe_not (pe_call (G_is_before) (hr.mono (by decide)) (by rfl) Z.g_is_before Z.F_is_before.kp Z.b_is_before .nil pass0 (pa_cons (pv 1) (pa_cons (pv 0) pa_nil)))))))))
theorem ps__law_cell (Z : Fx K mg)  {cdv : Value} {A : Around} {outer : List Env} {s : Shared} {H : Hp} {E : XK} (hr : Room 0 (A.deeper (envOfC "_law_cell" (defScope s__law_cell) s.heap.objs.size Z.a__law_cell cdv))) :
    PSs (cxOf CX0 P w K mg base N__law_cell "_law_cell" (defScope s__law_cell) Z.a__law_cell cdv A outer s H E).nox (defBody s__law_cell) (tr__law_cell K) :=
  (pss_cons (ps_if (pt_cmpR op_lt (pv 1) (pe_callB cr_len (by rfl) Z.m_len (by decide +kernel) (pa_cons (pv 0) pa_nil)) (nomark _))
(pss_one (ps_ret (pe_callTy cr_int1 (by rfl) Z.m_int (by decide +kernel) (pa_cons (pe_ix ix_seq (pv 0) (pv 1) (fun _ _ => rfl)) pa_nil))))
pss_nil)
(pss_one (ps_ret pe_int)))
theorem ps__law_digits (Z : Fx K mg)  {cdv : Value} {A : Around} {outer : List Env} {s : Shared} {H : Hp} {E : XK} (hr : Room 0 (A.deeper (envOfC "_law_digits" (defScope s__law_digits) s.heap.objs.size Z.a__law_digits cdv))) :
    PSs (cxOf CX0 P w K mg base N__law_digits "_law_digits" (defScope s__law_digits) Z.a__law_digits cdv A outer s H E).nox (defBody s__law_digits) (tr__law_digits K) :=
  (pss_cons (ps_set (i := 2) sc__law_digits.nd rfl (.inl rfl) (pe_lst pa_nil))
(pss_cons (ps_set (i := 3) sc__law_digits.nd rfl (.inl rfl) (pe_callTy cr_int1 (by rfl) Z.m_int (by decide +kernel) (pa_cons (pv 0) pa_nil)))
(pss_cons (ps_for PassesOwn.never rfl (pi_list (pv 1)) (pg_name (i := 4) sc__law_digits.nd rfl (.inl rfl))
(pss_one (ps_if (pt_cmpR op_ge (pv 0) (pe_op op_pow pe_int pe_int) (nomark _))
(pss_cons (ps_expr (pe_bm PySem.F.plainAttrs_list PySem.F.slot_list_append PySem.F.type_list_append mt_append (pv 2) (pa_cons (pe_op op_mod (pe_callTy cr_int1 (by rfl) Z.m_int (by decide +kernel) (pa_cons (pv 3) pa_nil)) (pv 4)) pa_nil)))
(pss_one (ps_set (i := 3) sc__law_digits.nd rfl (.inl rfl) (pe_op op_fdivW (pv 3) (pv 4)))))
(pss_cons (ps_set (i := 3) sc__law_digits.nd rfl (.inl rfl) (pe_op op_mod (pe_op op_add (pe_op op_add (pe_op op_mulA (pe_callTy cr_int1 (by rfl) Z.m_int (by decide +kernel) (pa_cons (pv 3) pa_nil)) pe_int) (pe_op op_mulA pe_int (pe_callB cr_len (by rfl) Z.m_len (by decide +kernel) (pa_cons (pv 2) pa_nil)))) pe_int) pe_int))
(pss_cons (ps_set (i := 5) sc__law_digits.nd rfl (.inl rfl) (pe_op op_mod (pe_op op_mulA (pe_callTy cr_int1 (by rfl) Z.m_int (by decide +kernel) (pa_cons (pv 3) pa_nil)) (pe_callTy cr_int1 (by rfl) Z.m_int (by decide +kernel) (pa_cons (pv 3) pa_nil))) pe_int))
(pss_one (ps_expr (pe_bm PySem.F.plainAttrs_list PySem.F.slot_list_append PySem.F.type_list_append mt_append (pv 2) (pa_cons (pe_op op_mod (pe_op op_fdivW (pe_callTy cr_int1 (by rfl) Z.m_int (by decide +kernel) (pa_cons (pv 5) pa_nil)) pe_int) (pv 4)) pa_nil)))))))))
(pss_one (ps_ret (pv 2))))))
theorem ps__law_many (Z : Fx K mg)  {cdv : Value} {A : Around} {outer : List Env} {s : Shared} {H : Hp} {E : XK} (hr : Room 0 (A.deeper (envOfC "_law_many" (defScope s__law_many) s.heap.objs.size Z.a__law_many cdv))) :
    PSs (cxOf CX0 P w K mg base N__law_many "_law_many" (defScope s__law_many) Z.a__law_many cdv A outer s H E).nox (defBody s__law_many) (tr__law_many K) :=
  (pss_cons (ps_if (PW.pt (pw_and (pt_cmpR op_gt (pe_callB cr_len (by rfl) Z.m_len (by decide +kernel) (pa_cons (pv 0) pa_nil)) pe_int (nomark _)) (pw_and1 (pt_cmpR (op_eqD hr.units) (pe_op op_mod (pe_op op_fdivW (pe_callTy cr_int1 (by rfl) Z.m_int (by decide +kernel) (pa_cons (pe_ix ix_seq (pv 0) pe_int (fun _ _ => rfl)) pa_nil)) pe_int) pe_int) pe_int (nomark _)))))
(pss_one (ps_ret (pv 2)))
pss_nil)
(pss_one (ps_ret (pv 1))))
theorem ps__law_clock (Z : Fx K mg) (G__law_digits : FnOk P w K mg base CX0 1 Z.a__law_digits Z.d__law_digits ["cell", "bases"] (sp__law_digits K)) {cdv : Value} {A : Around} {outer : List Env} {s : Shared} {H : Hp} {E : XK} (hr : Room 1 (A.deeper (envOfC "_law_clock" (defScope s__law_clock) s.heap.objs.size Z.a__law_clock cdv))) :
    PSs (cxOf CX0 P w K mg base N__law_clock "_law_clock" (defScope s__law_clock) Z.a__law_clock cdv A outer s H E).nox (defBody s__law_clock) (tr__law_clock K) :=
  (pss_cons (ps_set (i := 3) sc__law_clock.nd rfl (.inl rfl) (pe_call (G__law_digits) (hr.mono (by decide)) (by rfl) Z.g__law_digits Z.F__law_digits.kp Z.b__law_digits .nil pass0 (pa_cons (pv 0) (pa_cons (pe_lst (pa_cons (pv 2) (pa_cons (pv 2) (pa_cons (pv 2) (pa_cons (pv 2) pa_nil))))) pa_nil))))
(pss_one (ps_ret (pe_callTy cr_tup (by rfl) Z.m_tuple (by decide +kernel) (pa_cons (pe_slice sl_list (pv 3) po_none (po_some (pv 1))) pa_nil)))))
theorem ps__law_run (Z : Fx K mg) (G__law_digits : FnOk P w K mg base CX0 1 Z.a__law_digits Z.d__law_digits ["cell", "bases"] (sp__law_digits K)) {cdv : Value} {A : Around} {outer : List Env} {s : Shared} {H : Hp} {E : XK} (hr : Room 1 (A.deeper (envOfC "_law_run" (defScope s__law_run) s.heap.objs.size Z.a__law_run cdv))) :
    PSs (cxOf CX0 P w K mg base N__law_run "_law_run" (defScope s__law_run) Z.a__law_run cdv A outer s H E).nox (defBody s__law_run) (tr__law_run K) :=
  (pss_cons (ps_set (i := 2) sc__law_run.nd rfl (.inl rfl) (pe_lst pa_nil))
(pss_cons (ps_setLc (i := 3) (own := [("p", 5)]) (g := (gName 5)) (tt := tYes) (te := (tCB (rTupOf K) (tCons (tLc (iRng1 (tCons (tVar 1) tNil)) (gName 4) tYes (tCB rInt1 (tCons (tOp (rEqD K) (tVar 5) (tVar 4)) tNil)) [4]) tNil))) rfl sc__law_run.nd rfl rfl (sw_true rfl rfl rfl (by decide +kernel)) (pi_range1 rfl Z.m_range (pa_cons (pv 1) pa_nil)) (blkOk_by (N := N__law_run) (sc := defScope s__law_run) (by decide +kernel)) (fun _ _ _ _ _ => pg_name (i := 5) sc__law_run.nd rfl (by first | exact Or.inl rfl | exact Or.inr rfl)) (fun _ _ _ _ _ => pts_nil) (fun _ _ _ _ _ => (pe_callTy cr_tup (by rfl) Z.m_tuple (by decide +kernel) (pa_cons (pe_lc (own := [("q", 4)]) (g := (gName 4)) (tt := tYes) (te := (tCB rInt1 (tCons (tOp (rEqD K) (tVar 5) (tVar 4)) tNil))) rfl sc__law_run.nd (pi_range1 rfl Z.m_range (pa_cons (pv 1) pa_nil)) (blkOk_by (by first | kernel_rfl | rfl)) (fun _ _ _ _ _ => pg_name (i := 4) sc__law_run.nd rfl (by first | exact Or.inl rfl | exact Or.inr rfl)) (fun _ _ _ _ _ => pts_nil) (fun _ _ _ _ _ => (pe_callTy cr_int1 (by rfl) Z.m_int (by decide +kernel) (pa_cons (pe_cmpR (op_eqD hr.units) (pv 5) (pv 4) (nomark _)) pa_nil)))) pa_nil))))
(pss_cons (ps_for PassesOwn.never rfl (pi_range1 rfl Z.m_range (pa_cons (pe_callB cr_len (by rfl) Z.m_len (by decide +kernel) (pa_cons (pv 0) pa_nil)) pa_nil)) (pg_name (i := 6) sc__law_run.nd rfl (.inl rfl))
(pss_cons (ps_set (i := 7) sc__law_run.nd rfl (.inr rfl) (pe_call (G__law_digits) (hr.mono (by decide)) (by rfl) Z.g__law_digits Z.F__law_digits.kp Z.b__law_digits .nil pass0 (pa_cons (pe_op op_add (pe_ix ix_seq (pv 0) (pv 6) (fun _ _ => rfl)) (pe_op op_mulA pe_int (pv 6))) (pa_cons (pe_lst (pa_cons (pv 1) (pa_cons (pv 1) (pa_cons pe_int (pa_cons pe_int (pa_cons pe_int (pa_cons pe_int pa_nil))))))) pa_nil))))
(pss_cons (ps_asg (pe_tup (pa_cons (pe_ix ix_seq (pv 7) pe_int (fun _ _ => rfl)) (pa_cons (pe_ix ix_seq (pv 7) pe_int (fun _ _ => rfl)) pa_nil))) (pg_tup (by rfl) (pgs_cons (pg_name (i := 5) sc__law_run.nd rfl (.inl rfl)) (pgs_cons (pg_name (i := 4) sc__law_run.nd rfl (.inr rfl)) pgs_nil))))
(pss_cons (ps_setLc (i := 8) (own := [("w", 13)]) (g := (gName 13)) (tt := (tOr (tTest (tOp (rEqD K) (tVar 13) (tOp (rIx K) (tVar 7) (tC (.int 3))))) (tAnd (tTest (tOp (rEqD K) (tOp (rIx K) (tVar 7) (tC (.int 5))) (tC (.int 1)))) (tTest (tOp (rEqD K) (tVar 13) (tOp (rIx K) (tVar 7) (tC (.int 4)))))))) (te := (tVar 13)) rfl sc__law_run.nd rfl rfl (sw_true rfl rfl rfl (by decide +kernel)) (pi_range1 rfl Z.m_range (pa_cons pe_int pa_nil)) (blkOk_by (N := N__law_run) (sc := defScope s__law_run) (by decide +kernel)) (fun _ _ _ _ _ => pg_name (i := 13) sc__law_run.nd rfl (by first | exact Or.inl rfl | exact Or.inr rfl)) (fun _ _ _ _ _ => pts_one (PW.pt (pw_or (pt_cmpR (op_eqD hr.units) (pv 13) (pe_ix ix_seq (pv 7) pe_int (fun _ _ => rfl)) (nomark _)) (pw_or1 (PW.pt (pw_and (pt_cmpR (op_eqD hr.units) (pe_ix ix_seq (pv 7) pe_int (fun _ _ => rfl)) pe_int (nomark _)) (pw_and1 (pt_cmpR (op_eqD hr.units) (pv 13) (pe_ix ix_seq (pv 7) pe_int (fun _ _ => rfl)) (nomark _))))))))) (fun _ _ _ _ _ => (pv 13)))
(pss_cons (ps_setLc (i := 9) (own := [("w", 13)]) (g := (gName 13)) (tt := (tTest (tOp (rNeD K) (tOp (rIx K) (tVar 7) (tC (.int 2))) (tC (.int 1))))) (te := (tVar 13)) rfl sc__law_run.nd rfl rfl (sw_true rfl rfl rfl (by decide +kernel)) (pi_list (pv 8)) (blkOk_by (N := N__law_run) (sc := defScope s__law_run) (by decide +kernel)) (fun _ _ _ _ _ => pg_name (i := 13) sc__law_run.nd rfl (by first | exact Or.inl rfl | exact Or.inr rfl)) (fun _ _ _ _ _ => pts_one (pt_cmpR (op_neD hr.units) (pe_ix ix_seq (pv 7) pe_int (fun _ _ => rfl)) pe_int (nomark _))) (fun _ _ _ _ _ => (pv 13)))
(pss_cons (ps_setLc (i := 10) (own := [("w", 13)]) (g := (gName 13)) (tt := (tOr (tTest (tOp (rEqD K) (tOp (rIx K) (tVar 7) (tC (.int 2))) (tC (.int 1)))) (tAnd (tTest (tOp (rEqD K) (tOp (rIx K) (tVar 7) (tC (.int 2))) (tC (.int 2)))) (tTest (tOp (rEqD K) (tVar 13) (tOp (rIx K) (tVar 7) (tC (.int 3)))))))) (te := (tVar 13)) rfl sc__law_run.nd rfl rfl (sw_true rfl rfl rfl (by decide +kernel)) (pi_list (pv 8)) (blkOk_by (N := N__law_run) (sc := defScope s__law_run) (by decide +kernel)) (fun _ _ _ _ _ => pg_name (i := 13) sc__law_run.nd rfl (by first | exact Or.inl rfl | exact Or.inr rfl)) (fun _ _ _ _ _ => pts_one (PW.pt (pw_or (pt_cmpR (op_eqD hr.units) (pe_ix ix_seq (pv 7) pe_int (fun _ _ => rfl)) pe_int (nomark _)) (pw_or1 (PW.pt (pw_and (pt_cmpR (op_eqD hr.units) (pe_ix ix_seq (pv 7) pe_int (fun _ _ => rfl)) pe_int (nomark _)) (pw_and1 (pt_cmpR (op_eqD hr.units) (pv 13) (pe_ix ix_seq (pv 7) pe_int (fun _ _ => rfl)) (nomark _))))))))) (fun _ _ _ _ _ => (pv 13)))
(pss_cons (ps_expr (pe_bm PySem.F.plainAttrs_list PySem.F.slot_list_append PySem.F.type_list_append mt_append (pv 2) (pa_cons (pe_lst (pa_cons (pv 5) (pa_cons (pe_ix ix_seq (pe_ix ix_seq (pv 3) (pv 5) (fun _ _ => rfl)) (pv 5) (fun _ _ => rfl)) (pa_cons (pe_ix ix_seq (pv 3) (pv 5) (fun _ _ => rfl)) (pa_cons (pv 9) (pa_cons (pv 10) (pa_cons (pe_tup (pa_cons (pv 5) (pa_cons (pv 4) (pa_cons (pe_ix ix_seq (pv 7) pe_int (fun _ _ => rfl)) pa_nil)))) pa_nil))))))) pa_nil)))
(pss_cons (ps_set (i := 11) sc__law_run.nd rfl (.inr rfl) (pe_callTy cr_list (by rfl) Z.m_list (by decide +kernel) (pa_cons (pe_ix ix_seq (pv 3) (pv 5) (fun _ _ => rfl)) pa_nil)))
(pss_cons (ps_asg (pe_op op_add (pe_ix ix_seq (pv 11) (pv 5) (fun _ _ => rfl)) pe_int) (pg_sub (pv 11) (pv 5) set_list))
(pss_cons (ps_if (PW.pt (pw_and (pt_cmpR op_gt (pe_ix ix_seq (pv 7) pe_int (fun _ _ => rfl)) pe_int (nomark _)) (pw_and1 (pt_cmpR (op_neD hr.units) (pv 4) (pv 5) (nomark _)))))
(pss_cons (ps_set (i := 12) sc__law_run.nd rfl (.inr rfl) (pe_lc (own := [("row", 14)]) (g := (gName 14)) (tt := (tTest (tOp (rEqD K) (tOp (rIx K) (tVar 14) (tC (.int 0))) (tVar 4)))) (te := (tVar 14)) rfl sc__law_run.nd (pi_list (pv 2)) (blkOk_by (N := N__law_run) (sc := defScope s__law_run) (by decide +kernel)) (fun _ _ _ _ _ => pg_name (i := 14) sc__law_run.nd rfl (by first | exact Or.inl rfl | exact Or.inr rfl)) (fun _ _ _ _ _ => pts_one (pt_cmpR (op_eqD hr.units) (pe_ix ix_seq (pv 14) pe_int (fun _ _ => rfl)) (pv 4) (nomark _))) (fun _ _ _ _ _ => (pv 14))))
(pss_one (ps_if (pt_cmpR (op_neD hr.units) (pv 12) (pe_lst pa_nil) (nomark _))
(pss_one (ps_set (i := 11) sc__law_run.nd rfl (.inr rfl) (pe_lc (own := [("m", 15)]) (g := (gName 15)) (tt := tYes) (te := (tCB rMax2 (tCons (tOp (rIx K) (tVar 11) (tVar 15)) (tCons (tOp (rIx K) (tOp (rIx K) (tOp (rIx K) (tVar 12) (tUn (rU fun i => .int (-i)) (tC (.int 1)))) (tC (.int 2))) (tVar 15)) tNil)))) rfl sc__law_run.nd (pi_range1 rfl Z.m_range (pa_cons (pv 1) pa_nil)) (blkOk_by (N := N__law_run) (sc := defScope s__law_run) (by decide +kernel)) (fun _ _ _ _ _ => pg_name (i := 15) sc__law_run.nd rfl (by first | exact Or.inl rfl | exact Or.inr rfl)) (fun _ _ _ _ _ => pts_nil) (fun _ _ _ _ _ => (pe_callB (cr_max2 rfl) (by rfl) Z.m_max (by decide +kernel) (pa_cons (pe_ix ix_seq (pv 11) (pv 15) (fun _ _ => rfl)) (pa_cons (pe_ix ix_seq (pe_ix ix_seq (pe_ix ix_seq (pv 12) (pe_un un_neg pe_int) (fun _ _ => rfl)) pe_int (fun _ _ => rfl)) (pv 15) (fun _ _ => rfl)) pa_nil)))))))
pss_nil)))
pss_nil)
(pss_one (ps_asg (pe_callTy cr_tup (by rfl) Z.m_tuple (by decide +kernel) (pa_cons (pv 11) pa_nil)) (pg_sub (pv 3) (pv 5) set_list)))))))))))))
(pss_one (ps_ret (pv 2))))))
theorem ps__law_ways (Z : Fx K mg)  {cdv : Value} {A : Around} {outer : List Env} {s : Shared} {H : Hp} {E : XK} (hr : Room 0 (A.deeper (envOfC "_law_ways" (defScope s__law_ways) s.heap.objs.size Z.a__law_ways cdv))) :
    PSs (cxOf CX0 P w K mg base N__law_ways "_law_ways" (defScope s__law_ways) Z.a__law_ways cdv A outer s H E).nox (defBody s__law_ways) (tr__law_ways K) :=
  (pss_cons (ps_set (i := 2) sc__law_ways.nd rfl (.inl rfl) (pe_lst pa_nil))
(pss_cons (ps_set (i := 3) sc__law_ways.nd rfl (.inl rfl) (pe_op op_rep (pe_lst (pa_cons (pe_un un_neg pe_int) pa_nil)) (pv 1)))
(pss_cons (ps_set (i := 4) sc__law_ways.nd rfl (.inl rfl) (pe_op op_rep (pe_lst (pa_cons (pe_un un_neg pe_int) pa_nil)) (pv 1)))
(pss_cons (ps_for PassesOwn.never rfl (pi_range1 rfl Z.m_range (pa_cons (pe_callB cr_len (by rfl) Z.m_len (by decide +kernel) (pa_cons (pv 0) pa_nil)) pa_nil)) (pg_name (i := 5) sc__law_ways.nd rfl (.inl rfl))
(pss_cons (ps_asg (pe_ix ix_seq (pe_ix ix_seq (pv 0) (pv 5) (fun _ _ => rfl)) pe_int (fun _ _ => rfl)) (pg_tup (by rfl) (pgs_cons (pg_name (i := 6) sc__law_ways.nd rfl (.inl rfl)) (pgs_cons (pg_name (i := 7) sc__law_ways.nd rfl (.inl rfl)) (pgs_cons (pg_name (i := 8) sc__law_ways.nd rfl (.inl rfl)) pgs_nil)))))
(pss_cons (ps_set (i := 9) sc__law_ways.nd rfl (.inl rfl) (pe_lst pa_nil))
(pss_cons (ps_for PassesOwn.never rfl (pi_tup (pe_tup (pa_cons (pe_ix ix_seq (pv 3) (pv 6) (fun _ _ => rfl)) (pa_cons (pe_ix ix_seq (pv 4) (pv 6) (fun _ _ => rfl)) pa_nil)))) (pg_name (i := 10) sc__law_ways.nd rfl (.inl rfl))
(pss_one (ps_if (pt_cmpR op_ge (pv 10) pe_int (nomark _))
(pss_one (ps_set (i := 9) sc__law_ways.nd rfl (.inl rfl) (pe_op op_catS (pe_op op_catS (pv 9) (pe_lst (pa_cons (pv 10) pa_nil))) (pe_ix ix_seq (pv 2) (pv 10) (fun _ _ => rfl)))))
pss_nil)))
(pss_cons (ps_expr (pe_bm PySem.F.plainAttrs_list PySem.F.slot_list_append PySem.F.type_list_append mt_append (pv 2) (pa_cons (pe_soSet rfl (by rfl) Z.m_sorted (by rfl) Z.m_set (pa_cons (pv 9) pa_nil)) pa_nil)))
(pss_cons (ps_asg (pv 5) (pg_sub (pv 3) (pv 6) set_list))
(pss_cons (ps_asg (pe_un un_neg pe_int) (pg_sub (pv 4) (pv 6) set_list))
(pss_one (ps_if (PW.pt (pw_and (pt_cmpR op_gt (pv 8) pe_int (nomark _)) (pw_and1 (pt_cmpR (op_neD hr.units) (pv 7) (pv 6) (nomark _)))))
(pss_one (ps_asg (pe_ix ix_seq (pv 3) (pv 7) (fun _ _ => rfl)) (pg_sub (pv 4) (pv 6) set_list)))
pss_nil)))))))))
(pss_one (ps_ret (pv 2)))))))
theorem ps_law (Z : Fx K mg) (G__law_run : FnOk P w K mg base CX0 2 Z.a__law_run Z.d__law_run ["cells", "machines"] (sp__law_run K)) (G__law_ways : FnOk P w K mg base CX0 1 Z.a__law_ways Z.d__law_ways ["rows", "machines"] (sp__law_ways K)) (G__law_cell : FnOk P w K mg base CX0 1 Z.a__law_cell Z.d__law_cell ["script", "k"] (sp__law_cell K)) (G_make_record : FnOk P w K mg base CX0 2 Z.a_make_record Z.d_make_record ["machine", "number", "clock", "loads", "stores"] (sp_make_record K)) (G_is_before : FnOk P w K mg base CX0 3 Z.a_is_before Z.d_is_before ["one", "other"] (sp_is_before K)) (G_are_unordered : FnOk P w K mg base CX0 4 Z.a_are_unordered Z.d_are_unordered ["one", "other"] (sp_are_unordered K)) (G__law_many : FnOk P w K mg base CX0 1 Z.a__law_many Z.d__law_many ["script", "few", "many"] (sp__law_many K)) {cdv : Value} {A : Around} {outer : List Env} {s : Shared} {H : Hp} {E : XK} (hr : Room 4 (A.deeper (envOfC "law" (defScope s_law) s.heap.objs.size Z.a_law cdv))) :
    PSs (cxOf CX0 P w K mg base N_law "law" (defScope s_law) Z.a_law cdv A outer s H E).nox (defBody s_law) (tr_law K) :=
  (pss_cons (ps_set (i := 1) sc_law.nd rfl (.inl rfl) (pe_op op_add pe_int (pe_op op_mod (pe_callTy cr_int1 (by rfl) Z.m_int (by decide +kernel) (pa_cons (pe_call (G__law_cell) (hr.mono (by decide)) (by rfl) Z.g__law_cell Z.F__law_cell.kp Z.b__law_cell .nil pass0 (pa_cons (pv 0) (pa_cons pe_int pa_nil))) pa_nil)) pe_int)))
(pss_cons (ps_setLc (i := 2) (own := [("k", 3)]) (g := (gName 3)) (tt := tYes) (te := (tCall (sp__law_cell K) [] E0 (tCons (tVar 0) (tCons (tVar 3) tNil)))) rfl sc_law.nd rfl rfl (sw_true rfl rfl rfl (by decide +kernel)) (pi_range1 rfl Z.m_range (pa_cons (pe_callB (cr_min2 rfl) (by rfl) Z.m_min (by decide +kernel) (pa_cons (pe_callB cr_len (by rfl) Z.m_len (by decide +kernel) (pa_cons (pv 0) pa_nil)) (pa_cons (pe_call (G__law_many) (hr.mono (by decide)) (by rfl) Z.g__law_many Z.F__law_many.kp Z.b__law_many .nil pass0 (pa_cons (pv 0) (pa_cons pe_int (pa_cons pe_int pa_nil)))) pa_nil))) pa_nil)) (blkOk_by (N := N_law) (sc := defScope s_law) (by decide +kernel)) (fun _ _ _ _ _ => pg_name (i := 3) sc_law.nd rfl (by first | exact Or.inl rfl | exact Or.inr rfl)) (fun _ _ _ _ _ => pts_nil) (fun _ _ _ _ _ => (pe_call (G__law_cell) (hr.mono (by decide)) (by rfl) Z.g__law_cell Z.F__law_cell.kp Z.b__law_cell .nil pass0 (pa_cons (pv 0) (pa_cons (pv 3) pa_nil)))))
(pss_cons (ps_set (i := 4) sc_law.nd rfl (.inl rfl) (pe_call (G__law_run) (hr.mono (by decide)) (by rfl) Z.g__law_run Z.F__law_run.kp Z.b__law_run .nil pass0 (pa_cons (pv 2) (pa_cons (pv 1) pa_nil))))
(pss_cons (ps_setLc (i := 5) (own := [("row", 10)]) (g := (gName 10)) (tt := tYes) (te := (tCall (sp_make_record K) [] E0 (tCons (tOp (rIx K) (tVar 10) (tC (.int 0))) (tCons (tOp (rIx K) (tVar 10) (tC (.int 1))) (tCons (tOp (rIx K) (tVar 10) (tC (.int 2))) (tCons (tOp (rIx K) (tVar 10) (tC (.int 3))) (tCons (tOp (rIx K) (tVar 10) (tC (.int 4))) tNil))))))) rfl sc_law.nd rfl rfl (sw_true rfl rfl rfl (by decide +kernel)) (pi_list (pv 4)) (blkOk_by (N := N_law) (sc := defScope s_law) (by decide +kernel)) (fun _ _ _ _ _ => pg_name (i := 10) sc_law.nd rfl (by first | exact Or.inl rfl | exact Or.inr rfl)) (fun _ _ _ _ _ => pts_nil) (fun _ _ _ _ _ => (pe_call (G_make_record) (hr.mono (by decide)) (by rfl) Z.g_make_record Z.F_make_record.kp Z.b_make_record .nil pass0 (pa_cons (pe_ix ix_seq (pv 10) pe_int (fun _ _ => rfl)) (pa_cons (pe_ix ix_seq (pv 10) pe_int (fun _ _ => rfl)) (pa_cons (pe_ix ix_seq (pv 10) pe_int (fun _ _ => rfl)) (pa_cons (pe_ix ix_seq (pv 10) pe_int (fun _ _ => rfl)) (pa_cons (pe_ix ix_seq (pv 10) pe_int (fun _ _ => rfl)) pa_nil))))))))
(pss_cons (ps_set (i := 6) sc_law.nd rfl (.inl rfl) (pe_call (G__law_ways) (hr.mono (by decide)) (by rfl) Z.g__law_ways Z.F__law_ways.kp Z.b__law_ways .nil pass0 (pa_cons (pv 4) (pa_cons (pv 1) pa_nil))))
(pss_cons (ps_for PassesOwn.never rfl (pi_range1 rfl Z.m_range (pa_cons (pe_callB cr_len (by rfl) Z.m_len (by decide +kernel) (pa_cons (pv 5) pa_nil)) pa_nil)) (pg_name (i := 3) sc_law.nd rfl (.inl rfl))
(pss_one (ps_for PassesOwn.never rfl (pi_range1 rfl Z.m_range (pa_cons (pe_callB cr_len (by rfl) Z.m_len (by decide +kernel) (pa_cons (pv 5) pa_nil)) pa_nil)) (pg_name (i := 7) sc_law.nd rfl (.inl rfl))
(pss_cons (ps_set (i := 8) sc_law.nd rfl (.inl rfl) (pe_call (G_is_before) (hr.mono (by decide)) (by rfl) Z.g_is_before Z.F_is_before.kp Z.b_is_before .nil pass0 (pa_cons (pe_ix ix_seq (pv 5) (pv 7) (fun _ _ => rfl)) (pa_cons (pe_ix ix_seq (pv 5) (pv 3) (fun _ _ => rfl)) pa_nil))))
(pss_cons (ps_if (PW.pt (pw_or (pt_not (pt_val (pe_callB call_isi (by rfl) Z.m_isinstance (by decide +kernel) (pa_cons (pv 8) (pa_cons (pe_bltn (v := .ty "bool") (by rfl) Z.m_bool (by decide +kernel) rfl) pa_nil))))) (pw_or1 (pt_cmpR (op_neD hr.units) (pv 8) (pe_cmpR op_in_seq (pv 7) (pe_ix ix_seq (pv 6) (pv 3) (fun _ _ => rfl)) (by rfl)) (nomark _)))))
(pss_one (ps_ret pe_bl))
pss_nil)
(pss_cons (ps_set (i := 9) sc_law.nd rfl (.inl rfl) (pe_call (G_are_unordered) (hr.mono (by decide)) (by rfl) Z.g_are_unordered Z.F_are_unordered.kp Z.b_are_unordered .nil pass0 (pa_cons (pe_ix ix_seq (pv 5) (pv 7) (fun _ _ => rfl)) (pa_cons (pe_ix ix_seq (pv 5) (pv 3) (fun _ _ => rfl)) pa_nil))))
(pss_one (ps_if (pt_cmpR (op_neD hr.units) (pv 9) (pe_and (pe_cmpR (op_neD hr.units) (pv 7) (pv 3) (nomark _)) (pe_and (pe_cmpR op_notIn_seq (pv 7) (pe_ix ix_seq (pv 6) (pv 3) (fun _ _ => rfl)) (by rfl)) (pe_one (pe_cmpR op_notIn_seq (pv 3) (pe_ix ix_seq (pv 6) (pv 7) (fun _ _ => rfl)) (by rfl))))) (nomark _))
(pss_one (ps_ret pe_bl))
pss_nil))))))))
(pss_one (ps_ret pe_bl))))))))
end
theorem kk_tt : kitB "tuple" "tuple" = some true := by decide +kernel
theorem kk_bb : kitB "bool" "bool" = some true := by decide +kernel
theorem kk_ll : kitB "list" "list" = some true := by decide +kernel
theorem kk_ii : kitB "int" "int" = some true := by decide +kernel
theorem kk_ss : kitB "str" "str" = some true := by decide +kernel
theorem kk_bi : kitB "bool" "int" = some true := by decide +kernel
theorem kk_ib : kitB "int" "bool" = some false := by decide +kernel
theorem kk_lt : kitB "list" "tuple" = some false := by decide +kernel
theorem kk_tl : kitB "tuple" "list" = some false := by decide +kernel
theorem kk_nt : kitB "NoneType" "tuple" = some false := by decide +kernel
theorem kk_it : kitB "int" "tuple" = some false := by decide +kernel
theorem kk_st : kitB "str" "tuple" = some false := by decide +kernel
theorem s_isiE {b : Bs} {Γ Γ1 : List Sl} {d : PyData} {ta : TE} {n : String} {k : Bool} (h : EvS b ta Γ Γ1 (.dat d)) (hk : kitB (kindOf d) n = some k) : EvS b (tCB (rIsi b.K) (tCons ta (tCons (tC (.ty n)) tNil))) Γ Γ1 (.dat (.bool k)) := s_isi h hk
theorem s_tupE {b : Bs} {Γ Γ1 : List Sl} {ds : List PyData} {ta : TA} (ha : EvA b ta Γ Γ1 ds) (hl : ds.length ≤ 100000) : EvS b (tTup ta) Γ Γ1 (.dat (.tuple ds)) := s_tup ha hl
theorem s_lstE {b : Bs} {Γ Γ1 : List Sl} {ds : List PyData} {ta : TA} (ha : EvA b ta Γ Γ1 ds) (hl : ds.length ≤ 100000) : EvS b (tLst ta) Γ Γ1 (.dat (.list ds)) := s_lstD ha hl
theorem divW {i j : Int} (h0 : 0 < j) (h : j < 2 ^ 64) : CDivW i j := ⟨h0, by
  have : j.natAbs < 2 ^ 64 := by omega
  exact Nat.lt_of_lt_of_le (PySem.Flt.log2_lt_of (by decide) this) (by decide)⟩
theorem mulL {i j : Int} (h0 : -(2 ^ 64) < i) (h : i < 2 ^ 64) : CMul i j ∨ CMulW i j := .inl (.inl ⟨h0, h⟩)
theorem mulR {i j : Int} (h0 : -(2 ^ 64) < j) (h : j < 2 ^ 64) : CMul i j ∨ CMulW i j := .inl (.inr ⟨h0, h⟩)
theorem cd_listD {K : PySem.W.Frag} {ds : List PyData} : CD K (rListOf K) [.list ds] (.dat (.list ds)) := fun C H vs ex dv Q q => by
  cases dv with | cons dx dv => cases dv; cases dx with
    | lst hq ha => exact ⟨_, _, rfl, .inl (ex_l ex hq), fun l hl => q _ _ (.list ex ha hl)⟩
theorem rd_eqS {K : PySem.W.Frag} {x y : Str} (h1 : PyData.canLay0 (.str x) = true) (h2 : PyData.canLay0 (.str y) = true) : RD K (rEqD K) (.str x) (.str y) (.dat (.bool (decide (x = y)))) := by
  have := rd_eqD (K := K) (d := .str x) (e := .str y) (by simp [SeqAt.shaped, h1, PyData.depth]) (by simp [SeqAt.shaped, h2, PyData.depth])
  rwa [eqv_str] at this
theorem dp_str {K : PySem.W.Frag} {C : Hp} : ∀ {xs : List Str} {vs : List V}, DpAll K C vs (xs.map .str) → vs = xs.map V.str
  | [], _, .nil => rfl
  | x :: xs, _, .cons r t => by
    cases r
    rw [dp_str t]; rfl
theorem in_str (x : Str) : ∀ xs : List Str, inV (.str x) (xs.map V.str) = xs.any (· == x)
  | [] => rfl
  | y :: xs => by
    have := in_str x xs
    unfold inV at this ⊢
    rw [List.map_cons, List.any_cons, List.any_cons, this]; rfl
theorem rd_inS {K : PySem.W.Frag} {x : Str} {xs : List Str} : RD K (rIn K false) (.str x) (.tuple (xs.map .str)) (.dat (.bool (xs.any (· == x)))) := fun C H v y ex dx dy Q q => by
  cases dx
  cases dy with
  | tup hq ha =>
    have e := dp_str ha
    subst e
    refine ⟨_, _, rfl, .inr (ex_t ex hq), rfl, ?_, ?_⟩
    · rw [List.all_map]; exact List.all_eq_true.mpr fun _ _ => rfl
    · show Q (.bl (inV (.str x) (xs.map V.str))) H
      rw [in_str]
      exact q _ _ (.same ex (.bl _))
theorem s_chain {b : Bs} {Γ : List Sl} {r r' : R2} {ta tb tc : TE} {d e f : PyData} {k l : Bool} (ha : EvS b ta Γ Γ (.dat d)) (hb : EvS b tb Γ Γ (.dat e)) (hr : RD b.K r d e (.dat (.bool k))) (hc : EvS b tc Γ Γ (.dat f)) (hr' : RD b.K r' e f (.dat (.bool l))) :
    EvS b (tChain r r' ta tb tc) Γ Γ (.dat (.bool (k && l))) := fun T τ σ H hs Q q =>
  ha T τ σ H hs _ fun x H1 h1 => hb _ _ σ H1 h1 _ fun y H2 h2 => by
    obtain ⟨C, dy, h3⟩ := h2.pop
    obtain ⟨dx, h4⟩ := h3.pop
    refine hr C H2 x y h4.ch dx dy _ fun v H3 rt => ?_
    obtain ⟨C3, dv, h6⟩ := ((h4.push dy).step rt).pop
    cases dv
    refine ⟨k, rfl, ?_⟩
    cases k with
    | false =>
      obtain ⟨_, h7⟩ := h6.pop
      exact iteF (q _ H3 ⟨C3, h7.push (.bl _)⟩)
    | true =>
      refine iteT (hc _ _ σ H3 ⟨C3, h6⟩ _ fun z H4 h8 => ?_)
      obtain ⟨C4, dz, h9⟩ := h8.pop
      obtain ⟨dy4, h10⟩ := h9.pop
      exact hr' C4 H4 y z h10.ch dy4 dz Q fun v H5 rt => q v H5 (h10.step rt)
theorem s_notN {b : Bs} {Γ Γ1 : List Sl} {ta : TE} {d : PyData} (h : EvS b ta Γ Γ1 (.dat d)) (hk : d ≠ .none) : EvS b (tOp rNotN ta (tC .non)) Γ Γ1 (.dat (.bool true)) := fun T τ σ H hs Q q => h T τ σ H hs _ fun v H' h' => by
  obtain ⟨C, dv, h3⟩ := h'.pop
  refine ⟨rfl, ?_⟩
  have : v ≠ .non := fun e => by subst e; cases dv; exact hk rfl
  rw [decide_eq_false this]
  exact q _ H' ⟨C, h3.push (.bl _)⟩
theorem s_notN0 {b : Bs} {Γ Γ1 : List Sl} {ta : TE} (h : EvS b ta Γ Γ1 (.dat .none)) : EvS b (tOp rNotN ta (tC .non)) Γ Γ1 (.dat (.bool false)) := fun T τ σ H hs Q q => h T τ σ H hs _ fun v H' h' => by
  obtain ⟨C, dv, h3⟩ := h'.pop
  cases dv
  refine ⟨rfl, ?_⟩
  rw [decide_eq_true rfl]
  exact q _ H' ⟨C, h3.push (.bl _)⟩
local macro_rules | `(tactic| walk_at "g_sd") => `(tactic| first | with_reducible assumption | omega | (simp; done) | (simp; omega))
local macro_rules | `(tactic| walk_at "g_so") => `(tactic| first | with_reducible assumption | omega)
local macro_rules | `(tactic| walk_at "g_hc") => `(tactic| first | walk_at "g_so" | (dsimp only; walk_at "g_so") | (refine divW ?_ ?_; all_goals walk_at "g_so") | (refine mulR ?_ ?_; all_goals walk_at "g_so") | (refine mulL ?_ ?_; all_goals walk_at "g_so") | (refine ⟨by omega, by omega, by decide⟩))
local macro_rules | `(tactic| walk_at "g_rd") => `(tactic| first | with_reducible exact rd_int | with_reducible exact rd_bl | with_reducible exact rd_eqI | with_reducible exact rd_neI | with_reducible exact rd_eqB | with_reducible exact rd_neB | with_reducible exact rd_eqT | with_reducible exact rd_neT | with_reducible exact rd_eqL | with_reducible exact rd_neL | with_reducible exact rd_inS | (with_reducible refine rd_eqS (by decide +kernel) (by decide +kernel)) | ((with_reducible refine rd_intC ?_); walk_at "g_hc") | ((with_reducible refine rd_ixTi ?_ ?_); all_goals walk_at "g_sd") | ((with_reducible refine rd_ixLi ?_ ?_); all_goals walk_at "g_sd") | ((with_reducible apply rd_ixT); exact rfl) | ((with_reducible apply rd_ixL); exact rfl))
local macro_rules | `(tactic| walk_at "g_cd") => `(tactic| first | with_reducible exact cd_lenTi | with_reducible exact cd_lenLi | with_reducible exact cd_int | with_reducible exact cd_intB | with_reducible exact cd_max2 | with_reducible exact cd_min2 | with_reducible exact cd_abs | with_reducible exact cd_tupL | with_reducible exact cd_tupT | with_reducible exact cd_all | with_reducible exact cd_any | with_reducible exact cd_lenL | with_reducible exact cd_lenT | with_reducible exact cd_listL | with_reducible exact cd_listD | with_reducible exact cd_listT)
local macro_rules | `(tactic| walk_at "g_ea") => `(tactic| first | with_reducible exact a_nil | ((with_reducible apply a_cons); (case ha => walk_at "g_ev"); (case hr => walk_at "g_ea")))
local macro_rules | `(tactic| walk_at "g_call") => `(tactic| fail "no call rule")
local macro_rules | `(tactic| walk_at "g_ev") => `(tactic| first | ((with_reducible apply s_var); exact rfl) | with_reducible exact s_int | with_reducible exact s_bl | with_reducible exact s_str | with_reducible exact s_non | ((with_reducible apply s_isiE); (case h => walk_at "g_ev"); (case hk => first | exact kk_tt | exact kk_bb | exact kk_ll | exact kk_ii | exact kk_ss | exact kk_bi | exact kk_ib | exact kk_lt | exact kk_tl | exact kk_nt | exact kk_it | exact kk_st)) | ((with_reducible apply s_ixO); (case h => exact rfl); (case hb => walk_at "g_ev"); (case ha => exact rfl)) | ((with_reducible apply s_notN); (case h => walk_at "g_ev"); (case hk => (intro h; cases h))) | ((with_reducible apply s_notN0); walk_at "g_ev") | ((with_reducible apply s_chain); (case ha => walk_at "g_ev"); (case hb => walk_at "g_ev"); (case hr => walk_at "g_rd"); (case hc => walk_at "g_ev"); (case hr' => walk_at "g_rd")) | ((with_reducible apply s_op); (case ha => walk_at "g_ev"); (case hb => walk_at "g_ev"); (case hr => walk_at "g_rd")) | ((with_reducible apply s_un); (case ha => walk_at "g_ev"); (case hr => exact ud_neg)) | walk_at "g_call" | ((with_reducible apply s_lenO); exact rfl) | ((with_reducible apply s_cb); (case ha => walk_at "g_ea"); (case hr => walk_at "g_cd")) | ((with_reducible apply s_tupE); (case ha => walk_at "g_ea"); (case hl => exact Nat.le_of_ble_eq_true rfl)) | ((with_reducible apply s_lstE); (case ha => walk_at "g_ea"); (case hl => exact Nat.le_of_ble_eq_true rfl)) | ((with_reducible apply s_notV); walk_at "g_ev"))
local macro_rules | `(tactic| walk_at "g_et") => `(tactic| first | ((with_reducible apply t_test); walk_at "g_ev") | ((with_reducible apply t_not); walk_at "g_et") | ((with_reducible apply t_and); (case h => walk_at "g_et"); (case h2 => intro _; walk_at "g_et")) | ((with_reducible apply t_or); (case h => walk_at "g_et"); (case h2 => intro _; walk_at "g_et")) | ((with_reducible apply t_B); walk_at "g_ev"))
local macro_rules | `(tactic| walk_at "g_wk") => `(tactic| repeat (first | exact trivial | refine ⟨.inl rfl, ?_⟩ | refine ⟨.inr rfl, ?_⟩))
theorem in_int (x : Int) : ∀ xs : List Int, inV (.int x) (xs.map V.int) = decide (x ∈ xs)
  | [] => by simp [inV]
  | y :: xs => by
    have := in_int x xs
    unfold inV at this ⊢
    rw [List.map_cons, List.any_cons, this]
    have e : eqV (.int y) (.int x) = decide (y = x) := rfl
    rw [e]
    by_cases h : y = x
    · subst h; simp
    · have h2 : ¬ x = y := fun z => h z.symm
      simp [h, h2]
theorem rd_inI {K : PySem.W.Frag} {x : Int} {xs : List Int} : RD K (rIn K false) (.int x) (li xs) (.dat (.bool (decide (x ∈ xs)))) := fun C H v y ex dx dy Q q => by
  cases dx
  cases dy with
  | lst hq ha =>
    have e := Dp.ints_back ha
    subst e
    refine ⟨_, _, rfl, .inl (ex_l ex hq), rfl, ?_, ?_⟩
    · rw [List.all_map]; exact List.all_eq_true.mpr fun _ _ => rfl
    · show Q (.bl (inV (.int x) (xs.map V.int))) H
      rw [in_int]
      exact q _ _ (.same ex (.bl _))
theorem rd_ninI {K : PySem.W.Frag} {x : Int} {xs : List Int} : RD K (rIn K true) (.int x) (li xs) (.dat (.bool (!decide (x ∈ xs)))) := fun C H v y ex dx dy Q q => by
  cases dx
  cases dy with
  | lst hq ha =>
    have e := Dp.ints_back ha
    subst e
    refine ⟨_, _, rfl, .inl (ex_l ex hq), rfl, ?_, ?_⟩
    · rw [List.all_map]; exact List.all_eq_true.mpr fun _ _ => rfl
    · show Q (.bl (!inV (.int x) (xs.map V.int))) H
      rw [in_int]
      exact q _ _ (.same ex (.bl _))
theorem dpa_take {K : PySem.W.Frag} {C : Hp} : ∀ {vs : List V} {ds : List PyData} (n : Nat), DpAll K C vs ds → DpAll K C (vs.take n) (ds.take n)
  | _, _, 0, _ => .nil
  | _, _, n + 1, .nil => .nil
  | _, _, n + 1, .cons r t => .cons r (dpa_take n t)
theorem s_take {b : Bs} {Γ Γ1 : List Sl} {ta tb : TE} {ds : List PyData} {k : Int} (ha : EvS b ta Γ Γ1 (.dat (.list ds))) (hb : EvS b tb Γ1 Γ1 (.dat (.int k))) (h0 : 0 ≤ k) : EvS b (tSl (rSlL b.K) ta tNoPart (tPart tb)) Γ Γ1 (.own (ds.take k.toNat)) := fun T τ σ H hs Q q =>
  ha T τ σ H hs _ fun x H1 h1 => hb _ _ σ H1 h1 _ fun y H2 h2 => by
    obtain ⟨C, dy, h3⟩ := h2.pop
    obtain ⟨dx, h4⟩ := h3.pop
    cases dy
    cases dx with
    | lst hq hd =>
      refine ⟨k, rfl, _, _, rfl, ex_l h4.ch hq, fun p hp => ?_⟩
      refine q _ _ (h4.step (.lst h4.ch ?_ hp))
      have hl := dpa_len hd
      rename_i a vs
      have e : cutV vs none (some k) = vs.take k.toNat := by
        unfold cutV
        have e1 : HT.sIx vs.length 0 none = 0 := rfl
        have e2 : HT.sIx vs.length vs.length (some k) = min k.toNat vs.length := by
          show (if k < 0 then _ else _) = _
          rw [if_neg (by omega)]
        rw [e1, e2, List.drop_zero, Nat.sub_zero]
        by_cases hk : k.toNat ≤ vs.length
        · rw [Nat.min_eq_left hk]
        · rw [Nat.min_eq_right (by omega), List.take_length, List.take_of_length_le (by omega)]
      rw [e]
      exact dpa_take k.toNat hd
local macro_rules | `(tactic| walk_at "g_rd") => `(tactic| first | with_reducible exact rd_inI | with_reducible exact rd_ninI)
local macro_rules | `(tactic| walk_at "g_ev") => `(tactic| first | ((with_reducible apply s_andV); (case h => walk_at "g_ev"); (case h2 => intro _; walk_at "g_ev")) | ((with_reducible apply s_orV); (case h => walk_at "g_ev"); (case h2 => intro _; walk_at "g_ev")))
theorem len_covers (ds : List PyData) (s : Sl) (h : gr_covers ds s) : ds.length = 3 := by obtain ⟨_, _, _, _, _, rfl, _⟩ := h; rfl
theorem rd_covers (b : Bs) (D : Ends) (ds : List PyData) (s : Sl) (h : gr_covers ds s) (hq : ∀ v H', Ret b.K b.H0 b.B s v H' → D.rt v H') (hn : ∀ σ H, D.rt .non H → D.nx σ H) : Nx b (tr_covers b.K D) [] [] (Γ0 3 ds) := by
  obtain ⟨xs, m, n, h0, h1, rfl, rfl⟩ := h
  show Nx b _ [] [] [.dat (ti xs), .dat (.int m), .dat (.int n)]
  exact n_ret (by walk_at "g_ev") hq
theorem len_each_once (ds : List PyData) (s : Sl) (h : gr_each_once ds s) : ds.length = 1 := by obtain ⟨_, _, rfl, _⟩ := h; rfl
theorem rd_each_once (b : Bs) (D : Ends) (ds : List PyData) (s : Sl) (h : gr_each_once ds s) (hq : ∀ v H', Ret b.K b.H0 b.B s v H' → D.rt v H') (hn : ∀ σ H, D.rt .non H → D.nx σ H) : Nx b (tr_each_once b.K D) [] [] (Γ0 1 ds) := by
  obtain ⟨xs, hl, rfl, rfl⟩ := h
  show Nx b _ [] [] [.dat (li xs)]
  exact n_ret (s_cb (a_cons (s_weak (s_soSet (a_cons (s_var rfl) a_nil) hl (once_asc xs) fun k => once_mem k xs)) a_nil) cd_tupL) hq
theorem c_once {b : Bs} {Γ Γ1 : List Sl} {ta : TA} {xs : List Int} (ha : EvA b ta Γ Γ1 [li xs]) (h1 : xs.length < 64) : EvS b (tCall (sp_each_once b.K) [] E0 ta) Γ Γ1 (.dat (ti (onceF xs))) :=
  s_call ha ⟨xs, h1, rfl, rfl⟩
theorem len_make_record (ds : List PyData) (s : Sl) (h : gr_make_record ds s) : ds.length = 5 := by obtain ⟨_, _, _, _, _, _, _, rfl, _⟩ := h; rfl
theorem rd_make_record (b : Bs) (D : Ends) (ds : List PyData) (s : Sl) (h : gr_make_record ds s) (hq : ∀ v H', Ret b.K b.H0 b.B s v H' → D.rt v H') (hn : ∀ σ H, D.rt .non H → D.nx σ H) : Nx b (tr_make_record b.K D) [] [] (Γ0 5 ds) := by
  obtain ⟨p, n, c, lo, st, h1, h2, rfl, rfl⟩ := h
  show Nx b _ [] [] [.dat (.int p), .dat (.int n), .dat (ti c), .dat (li lo), .dat (li st)]
  exact n_ret (s_tupE (a_cons (s_var rfl) (a_cons (s_var rfl) (a_cons (s_var rfl) (a_cons (c_once (a_cons (s_var rfl) a_nil) h1) (a_cons (c_once (a_cons (s_var rfl) a_nil) h2) a_nil))))) (Nat.le_of_ble_eq_true rfl)) hq
theorem ixp {b : Bs} {Γ : List Sl} {i : Nat} {r : Rc} (h : Γ[i]? = some (.dat r.d)) : EvS b (tOp (rIx b.K) (tVar i) (tC (.int 0))) Γ Γ (.dat (.int r.p)) := s_op (s_var h) s_int (rd_ixT rfl)
theorem ixn {b : Bs} {Γ : List Sl} {i : Nat} {r : Rc} (h : Γ[i]? = some (.dat r.d)) : EvS b (tOp (rIx b.K) (tVar i) (tC (.int 1))) Γ Γ (.dat (.int r.n)) := s_op (s_var h) s_int (rd_ixT rfl)
theorem len_is_same (ds : List PyData) (s : Sl) (h : gr_is_same ds s) : ds.length = 2 := by obtain ⟨_, _, rfl, _⟩ := h; rfl
theorem rd_is_same (b : Bs) (D : Ends) (ds : List PyData) (s : Sl) (h : gr_is_same ds s) (hq : ∀ v H', Ret b.K b.H0 b.B s v H' → D.rt v H') (hn : ∀ σ H, D.rt .non H → D.nx σ H) : Nx b (tr_is_same b.K D) [] [] (Γ0 2 ds) := by
  obtain ⟨r, r', rfl, rfl⟩ := h
  show Nx b _ [] [] [.dat r.d, .dat r'.d]
  exact n_ret (s_andV (s_op (ixp rfl) (ixp rfl) rd_eqI) (fun _ => s_op (ixn rfl) (ixn rfl) rd_eqI)) hq
theorem c_same {b : Bs} {Γ Γ1 : List Sl} {ta : TA} {r r' : Rc} (ha : EvA b ta Γ Γ1 [r.d, r'.d]) : EvS b (tCall (sp_is_same b.K) [] E0 ta) Γ Γ1 (.dat (.bool (same r r'))) := s_call ha ⟨r, r', rfl, rfl⟩
theorem c_covers {b : Bs} {Γ Γ1 : List Sl} {ta : TA} {xs : List Int} {m n : Int} (ha : EvA b ta Γ Γ1 [ti xs, .int m, .int n]) (h0 : 0 ≤ m) (h1 : m < xs.length) : EvS b (tCall (sp_covers b.K) [] E0 ta) Γ Γ1 (.dat (.bool (decide (n ≤ xs.getD m.toNat 0)))) :=
  s_call ha ⟨xs, m, n, h0, h1, rfl, rfl⟩
theorem len_is_covered (ds : List PyData) (s : Sl) (h : gr_is_covered ds s) : ds.length = 2 := by obtain ⟨_, _, _, rfl, _⟩ := h; rfl
theorem rd_is_covered (b : Bs) (D : Ends) (ds : List PyData) (s : Sl) (h : gr_is_covered ds s) (hq : ∀ v H', Ret b.K b.H0 b.B s v H' → D.rt v H') (hn : ∀ σ H, D.rt .non H → D.nx σ H) : Nx b (tr_is_covered b.K D) [] [] (Γ0 2 ds) := by
  obtain ⟨⟨p, n, c, lo, st⟩, x, ⟨h0, h1⟩, rfl, rfl⟩ := h
  show Nx b _ [] [] [.dat (.tuple [.int p, .int n, ti c, ti lo, ti st]), .dat (ti x)]
  exact n_ret (c_covers (a_cons (s_var rfl) (a_cons (by walk_at "g_ev") (a_cons (by walk_at "g_ev") a_nil))) h0 h1) hq
theorem c_iscov {b : Bs} {Γ Γ1 : List Sl} {ta : TA} {r : Rc} {c : List Int} (ha : EvA b ta Γ Γ1 [r.d, ti c]) (h : r.fits c) : EvS b (tCall (sp_is_covered b.K) [] E0 ta) Γ Γ1 (.dat (.bool (cov r c))) := s_call ha ⟨r, c, h, rfl, rfl⟩
theorem len_is_before (ds : List PyData) (s : Sl) (h : gr_is_before ds s) : ds.length = 2 := by obtain ⟨_, _, _, rfl, _⟩ := h; rfl
theorem rd_is_before (b : Bs) (D : Ends) (ds : List PyData) (s : Sl) (h : gr_is_before ds s) (hq : ∀ v H', Ret b.K b.H0 b.B s v H' → D.rt v H') (hn : ∀ σ H, D.rt .non H → D.nx σ H) : Nx b (tr_is_before b.K D) [] [] (Γ0 2 ds) := by
  obtain ⟨r, ⟨p', n', c', lo', st'⟩, hf, rfl, rfl⟩ := h
  show Nx b _ [] [] [.dat r.d, .dat (.tuple [.int p', .int n', ti c', ti lo', ti st'])]
  refine n_ret (s_andV (c_iscov (c := c') (a_cons (s_var rfl) (a_cons (by walk_at "g_ev") a_nil)) hf) (fun _ => s_notV (c_same (r' := ⟨p', n', c', lo', st'⟩) (a_cons (s_var rfl) (a_cons (s_var rfl) a_nil))))) hq
theorem c_bef {b : Bs} {Γ Γ1 : List Sl} {ta : TA} {r r' : Rc} (ha : EvA b ta Γ Γ1 [r.d, r'.d]) (h : r.fits r'.c) : EvS b (tCall (sp_is_before b.K) [] E0 ta) Γ Γ1 (.dat (.bool (bef r r'))) := s_call ha ⟨r, r', h, rfl, rfl⟩
theorem len_are_unordered (ds : List PyData) (s : Sl) (h : gr_are_unordered ds s) : ds.length = 2 := by obtain ⟨_, _, _, _, rfl, _⟩ := h; rfl
theorem rd_are_unordered (b : Bs) (D : Ends) (ds : List PyData) (s : Sl) (h : gr_are_unordered ds s) (hq : ∀ v H', Ret b.K b.H0 b.B s v H' → D.rt v H') (hn : ∀ σ H, D.rt .non H → D.nx σ H) : Nx b (tr_are_unordered b.K D) [] [] (Γ0 2 ds) := by
  obtain ⟨r, r', hf, hf', rfl, rfl⟩ := h
  show Nx b _ [] [] [.dat r.d, .dat r'.d]
  unfold unord at hq
  refine n_fork (t_test (s_op (ixp rfl) (ixp rfl) rd_eqI)) (fun hh => ?_) (fun hh => ?_)
  · rw [if_pos (of_decide_eq_true hh)] at hq
    exact n_ret s_bl hq
  · rw [if_neg (of_decide_eq_false hh)] at hq
    exact n_ret (s_andV (s_notV (c_bef (a_cons (s_var rfl) (a_cons (s_var rfl) a_nil)) hf)) (fun _ => s_notV (c_bef (a_cons (s_var rfl) (a_cons (s_var rfl) a_nil)) hf'))) hq
theorem c_unord {b : Bs} {Γ Γ1 : List Sl} {ta : TA} {r r' : Rc} (ha : EvA b ta Γ Γ1 [r.d, r'.d]) (h : r.fits r'.c) (h' : r'.fits r.c) : EvS b (tCall (sp_are_unordered b.K) [] E0 ta) Γ Γ1 (.dat (.bool (unord r r'))) := s_call ha ⟨r, r', h, h', rfl, rfl⟩
theorem len__law_many (ds : List PyData) (s : Sl) (h : gr__law_many ds s) : ds.length = 3 := by obtain ⟨_, _, _, rfl, _⟩ := h; rfl
theorem rd__law_many (b : Bs) (D : Ends) (ds : List PyData) (s : Sl) (h : gr__law_many ds s) (hq : ∀ v H', Ret b.K b.H0 b.B s v H' → D.rt v H') (hn : ∀ σ H, D.rt .non H → D.nx σ H) : Nx b (tr__law_many b.K D) [] [] (Γ0 3 ds) := by
  obtain ⟨ns, few, many, rfl, rfl⟩ := h
  show Nx b _ [] [] [.dat (li ns), .dat (.int few), .dat (.int many)]
  unfold manyF at hq
  refine n_fork (k := decide (0 < (ns.length : Int)) && decide (ns.getD 0 0 / 1009 % 5 = 1)) (t_and (t_test (s_op (by walk_at "g_ev") s_int rd_bl)) (fun hh => ?_)) (fun hh => ?_) (fun hh => ?_)
  · have h1 := of_decide_eq_true hh
    refine t_test (s_op (d := .int (ns.getD (0 : Int).toNat 0 / 1009 % 5)) ?_ s_int rd_eqI)
    walk_at "g_ev"
  · rw [if_pos hh] at hq
    exact n_ret (s_var rfl) hq
  · rw [if_neg (by rw [hh]; exact Bool.false_ne_true)] at hq
    exact n_ret (s_var rfl) hq
theorem len__law_cell (ds : List PyData) (s : Sl) (h : gr__law_cell ds s) : ds.length = 2 := by obtain ⟨_, _, _, rfl, _⟩ := h; rfl
theorem rd__law_cell (b : Bs) (D : Ends) (ds : List PyData) (s : Sl) (h : gr__law_cell ds s) (hq : ∀ v H', Ret b.K b.H0 b.B s v H' → D.rt v H') (hn : ∀ σ H, D.rt .non H → D.nx σ H) : Nx b (tr__law_cell b.K D) [] [] (Γ0 2 ds) := by
  obtain ⟨ns, k, h0, rfl, rfl⟩ := h
  show Nx b _ [] [] [.dat (li ns), .dat (.int k)]
  refine n_seq (n_if (Γ1 := [.dat (li ns), .dat (.int k)]) (k := decide (k < ns.length)) (by walk_at "g_et") (fun hh => n_ret (Γ1 := [.dat (li ns), .dat (.int k)]) ?_ hq) (fun hh => (show Nx b (tRet (tC (.int 0)) D) [] [] _ from n_ret (Γ1 := [.dat (li ns), .dat (.int k)]) ?_ hq)))
  · have h1 := of_decide_eq_true hh
    walk_at "g_ev"
  · have h1 := of_decide_eq_false hh
    rw [List.getD_eq_getElem?_getD, List.getElem?_eq_none (by omega)]
    exact s_int
theorem len__law_digits (ds : List PyData) (s : Sl) (h : gr__law_digits ds s) : ds.length = 2 := by obtain ⟨_, _, _, _, rfl, _⟩ := h; rfl
def digSt (cell : Int) (bs : List Int) (i : Nat) : List Int × Int := (bs.take i).foldl (digStep cell) ([], cell)
theorem digSt_succ (cell : Int) (bs : List Int) (i : Nat) (x : Int) (h : bs[i]? = some x) : digSt cell bs (i + 1) = digStep cell (digSt cell bs i) x := by
  unfold digSt
  rw [List.take_add_one, h, List.foldl_append]; rfl
theorem digSt_len (cell : Int) (bs : List Int) : ∀ i, (digSt cell bs i).1.length ≤ i
  | 0 => by simp [digSt]
  | i + 1 => by
    have ih := digSt_len cell bs i
    cases h : bs[i]? with
    | none =>
      have e : digSt cell bs (i + 1) = digSt cell bs i := by
        unfold digSt
        rw [List.take_add_one, h]; simp
      rw [e]; omega
    | some x =>
      rw [digSt_succ cell bs i x h]
      unfold digStep
      split <;> simp <;> omega
def digG (cell : Int) (bs : List Int) (i : Nat) : List Sl := [.dat (.int cell), .dat (li bs), .own ((digSt cell bs i).1.map .int), .dat (.int (digSt cell bs i).2), .no, .no]
theorem rd__law_digits (b : Bs) (D : Ends) (ds : List PyData) (s : Sl) (h : gr__law_digits ds s) (hq : ∀ v H', Ret b.K b.H0 b.B s v H' → D.rt v H') (hn : ∀ σ H, D.rt .non H → D.nx σ H) : Nx b (tr__law_digits b.K D) [] [] (Γ0 6 ds) := by
  obtain ⟨cell, bs, hb, hl, rfl, rfl⟩ := h
  show Nx b _ [] [] [.dat (.int cell), .dat (li bs), .no, .no, .no, .no]
  refine n_go (st_set (s_lst a_nil)) (n_go (st_set (by walk_at "g_ev")) (n_go (st_for (i_list (ds := bs.map .int) (s_var rfl)) (digG cell bs) (fun i => (digG cell bs i).set 4 (.dat (.int (bs.getD i 0)))) ?_ (fun i di e => ?_) (fun i di e => ?_)) ?_))
  · show wk [.dat (.int cell), .dat (li bs), .own [], .dat (.int cell), .no, .no] (digG cell bs 0)
    rw [show digG cell bs 0 = [.dat (.int cell), .dat (li bs), .own [], .dat (.int cell), .no, .no] by simp [digG, digSt]]
    walk_at "g_wk"
  · obtain ⟨x, hx, rfl⟩ : ∃ x, bs[i]? = some x ∧ PyData.int x = di := by simpa using e
    rw [List.getD_eq_getElem?_getD, hx]
    exact g_name
  · obtain ⟨x, hx, rfl⟩ : ∃ x, bs[i]? = some x ∧ PyData.int x = di := by simpa using e
    have hbx := hb x (List.mem_of_getElem? hx)
    have hbx0 := hbx.1
    have hbx1 : x < 2 ^ 64 := by omega
    have hil : i < bs.length := (List.getElem?_eq_some_iff.mp hx).1
    have hln := digSt_len cell bs i
    have eG : (bs.getD i 0) = x := by rw [List.getD_eq_getElem?_getD, hx]; rfl
    have eS := digSt_succ cell bs i x hx
    rw [show digG cell bs (i + 1) = [.dat (.int cell), .dat (li bs), .own ((digStep cell (digSt cell bs i) x).1.map .int), .dat (.int (digStep cell (digSt cell bs i) x).2), .no, .no] by unfold digG; rw [eS]]
    show StS b _ [.dat (.int cell), .dat (li bs), .own ((digSt cell bs i).1.map .int), .dat (.int (digSt cell bs i).2), .dat (.int (bs.getD i 0)), .no] _
    rw [eG]
    clear eS eG hbx e hb hq hx
    generalize (digSt cell bs i) = st at hln ⊢
    obtain ⟨l, r0⟩ := st
    dsimp only at hln ⊢
    refine st_if (by walk_at "g_et") (fun hh => ?_) (fun hh => ?_)
    · have e1 : digStep cell (l, r0) x = (l ++ [r0 % x], r0 / x) := if_pos (of_decide_eq_true hh)
      rw [e1, List.map_append]
      clear e1 hh
      refine st_wk ?_ (st_seq (st_append (i := 2) rfl (by walk_at "g_ev") (by rw [List.length_map]; show l.length < _; omega)) (st_set (by walk_at "g_ev")))
      walk_at "g_wk"
    · have h1 : ¬ (10 : Int) ^ 18 ≤ cell := of_decide_eq_false hh
      have e1 : digStep cell (l, r0) x = (l ++ [((r0 * 48271 + 1009 * (l.length : Int) + 12345) % 2147483647) * ((r0 * 48271 + 1009 * (l.length : Int) + 12345) % 2147483647) % 2147483629 / 13 % x], (r0 * 48271 + 1009 * (l.length : Int) + 12345) % 2147483647) := if_neg h1
      rw [e1, List.map_append]
      clear e1 hh h1
      have hl2 : ((List.map PyData.int l).length : Int) = (l.length : Int) := by simp
      have hr0 : 0 ≤ (r0 * 48271 + 1009 * (l.length : Int) + 12345) % 2147483647 := by omega
      have hr1 : (r0 * 48271 + 1009 * (l.length : Int) + 12345) % 2147483647 < 2147483647 := by omega
      refine st_wk ?_ (st_seq (st_set (s := .dat (.int ((r0 * 48271 + 1009 * (l.length : Int) + 12345) % 2147483647))) (s_dat (by walk_at "g_ev") (by rw [hl2]))) (st_seq (st_set (by walk_at "g_ev")) (st_append (i := 2) rfl (by walk_at "g_ev") (by rw [List.length_map]; show l.length < _; omega))))
      walk_at "g_wk"
  · have : digitsF cell bs = (digSt cell bs (bs.map PyData.int).length).1 := by simp [digitsF, digSt]
    rw [this] at hq
    exact n_ret (s_own (i := 2) rfl) hq
theorem digits_len (cell : Int) (bs : List Int) : (digitsF cell bs).length = bs.length := by
  have : ∀ (bs : List Int) (st : List Int × Int), (bs.foldl (digStep cell) st).1.length = st.1.length + bs.length := by
    intro bs
    induction bs with
    | nil => intro st; rfl
    | cons b bs ih =>
      intro st
      rw [List.foldl_cons, ih, List.length_cons]
      unfold digStep
      split <;> simp <;> omega
  unfold digitsF
  rw [this]
  simp
theorem c_cell {b : Bs} {Γ Γ1 : List Sl} {ta : TA} {ns : List Int} {k : Int} (ha : EvA b ta Γ Γ1 [li ns, .int k]) (h0 : 0 ≤ k) : EvS b (tCall (sp__law_cell b.K) [] E0 ta) Γ Γ1 (.dat (.int (ns.getD k.toNat 0))) :=
  s_call ha ⟨ns, k, h0, rfl, rfl⟩
theorem c_digits {b : Bs} {Γ Γ1 : List Sl} {ta : TA} {bs : List Int} {cell : Int} (ha : EvA b ta Γ Γ1 [.int cell, li bs]) (hb : ∀ b ∈ bs, 0 < b ∧ b < 2 ^ 62) (hl : bs.length ≤ 100) : EvS b (tCall (sp__law_digits b.K) [] E0 ta) Γ Γ1 (.own ((digitsF cell bs).map .int)) :=
  s_call ha ⟨cell, bs, hb, hl, rfl, rfl⟩
theorem dig_nn (cell : Int) (bs : List Int) (h : ∀ b ∈ bs, 0 < b) : ∀ x ∈ digitsF cell bs, 0 ≤ x := by
  have : ∀ (bs : List Int) (st : List Int × Int), (∀ b ∈ bs, 0 < b) → (∀ x ∈ st.1, 0 ≤ x) → ∀ x ∈ (bs.foldl (digStep cell) st).1, 0 ≤ x := by
    intro bs
    induction bs with
    | nil => intro st _ h; exact h
    | cons b bs ih =>
      intro st hb hs
      rw [List.foldl_cons]
      refine ih _ (fun y hy => hb y (List.mem_cons_of_mem _ hy)) ?_
      have h0 := hb b List.mem_cons_self
      intro x hx
      unfold digStep at hx
      split at hx
      · rcases List.mem_append.mp hx with z | z
        · exact hs x z
        · rw [List.mem_singleton.mp z]; exact Int.emod_nonneg _ (by omega)
      · rcases List.mem_append.mp hx with z | z
        · exact hs x z
        · rw [List.mem_singleton.mp z]; exact Int.emod_nonneg _ (by omega)
  exact this bs _ h (by simp)
theorem len__law_clock (ds : List PyData) (s : Sl) (h : gr__law_clock ds s) : ds.length = 3 := by obtain ⟨_, _, _, _, _, _, _, rfl, _⟩ := h; rfl
theorem rd__law_clock (b : Bs) (D : Ends) (ds : List PyData) (s : Sl) (h : gr__law_clock ds s) (hq : ∀ v H', Ret b.K b.H0 b.B s v H' → D.rt v H') (hn : ∀ σ H, D.rt .non H → D.nx σ H) : Nx b (tr__law_clock b.K D) [] [] (Γ0 4 ds) := by
  obtain ⟨cell, m, k, h1, h2, h3, h4, rfl, rfl⟩ := h
  show Nx b _ [] [] [.dat (.int cell), .dat (.int m), .dat (.int k), .no]
  have hb : ∀ x ∈ [k, k, k, k], 0 < x ∧ x < 2 ^ 62 := by
    intro x hx
    simp at hx
    rcases hx with rfl
    exact ⟨h3, h4⟩
  refine n_go (st_set (c_digits (bs := [k, k, k, k]) (a_cons (s_var rfl) (a_cons (s_lstE (ds := [.int k, .int k, .int k, .int k]) (by walk_at "g_ea") (Nat.le_of_ble_eq_true rfl)) a_nil)) hb (Nat.le_of_ble_eq_true rfl))) ?_
  show Nx b _ [] [] [.dat (.int cell), .dat (.int m), .dat (.int k), .own ((digitsF cell [k, k, k, k]).map .int)]
  refine n_ret (s_cb (a_cons (s_weak (s_take (s_frz (i := 3) rfl) (s_var rfl) (by omega))) a_nil) cd_tupL) ?_
  rw [← List.map_take]
  exact hq
theorem dig_bd (cell : Int) (bs : List Int) (h : ∀ b ∈ bs, 0 < b) : ∀ i b, bs[i]? = some b → 0 ≤ (digitsF cell bs).getD i 0 ∧ (digitsF cell bs).getD i 0 < b := by
  have : ∀ (bs : List Int) (st : List Int × Int), (∀ b ∈ bs, 0 < b) → ∃ ys : List Int, (bs.foldl (digStep cell) st).1 = st.1 ++ ys ∧ ∀ i b, bs[i]? = some b → 0 ≤ ys.getD i 0 ∧ ys.getD i 0 < b := by
    intro bs
    induction bs with
    | nil => intro st _; exact ⟨[], by simp, fun i b e => by simp at e⟩
    | cons b bs ih =>
      intro st hb
      rw [List.foldl_cons]
      obtain ⟨ys, e, hy⟩ := ih (digStep cell st b) fun y hy => hb y (List.mem_cons_of_mem _ hy)
      have h0 := hb b List.mem_cons_self
      obtain ⟨d, r, e1, d0, d1⟩ : ∃ d r : Int, digStep cell st b = (st.1 ++ [d], r) ∧ 0 ≤ d ∧ d < b := by
        unfold digStep
        split
        · exact ⟨_, _, rfl, Int.emod_nonneg _ (by omega), Int.emod_lt_of_pos _ h0⟩
        · exact ⟨_, _, rfl, Int.emod_nonneg _ (by omega), Int.emod_lt_of_pos _ h0⟩
      rw [e1] at e
      refine ⟨d :: ys, by rw [e1, e]; simp, fun i x hx => ?_⟩
      cases i with
      | zero => simp at hx; subst hx; exact ⟨d0, d1⟩
      | succ i => exact hy i x (by simpa using hx)
  obtain ⟨ys, e, hy⟩ := this bs ([], cell) h
  intro i b hb
  unfold digitsF
  rw [e]
  exact hy i b hb
theorem n_frz {b : Bs} {N : L2.St → Hp → Prop} {T Γ : List Sl} {τ : L2.St} {i : Nat} {z : Option Addr} {ds : List PyData} (h : Γ[i]? = some (.ownq z ds)) (k : Nx b N T τ (Γ.set i (.dat (.list ds)))) : Nx b N T τ Γ := fun σ H hs => by
  obtain ⟨v, e, q⟩ := (s_frz (b := b) h) T τ σ H hs (fun v H' => Hs b (.dat (.list ds) :: T) (some v :: τ) (Γ.set i .no) σ H') fun v H' h' => h'
  have := q.store i
  rw [List.set_set] at this
  have e2 : σ.set i (some v) = σ := by
    refine List.ext_getElem? fun j => ?_
    rw [List.getElem?_set]
    by_cases ej : i = j
    · subst ej
      have := (List.getElem?_eq_some_iff.mp e).1
      rw [if_pos rfl, if_pos this, e]
    · rw [if_neg ej]
  rw [e2] at this
  exact k σ H this
theorem st_frz {b : Bs} {t : TS} {Γ Γ2 : List Sl} {i : Nat} {z : Option Addr} {ds : List PyData} (h : Γ[i]? = some (.ownq z ds)) (k : StS b t (Γ.set i (.dat (.list ds))) Γ2) : StS b t Γ Γ2 := fun D T τ q => n_frz h (k D T τ q)
theorem lay_rw (r : Rw) : PyData.canLay0 r.d = true := by
  simp [Rw.d, PyData.canLay0, PyData.canLayAll0, lay_ints]
theorem dep_rw (r : Rw) : PyData.depth r.d ≤ 5 := by
  have h1 := dep_ints r.c
  have h2 := dep_ints (loaF r.g)
  have h3 := dep_ints (stoF r.g)
  simp only [Rw.d, PyData.depth, PyData.depthAll]
  omega
theorem lay_rws : ∀ rows : List Rw, PyData.canLayAll0 (rows.map Rw.d) = true
  | [] => by simp [PyData.canLayAll0]
  | r :: rs => by rw [List.map_cons, PyData.canLayAll0, lay_rws rs, lay_rw]; rfl
theorem dep_rws : ∀ rows : List Rw, PyData.depthAll (rows.map Rw.d) ≤ 5
  | [] => by simp [PyData.depthAll]
  | r :: rs => by
    rw [List.map_cons, PyData.depthAll]
    have := dep_rws rs
    have := dep_rw r
    omega
theorem sh_rws (rows : List Rw) : SeqAt.shaped (.list (rows.map Rw.d)) = true := by
  have := dep_rws rows
  unfold SeqAt.shaped
  rw [PyData.canLay0, lay_rws, PyData.depth]
  simp; omega
theorem rd_neNil {K : PySem.W.Frag} {rows : List Rw} : RD K (rNeD K) (.list (rows.map Rw.d)) (.list []) (.dat (.bool (!rows.isEmpty))) := by
  have := rd_neD (K := K) (sh_rws rows) (e := .list []) (by decide +kernel)
  have e : PyData.eqv (.list (rows.map Rw.d)) (.list []) = rows.isEmpty := by
    cases rows with
    | nil => rw [PyData.eqv]; simp [PyData.eqvAll]
    | cons r rs => rw [PyData.eqv]; simp [PyData.eqvAll]
  rwa [e] at this
/-! ### the run, read -/
theorem len__law_run (ds : List PyData) (s : Sl) (h : gr__law_run ds s) : ds.length = 2 := by obtain ⟨_, _, _, _, _, rfl, _⟩ := h; rfl
def runG (cells : List Int) (m : Int) (i : Nat) : List Sl := [.dat (li cells), .dat (.int m), .own ((runSt cells m i).1.map Rw.d), .own ((runSt cells m i).2.map ti), .no, .no, .no, .no, .no, .no, .no, .no, .no, .no, .no, .no]
structure ROk (m : Int) (st : RS) : Prop where
  cl : st.2.length = m.toNat
  ce : ∀ c ∈ st.2, c.length = m.toNat
  rc : ∀ r ∈ st.1, r.c.length = m.toNat
theorem own_len {m : Int} {rows : List Rw} {c g : List Int} (h : ∀ r ∈ rows, r.c.length = m.toNat) (hc : c.length = m.toNat) : (ownF rows c g).length = m.toNat := by
  unfold ownF lastRow
  dsimp only
  split
  · split
    · rename_i r hr
      have := h r ((List.mem_filter.mp (List.mem_of_getLast? hr)).1)
      rw [List.length_zipWith, List.length_set, hc, this]; simp
    · rw [List.length_set]; exact hc
  · rw [List.length_set]; exact hc
theorem rok_step {m : Int} {st : RS} {g : List Int} (h : ROk m st) (g0 : 0 ≤ gi g 0) (g1 : gi g 0 < m) : ROk m (rowStep g st) := by
  have hlt : (gi g 0).toNat < st.2.length := by rw [h.cl]; omega
  have hc : (st.2.getD (gi g 0).toNat []).length = m.toNat := by
    rw [List.getD_eq_getElem?_getD, List.getElem?_eq_getElem hlt]
    exact h.ce _ (List.getElem_mem hlt)
  have hr : ∀ r ∈ st.1 ++ [⟨gi g 0, st.2.getD (gi g 0).toNat [], g⟩], r.c.length = m.toNat := fun r hr => by
    rcases List.mem_append.mp hr with z | z
    · exact h.rc r z
    · rw [List.mem_singleton.mp z]; exact hc
  refine ⟨by show (List.set _ _ _).length = _; rw [List.length_set]; exact h.cl, fun c z => ?_, hr⟩
  rcases List.mem_or_eq_of_mem_set z with z | z
  · exact h.ce c z
  · rw [z]; exact own_len hr hc
theorem bases_pos {m : Int} (h : 1 ≤ m) : ∀ x ∈ [m, m, 4, 8, 8, 3], 0 < x := by
  intro x hx
  simp at hx
  omega
theorem dg_bd {m : Int} (h : 1 ≤ m) (cells : List Int) (k : Nat) : (0 ≤ gi (dgF cells m k) 0 ∧ gi (dgF cells m k) 0 < m) ∧ (0 ≤ gi (dgF cells m k) 1 ∧ gi (dgF cells m k) 1 < m) ∧ (0 ≤ gi (dgF cells m k) 5 ∧ gi (dgF cells m k) 5 < 3) :=
  ⟨dig_bd _ _ (bases_pos h) 0 m rfl, dig_bd _ _ (bases_pos h) 1 m rfl, dig_bd _ _ (bases_pos h) 5 3 rfl⟩
theorem dg_len (cells : List Int) (m : Int) (k : Nat) : (dgF cells m k).length = 6 := digits_len _ _
theorem rok_all {m : Int} (h : 1 ≤ m) (cells : List Int) : ∀ k, ROk m (runSt cells m k)
  | 0 => ⟨by simp [runSt, firstClocks], fun c hc => by
      simp only [runSt, firstClocks, List.mem_map] at hc
      obtain ⟨p, _, rfl⟩ := hc
      simp, fun r hr => by simp [runSt] at hr⟩
  | k + 1 => rok_step (rok_all h cells k) (dg_bd h cells k).1.1 (dg_bd h cells k).1.2
theorem run_rows (cells : List Int) (m : Int) : ∀ k, (runSt cells m k).1.length = k
  | 0 => rfl
  | k + 1 => by
    show (((runSt cells m k).1 ++ [_]).length) = _
    rw [List.length_append, run_rows cells m k]; rfl
/-! ### a range's items, ints of a range -/
theorem map_nat {α : Type} (n : Nat) (f : Nat → α) (g : α → PyData) : (List.range n).map (fun k => g (f k)) = ((List.range n).map f).map g := by rw [List.map_map]; rfl
theorem range_take (l : List Int) (n : Nat) (h : n ≤ l.length) : (List.range n).map (fun k => l.getD k 0) = l.take n := by
  refine List.ext_getElem? fun i => ?_
  rw [List.getElem?_map, List.getElem?_take]
  by_cases hi : i < n
  · rw [List.getElem?_range hi, if_pos hi]
    simp [List.getD_eq_getElem?_getD, show i < l.length by omega]
  · rw [if_neg hi, List.getElem?_eq_none_iff.mpr (by simpa using hi)]; rfl
theorem toN (k : Nat) : ((k : Int)).toNat = k := Int.toNat_natCast k
theorem s_firsts {b : Bs} {cells : List Int} {m : Int} (h1 : 1 ≤ m) (h2 : m ≤ 4) :
    EvS b (tLc (iRng1 (tCons (tVar 1) tNil)) (gName 5) tYes (tCB (rTupOf b.K) (tCons (tLc (iRng1 (tCons (tVar 1) tNil)) (gName 4) tYes (tCB rInt1 (tCons (tOp (rEqD b.K) (tVar 5) (tVar 4)) tNil)) [4]) tNil)) [5])
      [.dat (li cells), .dat (.int m), .own [], .no, .no, .no, .no, .no, .no, .no, .no, .no, .no, .no, .no, .no] [.dat (li cells), .dat (.int m), .own [], .no, .no, .no, .no, .no, .no, .no, .no, .no, .no, .no, .no, .no] (.own ((firstClocks m.toNat).map ti)) := by
  have := s_map (b := b) (te := tCB (rTupOf b.K) (tCons (tLc (iRng1 (tCons (tVar 1) tNil)) (gName 4) tYes (tCB rInt1 (tCons (tOp (rEqD b.K) (tVar 5) (tVar 4)) tNil)) [4]) tNil)) (g := gName 5) (vs := [5]) (ks := List.range m.toNat) (φ := fun k : Nat => PyData.int (k : Int))
    (i_range1 (ta := tCons (tVar 1) tNil) (Γ := [.dat (li cells), .dat (.int m), .own [], .no, .no, .no, .no, .no, .no, .no, .no, .no, .no, .no, .no, .no]) (n := m) (by walk_at "g_ea") (by omega) (by omega))
    (fun p => [.dat (li cells), .dat (.int m), .own [], .no, .no, .dat (.int (p : Int)), .no, .no, .no, .no, .no, .no, .no, .no, .no, .no]) (fun p => ti ((List.range m.toNat).map fun q => if p = q then 1 else 0)) (fun p _ => gv_name) (fun p _ => ?_) (fun _ _ => rfl) rfl (by simp; omega)
  · rw [show (firstClocks m.toNat).map ti = (List.range m.toNat).map (fun p => ti ((List.range m.toNat).map fun q => if p = q then 1 else 0)) by unfold firstClocks; rw [List.map_map]; rfl]
    exact this
  · have := s_map (b := b) (te := tCB rInt1 (tCons (tOp (rEqD b.K) (tVar 5) (tVar 4)) tNil)) (g := gName 4) (vs := [4]) (ks := List.range m.toNat) (φ := fun k : Nat => PyData.int (k : Int))
      (i_range1 (ta := tCons (tVar 1) tNil) (Γ := [.dat (li cells), .dat (.int m), .own [], .no, .no, .dat (.int (p : Int)), .no, .no, .no, .no, .no, .no, .no, .no, .no, .no]) (n := m) (by walk_at "g_ea") (by omega) (by omega))
      (fun q => [.dat (li cells), .dat (.int m), .own [], .no, .dat (.int (q : Int)), .dat (.int (p : Int)), .no, .no, .no, .no, .no, .no, .no, .no, .no, .no]) (fun q => .int (if p = q then 1 else 0)) (fun q _ => gv_name) (fun q _ => ?_) (fun _ _ => rfl) rfl (by simp; omega)
    · refine s_cb (a_cons (s_weak this) a_nil) ?_
      rw [map_nat (List.range m.toNat).length (fun q => if p = q then (1 : Int) else 0) PyData.int |> fun _ => show (List.range m.toNat).map (fun q => PyData.int (if p = q then 1 else 0)) = ((List.range m.toNat).map fun q => if p = q then (1 : Int) else 0).map PyData.int by rw [List.map_map]; rfl]
      exact cd_tupL
    · refine s_dat (d := .int (if decide ((p : Int) = (q : Int)) = true then 1 else 0)) (s_cb (a_cons (s_op (s_var rfl) (s_var rfl) rd_eqI) a_nil) cd_intB) ?_
      by_cases h : p = q
      · subst h; simp
      · have : ¬ (p : Int) = (q : Int) := by omega
        simp [h, this]
theorem li_cast (ks : List Nat) : (ks.map fun w : Nat => PyData.int (w : Int)) = (ks.map fun w : Nat => (w : Int)).map PyData.int := by rw [List.map_map]; rfl
theorem ixg {b : Bs} {Γ : List Sl} {i : Nat} {g : List Int} (hl : g.length = 6) (k : Nat) (hk : k < 6) (h : Γ[i]? = some (.dat (li g))) : EvS b (tOp (rIx b.K) (tVar i) (tC (.int (k : Int)))) Γ Γ (.dat (.int (gi g k))) :=
  s_dat (s_op (s_var h) s_int (rd_ixLi (by omega) (by omega))) (by rw [toN])
theorem tou_len (g : List Int) : (touF g).length ≤ 8 := by
  unfold touF
  rw [List.length_map]
  have := List.length_filter_le (fun w : Nat => decide ((w : Int) = gi g 3) || (decide (gi g 5 = 1) && decide ((w : Int) = gi g 4))) (List.range 8)
  rwa [List.length_range] at this
theorem st_asgT2 {b : Bs} {K : PySem.W.Frag} (hK : b.K = K) {Γ Γ1 : List Sl} {te : TE} {d e : PyData} {i j : Nat} (h : EvS b te Γ Γ1 (.dat (.tuple [d, e]))) : StS b (tAsg te (gTup K 2 (gCons (gName i) (gCons (gName j) gNil)))) Γ ((Γ1.set i (.dat d)).set j (.dat e)) := fun D T τ k σ H hs =>
  h T τ σ H hs _ fun v H' h' => g_tup2 hK T τ σ H' v h' _ fun σ' h2 _ => k _ _ h2
abbrev rG (cells : List Int) (m : Int) (rows : List Rw) (cs : List (List Int)) (q p k s7 s8 s9 s10 s11 s12 : Sl) : List Sl := [.dat (li cells), .dat (.int m), .own (rows.map Rw.d), .own (cs.map ti), q, p, k, s7, s8, s9, s10, s11, s12, .no, .no, .no]
theorem st_setLi {b : Bs} {Γ : List Sl} {te tb : TE} {i : Nat} {k v : Int} {rs : List Int} {Γ2 : List Sl} (h : Γ[i]? = some (.own (rs.map .int))) (he : EvS b te Γ Γ (.dat (.int v))) (hb : EvS b tb Γ Γ (.dat (.int k))) (h0 : 0 ≤ k) (h1 : k < rs.length) (e : Γ.set i (.own ((rs.set k.toNat v).map .int)) = Γ2) :
    StS b (tAsg te (gSub (tVar i) tb rSetL)) Γ Γ2 := by
  have := st_setL (b := b) (te := te) (tb := tb) h he hb (ixN_ok h0 (by rw [List.length_map]; exact h1))
  rw [← List.map_set] at this
  exact st_is this e
theorem atI_last {α : Type} {xs : List α} (h : xs ≠ []) : atI xs (-1) = some (xs.getLast h) := by
  have hl : 0 < xs.length := List.length_pos_iff.mpr h
  have e : ixN xs.length (-1) = some (xs.length - 1) := by
    unfold ixN
    rw [if_neg (by decide), if_pos (by omega)]
    congr 1
    omega
  unfold atI
  rw [e, List.getLast_eq_getElem h]
  exact List.getElem?_eq_getElem (by omega)
theorem zw_len (xs ys : List Int) (h : xs.length = ys.length) : (List.zipWith max xs ys).length = xs.length := by simp; omega
theorem zw_get (xs ys : List Int) (h : xs.length = ys.length) (k : Nat) : (List.zipWith max xs ys).getD k 0 = max (xs.getD k 0) (ys.getD k 0) := by
  simp only [List.getD_eq_getElem?_getD, List.getElem?_zipWith]
  by_cases hk : k < xs.length
  · simp [hk, show k < ys.length by omega]
  · simp [hk, show ¬ k < ys.length by omega]
theorem ext_getD {xs ys : List Int} (h : xs.length = ys.length) (e : ∀ k, k < xs.length → xs.getD k 0 = ys.getD k 0) : xs = ys := by
  refine List.ext_getElem h fun k h1 h2 => ?_
  have := e k h1
  simpa [List.getD_eq_getElem?_getD, h1, h2] using this
theorem zw_range (xs ys : List Int) (h : xs.length = ys.length) : (List.range xs.length).map (fun k => max (xs.getD k 0) (ys.getD k 0)) = List.zipWith max xs ys := by
  refine ext_getD (by simp <;> omega) fun k hk => ?_
  have hk' : k < xs.length := by simpa using hk
  rw [zw_get xs ys h]
  simp [List.getD_eq_getElem?_getD, hk']
theorem rd__law_run (b : Bs) (D : Ends) (ds : List PyData) (s : Sl) (h : gr__law_run ds s) (hq : ∀ v H', Ret b.K b.H0 b.B s v H' → D.rt v H') (hn : ∀ σ H, D.rt .non H → D.nx σ H) : Nx b (tr__law_run b.K D) [] [] (Γ0 16 ds) := by
  obtain ⟨cells, m, h1, h2, hz, rfl, rfl⟩ := h
  show Nx b _ [] [] [.dat (li cells), .dat (.int m), .no, .no, .no, .no, .no, .no, .no, .no, .no, .no, .no, .no, .no, .no]
  refine n_go (st_set (s_lst a_nil)) ?_
  show Nx b _ [] [] [.dat (li cells), .dat (.int m), .own [], .no, .no, .no, .no, .no, .no, .no, .no, .no, .no, .no, .no, .no]
  refine n_go (st_set (s_firsts h1 h2)) ?_
  refine n_go (st_for (its := (List.range (cells.length : Int).toNat).map fun k : Nat => PyData.int (k : Int)) (i_range1 (n := (cells.length : Int)) (a_cons (by walk_at "g_ev") a_nil) (by omega) (by omega)) (runG cells m) (fun i => (runG cells m i).set 6 (.dat (.int (i : Int)))) ?_ (fun i di e => ?_) (fun i di e => ?_)) ?_
  · show wk [.dat (li cells), .dat (.int m), .own [], .own ((firstClocks m.toNat).map ti), .no, .no, .no, .no, .no, .no, .no, .no, .no, .no, .no, .no] (runG cells m 0)
    rw [show runG cells m 0 = [.dat (li cells), .dat (.int m), .own [], .own ((firstClocks m.toNat).map ti), .no, .no, .no, .no, .no, .no, .no, .no, .no, .no, .no, .no] from rfl]
    walk_at "g_wk"
  · obtain ⟨hlt, rfl⟩ := List.getElem?_eq_some_iff.mp e
    rw [List.getElem_map, List.getElem_range]
    exact g_name
  · obtain ⟨hlt, rfl⟩ := List.getElem?_eq_some_iff.mp e
    have hi : i < cells.length := by simpa using hlt
    clear e hlt hq hn
    have ok := rok_all h1 cells i
    have hr := run_rows cells m i
    have bd := dg_bd h1 cells i
    have gl := dg_len cells m i
    have eG : (runSt cells m (i + 1)) = rowStep (dgF cells m i) (runSt cells m i) := rfl
    unfold runG
    rw [eG]
    have hcell : EvS b (tOp (rI0 fun i j => .int (i + j)) (tOp (rIx b.K) (tVar 0) (tVar 6)) (tOp (rI (fun i j => CMul i j ∨ CMulW i j) fun i j => .int (i * j)) (tC (.int 5)) (tVar 6))) [.dat (li cells), .dat (.int m), .own ((runSt cells m i).1.map Rw.d), .own ((runSt cells m i).2.map ti), .no, .no, .dat (.int (i : Int)), .no, .no, .no, .no, .no, .no, .no, .no, .no]
        [.dat (li cells), .dat (.int m), .own ((runSt cells m i).1.map Rw.d), .own ((runSt cells m i).2.map ti), .no, .no, .dat (.int (i : Int)), .no, .no, .no, .no, .no, .no, .no, .no, .no] (.dat (.int (cells.getD i 0 + 5 * (i : Int)))) :=
      s_dat (d := .int (cells.getD (i : Int).toNat 0 + 5 * (i : Int))) (s_op (s_op (s_var rfl) (s_var rfl) (rd_ixLi (by omega) (by omega))) (s_op s_int (s_var rfl) (rd_intC (mulL (by omega) (by omega)))) rd_int) (by rw [toN])
    have hdig : EvS b (tCall (sp__law_digits b.K) [] E0 (tCons (tOp (rI0 fun i j => .int (i + j)) (tOp (rIx b.K) (tVar 0) (tVar 6)) (tOp (rI (fun i j => CMul i j ∨ CMulW i j) fun i j => .int (i * j)) (tC (.int 5)) (tVar 6))) (tCons (tLst (tCons (tVar 1) (tCons (tVar 1) (tCons (tC (.int 4)) (tCons (tC (.int 8)) (tCons (tC (.int 8)) (tCons (tC (.int 3)) tNil))))))) tNil))) [.dat (li cells), .dat (.int m), .own ((runSt cells m i).1.map Rw.d), .own ((runSt cells m i).2.map ti), .no, .no, .dat (.int (i : Int)), .no, .no, .no, .no, .no, .no, .no, .no, .no]
        [.dat (li cells), .dat (.int m), .own ((runSt cells m i).1.map Rw.d), .own ((runSt cells m i).2.map ti), .no, .no, .dat (.int (i : Int)), .no, .no, .no, .no, .no, .no, .no, .no, .no] (.dat (li (dgF cells m i))) := by
      refine s_weak (c_digits (cell := cells.getD i 0 + 5 * (i : Int)) (bs := [m, m, 4, 8, 8, 3]) (a_cons hcell (a_cons (s_lstE (ds := [.int m, .int m, .int 4, .int 8, .int 8, .int 3]) (by walk_at "g_ea") (Nat.le_of_ble_eq_true rfl)) a_nil)) ?_ (Nat.le_of_ble_eq_true rfl))
      intro x hx
      simp at hx
      omega
    refine st_seq (st_set hdig) ?_
    clear hdig hcell eG
    generalize hst : runSt cells m i = st at ok hr ⊢
    obtain ⟨rows, cs⟩ := st
    clear hst
    generalize dgF cells m i = g at bd gl ⊢
    obtain ⟨⟨g00, g01⟩, ⟨g10, g11⟩, g50, g51⟩ := bd
    dsimp only at hr
    show StS b _ [.dat (li cells), .dat (.int m), .own (rows.map Rw.d), .own (cs.map ti), .no, .no, .dat (.int (i : Int)), .dat (li g), .no, .no, .no, .no, .no, .no, .no, .no] _
    refine st_seq (st_asgT2 (i := 5) (j := 4) rfl (s_tupE (a_cons (ixg gl 0 (by decide) rfl) (a_cons (ixg gl 1 (by decide) rfl) a_nil)) (Nat.le_of_ble_eq_true rfl))) ?_
    show StS b _ [.dat (li cells), .dat (.int m), .own (rows.map Rw.d), .own (cs.map ti), .dat (.int (gi g 1)), .dat (.int (gi g 0)), .dat (.int (i : Int)), .dat (li g), .no, .no, .no, .no, .no, .no, .no, .no] _
    have htl := tou_len g
    refine st_seq (st_set (Γ1 := [.dat (li cells), .dat (.int m), .own (rows.map Rw.d), .own (cs.map ti), .dat (.int (gi g 1)), .dat (.int (gi g 0)), .dat (.int (i : Int)), .dat (li g), .no, .no, .no, .no, .no, .no, .no, .no]) (s := .dat (li (touF g))) ?_) ?_
    · have := s_filt (b := b) (Γ1 := [.dat (li cells), .dat (.int m), .own (rows.map Rw.d), .own (cs.map ti), .dat (.int (gi g 1)), .dat (.int (gi g 0)), .dat (.int (i : Int)), .dat (li g), .no, .no, .no, .no, .no, .no, .no, .no])
        (tt := tOr (tTest (tOp (rEqD b.K) (tVar 13) (tOp (rIx b.K) (tVar 7) (tC (.int 3))))) (tAnd (tTest (tOp (rEqD b.K) (tOp (rIx b.K) (tVar 7) (tC (.int 5))) (tC (.int 1)))) (tTest (tOp (rEqD b.K) (tVar 13) (tOp (rIx b.K) (tVar 7) (tC (.int 4))))))) (te := tVar 13) (g := gName 13) (vs := [13]) (ks := List.range 8) (φ := fun k : Nat => PyData.int (k : Int))
        (i_range1 (ta := tCons (tC (.int 8)) tNil) (n := 8) (a_cons s_int a_nil) (by decide) (by decide))
        (fun w => [.dat (li cells), .dat (.int m), .own (rows.map Rw.d), .own (cs.map ti), .dat (.int (gi g 1)), .dat (.int (gi g 0)), .dat (.int (i : Int)), .dat (li g), .no, .no, .no, .no, .no, .dat (.int (w : Int)), .no, .no])
        (fun w => decide ((w : Int) = gi g 3) || (decide (gi g 5 = 1) && decide ((w : Int) = gi g 4))) (fun w => .int (w : Int)) (fun w _ => gv_name)
        (fun w _ => t_or (t_test (s_op (s_var rfl) (ixg gl 3 (by decide) rfl) rd_eqI)) (fun _ => t_and (t_test (s_op (ixg gl 5 (by decide) rfl) s_int rd_eqI)) (fun _ => t_test (s_op (s_var rfl) (ixg gl 4 (by decide) rfl) rd_eqI))))
        (fun w _ _ => s_var rfl) (fun _ _ => rfl) rfl (by decide)
      rw [li_cast] at this
      exact s_weak this
    show StS b _ [.dat (li cells), .dat (.int m), .own (rows.map Rw.d), .own (cs.map ti), .dat (.int (gi g 1)), .dat (.int (gi g 0)), .dat (.int (i : Int)), .dat (li g), .dat (li (touF g)), .no, .no, .no, .no, .no, .no, .no] _
    refine st_seq (st_set (Γ1 := [.dat (li cells), .dat (.int m), .own (rows.map Rw.d), .own (cs.map ti), .dat (.int (gi g 1)), .dat (.int (gi g 0)), .dat (.int (i : Int)), .dat (li g), .dat (li (touF g)), .no, .no, .no, .no, .no, .no, .no]) (s := .dat (li (loaF g))) ?_) ?_
    · exact s_weak (s_filt (b := b) (Γ1 := [.dat (li cells), .dat (.int m), .own (rows.map Rw.d), .own (cs.map ti), .dat (.int (gi g 1)), .dat (.int (gi g 0)), .dat (.int (i : Int)), .dat (li g), .dat (li (touF g)), .no, .no, .no, .no, .no, .no, .no])
        (tt := tTest (tOp (rNeD b.K) (tOp (rIx b.K) (tVar 7) (tC (.int 2))) (tC (.int 1)))) (te := tVar 13) (g := gName 13) (vs := [13]) (ks := touF g) (φ := PyData.int) (i_list (s_var rfl))
        (fun w => [.dat (li cells), .dat (.int m), .own (rows.map Rw.d), .own (cs.map ti), .dat (.int (gi g 1)), .dat (.int (gi g 0)), .dat (.int (i : Int)), .dat (li g), .dat (li (touF g)), .no, .no, .no, .no, .dat (.int w), .no, .no])
        (fun _ => !decide (gi g 2 = 1)) PyData.int (fun w _ => gv_name) (fun w _ => t_test (s_op (ixg gl 2 (by decide) rfl) s_int rd_neI)) (fun w _ _ => s_var rfl) (fun _ _ => rfl) rfl (by omega))
    show StS b _ [.dat (li cells), .dat (.int m), .own (rows.map Rw.d), .own (cs.map ti), .dat (.int (gi g 1)), .dat (.int (gi g 0)), .dat (.int (i : Int)), .dat (li g), .dat (li (touF g)), .dat (li (loaF g)), .no, .no, .no, .no, .no, .no] _
    refine st_seq (st_set (Γ1 := [.dat (li cells), .dat (.int m), .own (rows.map Rw.d), .own (cs.map ti), .dat (.int (gi g 1)), .dat (.int (gi g 0)), .dat (.int (i : Int)), .dat (li g), .dat (li (touF g)), .dat (li (loaF g)), .no, .no, .no, .no, .no, .no]) (s := .dat (li (stoF g))) ?_) ?_
    · exact s_weak (s_filt (b := b) (Γ1 := [.dat (li cells), .dat (.int m), .own (rows.map Rw.d), .own (cs.map ti), .dat (.int (gi g 1)), .dat (.int (gi g 0)), .dat (.int (i : Int)), .dat (li g), .dat (li (touF g)), .dat (li (loaF g)), .no, .no, .no, .no, .no, .no])
        (tt := tOr (tTest (tOp (rEqD b.K) (tOp (rIx b.K) (tVar 7) (tC (.int 2))) (tC (.int 1)))) (tAnd (tTest (tOp (rEqD b.K) (tOp (rIx b.K) (tVar 7) (tC (.int 2))) (tC (.int 2)))) (tTest (tOp (rEqD b.K) (tVar 13) (tOp (rIx b.K) (tVar 7) (tC (.int 3))))))) (te := tVar 13) (g := gName 13) (vs := [13]) (ks := touF g) (φ := PyData.int) (i_list (s_var rfl))
        (fun w => [.dat (li cells), .dat (.int m), .own (rows.map Rw.d), .own (cs.map ti), .dat (.int (gi g 1)), .dat (.int (gi g 0)), .dat (.int (i : Int)), .dat (li g), .dat (li (touF g)), .dat (li (loaF g)), .no, .no, .no, .dat (.int w), .no, .no])
        (fun w => decide (gi g 2 = 1) || (decide (gi g 2 = 2) && decide (w = gi g 3))) PyData.int (fun w _ => gv_name)
        (fun w _ => t_or (t_test (s_op (ixg gl 2 (by decide) rfl) s_int rd_eqI)) (fun _ => t_and (t_test (s_op (ixg gl 2 (by decide) rfl) s_int rd_eqI)) (fun _ => t_test (s_op (s_var rfl) (ixg gl 3 (by decide) rfl) rd_eqI))))
        (fun w _ _ => s_var rfl) (fun _ _ => rfl) rfl (by omega))
    show StS b _ [.dat (li cells), .dat (.int m), .own (rows.map Rw.d), .own (cs.map ti), .dat (.int (gi g 1)), .dat (.int (gi g 0)), .dat (.int (i : Int)), .dat (li g), .dat (li (touF g)), .dat (li (loaF g)), .dat (li (stoF g)), .no, .no, .no, .no, .no] _
    have hlt : (gi g 0).toNat < cs.length := by have := ok.cl; dsimp only at this; omega
    have hcg : cs[(gi g 0).toNat]? = some (cs.getD (gi g 0).toNat []) := by rw [List.getD_eq_getElem?_getD, List.getElem?_eq_getElem hlt]; rfl
    have hcl : (cs.getD (gi g 0).toNat []).length = m.toNat := ok.ce _ (List.mem_of_getElem? hcg)
    have ha : atI (cs.map ti) (gi g 0) = some (ti (cs.getD (gi g 0).toNat [])) := atI_ok g00 (by rw [List.getElem?_map, hcg]; rfl)
    have eR : rowStep g (rows, cs) = (rows ++ [⟨gi g 0, cs.getD (gi g 0).toNat [], g⟩], cs.set (gi g 0).toNat (ownF (rows ++ [⟨gi g 0, cs.getD (gi g 0).toNat [], g⟩]) (cs.getD (gi g 0).toNat []) g)) := rfl
    rw [eR]
    dsimp only
    clear eR
    generalize hce : cs.getD (gi g 0).toNat [] = c at hcg hcl ha ⊢
    have hrc : ∀ r ∈ rows ++ [⟨gi g 0, c, g⟩], r.c.length = m.toNat := fun r hr => by
      rcases List.mem_append.mp hr with z | z
      · exact ok.rc r z
      · rw [List.mem_singleton.mp z]; exact hcl
    refine st_seq (st_is (st_append (i := 2) (d := Rw.d ⟨gi g 0, c, g⟩) rfl (s_lstE (ds := [.int (gi g 0), .int (c.getD (gi g 0).toNat 0), ti c, li (loaF g), li (stoF g), .tuple [.int (gi g 0), .int (gi g 1), .int (gi g 5)]]) (a_cons (s_var rfl) (a_cons (s_op (s_ixO rfl (s_var rfl) ha) (s_var rfl) (rd_ixTi g00 (by omega))) (a_cons (s_ixO rfl (s_var rfl) ha) (a_cons (s_var rfl) (a_cons (s_var rfl) (a_cons (s_tupE (a_cons (s_var rfl) (a_cons (s_var rfl) (a_cons (ixg gl 5 (by decide) rfl) a_nil))) (Nat.le_of_ble_eq_true rfl)) a_nil)))))) (Nat.le_of_ble_eq_true rfl)) (by rw [List.length_map]; omega)) (Γ2 := [.dat (li cells), .dat (.int m), .own ((rows ++ [(⟨gi g 0, c, g⟩ : Rw)]).map Rw.d), .own (cs.map ti), .dat (.int (gi g 1)), .dat (.int (gi g 0)), .dat (.int (i : Int)), .dat (li g), .dat (li (touF g)), .dat (li (loaF g)), .dat (li (stoF g)), .no, .no, .no, .no, .no]) ?_) ?_
    · show [.dat (li cells), .dat (.int m), Sl.own (rows.map Rw.d ++ [Rw.d ⟨gi g 0, c, g⟩]), .own (cs.map ti), .dat (.int (gi g 1)), .dat (.int (gi g 0)), .dat (.int (i : Int)), .dat (li g), .dat (li (touF g)), .dat (li (loaF g)), .dat (li (stoF g)), .no, .no, .no, .no, .no] = _
      rw [List.map_append]; rfl
    have hr2 : (rows ++ [(⟨gi g 0, c, g⟩ : Rw)]).length ≤ 31 := by rw [List.length_append, hr]; simp; omega
    generalize rows ++ [(⟨gi g 0, c, g⟩ : Rw)] = rows2 at hrc hr2 ⊢
    clear ok hr hce
    refine st_seq (st_set (i := 11) (Γ1 := [.dat (li cells), .dat (.int m), .own (rows2.map Rw.d), .own (cs.map ti), .dat (.int (gi g 1)), .dat (.int (gi g 0)), .dat (.int (i : Int)), .dat (li g), .dat (li (touF g)), .dat (li (loaF g)), .dat (li (stoF g)), .no, .no, .no, .no, .no]) (s := .own (c.map .int)) (s_cb (a_cons (s_ixO rfl (s_var rfl) ha) a_nil) cd_listT)) ?_
    show StS b _ [.dat (li cells), .dat (.int m), .own (rows2.map Rw.d), .own (cs.map ti), .dat (.int (gi g 1)), .dat (.int (gi g 0)), .dat (.int (i : Int)), .dat (li g), .dat (li (touF g)), .dat (li (loaF g)), .dat (li (stoF g)), .own (c.map .int), .no, .no, .no, .no] _
    refine st_seq (st_setLi (i := 11) (k := gi g 0) (v := c.getD (gi g 0).toNat 0 + 1) (rs := c) (Γ2 := [.dat (li cells), .dat (.int m), .own (rows2.map Rw.d), .own (cs.map ti), .dat (.int (gi g 1)), .dat (.int (gi g 0)), .dat (.int (i : Int)), .dat (li g), .dat (li (touF g)), .dat (li (loaF g)), .dat (li (stoF g)), .own ((c.set (gi g 0).toNat (c.getD (gi g 0).toNat 0 + 1)).map .int), .no, .no, .no, .no]) rfl (s_op (s_ixO rfl (s_var rfl) (atI_ints g00 (by omega))) s_int rd_int) (s_var rfl) g00 (by omega) rfl) ?_
    have hown := own_len (g := g) hrc hcl
    refine st_seq (t := tIfS _ _ _) (Γ1 := [.dat (li cells), .dat (.int m), .own (rows2.map Rw.d), .own (cs.map ti), .dat (.int (gi g 1)), .dat (.int (gi g 0)), .dat (.int (i : Int)), .dat (li g), .dat (li (touF g)), .dat (li (loaF g)), .dat (li (stoF g)), .own ((ownF rows2 c g).map .int), .no, .no, .no, .no]) ?_ (st_frz (i := 11) (ds := (ownF rows2 c g).map .int) rfl ?_)
    · have eO : ownF rows2 c g = if 0 < gi g 5 ∧ gi g 1 ≠ gi g 0 then (match lastRow (gi g 1) rows2 with | some r => List.zipWith max (c.set (gi g 0).toNat (c.getD (gi g 0).toNat 0 + 1)) r.c | none => c.set (gi g 0).toNat (c.getD (gi g 0).toNat 0 + 1)) else c.set (gi g 0).toNat (c.getD (gi g 0).toNat 0 + 1) := rfl
      have hc1 : (c.set (gi g 0).toNat (c.getD (gi g 0).toNat 0 + 1)).length = m.toNat := by rw [List.length_set]; exact hcl
      rw [eO]
      clear eO hown
      generalize c.set (gi g 0).toNat (c.getD (gi g 0).toNat 0 + 1) = c1 at hc1 ⊢
      refine st_if (k := decide (0 < gi g 5) && !decide (gi g 1 = gi g 0)) (t_and (t_test (s_op (ixg gl 5 (by decide) rfl) s_int rd_bl)) (fun _ => t_test (s_op (s_var rfl) (s_var rfl) rd_neI))) (fun hh => ?_) (fun hh => ?_)
      · have hab : 0 < gi g 5 ∧ gi g 1 ≠ gi g 0 := by simpa using hh
        rw [if_pos hab]
        refine st_seq (st_set (i := 12) (Γ1 := [.dat (li cells), .dat (.int m), .own (rows2.map Rw.d), .own (cs.map ti), .dat (.int (gi g 1)), .dat (.int (gi g 0)), .dat (.int (i : Int)), .dat (li g), .dat (li (touF g)), .dat (li (loaF g)), .dat (li (stoF g)), .own (c1.map .int), .no, .no, .no, .no]) (s := .dat (.list ((rows2.filter fun r => decide (r.p = gi g 1)).map Rw.d))) (s_weak (s_filtO (kk := 2) (tt := tTest (tOp (rEqD b.K) (tOp (rIx b.K) (tVar 14) (tC (.int 0))) (tVar 4))) (te := tVar 14) (g := gName 14) (vs := [14]) (ks := rows2) (φ := Rw.d) rfl (by decide) rfl
          (fun r => [.dat (li cells), .dat (.int m), .own (rows2.map Rw.d), .own (cs.map ti), .dat (.int (gi g 1)), .dat (.int (gi g 0)), .dat (.int (i : Int)), .dat (li g), .dat (li (touF g)), .dat (li (loaF g)), .dat (li (stoF g)), .own (c1.map .int), .no, .no, .dat r.d, .no]) (fun r => decide (r.p = gi g 1)) Rw.d (fun r _ => gv_name) (fun r _ => t_test (s_op (s_op (d := .list [.int r.p, .int r.n, ti r.c, li (loaF r.g), li (stoF r.g), .tuple [.int r.p, .int (gi r.g 1), .int (gi r.g 5)]]) (s_var rfl) s_int (rd_ixL rfl)) (s_var rfl) rd_eqI)) (fun r _ _ => s_var rfl) (fun _ _ => rfl) rfl (by omega)))) ?_
        show StS b _ [.dat (li cells), .dat (.int m), .own (rows2.map Rw.d), .own (cs.map ti), .dat (.int (gi g 1)), .dat (.int (gi g 0)), .dat (.int (i : Int)), .dat (li g), .dat (li (touF g)), .dat (li (loaF g)), .dat (li (stoF g)), .own (c1.map .int), .dat (.list ((rows2.filter fun r => decide (r.p = gi g 1)).map Rw.d)), .no, .no, .no] _
        have hfs : ∀ r ∈ rows2.filter (fun r => decide (r.p = gi g 1)), r.c.length = m.toNat := fun r hr => hrc r (List.mem_filter.mp hr).1
        unfold lastRow
        generalize rows2.filter (fun r => decide (r.p = gi g 1)) = fs at hfs ⊢
        refine st_if (k := !fs.isEmpty) (t_test (s_op (s_var rfl) (s_lstE a_nil (by decide)) rd_neNil)) (fun h => ?_) (fun h => ?_)
        · have hne : fs ≠ [] := by simpa using h
          have hla : fs.getLast? = some (fs.getLast hne) := List.getLast?_eq_some_getLast hne
          have hlr := hfs _ (List.getLast_mem hne)
          have hat : atI (fs.map Rw.d) (-1) = some (fs.getLast hne).d := by
            rw [atI_last (by simpa using hne), List.getLast_map]
          rw [hla]
          dsimp only
          generalize fs.getLast hne = r at hlr hat ⊢
          refine st_wk ?_ (st_set (i := 11) (Γ1 := [.dat (li cells), .dat (.int m), .own (rows2.map Rw.d), .own (cs.map ti), .dat (.int (gi g 1)), .dat (.int (gi g 0)), .dat (.int (i : Int)), .dat (li g), .dat (li (touF g)), .dat (li (loaF g)), .dat (li (stoF g)), .own (c1.map .int), .dat (.list (fs.map Rw.d)), .no, .no, .no]) (s := .own ((List.zipWith max c1 r.c).map .int)) ?_)
          · show wk [.dat (li cells), .dat (.int m), .own (rows2.map Rw.d), .own (cs.map ti), .dat (.int (gi g 1)), .dat (.int (gi g 0)), .dat (.int (i : Int)), .dat (li g), .dat (li (touF g)), .dat (li (loaF g)), .dat (li (stoF g)), .own ((List.zipWith max c1 r.c).map .int), .dat (.list (fs.map Rw.d)), .no, .no, .no] _
            walk_at "g_wk"
          · have := s_map (b := b) (Γ1 := [.dat (li cells), .dat (.int m), .own (rows2.map Rw.d), .own (cs.map ti), .dat (.int (gi g 1)), .dat (.int (gi g 0)), .dat (.int (i : Int)), .dat (li g), .dat (li (touF g)), .dat (li (loaF g)), .dat (li (stoF g)), .own (c1.map .int), .dat (.list (fs.map Rw.d)), .no, .no, .no]) (te := tCB rMax2 (tCons (tOp (rIx b.K) (tVar 11) (tVar 15)) (tCons (tOp (rIx b.K) (tOp (rIx b.K) (tOp (rIx b.K) (tVar 12) (tUn (rU fun i => .int (-i)) (tC (.int 1)))) (tC (.int 2))) (tVar 15)) tNil))) (g := gName 15) (vs := [15]) (ks := List.range m.toNat) (φ := fun k : Nat => PyData.int (k : Int))
              (i_range1 (ta := tCons (tVar 1) tNil) (n := m) (a_cons (s_var rfl) a_nil) (by omega) (by omega)) (fun j => [.dat (li cells), .dat (.int m), .own (rows2.map Rw.d), .own (cs.map ti), .dat (.int (gi g 1)), .dat (.int (gi g 0)), .dat (.int (i : Int)), .dat (li g), .dat (li (touF g)), .dat (li (loaF g)), .dat (li (stoF g)), .own (c1.map .int), .dat (.list (fs.map Rw.d)), .no, .no, .dat (.int (j : Int))]) (fun j => .int (max (c1.getD j 0) (r.c.getD j 0))) (fun j _ => gv_name) (fun j hj => ?_) (fun _ _ => rfl) rfl (by simp; omega)
            · rw [map_nat m.toNat (fun j => max (c1.getD j 0) (r.c.getD j 0)) PyData.int, ← hc1, zw_range c1 r.c (by omega)] at this
              exact this
            · have hj' : j < m.toNat := by simpa using hj
              refine s_dat (d := .int (max (c1.getD (j : Int).toNat 0) (r.c.getD (j : Int).toNat 0))) (s_cb (a_cons (s_ixO (k := (j : Int)) rfl (s_var rfl) (atI_ints (by omega) (by omega))) (a_cons (s_op (s_op (d := .list [.int r.p, .int r.n, ti r.c, li (loaF r.g), li (stoF r.g), .tuple [.int r.p, .int (gi r.g 1), .int (gi r.g 5)]]) (s_op (s_var rfl) (s_un s_int ud_neg) (rd_ixL hat)) s_int (rd_ixL rfl)) (s_var rfl) (rd_ixTi (by omega) (by omega))) a_nil)) cd_max2) (by rw [toN])
        · have hne : fs = [] := by simpa using h
          subst hne
          refine st_wk ?_ st_next
          show wk [.dat (li cells), .dat (.int m), .own (rows2.map Rw.d), .own (cs.map ti), .dat (.int (gi g 1)), .dat (.int (gi g 0)), .dat (.int (i : Int)), .dat (li g), .dat (li (touF g)), .dat (li (loaF g)), .dat (li (stoF g)), .own (c1.map .int), .dat (.list (([] : List Rw).map Rw.d)), .no, .no, .no] [.dat (li cells), .dat (.int m), .own (rows2.map Rw.d), .own (cs.map ti), .dat (.int (gi g 1)), .dat (.int (gi g 0)), .dat (.int (i : Int)), .dat (li g), .dat (li (touF g)), .dat (li (loaF g)), .dat (li (stoF g)), .own (c1.map .int), .no, .no, .no, .no]
          walk_at "g_wk"
      · have hab : ¬ (0 < gi g 5 ∧ gi g 1 ≠ gi g 0) := by
          intro z
          rw [decide_eq_true z.1, decide_eq_false z.2] at hh
          cases hh
        rw [if_neg hab]
        exact st_next
    · show StS b _ [.dat (li cells), .dat (.int m), .own (rows2.map Rw.d), .own (cs.map ti), .dat (.int (gi g 1)), .dat (.int (gi g 0)), .dat (.int (i : Int)), .dat (li g), .dat (li (touF g)), .dat (li (loaF g)), .dat (li (stoF g)), .dat (.list ((ownF rows2 c g).map .int)), .no, .no, .no, .no] _
      refine st_wk ?_ (st_setL (i := 3) (j := (gi g 0).toNat) (k := gi g 0) (d := ti (ownF rows2 c g)) rfl (s_cb (a_cons (s_var rfl) a_nil) cd_tupL) (s_var rfl) (ixN_ok g00 (by rw [List.length_map]; omega)))
      rw [List.map_set]
      show wk [.dat (li cells), .dat (.int m), .own (rows2.map Rw.d), .own ((cs.map ti).set (gi g 0).toNat (ti (ownF rows2 c g))), .dat (.int (gi g 1)), .dat (.int (gi g 0)), .dat (.int (i : Int)), .dat (li g), .dat (li (touF g)), .dat (li (loaF g)), .dat (li (stoF g)), .dat (li (ownF rows2 c g)), .no, .no, .no, .no] _
      walk_at "g_wk"
  · have : runF cells m = (runSt cells m ((List.range (cells.length : Int).toNat).map fun k : Nat => PyData.int (k : Int)).length).1 := by simp [runF]
    rw [this] at hq
    exact n_ret (s_own (i := 2) rfl) hq
theorem asc_len (hi : Int) : ∀ (xs : List Int) (lo : Int), xs.Pairwise (· < ·) → (∀ y ∈ xs, lo ≤ y ∧ y < hi) → lo ≤ hi → (xs.length : Int) ≤ hi - lo
  | [], lo, _, _, h => by simp; omega
  | x :: xs, lo, hp, hb, _ => by
    have a := List.pairwise_cons.mp hp
    have b := hb x List.mem_cons_self
    have := asc_len hi xs (x + 1) a.2 (fun y hy => ⟨by have := a.1 y hy; omega, (hb y (List.mem_cons_of_mem _ hy)).2⟩) (by omega)
    rw [List.length_cons]
    omega
structure WOk (m : Int) (k : Nat) (s : Wy) : Prop where
  bl : s.bf.length = k
  bb : ∀ (x : Nat) (l : List Int), s.bf[x]? = some l → l.Pairwise (· < ·) ∧ ∀ y ∈ l, 0 ≤ y ∧ y < (x : Int)
  ll : s.la.length = m.toNat
  tl : s.ta.length = m.toNat
  lb : ∀ y ∈ s.la, -1 ≤ y ∧ y < (k : Int)
  tb : ∀ y ∈ s.ta, -1 ≤ y ∧ y < (k : Int)
theorem getD_in {P : Int → Prop} {xs : List Int} {d : Int} (h : ∀ y ∈ xs, P y) {i : Nat} (hi : i < xs.length) : P (xs.getD i d) := by
  rw [List.getD_eq_getElem?_getD, List.getElem?_eq_getElem hi]; exact h _ (List.getElem_mem hi)
theorem found_in {m : Int} {k : Nat} {s : Wy} (h : WOk m k s) {st : Int} (h0 : -1 ≤ st) (h1 : st < (k : Int)) : (foundF s.bf st).length ≤ k ∧ ∀ y ∈ foundF s.bf st, 0 ≤ y ∧ y < (k : Int) := by
  unfold foundF
  split
  · rename_i hp
    have hlt : st.toNat < s.bf.length := by rw [h.bl]; omega
    have e : s.bf[st.toNat]? = some (s.bf.getD st.toNat []) := by rw [List.getD_eq_getElem?_getD, List.getElem?_eq_getElem hlt]; rfl
    obtain ⟨a, b⟩ := h.bb _ _ e
    have := asc_len (st.toNat : Int) _ 0 a b (by omega)
    refine ⟨by rw [List.length_cons]; omega, fun y hy => ?_⟩
    rcases List.mem_cons.mp hy with z | z
    · omega
    · have := b y z; omega
  · exact ⟨by simp, fun y hy => by cases hy⟩
theorem mem_set_or {xs : List Int} {i : Nat} {v : Int} {P : Int → Prop} (h : ∀ y ∈ xs, P y) (hv : P v) : ∀ y ∈ xs.set i v, P y := fun y hy => by
  rcases List.mem_or_eq_of_mem_set hy with z | z
  · exact h y z
  · rw [z]; exact hv
theorem wok_step {m : Int} {k : Nat} {s : Wy} {r : Rw} (h : WOk m k s) (g : r.good m) : WOk m (k + 1) (wayStep k r s) := by
  have hla : ∀ y ∈ s.la.set r.p.toNat (k : Int), -1 ≤ y ∧ y < ((k + 1 : Nat) : Int) := mem_set_or (fun y hy => by have := h.lb y hy; omega) (by omega)
  have hta : ∀ y ∈ s.ta.set r.p.toNat (-1), -1 ≤ y ∧ y < ((k + 1 : Nat) : Int) := mem_set_or (fun y hy => by have := h.tb y hy; omega) (by omega)
  obtain ⟨p0, p1, q0, q1⟩ := g
  have hp : r.p.toNat < s.la.length := by rw [h.ll]; omega
  have hp2 : r.p.toNat < s.ta.length := by rw [h.tl]; omega
  have a1 := getD_in (d := 0) h.lb hp
  have a2 := getD_in (d := 0) h.tb hp2
  have f1 := found_in h a1.1 a1.2
  have f2 := found_in h a2.1 a2.2
  refine ⟨by show (_ ++ [_]).length = _; rw [List.length_append, h.bl]; rfl, fun x l e => ?_, by show (List.set _ _ _).length = _; rw [List.length_set]; exact h.ll, ?_, hla, ?_⟩
  · rcases Nat.lt_or_ge x k with hx | hx
    · have e' : (s.bf ++ [onceF (foundF s.bf (s.la.getD r.p.toNat 0) ++ foundF s.bf (s.ta.getD r.p.toNat 0))])[x]? = some l := e
      rw [List.getElem?_append_left (by rw [h.bl]; exact hx)] at e'
      exact h.bb x l e'
    · have e' : (s.bf ++ [onceF (foundF s.bf (s.la.getD r.p.toNat 0) ++ foundF s.bf (s.ta.getD r.p.toNat 0))])[x]? = some l := e
      rw [List.getElem?_append_right (by rw [h.bl]; exact hx), h.bl] at e'
      obtain ⟨z, w⟩ := List.getElem?_eq_some_iff.mp e'
      have zx : x = k := by simp at z; omega
      subst zx
      simp at w
      subst w
      refine ⟨once_asc _, fun y hy => ?_⟩
      rcases List.mem_append.mp ((once_mem y _).mp hy) with z | z
      · exact f1.2 y z
      · exact f2.2 y z
  · unfold wayStep
    dsimp only
    split
    · rw [List.length_set, List.length_set]; exact h.tl
    · rw [List.length_set]; exact h.tl
  · unfold wayStep
    dsimp only
    split
    · refine mem_set_or hta ?_
      exact getD_in (d := 0) hla (by rw [List.length_set, h.ll]; omega)
    · exact hta
theorem way_succ {rows : List Rw} {m : Int} {k : Nat} {r : Rw} (e : rows[k]? = some r) : waySt rows m (k + 1) = wayStep k r (waySt rows m k) := by
  show (match rows[k]? with | some r => wayStep k r (waySt rows m k) | none => waySt rows m k) = _
  rw [e]
theorem wok_all {m : Int} {rows : List Rw} (hg : ∀ r ∈ rows, r.good m) : ∀ k, k ≤ rows.length → WOk m k (waySt rows m k)
  | 0, _ => ⟨rfl, fun x l e => by simp [waySt] at e, by simp [waySt], by simp [waySt], fun y hy => by simp only [waySt, List.mem_replicate] at hy; omega, fun y hy => by simp only [waySt, List.mem_replicate] at hy; omega⟩
  | k + 1, hk => by
    have e : rows[k]? = some rows[k] := List.getElem?_eq_getElem (by omega)
    rw [way_succ e]
    exact wok_step (wok_all hg k (by omega)) (hg _ (List.mem_of_getElem? e))
/-! ### the ways, read -/
theorem g_tup3 {b : Bs} {K : PySem.W.Frag} {T Γ : List Sl} {τ σ : L2.St} {H : Hp} {x : V} (hK : b.K = K) {i j k : Nat} {d e f : PyData} (hs : Hs b (.dat (.tuple [d, e, f]) :: T) (some x :: τ) Γ σ H) {Q : L2.St → Hp → Prop} (q : ∀ σ', Hs b T τ (((Γ.set i (.dat d)).set j (.dat e)).set k (.dat f)) σ' H → Q σ' H) : gTup K 3 (gCons (gName i) (gCons (gName j) (gCons (gName k) gNil))) x σ H Q := by
  obtain ⟨C, dx, h⟩ := hs.pop
  subst hK
  cases dx with
  | tup hq ha =>
    rename_i a xs
    cases ha with
    | cons r1 ha =>
      cases ha with
      | cons r2 ha =>
        cases ha with
        | cons r3 ha =>
          cases ha
          rename_i v1 v2 v3
          refine ⟨a, _, rfl, ex_t h.ch hq, rfl, v1, _, rfl, v2, _, rfl, v3, _, rfl, rfl, ?_⟩
          have s1 : Hs b (.dat d :: .dat e :: .dat f :: T) (some v1 :: some v2 :: some v3 :: τ) Γ σ H := ⟨C, ((h.push r3).push r2).push r1⟩
          exact q _ (((s1.store i).store j).store k)
theorem st_asgT3 {b : Bs} {K : PySem.W.Frag} (hK : b.K = K) {Γ Γ1 : List Sl} {te : TE} {d e f : PyData} {i j k : Nat} (h : EvS b te Γ Γ1 (.dat (.tuple [d, e, f]))) : StS b (tAsg te (gTup K 3 (gCons (gName i) (gCons (gName j) (gCons (gName k) gNil))))) Γ (((Γ1.set i (.dat d)).set j (.dat e)).set k (.dat f)) := fun D T τ k σ H hs =>
  h T τ σ H hs _ fun v H' h' => g_tup3 hK h' fun σ' h2 => k _ _ h2
theorem len__law_ways (ds : List PyData) (s : Sl) (h : gr__law_ways ds s) : ds.length = 2 := by obtain ⟨_, _, _, _, _, _, rfl, _⟩ := h; rfl
def wayG (rows : List Rw) (m : Int) (k : Nat) : List Sl := [.dat (.list (rows.map Rw.d)), .dat (.int m), .own ((waySt rows m k).bf.map li), .own ((waySt rows m k).la.map .int), .own ((waySt rows m k).ta.map .int), .no, .no, .no, .no, .no, .no]
theorem s_minus {b : Bs} {Γ : List Sl} {m : Int} (h1 : 1 ≤ m) (h2 : m ≤ 4) (h : Γ[1]? = some (.dat (.int m))) : EvS b (tOp rRep (tLst (tCons (tUn (rU fun i => .int (-i)) (tC (.int 1))) tNil)) (tVar 1)) Γ Γ (.own ((List.replicate m.toNat (-1 : Int)).map .int)) := by
  have := s_repO (b := b) (s_lst (ds := [.int (-1)]) (a_cons (s_un s_int ud_neg) a_nil) (by decide)) (s_var h) (by omega) (by omega) (by decide)
  refine s_is this ?_
  congr 1
  simp
def accW (a b : List Int) : Nat → List Int
  | 0 => []
  | 1 => a
  | _ => a ++ b
theorem rd__law_ways (b : Bs) (D : Ends) (ds : List PyData) (s : Sl) (h : gr__law_ways ds s) (hq : ∀ v H', Ret b.K b.H0 b.B s v H' → D.rt v H') (hn : ∀ σ H, D.rt .non H → D.nx σ H) : Nx b (tr__law_ways b.K D) [] [] (Γ0 11 ds) := by
  obtain ⟨rows, m, h1, h2, hz, hg, rfl, rfl⟩ := h
  show Nx b _ [] [] [.dat (.list (rows.map Rw.d)), .dat (.int m), .no, .no, .no, .no, .no, .no, .no, .no, .no]
  refine n_go (st_set (s_lst a_nil)) (n_go (st_set (s_minus h1 h2 rfl)) (n_go (st_set (s_minus h1 h2 rfl)) ?_))
  refine n_go (st_for (its := (List.range (rows.length : Int).toNat).map fun k : Nat => PyData.int (k : Int)) (i_range1 (n := (rows.length : Int)) (a_cons (s_dat (s_cb (a_cons (s_var rfl) a_nil) cd_lenL) (by rw [List.length_map])) a_nil) (by omega) (by omega)) (wayG rows m) (fun i => (wayG rows m i).set 5 (.dat (.int (i : Int)))) ?_ (fun i di e => ?_) (fun i di e => ?_)) ?_
  · show wk [.dat (.list (rows.map Rw.d)), .dat (.int m), .own [], .own ((List.replicate m.toNat (-1 : Int)).map .int), .own ((List.replicate m.toNat (-1 : Int)).map .int), .no, .no, .no, .no, .no, .no] (wayG rows m 0)
    rw [show wayG rows m 0 = [.dat (.list (rows.map Rw.d)), .dat (.int m), .own [], .own ((List.replicate m.toNat (-1 : Int)).map .int), .own ((List.replicate m.toNat (-1 : Int)).map .int), .no, .no, .no, .no, .no, .no] from rfl]
    walk_at "g_wk"
  · obtain ⟨hlt, rfl⟩ := List.getElem?_eq_some_iff.mp e
    rw [List.getElem_map, List.getElem_range]
    exact g_name
  · obtain ⟨hlt, rfl⟩ := List.getElem?_eq_some_iff.mp e
    have hi : i < rows.length := by simpa using hlt
    clear e hlt hq hn
    have er : rows[i]? = some rows[i] := List.getElem?_eq_getElem hi
    have gd := hg _ (List.mem_of_getElem? er)
    have ok := wok_all hg i (by omega)
    unfold wayG
    rw [way_succ er]
    generalize waySt rows m i = ws at ok ⊢
    have hat : atI (rows.map Rw.d) (i : Int) = some (rows[i]).d := atI_ok (by omega) (by rw [toN, List.getElem?_map, er]; rfl)
    generalize rows[i] = r at gd hat ⊢
    clear er
    obtain ⟨p0, p1, q0, q1⟩ := id gd
    obtain ⟨bf, la, ta⟩ := ws
    have hp : r.p.toNat < la.length := by have := ok.ll; dsimp only at this; omega
    have hp2 : r.p.toNat < ta.length := by have := ok.tl; dsimp only at this; omega
    have hq2 : (gi r.g 1).toNat < la.length := by have := ok.ll; dsimp only at this; omega
    show StS b _ [.dat (.list (rows.map Rw.d)), .dat (.int m), .own (bf.map li), .own (la.map .int), .own (ta.map .int), .dat (.int (i : Int)), .no, .no, .no, .no, .no] _
    refine st_seq (st_asgT3 (i := 6) (j := 7) (k := 8) rfl (s_op (s_op (d := .list (rows.map Rw.d)) (s_var rfl) (s_var rfl) (rd_ixL hat)) s_int (rd_ixL (ds := [.int r.p, .int r.n, ti r.c, li (loaF r.g), li (stoF r.g), .tuple [.int r.p, .int (gi r.g 1), .int (gi r.g 5)]]) rfl))) ?_
    show StS b _ [.dat (.list (rows.map Rw.d)), .dat (.int m), .own (bf.map li), .own (la.map .int), .own (ta.map .int), .dat (.int (i : Int)), .dat (.int r.p), .dat (.int (gi r.g 1)), .dat (.int (gi r.g 5)), .no, .no] _
    refine st_seq (st_set (i := 9) (s_lst a_nil)) ?_
    show StS b _ [.dat (.list (rows.map Rw.d)), .dat (.int m), .own (bf.map li), .own (la.map .int), .own (ta.map .int), .dat (.int (i : Int)), .dat (.int r.p), .dat (.int (gi r.g 1)), .dat (.int (gi r.g 5)), .own [], .no] _
    have a1 := getD_in (d := 0) ok.lb hp
    have a2 := getD_in (d := 0) ok.tb hp2
    dsimp only at a1 a2
    have f1 := found_in ok a1.1 a1.2
    have f2 := found_in ok a2.1 a2.2
    dsimp only at f1 f2
    have hstep : ∀ (acc : List Int) (st : Int) (x : Sl), acc.length ≤ 100 → -1 ≤ st → st < (i : Int) → (foundF bf st).length ≤ i → StS b (tIfS (tTest (tOp (rI0 fun i j => .bl (decide (j ≤ i))) (tVar 10) (tC (.int 0)))) (tAsg (tOp (rCatS b.K) (tOp (rCatS b.K) (tVar 9) (tLst (tCons (tVar 10) tNil))) (tOp (rIx b.K) (tVar 2) (tVar 10))) (gName 9)) tNext)
        [.dat (.list (rows.map Rw.d)), .dat (.int m), .own (bf.map li), .own (la.map .int), .own (ta.map .int), .dat (.int (i : Int)), .dat (.int r.p), .dat (.int (gi r.g 1)), .dat (.int (gi r.g 5)), .own (acc.map .int), .dat (.int st)]
        [.dat (.list (rows.map Rw.d)), .dat (.int m), .own (bf.map li), .own (la.map .int), .own (ta.map .int), .dat (.int (i : Int)), .dat (.int r.p), .dat (.int (gi r.g 1)), .dat (.int (gi r.g 5)), .own ((acc ++ foundF bf st).map .int), .no] := by
      intro acc st x hl s0 s1 hfl
      refine st_if (k := decide (0 ≤ st)) (t_test (s_op (s_var rfl) s_int rd_bl)) (fun hh => ?_) (fun hh => ?_)
      · have hs := of_decide_eq_true hh
        have ef : foundF bf st = st :: bf.getD st.toNat [] := if_pos hs
        have hlt : st.toNat < bf.length := by have := ok.bl; dsimp only at this; omega
        have hbt : atI (bf.map li) st = some (li (bf.getD st.toNat [])) := atI_ok hs (by rw [List.getElem?_map, List.getElem?_eq_getElem hlt, List.getD_eq_getElem?_getD, List.getElem?_eq_getElem hlt]; rfl)
        rw [ef] at hfl ⊢
        rw [List.length_cons] at hfl
        refine st_wk ?_ (st_set (i := 9) (Γ1 := [.dat (.list (rows.map Rw.d)), .dat (.int m), .own (bf.map li), .own (la.map .int), .own (ta.map .int), .dat (.int (i : Int)), .dat (.int r.p), .dat (.int (gi r.g 1)), .dat (.int (gi r.g 5)), .no, .dat (.int st)]) (s_op (s_weak (s_op (s_frz (i := 9) rfl) (s_lstE (a_cons (s_var rfl) a_nil) (Nat.le_of_ble_eq_true rfl)) (rd_catS (by simp only [List.length_append, List.length_map, List.length_cons, List.length_nil]; omega)))) (s_ixO (i := 2) rfl (s_var rfl) hbt) (rd_catS (by simp only [List.length_append, List.length_map, List.length_cons, List.length_nil]; omega))))
        show wk [.dat (.list (rows.map Rw.d)), .dat (.int m), .own (bf.map li), .own (la.map .int), .own (ta.map .int), .dat (.int (i : Int)), .dat (.int r.p), .dat (.int (gi r.g 1)), .dat (.int (gi r.g 5)), .own ((acc.map .int ++ [.int st]) ++ (bf.getD st.toNat []).map .int), .dat (.int st)] _
        rw [show (acc.map PyData.int ++ [PyData.int st]) ++ (bf.getD st.toNat []).map PyData.int = (acc ++ st :: bf.getD st.toNat []).map PyData.int by simp]
        walk_at "g_wk"
      · have ef : foundF bf st = [] := if_neg (of_decide_eq_false hh)
        rw [ef, List.append_nil]
        refine st_wk ?_ st_next
        walk_at "g_wk"
    have hz1 := ok.bl
    dsimp only at hz1
    refine st_seq (Γ1 := [.dat (.list (rows.map Rw.d)), .dat (.int m), .own (bf.map li), .own (la.map .int), .own (ta.map .int), .dat (.int (i : Int)), .dat (.int r.p), .dat (.int (gi r.g 1)), .dat (.int (gi r.g 5)), .own ((foundF bf (la.getD r.p.toNat 0) ++ foundF bf (ta.getD r.p.toNat 0)).map .int), .no]) (st_for (its := [.int (la.getD r.p.toNat 0), .int (ta.getD r.p.toNat 0)]) (i_tup (s_tupE (a_cons (s_ixO (i := 3) rfl (s_var rfl) (atI_ints p0 (by omega))) (a_cons (s_ixO (i := 4) rfl (s_var rfl) (atI_ints p0 (by omega))) a_nil)) (Nat.le_of_ble_eq_true rfl)))
      (fun j => [.dat (.list (rows.map Rw.d)), .dat (.int m), .own (bf.map li), .own (la.map .int), .own (ta.map .int), .dat (.int (i : Int)), .dat (.int r.p), .dat (.int (gi r.g 1)), .dat (.int (gi r.g 5)), .own ((accW (foundF bf (la.getD r.p.toNat 0)) (foundF bf (ta.getD r.p.toNat 0)) j).map .int), .no]) (fun j => [.dat (.list (rows.map Rw.d)), .dat (.int m), .own (bf.map li), .own (la.map .int), .own (ta.map .int), .dat (.int (i : Int)), .dat (.int r.p), .dat (.int (gi r.g 1)), .dat (.int (gi r.g 5)), .own ((accW (foundF bf (la.getD r.p.toNat 0)) (foundF bf (ta.getD r.p.toNat 0)) j).map .int), .dat (.int (if j = 0 then la.getD r.p.toNat 0 else ta.getD r.p.toNat 0))]) ?_ (fun j di e => ?_) (fun j di e => ?_)) ?_
    · show wk [.dat (.list (rows.map Rw.d)), .dat (.int m), .own (bf.map li), .own (la.map .int), .own (ta.map .int), .dat (.int (i : Int)), .dat (.int r.p), .dat (.int (gi r.g 1)), .dat (.int (gi r.g 5)), .own [], .no] [.dat (.list (rows.map Rw.d)), .dat (.int m), .own (bf.map li), .own (la.map .int), .own (ta.map .int), .dat (.int (i : Int)), .dat (.int r.p), .dat (.int (gi r.g 1)), .dat (.int (gi r.g 5)), .own [], .no]
      walk_at "g_wk"
    · match j, e with
      | 0, e => cases e; exact g_name
      | 1, e => cases e; exact g_name
      | j + 2, e => simp at e
    · match j, e with
      | 0, e => exact hstep [] _ .no (by simp) a1.1 a1.2 f1.1
      | 1, e => exact hstep (foundF bf (la.getD r.p.toNat 0)) _ .no (by omega) a2.1 a2.2 f2.1
      | j + 2, e => simp at e
    · have eW : wayStep i r ⟨bf, la, ta⟩ = ⟨bf ++ [onceF (foundF bf (la.getD r.p.toNat 0) ++ foundF bf (ta.getD r.p.toNat 0))], la.set r.p.toNat (i : Int), if 0 < gi r.g 5 ∧ gi r.g 1 ≠ r.p then (ta.set r.p.toNat (-1)).set r.p.toNat ((la.set r.p.toNat (i : Int)).getD (gi r.g 1).toNat 0) else ta.set r.p.toNat (-1)⟩ := rfl
      rw [eW]
      dsimp only
      have hfl : (foundF bf (la.getD r.p.toNat 0) ++ foundF bf (ta.getD r.p.toNat 0)).length < 64 := by rw [List.length_append]; omega
      clear hstep f1 f2 a1 a2 eW
      generalize foundF bf (la.getD r.p.toNat 0) ++ foundF bf (ta.getD r.p.toNat 0) = fo at hfl ⊢
      refine st_frz (i := 9) (ds := fo.map .int) rfl ?_
      show StS b _ [.dat (.list (rows.map Rw.d)), .dat (.int m), .own (bf.map li), .own (la.map .int), .own (ta.map .int), .dat (.int (i : Int)), .dat (.int r.p), .dat (.int (gi r.g 1)), .dat (.int (gi r.g 5)), .dat (li fo), .no] _
      refine st_seq (st_append (i := 2) rfl (s_weak (s_soSet (ns := fo) (a_cons (s_var rfl) a_nil) hfl (once_asc fo) fun k => once_mem k fo)) (by rw [List.length_map]; omega)) ?_
      show StS b _ [.dat (.list (rows.map Rw.d)), .dat (.int m), .own (bf.map li ++ [li (onceF fo)]), .own (la.map .int), .own (ta.map .int), .dat (.int (i : Int)), .dat (.int r.p), .dat (.int (gi r.g 1)), .dat (.int (gi r.g 5)), .dat (li fo), .no] _
      refine st_seq (st_setLi (i := 3) (k := r.p) (v := (i : Int)) (rs := la) (Γ2 := [.dat (.list (rows.map Rw.d)), .dat (.int m), .own (bf.map li ++ [li (onceF fo)]), .own ((la.set r.p.toNat (i : Int)).map .int), .own (ta.map .int), .dat (.int (i : Int)), .dat (.int r.p), .dat (.int (gi r.g 1)), .dat (.int (gi r.g 5)), .dat (li fo), .no]) rfl (s_var rfl) (s_var rfl) p0 (by omega) rfl) ?_
      refine st_seq (st_setLi (i := 4) (k := r.p) (v := -1) (rs := ta) (Γ2 := [.dat (.list (rows.map Rw.d)), .dat (.int m), .own (bf.map li ++ [li (onceF fo)]), .own ((la.set r.p.toNat (i : Int)).map .int), .own ((ta.set r.p.toNat (-1)).map .int), .dat (.int (i : Int)), .dat (.int r.p), .dat (.int (gi r.g 1)), .dat (.int (gi r.g 5)), .dat (li fo), .no]) rfl (s_un s_int ud_neg) (s_var rfl) p0 (by omega) rfl) ?_
      have hq3 : (gi r.g 1).toNat < (la.set r.p.toNat (i : Int)).length := by rw [List.length_set]; exact hq2
      rw [List.map_append]
      have hs4 : r.p < ((ta.set r.p.toNat (-1)).length : Int) := by rw [List.length_set]; omega
      generalize la.set r.p.toNat (i : Int) = la2 at hq3 ⊢
      generalize ta.set r.p.toNat (-1) = ta2 at hs4 ⊢
      refine st_if (k := decide (0 < gi r.g 5) && !decide (gi r.g 1 = r.p)) (t_and (t_test (s_op (s_var rfl) s_int rd_bl)) (fun _ => t_test (s_op (s_var rfl) (s_var rfl) rd_neI))) (fun hh => ?_) (fun hh => ?_)
      · have hab : 0 < gi r.g 5 ∧ gi r.g 1 ≠ r.p := by simpa using hh
        rw [if_pos hab]
        refine st_wk ?_ (st_setLi (i := 4) (k := r.p) (v := la2.getD (gi r.g 1).toNat 0) (rs := ta2) (Γ2 := [.dat (.list (rows.map Rw.d)), .dat (.int m), .own (bf.map li ++ [li (onceF fo)]), .own (la2.map .int), .own ((ta2.set r.p.toNat (la2.getD (gi r.g 1).toNat 0)).map .int), .dat (.int (i : Int)), .dat (.int r.p), .dat (.int (gi r.g 1)), .dat (.int (gi r.g 5)), .dat (li fo), .no]) rfl (s_ixO (i := 3) rfl (s_var rfl) (atI_ints q0 (by omega))) (s_var rfl) p0 hs4 rfl)
        show wk [.dat (.list (rows.map Rw.d)), .dat (.int m), .own (bf.map li ++ [li (onceF fo)]), .own (la2.map .int), .own ((ta2.set r.p.toNat (la2.getD (gi r.g 1).toNat 0)).map .int), .dat (.int (i : Int)), .dat (.int r.p), .dat (.int (gi r.g 1)), .dat (.int (gi r.g 5)), .dat (li fo), .no] [.dat (.list (rows.map Rw.d)), .dat (.int m), .own (bf.map li ++ [li (onceF fo)]), .own (la2.map .int), .own ((ta2.set r.p.toNat (la2.getD (gi r.g 1).toNat 0)).map .int), .no, .no, .no, .no, .no, .no]
        walk_at "g_wk"
      · have hab : ¬ (0 < gi r.g 5 ∧ gi r.g 1 ≠ r.p) := by
          intro z
          rw [decide_eq_true z.1, decide_eq_false z.2] at hh
          cases hh
        rw [if_neg hab]
        refine st_wk ?_ st_next
        show wk [.dat (.list (rows.map Rw.d)), .dat (.int m), .own (bf.map li ++ [li (onceF fo)]), .own (la2.map .int), .own (ta2.map .int), .dat (.int (i : Int)), .dat (.int r.p), .dat (.int (gi r.g 1)), .dat (.int (gi r.g 5)), .dat (li fo), .no] [.dat (.list (rows.map Rw.d)), .dat (.int m), .own (bf.map li ++ [li (onceF fo)]), .own (la2.map .int), .own (ta2.map .int), .no, .no, .no, .no, .no, .no]
        walk_at "g_wk"
  · have : waysF rows m = (waySt rows m ((List.range (rows.length : Int).toNat).map fun k : Nat => PyData.int (k : Int)).length).bf := by simp [waysF]
    rw [this] at hq
    exact n_ret (s_own (i := 2) rfl) hq
/-! ### what the clocks cover is what the ways reach -/
def cl (cs : List (List Int)) (x y : Nat) : Int := (cs.getD x []).getD y 0
structure I2 (m : Int) (k : Nat) (rows : List Rw) (cs : List (List Int)) (w : Wy) : Prop where
  len : rows.length = k
  good : ∀ (n : Nat) (r : Rw), rows[n]? = some r → r.good m
  M : ∀ x y : Nat, x < m.toNat → y < m.toNat → x ≠ y → cl cs x y < cl cs y y
  MR : ∀ (n : Nat) (r : Rw), rows[n]? = some r → ∀ y : Nat, y < m.toNat → r.c.getD y 0 < cl cs y y
  A : ∀ (j n : Nat) (rj rn : Rw), rows[j]? = some rj → rows[n]? = some rn → (rn.n ≤ rj.c.getD rn.p.toNat 0 ↔ ((n : Int) ∈ w.bf.getD j [] ∨ n = j))
  U : ∀ (j n : Nat) (rj rn : Rw), rows[j]? = some rj → rows[n]? = some rn → rj.p = rn.p → rj.n = rn.n → j = n
  B : ∀ x : Nat, x < m.toNat → ∀ (n : Nat) (rn : Rw), rows[n]? = some rn → (rn.n ≤ cl cs x rn.p.toNat ↔ (n : Int) ∈ foundF w.bf (w.la.getD x 0) ++ foundF w.bf (w.ta.getD x 0))
  L : ∀ x : Nat, x < m.toNat → (w.la.getD x 0 < 0 ∧ lastRow (x : Int) rows = none) ∨ ∃ (j : Nat) (r : Rw), w.la.getD x 0 = (j : Int) ∧ rows[j]? = some r ∧ lastRow (x : Int) rows = some r
  wok : WOk m k w
  rok : ROk m (rows, cs)
theorem getD_set {α : Type} (xs : List α) (i j : Nat) (v d : α) (h : i < xs.length) : (xs.set i v).getD j d = if j = i then v else xs.getD j d := by
  simp only [List.getD_eq_getElem?_getD, List.getElem?_set]
  by_cases e : i = j
  · subst e; simp [h]
  · have e2 : ¬ j = i := fun z => e z.symm
    rw [if_neg e, if_neg e2]
theorem found_app (bf : List (List Int)) (l : List Int) (st : Int) (h : st < (bf.length : Int)) : foundF (bf ++ [l]) st = foundF bf st := by
  unfold foundF
  split
  · rw [List.getD_eq_getElem?_getD, List.getElem?_append_left (by omega), ← List.getD_eq_getElem?_getD]
  · rfl
theorem last_other (x : Int) (rows : List Rw) (r : Rw) (h : r.p ≠ x) : lastRow x (rows ++ [r]) = lastRow x rows := by
  unfold lastRow
  rw [List.filter_append, List.filter_cons, if_neg (by simpa using h)]
  simp
theorem last_own (rows : List Rw) (r : Rw) : lastRow r.p (rows ++ [r]) = some r := by
  unfold lastRow
  rw [List.filter_append, List.filter_cons, if_pos (by simp)]
  simp
theorem own_cases {m : Int} {k : Nat} {rows : List Rw} {cs : List (List Int)} {w : Wy} {g : List Int} (h : I2 m k rows cs w) (g0 : 0 ≤ gi g 0) (g1 : gi g 0 < m) (q0 : 0 ≤ gi g 1) (q1 : gi g 1 < m) (c : List Int) :
    (ownF (rows ++ [⟨gi g 0, c, g⟩]) c g = c.set (gi g 0).toNat (c.getD (gi g 0).toNat 0 + 1) ∧ (wayStep k ⟨gi g 0, c, g⟩ w).ta.getD (gi g 0).toNat 0 < 0) ∨
    ∃ (j : Nat) (rj : Rw), rows[j]? = some rj ∧ ownF (rows ++ [⟨gi g 0, c, g⟩]) c g = List.zipWith max (c.set (gi g 0).toNat (c.getD (gi g 0).toNat 0 + 1)) rj.c ∧ (wayStep k ⟨gi g 0, c, g⟩ w).ta.getD (gi g 0).toNat 0 = (j : Int) := by
  have ht : (gi g 0).toNat < w.ta.length := by rw [h.wok.tl]; omega
  have hl : (gi g 0).toNat < w.la.length := by rw [h.wok.ll]; omega
  have eT : (wayStep k ⟨gi g 0, c, g⟩ w).ta = if 0 < gi g 5 ∧ gi g 1 ≠ gi g 0 then (w.ta.set (gi g 0).toNat (-1)).set (gi g 0).toNat ((w.la.set (gi g 0).toNat (k : Int)).getD (gi g 1).toNat 0) else w.ta.set (gi g 0).toNat (-1) := rfl
  have eO : ownF (rows ++ [⟨gi g 0, c, g⟩]) c g = if 0 < gi g 5 ∧ gi g 1 ≠ gi g 0 then (match lastRow (gi g 1) (rows ++ [⟨gi g 0, c, g⟩]) with | some r => List.zipWith max (c.set (gi g 0).toNat (c.getD (gi g 0).toNat 0 + 1)) r.c | none => c.set (gi g 0).toNat (c.getD (gi g 0).toNat 0 + 1)) else c.set (gi g 0).toNat (c.getD (gi g 0).toNat 0 + 1) := rfl
  rw [eT, eO]
  by_cases hab : 0 < gi g 5 ∧ gi g 1 ≠ gi g 0
  · rw [if_pos hab, if_pos hab, last_other _ _ _ (fun z => hab.2 z.symm), getD_set _ _ _ _ _ (by rw [List.length_set]; exact ht), if_pos rfl, getD_set _ _ _ _ _ hl, if_neg (by have := hab.2; omega)]
    have e : (((gi g 1).toNat : Nat) : Int) = gi g 1 := by omega
    rcases h.L (gi g 1).toNat (by omega) with ⟨a, b⟩ | ⟨j, r, a, b, c'⟩
    · rw [e] at b
      rw [b]
      exact .inl ⟨rfl, a⟩
    · rw [e] at c'
      rw [c']
      exact .inr ⟨j, r, b, rfl, a⟩
  · rw [if_neg hab, if_neg hab, getD_set _ _ _ _ _ ht, if_pos rfl]
    exact .inl ⟨rfl, by decide⟩
theorem app_some {rows : List Rw} {r : Rw} {n : Nat} {x : Rw} {k : Nat} (hl : rows.length = k) (e : (rows ++ [r])[n]? = some x) : (n < k ∧ rows[n]? = some x) ∨ (n = k ∧ x = r) := by
  rcases Nat.lt_or_ge n k with h | h
  · rw [List.getElem?_append_left (by omega)] at e
    exact .inl ⟨h, e⟩
  · rw [List.getElem?_append_right (by omega)] at e
    obtain ⟨z, q⟩ := List.getElem?_eq_some_iff.mp e
    simp at z q
    exact .inr ⟨by omega, q.symm⟩
theorem i2_step {m : Int} {k : Nat} {rows : List Rw} {cs : List (List Int)} {w : Wy} {g : List Int} (h1 : 1 ≤ m) (h : I2 m k rows cs w) (g0 : 0 ≤ gi g 0) (g1 : gi g 0 < m) (q0 : 0 ≤ gi g 1) (q1 : gi g 1 < m) :
    I2 m (k + 1) (rowStep g (rows, cs)).1 (rowStep g (rows, cs)).2 (wayStep k ⟨gi g 0, cs.getD (gi g 0).toNat [], g⟩ w) := by
  have hrok : ROk m (rows ++ [⟨gi g 0, cs.getD (gi g 0).toNat [], g⟩], cs.set (gi g 0).toNat (ownF (rows ++ [⟨gi g 0, cs.getD (gi g 0).toNat [], g⟩]) (cs.getD (gi g 0).toNat []) g)) := rok_step h.rok g0 g1
  have hgood : Rw.good m ⟨gi g 0, cs.getD (gi g 0).toNat [], g⟩ := ⟨g0, g1, q0, q1⟩
  have hwok := wok_step h.wok hgood
  have hoc := own_cases h g0 g1 q0 q1 (cs.getD (gi g 0).toNat [])
  have hPm : (gi g 0).toNat < m.toNat := by omega
  have hPc : (gi g 0).toNat < cs.length := by rw [h.rok.cl]; exact hPm
  have hcl : (cs.getD (gi g 0).toNat []).length = m.toNat := by
    rw [List.getD_eq_getElem?_getD, List.getElem?_eq_getElem hPc]
    exact h.rok.ce _ (List.getElem_mem hPc)
  have hcc : ∀ y, (cs.getD (gi g 0).toNat []).getD y 0 = cl cs (gi g 0).toNat y := fun _ => rfl
  have hbl := h.wok.bl
  have e1 : (rowStep g (rows, cs)).1 = rows ++ [⟨gi g 0, cs.getD (gi g 0).toNat [], g⟩] := rfl
  have e2 : (rowStep g (rows, cs)).2 = cs.set (gi g 0).toNat (ownF (rows ++ [⟨gi g 0, cs.getD (gi g 0).toNat [], g⟩]) (cs.getD (gi g 0).toNat []) g) := rfl
  have hown := own_len (g := g) (m := m) (rows := rows ++ [⟨gi g 0, cs.getD (gi g 0).toNat [], g⟩]) (fun r hr => by
    rcases List.mem_append.mp hr with z | z
    · exact h.rok.rc r z
    · rw [List.mem_singleton.mp z]; exact hcl) hcl
  have eb : (wayStep k ⟨gi g 0, cs.getD (gi g 0).toNat [], g⟩ w).bf = w.bf ++ [onceF (foundF w.bf (w.la.getD (gi g 0).toNat 0) ++ foundF w.bf (w.ta.getD (gi g 0).toNat 0))] := rfl
  have el : (wayStep k ⟨gi g 0, cs.getD (gi g 0).toNat [], g⟩ w).la = w.la.set (gi g 0).toNat (k : Int) := rfl
  have et : ∀ x, x ≠ (gi g 0).toNat → (wayStep k ⟨gi g 0, cs.getD (gi g 0).toNat [], g⟩ w).ta.getD x 0 = w.ta.getD x 0 := fun x hx => by
    have ht : (gi g 0).toNat < w.ta.length := by rw [h.wok.tl]; exact hPm
    show (if _ then _ else _ : List Int).getD x 0 = _
    split
    · rw [getD_set _ _ _ _ _ (by rw [List.length_set]; exact ht), if_neg hx, getD_set _ _ _ _ _ ht, if_neg hx]
    · rw [getD_set _ _ _ _ _ ht, if_neg hx]
  have hlP : (gi g 0).toNat < w.la.length := by rw [h.wok.ll]; exact hPm
  have elx : ∀ x, (w.la.set (gi g 0).toNat (k : Int)).getD x 0 = if x = (gi g 0).toNat then (k : Int) else w.la.getD x 0 := fun x => getD_set _ _ _ _ _ hlP
  rw [e1, e2]
  clear e1 e2
  generalize wayStep k ⟨gi g 0, cs.getD (gi g 0).toNat [], g⟩ w = w' at hwok hoc eb el et ⊢
  have hrn : (⟨gi g 0, cs.getD (gi g 0).toNat [], g⟩ : Rw).n = cl cs (gi g 0).toNat (gi g 0).toNat := rfl
  have hrp : (⟨gi g 0, cs.getD (gi g 0).toNat [], g⟩ : Rw).p = gi g 0 := rfl
  have hrc : (⟨gi g 0, cs.getD (gi g 0).toNat [], g⟩ : Rw).c = cs.getD (gi g 0).toNat [] := rfl
  have hLO := fun x hx => last_other x rows ⟨gi g 0, cs.getD (gi g 0).toNat [], g⟩ hx
  have hLS := last_own rows ⟨gi g 0, cs.getD (gi g 0).toNat [], g⟩
  generalize (⟨gi g 0, cs.getD (gi g 0).toNat [], g⟩ : Rw) = r at *
  generalize ownF (rows ++ [r]) (cs.getD (gi g 0).toNat []) g = own at *
  have hP0 : (((gi g 0).toNat : Nat) : Int) = gi g 0 := Int.toNat_of_nonneg g0
  generalize hP : (gi g 0).toNat = P at *
  generalize hc : cs.getD P [] = c at *
  -- the new clocks
  have ecl : ∀ x y, cl (cs.set P own) x y = if x = P then own.getD y 0 else cl cs x y := fun x y => by
    unfold cl
    rw [getD_set _ _ _ _ _ hPc]
    split <;> rfl
  have hc1 : ∀ y, (c.set P (c.getD P 0 + 1)).getD y 0 = if y = P then cl cs P P + 1 else cl cs P y := fun y => by
    rw [getD_set _ _ _ _ _ (by rw [hcl]; exact hPm)]
    simp only [hcc]
  have hoy : ∀ y, (own.getD y 0 = if y = P then cl cs P P + 1 else cl cs P y) ∨ ∃ (j : Nat) (rj : Rw), rows[j]? = some rj ∧ own.getD y 0 = max (if y = P then cl cs P P + 1 else cl cs P y) (rj.c.getD y 0) := fun y => by
    rcases hoc with ⟨a, _⟩ | ⟨j, rj, a, b, _⟩
    · left; rw [a]; exact hc1 y
    · right
      have := h.rok.rc rj (List.mem_of_getElem? a)
      refine ⟨j, rj, a, ?_⟩
      rw [b, zw_get _ _ (by rw [List.length_set, hcl, this]), hc1 y]
  have o1 : cl cs P P + 1 ≤ own.getD P 0 := by
    rcases hoy P with a | ⟨j, rj, _, a⟩
    · rw [a, if_pos rfl]; exact Int.le_refl _
    · rw [a, if_pos rfl]; exact Int.le_max_left _ _
  have o2 : ∀ y, y < m.toNat → y ≠ P → own.getD y 0 < cl cs y y := fun y hy hn => by
    have hM := h.M P y hPm hy (fun z => hn z.symm)
    rcases hoy y with a | ⟨j, rj, e, a⟩
    · rw [a, if_neg hn]; exact hM
    · rw [a, if_neg hn]
      have := h.MR j rj e y hy
      omega
  -- the rows' own statement
  have fin : ∀ x : Nat, x < m.toNat → ∀ n : Int, n ∈ foundF w.bf (w.la.getD x 0) ++ foundF w.bf (w.ta.getD x 0) → 0 ≤ n ∧ n < (k : Int) := fun x hx n hn => by
    have b1 := getD_in (d := 0) h.wok.lb (i := x) (by rw [h.wok.ll]; exact hx)
    have b2 := getD_in (d := 0) h.wok.tb (i := x) (by rw [h.wok.tl]; exact hx)
    rcases List.mem_append.mp hn with z | z
    · exact (found_in h.wok b1.1 b1.2).2 n z
    · exact (found_in h.wok b2.1 b2.2).2 n z
  have bfl : ∀ j, j < k → w'.bf.getD j [] = w.bf.getD j [] := fun j hj => by
    rw [eb, List.getD_eq_getElem?_getD, List.getElem?_append_left (by omega), ← List.getD_eq_getElem?_getD]
  have bfk : w'.bf.getD k [] = onceF (foundF w.bf (w.la.getD P 0) ++ foundF w.bf (w.ta.getD P 0)) := by
    rw [eb, List.getD_eq_getElem?_getD, List.getElem?_append_right (by omega), hbl]
    simp
  have hpP : r.p.toNat = P := by rw [hrp]; exact hP
  have A' : ∀ (j n : Nat) (rj rn : Rw), (rows ++ [r])[j]? = some rj → (rows ++ [r])[n]? = some rn → (rn.n ≤ rj.c.getD rn.p.toNat 0 ↔ ((n : Int) ∈ w'.bf.getD j [] ∨ n = j)) := by
    intro j n rj rn ej en
    rcases app_some h.len ej with ⟨hj, ej'⟩ | ⟨hj, ej'⟩
    · rw [bfl j hj]
      rcases app_some h.len en with ⟨hn, en'⟩ | ⟨hn, en'⟩
      · exact h.A j n rj rn ej' en'
      · subst hn; subst en'
        rw [hrn, hpP]
        have := h.MR j rj ej' P hPm
        constructor
        · intro z; omega
        · rintro (z | z)
          · have hlt : j < w.bf.length := by omega
            have e' : w.bf[j]? = some (w.bf.getD j []) := by rw [List.getD_eq_getElem?_getD, List.getElem?_eq_getElem hlt]; rfl
            have := (h.wok.bb j _ e').2 _ z
            omega
          · omega
    · subst hj; subst ej'
      rw [bfk, once_mem, hrc]
      rcases app_some h.len en with ⟨hn, en'⟩ | ⟨hn, en'⟩
      · rw [hcc, h.B P hPm n rn en']
        constructor
        · exact .inl
        · rintro (z | z)
          · exact z
          · omega
      · subst hn; subst en'
        rw [hcc, hpP, hrn]
        simp
  have hk0 : (rows ++ [r])[k]? = some r := by rw [List.getElem?_append_right (by rw [h.len]; exact Nat.le_refl _), h.len]; simp
  have hrcP : ∀ y, r.c.getD y 0 = cl cs P y := fun y => by rw [hrc]; exact hcc y
  refine ⟨by rw [List.length_append, h.len]; rfl, fun n x e => ?_, fun x y hx hy hxy => ?_, fun n x e y hy => ?_, A', fun j n rj rn ej en ep enn => ?_, fun x hx n rn en => ?_, fun x hx => ?_, hwok, hrok⟩
  · rcases app_some h.len e with ⟨_, z⟩ | ⟨_, z⟩
    · exact h.good n x z
    · rw [z]; exact hgood
  · rw [ecl, ecl]
    by_cases hxP : x = P
    · have hyP : ¬ y = P := fun z => hxy (by rw [hxP, z])
      rw [if_pos hxP, if_neg hyP]
      exact o2 y hy hyP
    · rw [if_neg hxP]
      by_cases hyP : y = P
      · subst hyP
        rw [if_pos rfl]
        have := h.M x y hx hy hxy
        omega
      · rw [if_neg hyP]; exact h.M x y hx hy hxy
  · rw [ecl]
    by_cases hyP : y = P
    · subst hyP
      rw [if_pos rfl]
      rcases app_some h.len e with ⟨_, z⟩ | ⟨_, z⟩
      · have := h.MR n x z y hy
        omega
      · rw [z, hrcP]; omega
    · rw [if_neg hyP]
      rcases app_some h.len e with ⟨_, z⟩ | ⟨_, z⟩
      · exact h.MR n x z y hy
      · rw [z, hrcP]; exact h.M P y hPm hy (fun q => hyP q.symm)
  · have key : ∀ (i : Nat) (q : Rw), rows[i]? = some q → q.p = r.p → q.n = r.n → False := fun i q e1 e2 e3 => by
      have := h.MR i q e1 P hPm
      have e4 : q.n = q.c.getD P 0 := by show q.c.getD q.p.toNat 0 = _; rw [e2, hpP]
      rw [e4, hrn] at e3
      omega
    rcases app_some h.len ej with ⟨hj, ej'⟩ | ⟨hj, ej'⟩
    · rcases app_some h.len en with ⟨hn, en'⟩ | ⟨hn, en'⟩
      · exact h.U j n rj rn ej' en' ep enn
      · rw [en'] at ep enn; exact (key j rj ej' ep enn).elim
    · rcases app_some h.len en with ⟨hn, en'⟩ | ⟨hn, en'⟩
      · rw [ej'] at ep enn; exact (key n rn en' ep.symm enn.symm).elim
      · omega
  · by_cases hxP : x = P
    · subst hxP
      rw [ecl, if_pos rfl, el, elx, if_pos rfl]
      have hk : foundF w'.bf (k : Int) = (k : Int) :: w'.bf.getD k [] := by
        unfold foundF
        rw [if_pos (by omega), toN]
      have Ak := A' k n r rn hk0 en
      rw [hrcP] at Ak
      have base : rn.n ≤ (if rn.p.toNat = x then cl cs x x + 1 else cl cs x rn.p.toNat) ↔ rn.n ≤ cl cs x rn.p.toNat := by
        split
        · rename_i hp
          have : rn.n ≤ cl cs x x := by
            rcases app_some h.len en with ⟨_, z⟩ | ⟨_, z⟩
            · have := h.MR n rn z x hPm
              have e4 : rn.n = rn.c.getD x 0 := by show rn.c.getD rn.p.toNat 0 = _; rw [hp]
              omega
            · rw [z, hrn]; exact Int.le_refl _
          rw [hp]
          constructor
          · intro _; exact this
          · intro _; omega
        · exact Iff.rfl
      rw [hk, List.mem_append, List.mem_cons]
      have hnk : ((n : Int) = (k : Int)) ↔ n = k := by omega
      rcases hoc with ⟨a, b⟩ | ⟨j, rj, e, b, c'⟩
      · have hf : foundF w'.bf (w'.ta.getD x 0) = [] := if_neg (by omega)
        rw [hf, a, hc1, base, Ak, hnk]
        constructor
        · rintro (z | z)
          · exact .inl (.inr z)
          · exact .inl (.inl z)
        · rintro ((z | z) | z)
          · exact .inr z
          · exact .inl z
          · cases z
      · have hjl : j < rows.length := (List.getElem?_eq_some_iff.mp e).1
        have hrl := h.rok.rc rj (List.mem_of_getElem? e)
        have hf : foundF w'.bf (w'.ta.getD x 0) = (j : Int) :: w'.bf.getD j [] := by
          unfold foundF
          rw [c', if_pos (by omega), toN]
        have Aj := A' j n rj rn (by rw [List.getElem?_append_left hjl]; exact e) en
        have hnj : ((n : Int) = (j : Int)) ↔ n = j := by omega
        rw [hf, b, zw_get _ _ (by rw [List.length_set, hcl, hrl]), hc1, List.mem_cons, hnj, hnk]
        have hmax : ∀ a b c : Int, a ≤ max b c ↔ a ≤ b ∨ a ≤ c := fun a b c => by omega
        rw [hmax, base, Ak, Aj]
        constructor
        · rintro ((z | z) | (z | z))
          · exact .inl (.inr z)
          · exact .inl (.inl z)
          · exact .inr (.inr z)
          · exact .inr (.inl z)
        · rintro ((z | z) | (z | z))
          · exact .inl (.inr z)
          · exact .inl (.inl z)
          · exact .inr (.inr z)
          · exact .inr (.inl z)
    · have b1 := getD_in (d := 0) h.wok.lb (i := x) (by rw [h.wok.ll]; exact hx)
      have b2 := getD_in (d := 0) h.wok.tb (i := x) (by rw [h.wok.tl]; exact hx)
      rw [ecl, if_neg hxP, el, elx, if_neg hxP, et x hxP, eb, found_app _ _ _ (by omega), found_app _ _ _ (by omega)]
      rcases app_some h.len en with ⟨hn, z⟩ | ⟨hn, z⟩
      · exact h.B x hx n rn z
      · rw [z, hrn, hpP]
        have hM := h.M x P hx hPm hxP
        constructor
        · intro q; omega
        · intro q
          have := fin x hx n q
          omega
  · by_cases hxP : x = P
    · subst hxP
      refine .inr ⟨k, r, by rw [el, elx, if_pos rfl], hk0, ?_⟩
      rw [hP0, ← hrp]
      exact hLS
    · have hne : r.p ≠ (x : Int) := fun q => hxP (by rw [hrp] at q; omega)
      rw [el, elx, if_neg hxP, hLO _ hne]
      rcases h.L x hx with z | ⟨j, r', a, b, c'⟩
      · exact .inl z
      · exact .inr ⟨j, r', a, by rw [List.getElem?_append_left (List.getElem?_eq_some_iff.mp b).1]; exact b, c'⟩
def rowK (cells : List Int) (m : Int) (k : Nat) : Rw := ⟨gi (dgF cells m k) 0, (runSt cells m k).2.getD (gi (dgF cells m k) 0).toNat [], dgF cells m k⟩
theorem run_succ (cells : List Int) (m : Int) (k : Nat) : runSt cells m (k + 1) = rowStep (dgF cells m k) ((runSt cells m k).1, (runSt cells m k).2) := rfl
theorem run_at (cells : List Int) (m : Int) (k : Nat) : ∀ N, k < N → (runSt cells m N).1[k]? = some (rowK cells m k)
  | 0, h => by omega
  | N + 1, h => by
    show ((runSt cells m N).1 ++ [rowK cells m N])[k]? = _
    have hl := run_rows cells m N
    by_cases e : k = N
    · subst e
      rw [List.getElem?_append_right (by omega), hl]; simp
    · rw [List.getElem?_append_left (by omega)]
      exact run_at cells m k N (by omega)
theorem first_cl (n x y : Nat) (hx : x < n) (hy : y < n) : cl (firstClocks n) x y = if x = y then 1 else 0 := by
  unfold cl firstClocks
  simp [List.getD_eq_getElem?_getD, hx, hy]
theorem i2_zero {m : Int} : I2 m 0 [] (firstClocks m.toNat) ⟨[], List.replicate m.toNat (-1), List.replicate m.toNat (-1)⟩ where
  len := rfl
  good := fun n r e => by simp at e
  M := fun x y hx hy hn => by rw [first_cl _ _ _ hx hy, first_cl _ _ _ hy hy, if_neg hn, if_pos rfl]; decide
  MR := fun n r e => by simp at e
  A := fun j n rj rn e => by simp at e
  U := fun j n rj rn e => by simp at e
  B := fun x hx n rn e => by simp at e
  L := fun x hx => .inl ⟨by simp [List.getD_eq_getElem?_getD, hx], rfl⟩
  wok := ⟨rfl, fun x l e => by simp at e, by simp, by simp, fun y hy => by simp only [List.mem_replicate] at hy; omega, fun y hy => by simp only [List.mem_replicate] at hy; omega⟩
  rok := ⟨by simp [firstClocks], fun c hc => by
      simp only [firstClocks, List.mem_map] at hc
      obtain ⟨p, _, rfl⟩ := hc
      simp, fun r hr => by simp at hr⟩
theorem i2_all {m : Int} (h1 : 1 ≤ m) (cells : List Int) (N : Nat) : ∀ k, k ≤ N → I2 m k (runSt cells m k).1 (runSt cells m k).2 (waySt (runSt cells m N).1 m k)
  | 0, _ => i2_zero
  | k + 1, hk => by
    have ih := i2_all h1 cells N k (by omega)
    have bd := dg_bd h1 cells k
    rw [way_succ (run_at cells m k N (by omega)), run_succ]
    exact i2_step h1 ih bd.1.1 bd.1.2 bd.2.1.1 bd.2.1.2
def recF (r : Rw) : Rc := ⟨r.p, r.n, r.c, onceF (loaF r.g), onceF (stoF r.g)⟩
theorem i2_run {m : Int} (h1 : 1 ≤ m) (cells : List Int) : ∃ cs w, I2 m cells.length (runF cells m) cs w ∧ waysF (runF cells m) m = w.bf := by
  refine ⟨_, _, i2_all h1 cells cells.length cells.length (Nat.le_refl _), ?_⟩
  unfold waysF runF
  rw [run_rows]
theorem bef_eq {m : Int} {k : Nat} {rows : List Rw} {cs : List (List Int)} {w : Wy} (h : I2 m k rows cs w) {j n : Nat} {rj rn : Rw} (ej : rows[j]? = some rj) (en : rows[n]? = some rn) : bef (recF rn) (recF rj) = decide ((n : Int) ∈ w.bf.getD j []) := by
  have a := h.A j n rj rn ej en
  have hj : j < w.bf.length := by rw [h.wok.bl, ← h.len]; exact (List.getElem?_eq_some_iff.mp ej).1
  have hb := h.wok.bb j _ (show w.bf[j]? = some (w.bf.getD j []) by rw [List.getD_eq_getElem?_getD, List.getElem?_eq_getElem hj]; rfl)
  have ec : cov (recF rn) (recF rj).c = decide (rn.n ≤ rj.c.getD rn.p.toNat 0) := rfl
  have es : same (recF rn) (recF rj) = (decide (rn.p = rj.p) && decide (rn.n = rj.n)) := rfl
  unfold bef
  rw [ec, es]
  by_cases e : n = j
  · subst e
    rw [ej] at en
    cases en
    have : ¬ (n : Int) ∈ w.bf.getD n [] := fun z => by have := hb.2 _ z; omega
    rw [decide_eq_false this]
    simp
  · have hs : ¬ (rn.p = rj.p ∧ rn.n = rj.n) := fun z => e (h.U n j rn rj en ej z.1 z.2)
    have hs2 : (decide (rn.p = rj.p) && decide (rn.n = rj.n)) = false := by
      rw [Bool.and_eq_false_iff]
      by_cases hp : rn.p = rj.p
      · exact .inr (decide_eq_false fun q => hs ⟨hp, q⟩)
      · exact .inl (decide_eq_false hp)
    rw [hs2, Bool.not_false, Bool.and_true]
    refine decide_eq_decide.mpr ?_
    rw [a]
    exact ⟨fun z => z.resolve_right e, .inl⟩
theorem unord_eq {m : Int} {k : Nat} {rows : List Rw} {cs : List (List Int)} {w : Wy} (h : I2 m k rows cs w) {j n : Nat} {rj rn : Rw} (ej : rows[j]? = some rj) (en : rows[n]? = some rn) :
    unord (recF rn) (recF rj) = (!decide ((n : Int) = (j : Int)) && (!decide ((n : Int) ∈ w.bf.getD j []) && !decide ((j : Int) ∈ w.bf.getD n []))) := by
  unfold unord
  rw [bef_eq h ej en, bef_eq h en ej, show (recF rn).p = rn.p from rfl, show (recF rj).p = rj.p from rfl]
  by_cases hp : rn.p = rj.p
  · rw [if_pos hp]
    by_cases e : n = j
    · subst e; simp
    · -- one of the two is before the other
      have tot : (n : Int) ∈ w.bf.getD j [] ∨ (j : Int) ∈ w.bf.getD n [] := by
        have A1 := h.A j n rj rn ej en
        have A2 := h.A n j rn rj en ej
        have e1 : rj.c.getD rn.p.toNat 0 = rj.n := by rw [hp]; rfl
        have e2 : rn.c.getD rj.p.toNat 0 = rn.n := by rw [← hp]; rfl
        rw [e1] at A1
        rw [e2] at A2
        rcases Int.le_total rn.n rj.n with z | z
        · exact .inl ((A1.mp z).resolve_right e)
        · exact .inr ((A2.mp z).resolve_right fun q => e q.symm)
      rcases tot with z | z
      · rw [decide_eq_true z]; simp
      · rw [decide_eq_true z]; simp
  · rw [if_neg hp]
    have e : ¬ (n : Int) = (j : Int) := fun z => by
      have : n = j := by omega
      subst this
      rw [ej] at en
      cases en
      exact hp rfl
    rw [decide_eq_false e]
    simp
theorem c_many {b : Bs} {Γ Γ1 : List Sl} {ta : TA} {ns : List Int} {few many : Int} (ha : EvA b ta Γ Γ1 [li ns, .int few, .int many]) : EvS b (tCall (sp__law_many b.K) [] E0 ta) Γ Γ1 (.dat (.int (manyF ns few many))) := s_call ha ⟨ns, few, many, rfl, rfl⟩
theorem c_run {b : Bs} {Γ Γ1 : List Sl} {ta : TA} {cells : List Int} {m : Int} (ha : EvA b ta Γ Γ1 [li cells, .int m]) (h1 : 1 ≤ m) (h2 : m ≤ 4) (h3 : cells.length ≤ 30) : EvS b (tCall (sp__law_run b.K) [] E0 ta) Γ Γ1 (.own ((runF cells m).map Rw.d)) := s_call ha ⟨cells, m, h1, h2, h3, rfl, rfl⟩
theorem c_ways {b : Bs} {Γ Γ1 : List Sl} {ta : TA} {rows : List Rw} {m : Int} (ha : EvA b ta Γ Γ1 [.list (rows.map Rw.d), .int m]) (h1 : 1 ≤ m) (h2 : m ≤ 4) (h3 : rows.length ≤ 30) (h4 : ∀ r ∈ rows, r.good m) : EvS b (tCall (sp__law_ways b.K) [] E0 ta) Γ Γ1 (.own ((waysF rows m).map li)) := s_call ha ⟨rows, m, h1, h2, h3, h4, rfl, rfl⟩
theorem c_rec {b : Bs} {Γ Γ1 : List Sl} {ta : TA} {p n : Int} {c lo st : List Int} (ha : EvA b ta Γ Γ1 [.int p, .int n, ti c, li lo, li st]) (h1 : lo.length < 64) (h2 : st.length < 64) : EvS b (tCall (sp_make_record b.K) [] E0 ta) Γ Γ1 (.dat (Rc.d ⟨p, n, c, onceF lo, onceF st⟩)) := s_call ha ⟨p, n, c, lo, st, h1, h2, rfl, rfl⟩
theorem loa_len (g : List Int) : (loaF g).length < 64 := by
  have h1 := List.length_filter_le (fun _ => !decide (gi g 2 = 1)) (touF g)
  have h2 := tou_len g
  unfold loaF
  omega
theorem sto_len (g : List Int) : (stoF g).length < 64 := by
  have h1 := List.length_filter_le (fun w => decide (gi g 2 = 1) || (decide (gi g 2 = 2) && decide (w = gi g 3))) (touF g)
  have h2 := tou_len g
  unfold stoF
  omega
theorem many_le (ns : List Int) : 0 ≤ manyF ns 10 30 ∧ manyF ns 10 30 ≤ 30 := by
  unfold manyF
  split <;> omega
theorem len_law (ds : List PyData) (s : Sl) (h : gr_law ds s) : ds.length = 1 := by obtain ⟨_, _, rfl, _⟩ := h; rfl
theorem st_pass {b : Bs} {c : TT} {t : TS} {Γ Γ1 : List Sl} (h : EvT b c Γ Γ1 false) : StS b (tIfS c t tNext) Γ Γ1 := st_if h (fun z => by cases z) fun _ => st_next
theorem rd_law (b : Bs) (D : Ends) (ds : List PyData) (s : Sl) (h : gr_law ds s) (hq : ∀ v H', Ret b.K b.H0 b.B s v H' → D.rt v H') (hn : ∀ σ H, D.rt .non H → D.nx σ H) : Nx b (tr_law b.K D) [] [] (Γ0 11 ds) := by
  obtain ⟨ns, hl, rfl, rfl⟩ := h
  clear hn
  show Nx b _ [] [] [.dat (li ns), .no, .no, .no, .no, .no, .no, .no, .no, .no, .no]
  refine n_go (st_set (s := .dat (.int (2 + ns.getD (0 : Int).toNat 0 % 3))) (s_op s_int (s_op (s_cb (a_cons (c_cell (a_cons (s_var rfl) (a_cons s_int a_nil)) (by omega)) a_nil) cd_int) s_int (rd_intC (by decide))) rd_int)) ?_
  have hm2 : 2 ≤ 2 + ns.getD (0 : Int).toNat 0 % 3 := by have := Int.emod_nonneg (ns.getD (0 : Int).toNat 0) (by decide : (3 : Int) ≠ 0); omega
  have hm4 : 2 + ns.getD (0 : Int).toNat 0 % 3 ≤ 4 := by have := Int.emod_lt_of_pos (ns.getD (0 : Int).toNat 0) (by decide : (0 : Int) < 3); omega
  generalize 2 + ns.getD (0 : Int).toNat 0 % 3 = m at hm2 hm4 ⊢
  show Nx b _ [] [] [.dat (li ns), .dat (.int m), .no, .no, .no, .no, .no, .no, .no, .no, .no]
  have hmany := many_le ns
  obtain ⟨cells, hcl, hce⟩ : ∃ cells : List Int, cells.length ≤ 30 ∧ EvS b (tLc (iRng1 (tCons (tCB rMin2 (tCons (tCB (rLen b.K) (tCons (tVar 0) tNil)) (tCons (tCall (sp__law_many b.K) [] E0 (tCons (tVar 0) (tCons (tC (.int 10)) (tCons (tC (.int 30)) tNil)))) tNil))) tNil)) (gName 3) tYes (tCall (sp__law_cell b.K) [] E0 (tCons (tVar 0) (tCons (tVar 3) tNil))) [3])
      [.dat (li ns), .dat (.int m), .no, .no, .no, .no, .no, .no, .no, .no, .no] [.dat (li ns), .dat (.int m), .no, .no, .no, .no, .no, .no, .no, .no, .no] (.dat (li cells)) := by
    refine ⟨(List.range (min (ns.length : Int) (manyF ns 10 30)).toNat).map fun k => ns.getD k 0, by rw [List.length_map, List.length_range]; omega, ?_⟩
    have := s_map (b := b) (te := tCall (sp__law_cell b.K) [] E0 (tCons (tVar 0) (tCons (tVar 3) tNil))) (g := gName 3) (vs := [3]) (ks := List.range (min (ns.length : Int) (manyF ns 10 30)).toNat) (φ := fun k : Nat => PyData.int (k : Int))
      (i_range1 (ta := tCons (tCB rMin2 (tCons (tCB (rLen b.K) (tCons (tVar 0) tNil)) (tCons (tCall (sp__law_many b.K) [] E0 (tCons (tVar 0) (tCons (tC (.int 10)) (tCons (tC (.int 30)) tNil)))) tNil))) tNil) (Γ := [.dat (li ns), .dat (.int m), .no, .no, .no, .no, .no, .no, .no, .no, .no]) (n := min (ns.length : Int) (manyF ns 10 30))
        (a_cons (s_cb (a_cons (s_cb (a_cons (s_var rfl) a_nil) cd_lenLi) (a_cons (c_many (a_cons (s_var rfl) (a_cons s_int (a_cons s_int a_nil)))) a_nil)) cd_min2) a_nil) (by omega) (by omega))
      (fun k => [.dat (li ns), .dat (.int m), .no, .dat (.int (k : Int)), .no, .no, .no, .no, .no, .no, .no]) (fun k => .int (ns.getD k 0)) (fun k _ => gv_name) (fun k _ => s_dat (c_cell (a_cons (s_var rfl) (a_cons (s_var rfl) a_nil)) (by omega)) (by rw [toN])) (fun _ _ => rfl) rfl (by rw [List.length_range]; omega)
    rw [map_nat (min (ns.length : Int) (manyF ns 10 30)).toNat (fun k => ns.getD k 0) PyData.int] at this
    exact s_weak this
  refine n_go (st_set hce) ?_
  clear hce hmany
  show Nx b _ [] [] [.dat (li ns), .dat (.int m), .dat (li cells), .no, .no, .no, .no, .no, .no, .no, .no]
  refine n_go (st_set (s_weak (c_run (a_cons (s_var rfl) (a_cons (s_var rfl) a_nil)) (by omega) hm4 hcl))) ?_
  obtain ⟨cs, w, I, hw⟩ := i2_run (m := m) (by omega) cells
  have hRl : (runF cells m).length ≤ 30 := by rw [I.len]; exact hcl
  generalize runF cells m = R at I hw hRl ⊢
  show Nx b _ [] [] [.dat (li ns), .dat (.int m), .dat (li cells), .no, .dat (.list (R.map Rw.d)), .no, .no, .no, .no, .no, .no]
  refine n_go (Γ1 := [.dat (li ns), .dat (.int m), .dat (li cells), .no, .dat (.list (R.map Rw.d)), .dat (.list (R.map fun r => (recF r).d)), .no, .no, .no, .no, .no]) (st_set (i := 5) (Γ1 := [.dat (li ns), .dat (.int m), .dat (li cells), .no, .dat (.list (R.map Rw.d)), .no, .no, .no, .no, .no, .no]) (s := .dat (.list (R.map fun r => (recF r).d))) (s_weak (s_map (b := b) (Γ1 := [.dat (li ns), .dat (.int m), .dat (li cells), .no, .dat (.list (R.map Rw.d)), .no, .no, .no, .no, .no, .no]) (g := gName 10) (vs := [10]) (ks := R) (φ := Rw.d) (i_list (s_var rfl))
    (fun r => [.dat (li ns), .dat (.int m), .dat (li cells), .no, .dat (.list (R.map Rw.d)), .no, .no, .no, .no, .no, .dat r.d]) (fun r => (recF r).d) (fun r _ => gv_name) (fun r _ => ?_) (fun _ _ => rfl) rfl (by omega)))) ?_
  · have e : ∀ (k : Int) (d : PyData), atI [PyData.int r.p, .int r.n, ti r.c, li (loaF r.g), li (stoF r.g), .tuple [.int r.p, .int (gi r.g 1), .int (gi r.g 5)]] k = some d → EvS b (tOp (rIx b.K) (tVar 10) (tC (.int k))) [.dat (li ns), .dat (.int m), .dat (li cells), .no, .dat (.list (R.map Rw.d)), .no, .no, .no, .no, .no, .dat r.d] [.dat (li ns), .dat (.int m), .dat (li cells), .no, .dat (.list (R.map Rw.d)), .no, .no, .no, .no, .no, .dat r.d] (.dat d) :=
      fun k d h => s_op (d := .list [PyData.int r.p, .int r.n, ti r.c, li (loaF r.g), li (stoF r.g), .tuple [.int r.p, .int (gi r.g 1), .int (gi r.g 5)]]) (s_var rfl) s_int (rd_ixL h)
    exact c_rec (a_cons (e 0 _ rfl) (a_cons (e 1 _ rfl) (a_cons (e 2 _ rfl) (a_cons (e 3 _ rfl) (a_cons (e 4 _ rfl) a_nil))))) (loa_len _) (sto_len _)
  have hgood : ∀ r ∈ R, r.good m := fun r hr => by
    obtain ⟨n, hn⟩ := List.mem_iff_getElem?.mp hr
    exact I.good n r hn
  refine n_go (st_set (s_weak (c_ways (a_cons (s_var rfl) (a_cons (s_var rfl) a_nil)) (by omega) hm4 hRl hgood))) ?_
  rw [hw]
  show Nx b _ [] [] [.dat (li ns), .dat (.int m), .dat (li cells), .no, .dat (.list (R.map Rw.d)), .dat (.list (R.map fun r => (recF r).d)), .dat (.list (w.bf.map li)), .no, .no, .no, .no]
  clear hw hcl hgood
  have hbl : w.bf.length = R.length := by rw [I.wok.bl, I.len]
  refine n_go (st_for (its := (List.range (R.length : Int).toNat).map fun k : Nat => PyData.int (k : Int)) (i_range1 (n := (R.length : Int)) (a_cons (s_dat (s_cb (a_cons (s_var rfl) a_nil) cd_lenL) (by rw [List.length_map])) a_nil) (by omega) (by omega))
    (fun _ => [.dat (li ns), .dat (.int m), .dat (li cells), .no, .dat (.list (R.map Rw.d)), .dat (.list (R.map fun r => (recF r).d)), .dat (.list (w.bf.map li)), .no, .no, .no, .no]) (fun k => [.dat (li ns), .dat (.int m), .dat (li cells), .dat (.int (k : Int)), .dat (.list (R.map Rw.d)), .dat (.list (R.map fun r => (recF r).d)), .dat (.list (w.bf.map li)), .no, .no, .no, .no]) (by walk_at "g_wk") (fun k di e => ?_) (fun k di e => ?_)) (n_ret s_bl hq)
  · obtain ⟨hlt, rfl⟩ := List.getElem?_eq_some_iff.mp e
    rw [List.getElem_map, List.getElem_range]
    exact g_name
  obtain ⟨hlt, rfl⟩ := List.getElem?_eq_some_iff.mp e
  have hk : k < R.length := by simpa using hlt
  clear e hlt
  refine st_wk ?_ (st_for (its := (List.range (R.length : Int).toNat).map fun k : Nat => PyData.int (k : Int)) (i_range1 (n := (R.length : Int)) (a_cons (s_dat (s_cb (a_cons (s_var rfl) a_nil) cd_lenL) (by rw [List.length_map])) a_nil) (by omega) (by omega))
    (fun _ => [.dat (li ns), .dat (.int m), .dat (li cells), .dat (.int (k : Int)), .dat (.list (R.map Rw.d)), .dat (.list (R.map fun r => (recF r).d)), .dat (.list (w.bf.map li)), .no, .no, .no, .no]) (fun n => [.dat (li ns), .dat (.int m), .dat (li cells), .dat (.int (k : Int)), .dat (.list (R.map Rw.d)), .dat (.list (R.map fun r => (recF r).d)), .dat (.list (w.bf.map li)), .dat (.int (n : Int)), .no, .no, .no]) (by walk_at "g_wk") (fun n di e => ?_) (fun n di e => ?_))
  · walk_at "g_wk"
  · obtain ⟨hlt, rfl⟩ := List.getElem?_eq_some_iff.mp e
    rw [List.getElem_map, List.getElem_range]
    exact g_name
  obtain ⟨hlt, rfl⟩ := List.getElem?_eq_some_iff.mp e
  have hn : n < R.length := by simpa using hlt
  clear e hlt
  have ek : R[k]? = some R[k] := List.getElem?_eq_getElem hk
  have en : R[n]? = some R[n] := List.getElem?_eq_getElem hn
  have hbef := bef_eq I ek en
  have hun := unord_eq I ek en
  have gk := I.good k _ ek
  have gn := I.good n _ en
  have ck := I.rok.rc _ (List.mem_of_getElem? ek)
  have cn := I.rok.rc _ (List.mem_of_getElem? en)
  have ak : atI (R.map fun r => (recF r).d) (k : Int) = some (recF R[k]).d := atI_ok (by omega) (by rw [toN, List.getElem?_map, ek]; rfl)
  have an : atI (R.map fun r => (recF r).d) (n : Int) = some (recF R[n]).d := atI_ok (by omega) (by rw [toN, List.getElem?_map, en]; rfl)
  have wat : ∀ x, x < R.length → atI (w.bf.map li) (x : Int) = some (li (w.bf.getD x [])) := fun x hx => atI_ok (by omega) (by rw [toN, List.getElem?_map, List.getD_eq_getElem?_getD, List.getElem?_eq_getElem (by omega)]; rfl)
  have wk' := wat k hk
  have wn := wat n hn
  generalize R[k] = rk at *
  generalize R[n] = rn at *
  obtain ⟨pk0, pk1, _, _⟩ := gk
  obtain ⟨pn0, pn1, _, _⟩ := gn
  have f1 : (recF rn).fits (recF rk).c := ⟨pn0, by show rn.p < (rk.c.length : Int); rw [ck]; omega⟩
  have f2 : (recF rk).fits (recF rn).c := ⟨pk0, by show rk.p < (rn.c.length : Int); rw [cn]; omega⟩
  have hargs : ∀ x y : Sl, EvA b (tCons (tOp (rIx b.K) (tVar 5) (tVar 7)) (tCons (tOp (rIx b.K) (tVar 5) (tVar 3)) tNil)) [.dat (li ns), .dat (.int m), .dat (li cells), .dat (.int (k : Int)), .dat (.list (R.map Rw.d)), .dat (.list (R.map fun r => (recF r).d)), .dat (.list (w.bf.map li)), .dat (.int (n : Int)), x, y, .no]
      [.dat (li ns), .dat (.int m), .dat (li cells), .dat (.int (k : Int)), .dat (.list (R.map Rw.d)), .dat (.list (R.map fun r => (recF r).d)), .dat (.list (w.bf.map li)), .dat (.int (n : Int)), x, y, .no] [(recF rn).d, (recF rk).d] := fun x y =>
    a_cons (s_op (d := .list (R.map fun r => (recF r).d)) (s_var rfl) (s_var rfl) (rd_ixL an)) (a_cons (s_op (d := .list (R.map fun r => (recF r).d)) (s_var rfl) (s_var rfl) (rd_ixL ak)) a_nil)
  refine st_seq (st_set (c_bef (hargs .no .no) f1)) ?_
  rw [hbef]
  show StS b _ [.dat (li ns), .dat (.int m), .dat (li cells), .dat (.int (k : Int)), .dat (.list (R.map Rw.d)), .dat (.list (R.map fun r => (recF r).d)), .dat (.list (w.bf.map li)), .dat (.int (n : Int)), .dat (.bool (decide ((n : Int) ∈ w.bf.getD k []))), .no, .no] _
  refine st_seq (st_pass (t_is (t_or (k := false) (t_not (k := true) (t_B (s_isiE (s_var rfl) kk_bb))) (fun _ => t_test (s_op (s_var rfl) (s_op (s_var rfl) (s_op (d := .list (w.bf.map li)) (s_var rfl) (s_var rfl) (rd_ixL wk')) rd_inI) rd_neB))) (by simp))) ?_
  refine st_seq (st_set (c_unord (hargs _ .no) f1 f2)) ?_
  rw [hun]
  refine st_wk ?_ (st_pass (t_is (t_test (s_op (s_var rfl) (s_andV (s_op (s_var rfl) (s_var rfl) rd_neI) (fun _ => s_andV (s_op (s_var rfl) (s_op (d := .list (w.bf.map li)) (s_var rfl) (s_var rfl) (rd_ixL wk')) rd_ninI) (fun _ => s_op (s_var rfl) (s_op (d := .list (w.bf.map li)) (s_var rfl) (s_var rfl) (rd_ixL wn)) rd_ninI))) rd_neB)) (by simp)))
  walk_at "g_wk"
def spLaw (K : PySem.W.Frag) : Sp := fun vs H Q _ => ∃ (a : Addr) (ns : List Int), vs = [.ref a] ∧ SqL K H a (ns.map V.int) ∧ ns.length ≤ 63 ∧ ∀ H', Q (.bl true) H'
theorem law_imp {K : PySem.W.Frag} {vs : List V} {H : Hp} {Q : VK} {E : XK} (h : spLaw K vs H Q E) : sp_law K vs H Q E := by
  obtain ⟨a, ns, rfl, hS, hl, q⟩ := h
  refine ⟨H, [li ns], .dat (.bool true), Ex.refl H, .cons (.lst hS dpa_ints) .nil, ⟨ns, hl, rfl, rfl⟩, fun v H' r => ?_⟩
  obtain ⟨C', ps, _, _, _, _, hh, _⟩ := r
  cases hh with
  | dat d _ => cases d; exact q H'
section
variable {P : Program} {w : World} {K : PySem.W.Frag} {mg : Str → Option Value} {base : Heap}
theorem ok_covers (Z : Fx K mg) : FnOk P w K mg base CX0 1 Z.a_covers Z.d_covers ["clock", "machine", "number"] (sp_covers K) :=
  fn_ok Z.F_covers sc_covers len_covers (fun _ _ _ _ _ _ hr => ps_covers Z  hr) rd_covers
theorem ok_each_once (Z : Fx K mg) : FnOk P w K mg base CX0 1 Z.a_each_once Z.d_each_once ["words"] (sp_each_once K) :=
  fn_ok Z.F_each_once sc_each_once len_each_once (fun _ _ _ _ _ _ hr => ps_each_once Z  hr) rd_each_once
theorem ok_make_record (Z : Fx K mg) : FnOk P w K mg base CX0 2 Z.a_make_record Z.d_make_record ["machine", "number", "clock", "loads", "stores"] (sp_make_record K) :=
  fn_ok Z.F_make_record sc_make_record len_make_record (fun _ _ _ _ _ _ hr => ps_make_record Z (ok_each_once Z) hr) rd_make_record
theorem ok_is_same (Z : Fx K mg) : FnOk P w K mg base CX0 1 Z.a_is_same Z.d_is_same ["one", "other"] (sp_is_same K) :=
  fn_ok Z.F_is_same sc_is_same len_is_same (fun _ _ _ _ _ _ hr => ps_is_same Z  hr) rd_is_same
theorem ok_is_covered (Z : Fx K mg) : FnOk P w K mg base CX0 2 Z.a_is_covered Z.d_is_covered ["record", "clock"] (sp_is_covered K) :=
  fn_ok Z.F_is_covered sc_is_covered len_is_covered (fun _ _ _ _ _ _ hr => ps_is_covered Z (ok_covers Z) hr) rd_is_covered
theorem ok_is_before (Z : Fx K mg) : FnOk P w K mg base CX0 3 Z.a_is_before Z.d_is_before ["one", "other"] (sp_is_before K) :=
  fn_ok Z.F_is_before sc_is_before len_is_before (fun _ _ _ _ _ _ hr => ps_is_before Z (ok_is_covered Z) (ok_is_same Z) hr) rd_is_before
theorem ok_are_unordered (Z : Fx K mg) : FnOk P w K mg base CX0 4 Z.a_are_unordered Z.d_are_unordered ["one", "other"] (sp_are_unordered K) :=
  fn_ok Z.F_are_unordered sc_are_unordered len_are_unordered (fun _ _ _ _ _ _ hr => ps_are_unordered Z (ok_is_before Z) hr) rd_are_unordered
theorem ok__law_cell (Z : Fx K mg) : FnOk P w K mg base CX0 1 Z.a__law_cell Z.d__law_cell ["script", "k"] (sp__law_cell K) :=
  fn_ok Z.F__law_cell sc__law_cell len__law_cell (fun _ _ _ _ _ _ hr => ps__law_cell Z  hr) rd__law_cell
theorem ok__law_digits (Z : Fx K mg) : FnOk P w K mg base CX0 1 Z.a__law_digits Z.d__law_digits ["cell", "bases"] (sp__law_digits K) :=
  fn_ok Z.F__law_digits sc__law_digits len__law_digits (fun _ _ _ _ _ _ hr => ps__law_digits Z  hr) rd__law_digits
theorem ok__law_many (Z : Fx K mg) : FnOk P w K mg base CX0 1 Z.a__law_many Z.d__law_many ["script", "few", "many"] (sp__law_many K) :=
  fn_ok Z.F__law_many sc__law_many len__law_many (fun _ _ _ _ _ _ hr => ps__law_many Z  hr) rd__law_many
theorem ok__law_clock (Z : Fx K mg) : FnOk P w K mg base CX0 2 Z.a__law_clock Z.d__law_clock ["cell", "machines", "most"] (sp__law_clock K) :=
  fn_ok Z.F__law_clock sc__law_clock len__law_clock (fun _ _ _ _ _ _ hr => ps__law_clock Z (ok__law_digits Z) hr) rd__law_clock
theorem ok__law_run (Z : Fx K mg) : FnOk P w K mg base CX0 2 Z.a__law_run Z.d__law_run ["cells", "machines"] (sp__law_run K) :=
  fn_ok Z.F__law_run sc__law_run len__law_run (fun _ _ _ _ _ _ hr => ps__law_run Z (ok__law_digits Z) hr) rd__law_run
theorem ok__law_ways (Z : Fx K mg) : FnOk P w K mg base CX0 1 Z.a__law_ways Z.d__law_ways ["rows", "machines"] (sp__law_ways K) :=
  fn_ok Z.F__law_ways sc__law_ways len__law_ways (fun _ _ _ _ _ _ hr => ps__law_ways Z  hr) rd__law_ways
theorem ok_law (Z : Fx K mg) : FnOk P w K mg base CX0 5 Z.a_law Z.d_law ["script"] (sp_law K) :=
  fn_ok Z.F_law sc_law len_law (fun _ _ _ _ _ _ hr => ps_law Z (ok__law_run Z) (ok__law_ways Z) (ok__law_cell Z) (ok_make_record Z) (ok_is_before Z) (ok_are_unordered Z) (ok__law_many Z) hr) rd_law
end
theorem all_mk {l : PySem.W.OpenLaw} {w : World} {K : PySem.W.Frag} {h : Heap} {mg : Str → Option Value} {fa f0 f1 f2 f3 f4 f5 f6 f7 f8 f9 f10 f11 f12 f13 : Addr} (X : K.In h) (G : h.Ns mainGlobals mg) (hfa : mg "law" = some (.ref fa))
    {od0 an0 : Option Addr} {sl0 : Array (Option Value)} {oc0 kV0 dc0 pm0 cd0 ct0 : Value}
    (a0 : PySem.W.nsIn K mainGlobals "covers" = some (some (.ref f0))) (l0 : K.lookup f0 = some ⟨oc0, od0, .func (PySem.W.fnOf "covers" "covers" (defArgs s_covers) (defBody s_covers) (defScope s_covers) .none kV0 dc0 pm0 an0 cd0 ct0), sl0⟩) (c0 : PySem.W.codeIn K cd0 "covers" = true) (k0 : PySem.W.keepIn K (.ref f0) = true)
    {od1 an1 : Option Addr} {sl1 : Array (Option Value)} {oc1 kV1 dc1 pm1 cd1 ct1 : Value}
    (a1 : PySem.W.nsIn K mainGlobals "each_once" = some (some (.ref f1))) (l1 : K.lookup f1 = some ⟨oc1, od1, .func (PySem.W.fnOf "each_once" "each_once" (defArgs s_each_once) (defBody s_each_once) (defScope s_each_once) .none kV1 dc1 pm1 an1 cd1 ct1), sl1⟩) (c1 : PySem.W.codeIn K cd1 "each_once" = true) (k1 : PySem.W.keepIn K (.ref f1) = true)
    {od2 an2 : Option Addr} {sl2 : Array (Option Value)} {oc2 kV2 dc2 pm2 cd2 ct2 : Value}
    (a2 : PySem.W.nsIn K mainGlobals "make_record" = some (some (.ref f2))) (l2 : K.lookup f2 = some ⟨oc2, od2, .func (PySem.W.fnOf "make_record" "make_record" (defArgs s_make_record) (defBody s_make_record) (defScope s_make_record) .none kV2 dc2 pm2 an2 cd2 ct2), sl2⟩) (c2 : PySem.W.codeIn K cd2 "make_record" = true) (k2 : PySem.W.keepIn K (.ref f2) = true)
    {od3 an3 : Option Addr} {sl3 : Array (Option Value)} {oc3 kV3 dc3 pm3 cd3 ct3 : Value}
    (a3 : PySem.W.nsIn K mainGlobals "is_same" = some (some (.ref f3))) (l3 : K.lookup f3 = some ⟨oc3, od3, .func (PySem.W.fnOf "is_same" "is_same" (defArgs s_is_same) (defBody s_is_same) (defScope s_is_same) .none kV3 dc3 pm3 an3 cd3 ct3), sl3⟩) (c3 : PySem.W.codeIn K cd3 "is_same" = true) (k3 : PySem.W.keepIn K (.ref f3) = true)
    {od4 an4 : Option Addr} {sl4 : Array (Option Value)} {oc4 kV4 dc4 pm4 cd4 ct4 : Value}
    (a4 : PySem.W.nsIn K mainGlobals "is_covered" = some (some (.ref f4))) (l4 : K.lookup f4 = some ⟨oc4, od4, .func (PySem.W.fnOf "is_covered" "is_covered" (defArgs s_is_covered) (defBody s_is_covered) (defScope s_is_covered) .none kV4 dc4 pm4 an4 cd4 ct4), sl4⟩) (c4 : PySem.W.codeIn K cd4 "is_covered" = true) (k4 : PySem.W.keepIn K (.ref f4) = true)
    {od5 an5 : Option Addr} {sl5 : Array (Option Value)} {oc5 kV5 dc5 pm5 cd5 ct5 : Value}
    (a5 : PySem.W.nsIn K mainGlobals "is_before" = some (some (.ref f5))) (l5 : K.lookup f5 = some ⟨oc5, od5, .func (PySem.W.fnOf "is_before" "is_before" (defArgs s_is_before) (defBody s_is_before) (defScope s_is_before) .none kV5 dc5 pm5 an5 cd5 ct5), sl5⟩) (c5 : PySem.W.codeIn K cd5 "is_before" = true) (k5 : PySem.W.keepIn K (.ref f5) = true)
    {od6 an6 : Option Addr} {sl6 : Array (Option Value)} {oc6 kV6 dc6 pm6 cd6 ct6 : Value}
    (a6 : PySem.W.nsIn K mainGlobals "are_unordered" = some (some (.ref f6))) (l6 : K.lookup f6 = some ⟨oc6, od6, .func (PySem.W.fnOf "are_unordered" "are_unordered" (defArgs s_are_unordered) (defBody s_are_unordered) (defScope s_are_unordered) .none kV6 dc6 pm6 an6 cd6 ct6), sl6⟩) (c6 : PySem.W.codeIn K cd6 "are_unordered" = true) (k6 : PySem.W.keepIn K (.ref f6) = true)
    {od7 an7 : Option Addr} {sl7 : Array (Option Value)} {oc7 kV7 dc7 pm7 cd7 ct7 : Value}
    (a7 : PySem.W.nsIn K mainGlobals "_law_cell" = some (some (.ref f7))) (l7 : K.lookup f7 = some ⟨oc7, od7, .func (PySem.W.fnOf "_law_cell" "_law_cell" (defArgs s__law_cell) (defBody s__law_cell) (defScope s__law_cell) .none kV7 dc7 pm7 an7 cd7 ct7), sl7⟩) (c7 : PySem.W.codeIn K cd7 "_law_cell" = true) (k7 : PySem.W.keepIn K (.ref f7) = true)
    {od8 an8 : Option Addr} {sl8 : Array (Option Value)} {oc8 kV8 dc8 pm8 cd8 ct8 : Value}
    (a8 : PySem.W.nsIn K mainGlobals "_law_digits" = some (some (.ref f8))) (l8 : K.lookup f8 = some ⟨oc8, od8, .func (PySem.W.fnOf "_law_digits" "_law_digits" (defArgs s__law_digits) (defBody s__law_digits) (defScope s__law_digits) .none kV8 dc8 pm8 an8 cd8 ct8), sl8⟩) (c8 : PySem.W.codeIn K cd8 "_law_digits" = true) (k8 : PySem.W.keepIn K (.ref f8) = true)
    {od9 an9 : Option Addr} {sl9 : Array (Option Value)} {oc9 kV9 dc9 pm9 cd9 ct9 : Value}
    (a9 : PySem.W.nsIn K mainGlobals "_law_many" = some (some (.ref f9))) (l9 : K.lookup f9 = some ⟨oc9, od9, .func (PySem.W.fnOf "_law_many" "_law_many" (defArgs s__law_many) (defBody s__law_many) (defScope s__law_many) .none kV9 dc9 pm9 an9 cd9 ct9), sl9⟩) (c9 : PySem.W.codeIn K cd9 "_law_many" = true) (k9 : PySem.W.keepIn K (.ref f9) = true)
    {od10 an10 : Option Addr} {sl10 : Array (Option Value)} {oc10 kV10 dc10 pm10 cd10 ct10 : Value}
    (a10 : PySem.W.nsIn K mainGlobals "_law_clock" = some (some (.ref f10))) (l10 : K.lookup f10 = some ⟨oc10, od10, .func (PySem.W.fnOf "_law_clock" "_law_clock" (defArgs s__law_clock) (defBody s__law_clock) (defScope s__law_clock) .none kV10 dc10 pm10 an10 cd10 ct10), sl10⟩) (c10 : PySem.W.codeIn K cd10 "_law_clock" = true) (k10 : PySem.W.keepIn K (.ref f10) = true)
    {od11 an11 : Option Addr} {sl11 : Array (Option Value)} {oc11 kV11 dc11 pm11 cd11 ct11 : Value}
    (a11 : PySem.W.nsIn K mainGlobals "_law_run" = some (some (.ref f11))) (l11 : K.lookup f11 = some ⟨oc11, od11, .func (PySem.W.fnOf "_law_run" "_law_run" (defArgs s__law_run) (defBody s__law_run) (defScope s__law_run) .none kV11 dc11 pm11 an11 cd11 ct11), sl11⟩) (c11 : PySem.W.codeIn K cd11 "_law_run" = true) (k11 : PySem.W.keepIn K (.ref f11) = true)
    {od12 an12 : Option Addr} {sl12 : Array (Option Value)} {oc12 kV12 dc12 pm12 cd12 ct12 : Value}
    (a12 : PySem.W.nsIn K mainGlobals "_law_ways" = some (some (.ref f12))) (l12 : K.lookup f12 = some ⟨oc12, od12, .func (PySem.W.fnOf "_law_ways" "_law_ways" (defArgs s__law_ways) (defBody s__law_ways) (defScope s__law_ways) .none kV12 dc12 pm12 an12 cd12 ct12), sl12⟩) (c12 : PySem.W.codeIn K cd12 "_law_ways" = true) (k12 : PySem.W.keepIn K (.ref f12) = true)
    {od13 an13 : Option Addr} {sl13 : Array (Option Value)} {oc13 kV13 dc13 pm13 cd13 ct13 : Value}
    (a13 : PySem.W.nsIn K mainGlobals "law" = some (some (.ref f13))) (l13 : K.lookup f13 = some ⟨oc13, od13, .func (PySem.W.fnOf "law" "law" (defArgs s_law) (defBody s_law) (defScope s_law) .none kV13 dc13 pm13 an13 cd13 ct13), sl13⟩) (c13 : PySem.W.codeIn K cd13 "law" = true) (k13 : PySem.W.keepIn K (.ref f13) = true)
    (z0 : PySem.W.nsIn K mainGlobals "bool" = some none)
    (z1 : PySem.W.nsIn K mainGlobals "int" = some none)
    (z2 : PySem.W.nsIn K mainGlobals "isinstance" = some none)
    (z3 : PySem.W.nsIn K mainGlobals "len" = some none)
    (z4 : PySem.W.nsIn K mainGlobals "list" = some none)
    (z5 : PySem.W.nsIn K mainGlobals "max" = some none)
    (z6 : PySem.W.nsIn K mainGlobals "min" = some none)
    (z7 : PySem.W.nsIn K mainGlobals "range" = some none)
    (z8 : PySem.W.nsIn K mainGlobals "set" = some none)
    (z9 : PySem.W.nsIn K mainGlobals "sorted" = some none)
    (z10 : PySem.W.nsIn K mainGlobals "tuple" = some none)
    : ∃ fd : FuncData, (∀ (s : Shared) (v : Value), BindsTo s fd ⟨[v], []⟩ [("script", v)]) ∧ ∀ base : Heap, K.In base → base.Ns mainGlobals mg → FnOk l.prog w K mg base CX0 5 fa fd ["script"] (spLaw K) := by
  have e := hfa.symm.trans (PySem.W.mg_of X G a13)
  cases e
  have F0 := fun_mk (st := s_covers) l0 c0 k0
  have b0 := F0.binds (ps := ["clock", "machine", "number"]) fun _ _ _ _ _ _ us hl => match us, hl with | [_, _, _], _ => rfl
  have F1 := fun_mk (st := s_each_once) l1 c1 k1
  have b1 := F1.binds (ps := ["words"]) fun _ _ _ _ _ _ us hl => match us, hl with | [_], _ => rfl
  have F2 := fun_mk (st := s_make_record) l2 c2 k2
  have b2 := F2.binds (ps := ["machine", "number", "clock", "loads", "stores"]) fun _ _ _ _ _ _ us hl => match us, hl with | [_, _, _, _, _], _ => rfl
  have F3 := fun_mk (st := s_is_same) l3 c3 k3
  have b3 := F3.binds (ps := ["one", "other"]) fun _ _ _ _ _ _ us hl => match us, hl with | [_, _], _ => rfl
  have F4 := fun_mk (st := s_is_covered) l4 c4 k4
  have b4 := F4.binds (ps := ["record", "clock"]) fun _ _ _ _ _ _ us hl => match us, hl with | [_, _], _ => rfl
  have F5 := fun_mk (st := s_is_before) l5 c5 k5
  have b5 := F5.binds (ps := ["one", "other"]) fun _ _ _ _ _ _ us hl => match us, hl with | [_, _], _ => rfl
  have F6 := fun_mk (st := s_are_unordered) l6 c6 k6
  have b6 := F6.binds (ps := ["one", "other"]) fun _ _ _ _ _ _ us hl => match us, hl with | [_, _], _ => rfl
  have F7 := fun_mk (st := s__law_cell) l7 c7 k7
  have b7 := F7.binds (ps := ["script", "k"]) fun _ _ _ _ _ _ us hl => match us, hl with | [_, _], _ => rfl
  have F8 := fun_mk (st := s__law_digits) l8 c8 k8
  have b8 := F8.binds (ps := ["cell", "bases"]) fun _ _ _ _ _ _ us hl => match us, hl with | [_, _], _ => rfl
  have F9 := fun_mk (st := s__law_many) l9 c9 k9
  have b9 := F9.binds (ps := ["script", "few", "many"]) fun _ _ _ _ _ _ us hl => match us, hl with | [_, _, _], _ => rfl
  have F10 := fun_mk (st := s__law_clock) l10 c10 k10
  have b10 := F10.binds (ps := ["cell", "machines", "most"]) fun _ _ _ _ _ _ us hl => match us, hl with | [_, _, _], _ => rfl
  have F11 := fun_mk (st := s__law_run) l11 c11 k11
  have b11 := F11.binds (ps := ["cells", "machines"]) fun _ _ _ _ _ _ us hl => match us, hl with | [_, _], _ => rfl
  have F12 := fun_mk (st := s__law_ways) l12 c12 k12
  have b12 := F12.binds (ps := ["rows", "machines"]) fun _ _ _ _ _ _ us hl => match us, hl with | [_, _], _ => rfl
  have F13 := fun_mk (st := s_law) l13 c13 k13
  have b13 := F13.binds (ps := ["script"]) fun _ _ _ _ _ _ us hl => match us, hl with | [_], _ => rfl
  let Z : Fx K mg := ⟨f0, _, F0, b0, PySem.W.mg_of X G a0,
    f1, _, F1, b1, PySem.W.mg_of X G a1,
    f2, _, F2, b2, PySem.W.mg_of X G a2,
    f3, _, F3, b3, PySem.W.mg_of X G a3,
    f4, _, F4, b4, PySem.W.mg_of X G a4,
    f5, _, F5, b5, PySem.W.mg_of X G a5,
    f6, _, F6, b6, PySem.W.mg_of X G a6,
    f7, _, F7, b7, PySem.W.mg_of X G a7,
    f8, _, F8, b8, PySem.W.mg_of X G a8,
    f9, _, F9, b9, PySem.W.mg_of X G a9,
    f10, _, F10, b10, PySem.W.mg_of X G a10,
    f11, _, F11, b11, PySem.W.mg_of X G a11,
    f12, _, F12, b12, PySem.W.mg_of X G a12,
    fa, _, F13, b13, PySem.W.mg_of X G a13,
    PySem.W.mg_none_of X G z0,
    PySem.W.mg_none_of X G z1,
    PySem.W.mg_none_of X G z2,
    PySem.W.mg_none_of X G z3,
    PySem.W.mg_none_of X G z4,
    PySem.W.mg_none_of X G z5,
    PySem.W.mg_none_of X G z6,
    PySem.W.mg_none_of X G z7,
    PySem.W.mg_none_of X G z8,
    PySem.W.mg_none_of X G z9,
    PySem.W.mg_none_of X G z10⟩
  exact ⟨PySem.W.fnOf "law" "law" (defArgs s_law) (defBody s_law) (defScope s_law) .none kV13 dc13 pm13 an13 cd13 ct13, fun s v => .of_eq rfl, fun base _ _ => (ok_law Z).imp fun _ _ _ _ h => law_imp h⟩
end G
open PySem PySem.W PyProof.Rows
set_option maxHeartbeats 0 in
theorem PySem.Challenge.cw_commonage_k02_happens_before_is_an_order_holds : PySem.Challenge.rw_commonage_k02_happens_before_is_an_order.Holds := by
  w_on; o_law; k_head; (case hw => w_witness2)
  k_fill
  refine L2.walk_of (l := PySem.Challenge.rw_commonage_k02_happens_before_is_an_order) (n := 63) (k := 5) (x := "script") (CX := fun _ => L2.CX0) (sp := fun w => G.spLaw _) rfl (by decide) rfl ⟨rfl, by decide, by decide⟩ (fun w h Y => PySem.W.kIn_of Y) ?F (fun _ _ a ns hl _ hS => ⟨a, ns, rfl, hS, hl, fun _ => rfl⟩) (fun _ _ _ _ _ h => h)
  case F =>
    intro w mg fa h KX hG0 hmg
    refine' _root_.G.all_mk KX hG0 hmg ?a0 ?l0 ?c0 ?k0 ?a1 ?l1 ?c1 ?k1 ?a2 ?l2 ?c2 ?k2 ?a3 ?l3 ?c3 ?k3 ?a4 ?l4 ?c4 ?k4 ?a5 ?l5 ?c5 ?k5 ?a6 ?l6 ?c6 ?k6 ?a7 ?l7 ?c7 ?k7 ?a8 ?l8 ?c8 ?k8 ?a9 ?l9 ?c9 ?k9 ?a10 ?l10 ?c10 ?k10 ?a11 ?l11 ?c11 ?k11 ?a12 ?l12 ?c12 ?k12 ?a13 ?l13 ?c13 ?k13 ?z0 ?z1 ?z2 ?z3 ?z4 ?z5 ?z6 ?z7 ?z8 ?z9 ?z10
    (case a0 => k_is); (case l0 => k_is); (case c0 => k_is); (case k0 => k_is); (case a1 => k_is); (case l1 => k_is); (case c1 => k_is); (case k1 => k_is); (case a2 => k_is); (case l2 => k_is); (case c2 => k_is); (case k2 => k_is); (case a3 => k_is); (case l3 => k_is); (case c3 => k_is); (case k3 => k_is); (case a4 => k_is); (case l4 => k_is); (case c4 => k_is); (case k4 => k_is); (case a5 => k_is); (case l5 => k_is); (case c5 => k_is); (case k5 => k_is); (case a6 => k_is); (case l6 => k_is); (case c6 => k_is); (case k6 => k_is); (case a7 => k_is); (case l7 => k_is); (case c7 => k_is); (case k7 => k_is); (case a8 => k_is); (case l8 => k_is); (case c8 => k_is); (case k8 => k_is); (case a9 => k_is); (case l9 => k_is); (case c9 => k_is); (case k9 => k_is); (case a10 => k_is); (case l10 => k_is); (case c10 => k_is); (case k10 => k_is); (case a11 => k_is); (case l11 => k_is); (case c11 => k_is); (case k11 => k_is); (case a12 => k_is); (case l12 => k_is); (case c12 => k_is); (case k12 => k_is); (case a13 => k_is); (case l13 => k_is); (case c13 => k_is); (case k13 => k_is); (case z0 => k_is); (case z1 => k_is); (case z2 => k_is); (case z3 => k_is); (case z4 => k_is); (case z5 => k_is); (case z6 => k_is); (case z7 => k_is); (case z8 => k_is); (case z9 => k_is); (case z10 => k_is)

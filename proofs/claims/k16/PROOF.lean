import PyProof.Rows.All
import Wide.All
import OpenK.AllK
import Wide.FinOn
import HandS.ForMost
import HandS.Exc
import HandS.ExcOwn
import HandS.WordsExc
import HandS.IsInst
import HandS.Wide
import HandS.Gcd
import PyProof.ReprRoads
import HandS.Dict
import HandS.WideBits
import HandS.WordsList
import HandS.NoneIn
import HandS.Iter
import HandS.Comp
import HandS.ExcSuper
import KE.KExcSuper
import HandS.ExcValue
import KE.KExcIs
import HandS.EndBits
import HandS.SetKeys
import HandS.Conv
import HandS.DictComp
import HandS.Flow
import PySem.Challenge.RW_floorwalks_k16_rows_measured
set_option Elab.async false
set_option linter.all false
set_option maxRecDepth 100000
set_option maxHeartbeats 4000000
/-! Fw: what a program does, as plain functions over numbered objects; each construct's function is tied to the hand layer once. -/
namespace Fw
open PySem PySem.Spec L2
/-- a value; objects by their number -/
inductive SV where
  | non | bl (b : Bool) | int (i : Int) | str (x : Str) | ref (i : Nat) | scr (ns : List Int)
  deriving DecidableEq, Inhabited
/-- an object -/
inductive SO where
  | lst (xs : List SV) | tup (xs : List SV) | dK (kvs : List (Key × SV)) | dT (kvs : List (List Key × SV)) | ins (c : Nat) (vs : List SV)
  | exo (c : Nat) (vs : List SV)
  | lk (kvs : List (Key × SV))
  deriving DecidableEq, Inhabited
abbrev SH := List SO
abbrev SS := List (Option SV)
inductive Res (α : Type) where
  | stuck | ok (a : α) (h : SH) | ex (c : Nat) (vs : List SV) (h : SH)
@[inline] def Res.bind {α β : Type} (r : Res α) (k : α → SH → Res β) : Res β := match r with
  | .stuck => .stuck
  | .ok a h => k a h
  | .ex c vs h => .ex c vs h
abbrev EM := SS → SH → Res SV
abbrev BM := SS → SH → Res Bool
abbrev AM := SS → SH → Res (List SV)
/-- what stands behind a statement -/
inductive SR where
  | stuck | nx (ss : SS) (h : SH) | rt (v : SV) (h : SH) | bk (ss : SS) (h : SH) | ct (ss : SS) (h : SH) | ex (c : Nat) (vs : List SV) (ss : SS) (h : SH)
abbrev SM := SS → SH → SR
abbrev FM := List SV → SH → Res SV
/-- the classes' places and fields, the written part, the script -/
structure En where
  cl : List (Addr × List Str)
  K : PySem.W.Frag
  a0 : Addr
  ns : List Int
  fz : List (Addr × Obj × List (Key × V))
/-! ### what is held -/
def RS (en : En) (ρ : List Addr) : SV → V → Prop
  | .non, v => v = .non
  | .bl b, v => v = .bl b
  | .int i, v => v = .int i
  | .str x, v => v = .str x
  | .ref i, v => ∃ a, ρ[i]? = some a ∧ v = .ref a
  | .scr ns, v => v = .ref en.a0 ∧ ns = en.ns
abbrev RSs (en : En) (ρ : List Addr) : List SV → List V → Prop := Paired (RS en ρ)
/-- the fields of an error: in its dict, or none -/
def HasF (ρ : List Addr) (H : Hp) (d : Option Addr) (kvs : List (Str × V)) : Prop := (d = none ∧ kvs = []) ∨ ∃ dx, d = some dx ∧ H dx = some (.xd kvs) ∧ dx ∉ ρ
def exoφ (a : Addr) (cls : Value) (d : Option Addr) : Heap → Prop := fun h => ∃ oe us, h.get? a = some oe ∧ Zc cls d oe ∧ oe.data = .fields us
def RO (en : En) (ρ : List Addr) (H : Hp) (a : Addr) : SO → Prop
  | .lst xs => ∃ vs, H a = some (.lst vs) ∧ RSs en ρ xs vs
  | .tup xs => ∃ vs, H a = some (.tup vs) ∧ RSs en ρ xs vs
  | .dK kvs => ∃ kws, H a = some (.dK kws) ∧ Paired (fun p q => p.1 = q.1 ∧ RS en ρ p.2 q.2) kvs kws
  | .dT kvs => ∃ kws, H a = some (.dT kws) ∧ Paired (fun p q => p.1 = q.1 ∧ RS en ρ p.2 q.2) kvs kws
  | .ins c xs => ∃ C ns dx vs, en.cl[c]? = some (C, ns) ∧ H a = some (.ins C dx (ns.zip vs)) ∧ xs.length ≤ ns.length ∧ RSs en ρ xs vs
  | .exo c xs => ∃ C ns d vs, en.cl[c]? = some (C, ns) ∧ H a = some (.ext (exoφ a (.ref C) d)) ∧ HasF ρ H d (ns.zip vs) ∧ xs.length = ns.length ∧ RSs en ρ xs vs
  | .lk kvs => ∃ o kws, en.fz.lookup a = some (o, kws) ∧ H a = some (.frz o (.dK kws)) ∧ Paired (fun p q => p.1 = q.1 ∧ RS en ρ p.2 q.2) kvs kws
structure Rel (en : En) (ρ : List Addr) (h : SH) (H : Hp) : Prop where
  len : ρ.length = h.length
  nd : ρ.Nodup
  ob : ∀ (i : Nat) (a : Addr) (o : SO), ρ[i]? = some a → h[i]? = some o → RO en ρ H a o
  sc : (∃ o, H en.a0 = some (.frz o (.lst (en.ns.map V.int))) ∧ en.a0 ∉ ρ) ∨ SqL en.K (fun _ => none) en.a0 (en.ns.map V.int)
theorem sqL_none {K : PySem.W.Frag} {a : Addr} {xs : List V} (h : SqL K (fun _ => none) a xs) (H : Hp) : SqL K H a xs := by
  rcases h with (h | ⟨o, h⟩) | h
  · cases h
  · cases h
  · exact .inr h
theorem Rel.scr {en : En} {ρ : List Addr} {h : SH} {H : Hp} (R : Rel en ρ h H) : SqL en.K H en.a0 (en.ns.map V.int) := by
  rcases R.sc with ⟨o, e, _⟩ | z
  · exact .inl (.inr ⟨o, e⟩)
  · exact sqL_none z H
structure RSl (en : En) (ρ : List Addr) (ss : SS) (σ : St) : Prop where
  len : ss.length = σ.length
  at_ : ∀ (i : Nat) (v : SV), ss[i]? = some (some v) → ∃ u, σ[i]? = some (some u) ∧ RS en ρ v u
/-- an error in the air: its class, its fields -/
def RX (en : En) (ρ : List Addr) (H : Hp) (c : Nat) (xs : List SV) (cls : Value) (d : Option Addr) : Prop :=
  ∃ C ns vs, en.cl[c]? = some (C, ns) ∧ cls = .ref C ∧ HasF ρ H d (ns.zip vs) ∧ xs.length = ns.length ∧ RSs en ρ xs vs
def Pre (ρ ρ' : List Addr) : Prop := ∃ e, ρ' = ρ ++ e
theorem Pre.refl (ρ : List Addr) : Pre ρ ρ := ⟨[], by simp⟩
theorem Pre.trans {a b c : List Addr} (h : Pre a b) (k : Pre b c) : Pre a c := by
  obtain ⟨x, rfl⟩ := h; obtain ⟨y, rfl⟩ := k; exact ⟨x ++ y, by simp⟩
theorem Pre.one (ρ : List Addr) (p : Addr) : Pre ρ (ρ ++ [p]) := ⟨[p], rfl⟩
theorem Pre.get {ρ ρ' : List Addr} (h : Pre ρ ρ') {i : Nat} {a : Addr} (e : ρ[i]? = some a) : ρ'[i]? = some a := by
  obtain ⟨x, rfl⟩ := h
  rw [List.getElem?_append_left (List.getElem?_eq_some_iff.mp e).1]; exact e
theorem RS.mono {en : En} {ρ ρ' : List Addr} (h : Pre ρ ρ') {x : SV} {v : V} (r : RS en ρ x v) : RS en ρ' x v := by
  cases x <;> first | exact r | (obtain ⟨a, e, q⟩ := r; exact ⟨a, h.get e, q⟩)
theorem paired_mono {α β : Type} {R R' : α → β → Prop} (f : ∀ a b, R a b → R' a b) : ∀ {xs : List α} {ys : List β}, Paired R xs ys → Paired R' xs ys
  | _, _, .nil => .nil
  | _, _, .cons r t => .cons (f _ _ r) (paired_mono f t)
theorem RSs.mono {en : En} {ρ ρ' : List Addr} (h : Pre ρ ρ') {xs : List SV} {vs : List V} (r : RSs en ρ xs vs) : RSs en ρ' xs vs := paired_mono (fun _ _ q => q.mono h) r
theorem RSl.mono {en : En} {ρ ρ' : List Addr} (h : Pre ρ ρ') {ss : SS} {σ : St} (r : RSl en ρ ss σ) : RSl en ρ' ss σ :=
  ⟨r.len, fun i v e => let ⟨u, e', q⟩ := r.at_ i v e; ⟨u, e', q.mono h⟩⟩
theorem RSl.set {en : En} {ρ : List Addr} {ss : SS} {σ : St} (r : RSl en ρ ss σ) {x : SV} {v : V} (q : RS en ρ x v) (i : Nat) : RSl en ρ (ss.set i (some x)) (σ.set i (some v)) := by
  refine ⟨by simp [r.len], fun j y e => ?_⟩
  by_cases hj : i = j
  · subst hj
    by_cases hl : i < ss.length
    · rw [List.getElem?_set_self hl] at e
      cases e
      exact ⟨v, List.getElem?_set_self (by rw [← r.len]; exact hl), q⟩
    · rw [List.getElem?_eq_none (by simpa using hl)] at e; cases e
  · rw [List.getElem?_set_ne hj] at e ⊢
    exact r.at_ j y e
theorem RSl.clear {en : En} {ρ : List Addr} {ss : SS} {σ : St} (r : RSl en ρ ss σ) (i : Nat) : RSl en ρ (ss.set i none) (σ.set i none) := by
  refine ⟨by simp [r.len], fun j y e => ?_⟩
  by_cases hj : i = j
  · subst hj
    by_cases hl : i < ss.length
    · rw [List.getElem?_set_self hl] at e; cases e
    · rw [List.getElem?_eq_none (by simpa using hl)] at e; cases e
  · rw [List.getElem?_set_ne hj] at e ⊢
    exact r.at_ j y e
theorem Rel.at {en : En} {ρ : List Addr} {h : SH} {H : Hp} (R : Rel en ρ h H) {i : Nat} {o : SO} (e : h[i]? = some o) : ∃ a, ρ[i]? = some a ∧ RO en ρ H a o := by
  have hl : i < ρ.length := by rw [R.len]; exact (List.getElem?_eq_some_iff.mp e).1
  exact ⟨ρ[i], List.getElem?_eq_getElem hl, R.ob i _ o (List.getElem?_eq_getElem hl) e⟩
theorem Rel.at2 {en : En} {ρ : List Addr} {h : SH} {H : Hp} (R : Rel en ρ h H) {i : Nat} {o : SO} {a : Addr} (ea : ρ[i]? = some a) (e : h[i]? = some o) : RO en ρ H a o := R.ob i a o ea e
/-- what a held object is stays so where its own place and its error's dict are as they were -/
theorem RO.keep {en : En} {ρ ρ' : List Addr} {H H' : Hp} {a : Addr} {o : SO} (p : Pre ρ ρ') (r : RO en ρ H a o) (k : H' a = H a) (kx : ∀ d fs, d ∉ ρ → H d = some (.xd fs) → H' d = some (.xd fs) ∧ d ∉ ρ') : RO en ρ' H' a o := by
  cases o with
  | lst xs => obtain ⟨vs, e, q⟩ := r; exact ⟨vs, k.trans e, q.mono p⟩
  | tup xs => obtain ⟨vs, e, q⟩ := r; exact ⟨vs, k.trans e, q.mono p⟩
  | dK kvs => obtain ⟨vs, e, q⟩ := r; exact ⟨vs, k.trans e, paired_mono (fun _ _ z => ⟨z.1, z.2.mono p⟩) q⟩
  | dT kvs => obtain ⟨vs, e, q⟩ := r; exact ⟨vs, k.trans e, paired_mono (fun _ _ z => ⟨z.1, z.2.mono p⟩) q⟩
  | ins c xs => obtain ⟨C, ns, dx, vs, e1, e, l, q⟩ := r; exact ⟨C, ns, dx, vs, e1, k.trans e, l, q.mono p⟩
  | lk kvs => obtain ⟨ob, vs, ef, e, q⟩ := r; exact ⟨ob, vs, ef, k.trans e, paired_mono (fun _ _ z => ⟨z.1, z.2.mono p⟩) q⟩
  | exo c xs =>
    obtain ⟨C, ns, d, vs, e1, e, hf, l, q⟩ := r
    refine ⟨C, ns, d, vs, e1, k.trans e, ?_, l, q.mono p⟩
    rcases hf with z | ⟨dx, ed, hd, nd⟩
    · exact .inl z
    · obtain ⟨kd, nd'⟩ := kx dx _ nd hd
      exact .inr ⟨dx, ed, kd, nd'⟩
/-- a held place is tracked -/
theorem RO.some {en : En} {ρ : List Addr} {H : Hp} {a : Addr} {o : SO} (r : RO en ρ H a o) : ∃ u, H a = some u ∧ ∀ fs, u ≠ .xd fs := by
  cases o with
  | lst xs => obtain ⟨vs, e, q⟩ := r; exact ⟨_, e, fun _ z => by cases z⟩
  | tup xs => obtain ⟨vs, e, q⟩ := r; exact ⟨_, e, fun _ z => by cases z⟩
  | dK kvs => obtain ⟨vs, e, q⟩ := r; exact ⟨_, e, fun _ z => by cases z⟩
  | dT kvs => obtain ⟨vs, e, q⟩ := r; exact ⟨_, e, fun _ z => by cases z⟩
  | ins c xs => obtain ⟨C, ns, dx, vs, e1, e, l, q⟩ := r; exact ⟨_, e, fun _ z => by cases z⟩
  | exo c xs => obtain ⟨C, ns, d, vs, e1, e, hf, l, q⟩ := r; exact ⟨_, e, fun _ z => by cases z⟩
  | lk kvs => obtain ⟨ob, vs, ef, e, q⟩ := r; exact ⟨_, e, fun _ z => by cases z⟩
theorem Rel.mem {en : En} {ρ : List Addr} {h : SH} {H : Hp} (R : Rel en ρ h H) {a : Addr} (m : a ∈ ρ) : ∃ u, H a = some u ∧ ∀ fs, u ≠ .xd fs := by
  obtain ⟨i, hl, e⟩ := List.getElem_of_mem m
  have e2 : h[i]? = some (h[i]'(by rw [← R.len]; exact hl)) := List.getElem?_eq_getElem _
  exact (R.ob i a _ (by rw [List.getElem?_eq_getElem hl, e]) e2).some
/-- one object anew -/
theorem Rel.push {en : En} {ρ : List Addr} {h : SH} {H : Hp} (R : Rel en ρ h H) {p : Addr} {u : HO} {o : SO} (hp : H p = none) (r : RO en (ρ ++ [p]) (upd H p u) p o) : Rel en (ρ ++ [p]) (h ++ [o]) (upd H p u) := by
  have np : p ∉ ρ := fun m => by obtain ⟨u, e, _⟩ := R.mem m; rw [hp] at e; cases e
  refine ⟨by simp [R.len], ?_, fun i a ob ea eo => ?_, ?_⟩
  · rw [List.nodup_append]
    exact ⟨R.nd, by simp, fun a ha b hb => by simp at hb; subst hb; exact fun z => np (z ▸ ha)⟩
  · by_cases hi : i < ρ.length
    · rw [List.getElem?_append_left hi] at ea
      rw [List.getElem?_append_left (by rw [← R.len]; exact hi)] at eo
      have ra := R.ob i a ob ea eo
      obtain ⟨w, ew, _⟩ := ra.some
      refine ra.keep (Pre.one ρ p) (upd_ne (ne_of_none ew hp)) fun d fs nd ed => ⟨by rw [upd_ne (ne_of_none ed hp)]; exact ed, fun m => ?_⟩
      rcases List.mem_append.mp m with m | m
      · exact nd m
      · simp at m; subst m; rw [hp] at ed; cases ed
    · have hi2 : ¬ i < h.length := by rw [← R.len]; exact hi
      rw [List.getElem?_append_right (by omega)] at ea
      rw [List.getElem?_append_right (by omega)] at eo
      have e0 : i - ρ.length = 0 := by
        have := (List.getElem?_eq_some_iff.mp ea).1
        simp at this; omega
      have e1 : i - h.length = 0 := by rw [← R.len]; exact e0
      rw [e0] at ea; rw [e1] at eo
      cases ea; cases eo
      exact r
  · rcases R.sc with ⟨ob, e, n⟩ | z
    · refine .inl ⟨ob, by rw [upd_ne (ne_of_none e hp)]; exact e, fun m => ?_⟩
      rcases List.mem_append.mp m with m | m
      · exact n m
      · simp at m; rw [m, hp] at e; cases e
    · exact .inr z
/-- one object changed -/
theorem Rel.put {en : En} {ρ : List Addr} {h : SH} {H : Hp} (R : Rel en ρ h H) {i : Nat} {p : Addr} {u : HO} {o : SO} (hp : ρ[i]? = some p) (r : RO en ρ (upd H p u) p o) : Rel en ρ (h.set i o) (upd H p u) := by
  refine ⟨by simp [R.len], R.nd, fun j a ob ea eo => ?_, ?_⟩
  by_cases hj : i = j
  · subst hj
    rw [hp] at ea; cases ea
    have hl : i < h.length := by rw [← R.len]; exact (List.getElem?_eq_some_iff.mp hp).1
    rw [List.getElem?_set_self hl] at eo; cases eo
    exact r
  · rw [List.getElem?_set_ne hj] at eo
    have ne : a ≠ p := fun z => by
      subst z
      exact hj (nd_ix R.nd hp ea)
    have mp : p ∈ ρ := List.mem_of_getElem? hp
    have kx : ∀ (d : Addr) (fs : List (Str × V)), d ∉ ρ → H d = some (.xd fs) → upd H p u d = some (.xd fs) ∧ d ∉ ρ := fun d fs nd ed => by
      have nd2 : d ≠ p := fun z => nd (by rw [z]; exact mp)
      exact ⟨by rw [upd_ne nd2]; exact ed, nd⟩
    exact (R.ob j a ob ea eo).keep (Pre.refl ρ) (upd_ne ne) kx
  · rcases R.sc with ⟨ob, e, n⟩ | z
    · have ne : en.a0 ≠ p := fun q => n (by rw [q]; exact List.mem_of_getElem? hp)
      exact .inl ⟨ob, by rw [upd_ne ne]; exact e, n⟩
    · exact .inr z
/-- what is not held may change -/
theorem Rel.keep {en : En} {ρ : List Addr} {h : SH} {H H' : Hp} (R : Rel en ρ h H) (k : ∀ a u, H a = some u → H' a = some u) : Rel en ρ h H' :=
  ⟨R.len, R.nd, fun i a o ea eo => by
    have r := R.ob i a o ea eo
    obtain ⟨w, ew, _⟩ := r.some
    exact r.keep (Pre.refl ρ) ((k a w ew).trans ew.symm) fun d fs nd ed => ⟨k d _ ed, nd⟩,
   R.sc.imp (fun ⟨o, e, n⟩ => ⟨o, k _ _ e, n⟩) id⟩
end Fw
namespace Fw
open PySem PySem.Spec L2
/-- what is wanted behind a run r from the places rho -/
def fin {α β : Type} (en : En) (W : WX) (R : List Addr → α → β → Prop) (σ : L2.St) (ρ : List Addr) (r : Res α) (Q : β → Hp → Prop) : Prop := match r with
  | .stuck => False
  | .ok a h => ∀ ρ' H b, Pre ρ ρ' → Rel en ρ' h H → R ρ' a b → Q b H
  | .ex c xs h => ∀ ρ' H cls d, Pre ρ ρ' → Rel en ρ' h H → RX en ρ' H c xs cls d → W cls d σ H
/-- the reading of a meaning m -/
def tM {α β : Type} (en : En) (W : WX) (R : List Addr → α → β → Prop) (m : SS → SH → Res α) : L2.St → Hp → (β → Hp → Prop) → Prop := fun σ H Q =>
  ∃ ρ ss h, Rel en ρ h H ∧ RSl en ρ ss σ ∧ fin en W R σ ρ (m ss h) Q
abbrev RB : List Addr → Bool → Bool → Prop := fun _ a b => a = b
abbrev tE (en : En) (W : WX) (m : EM) : TE := tM en W (RS en) m
abbrev tT (en : En) (W : WX) (m : BM) : TT := tM en W RB m
abbrev tA (en : En) (W : WX) (m : AM) : TA := tM en W (RSs en) m
theorem fin.mono {α β : Type} {en : En} {W : WX} {R : List Addr → α → β → Prop} {σ : L2.St} {ρ ρ' : List Addr} {r : Res α} {Q : β → Hp → Prop} (p : Pre ρ ρ') (f : fin en W R σ ρ r Q) : fin en W R σ ρ' r Q := by
  cases r with
  | stuck => exact f
  | ok a h => exact fun ρ2 H b p2 => f ρ2 H b (p.trans p2)
  | ex c xs h => exact fun ρ2 H cls d p2 => f ρ2 H cls d (p.trans p2)
theorem tM.bind {α β γ δ : Type} {en : En} {W : WX} {R1 : List Addr → α → β → Prop} {R2 : List Addr → γ → δ → Prop} {ma : SS → SH → Res α} {k : α → SS → SH → Res γ} {σ : L2.St} {H : Hp} {Q : δ → Hp → Prop}
    (t : tM en W R2 (fun ss h => (ma ss h).bind fun a h1 => k a ss h1) σ H Q) :
    tM en W R1 ma σ H fun b H1 => ∃ ρ ss h a, Rel en ρ h H1 ∧ RSl en ρ ss σ ∧ R1 ρ a b ∧ fin en W R2 σ ρ (k a ss h) Q := by
  obtain ⟨ρ, ss, h, rel, rs, f⟩ := t
  refine ⟨ρ, ss, h, rel, rs, ?_⟩
  cases e : ma ss h with
  | stuck => simp only [e, Res.bind, fin] at f
  | ok a h1 =>
    simp only [e, Res.bind] at f
    exact fun ρ' H' b p rel' rb => ⟨ρ', ss, h1, a, rel', rs.mono p, rb, f.mono p⟩
  | ex c xs h1 =>
    simp only [e, Res.bind, fin] at f
    exact f
theorem tM.imp {α β : Type} {en : En} {W : WX} {R : List Addr → α → β → Prop} {m : SS → SH → Res α} {σ : L2.St} {H : Hp} {Q Q' : β → Hp → Prop} (t : tM en W R m σ H Q) (k : ∀ b H, Q b H → Q' b H) : tM en W R m σ H Q' := by
  obtain ⟨ρ, ss, h, rel, rs, f⟩ := t
  refine ⟨ρ, ss, h, rel, rs, ?_⟩
  cases e : m ss h with
  | stuck => rw [e] at f; exact f
  | ok a h1 => rw [e] at f; exact fun ρ' H' b p r q => k _ _ (f ρ' H' b p r q)
  | ex c xs h1 => rw [e] at f; exact f
theorem PEimp {X : Cx} {e : Expr} {t t' : TE} (h : PE X e t) (k : ∀ σ H Q, t' σ H Q → t σ H Q) : PE X e t' := ⟨fun pins s σ H Q I q => h.run pins s σ H Q I (k σ H Q q)⟩
theorem PTimp {X : Cx} {e : Expr} {t t' : TT} (h : PT X e t) (k : ∀ σ H Q, t' σ H Q → t σ H Q) : PT X e t' := ⟨fun pins s σ H Q I q => h.run pins s σ H Q I (k σ H Q q)⟩
theorem PWimp {X : Cx} {e : Expr} {t t' : TT} (h : PW X e t) (k : ∀ σ H Q, t' σ H Q → t σ H Q) : PW X e t' := ⟨fun wh pins s σ H Q I q => h.run wh pins s σ H Q I (k σ H Q q)⟩
theorem PAimp {X : Cx} {e : List Expr} {t t' : TA} (h : PA X e t) (k : ∀ σ H Q, t' σ H Q → t σ H Q) : PA X e t' := ⟨fun ps pins s σ H Q I q => h.run ps pins s σ H Q I (k σ H Q q)⟩
theorem PSimp {X : Cx} {e : Stmt} {t t' : TS} (h : PS X e t) (k : ∀ D σ H, t' D σ H → t D σ H) : PS X e t' := ⟨fun pins s σ H D I q => h.run pins s σ H D I (k D σ H q)⟩
theorem PSsimp {X : Cx} {e : List Stmt} {t t' : TS} (h : PSs X e t) (k : ∀ D σ H, t' D σ H → t D σ H) : PSs X e t' := ⟨fun pins s σ H D I q => h.run pins s σ H D I (k D σ H q)⟩
/-! ### operations by values -/
abbrev O1 := SV → SH → Option (SV × SH)
abbrev O2 := SV → SV → SH → Option (SV × SH)
abbrev OA := List SV → SH → Option (SV × SH)
def lift {α : Type} (o : Option (α × SH)) : Res α := match o with
  | some (a, h) => .ok a h
  | none => .stuck
/-- what is wanted of an operation's answer -/
def finO (en : En) (ρ : List Addr) (o : Option (SV × SH)) (Q : V → Hp → Prop) : Prop := ∃ a h, o = some (a, h) ∧ ∀ ρ' H b, Pre ρ ρ' → Rel en ρ' h H → RS en ρ' a b → Q b H
theorem fin.lift {en : En} {W : WX} {σ : L2.St} {ρ : List Addr} {o : Option (SV × SH)} {Q : V → Hp → Prop} (f : fin en W (RS en) σ ρ (lift o) Q) : finO en ρ o Q := by
  cases o with
  | none => exact f.elim
  | some p => exact ⟨p.1, p.2, rfl, f⟩
def rO2 (en : En) (op : O2) : R2 := fun x y H Q => ∃ ρ h a b, Rel en ρ h H ∧ RS en ρ a x ∧ RS en ρ b y ∧ finO en ρ (op a b h) Q
def rO1 (en : En) (op : O1) : V → Hp → VK → Prop := fun x H Q => ∃ ρ h a, Rel en ρ h H ∧ RS en ρ a x ∧ finO en ρ (op a h) Q
def rOA (en : En) (op : OA) : List V → Hp → VK → Prop := fun xs H Q => ∃ ρ h as, Rel en ρ h H ∧ RSs en ρ as xs ∧ finO en ρ (op as h) Q
def mO2 (op : O2) (ma mb : EM) : EM := fun ss h => (ma ss h).bind fun a h1 => (mb ss h1).bind fun b h2 => lift (op a b h2)
def mO1 (op : O1) (ma : EM) : EM := fun ss h => (ma ss h).bind fun a h1 => lift (op a h1)
def mOA (op : OA) (ma : AM) : EM := fun ss h => (ma ss h).bind fun a h1 => lift (op a h1)
section
variable {X : Cx} {en : En} {W : WX} {a b : Expr} {ma mb : EM} {pos : Pos}
theorem tO2 {op : O2} (σ : L2.St) (H : Hp) (Q : VK) (t : tE en W (mO2 op ma mb) σ H Q) : tOp (rO2 en op) (tE en W ma) (tE en W mb) σ H Q := by
  refine (tM.bind (R1 := RS en) (k := fun a ss h => (mb ss h).bind fun b h2 => lift (op a b h2)) t).imp fun x H1 ⟨ρ, ss, h, a, rel, rs, ra, f⟩ => ?_
  have t2 : tM en W (RS en) (fun ss h => (mb ss h).bind fun b h2 => (fun b (ss : SS) h2 => lift (op a b h2)) b ss h2) σ H1 Q := ⟨ρ, ss, h, rel, rs, f⟩
  obtain ⟨ρ2, ss2, h2, rel2, rs2, f2⟩ := t2
  -- keep a's relation: rebuild with the places at hand
  refine ⟨ρ, ss, h, rel, rs, ?_⟩
  cases e : mb ss h with
  | stuck => simp only [e, Res.bind, fin] at f
  | ok b h1 =>
    simp only [e, Res.bind] at f
    exact fun ρ' H' u p rel' rb => ⟨ρ', h1, a, b, rel', ra.mono p, rb, (f.mono p).lift⟩
  | ex c xs h1 =>
    simp only [e, Res.bind, fin] at f
    exact f
theorem PE.o2 {op : Operator} {o : O2} (ho : OpR X (binaryOp op) (rO2 en o)) (ha : PE X a (tE en W ma)) (hb : PE X b (tE en W mb)) : PE X (.BinOp a op b pos) (tE en W (mO2 o ma mb)) := PEimp (pe_op ho ha hb) fun σ H Q t => tO2 σ H Q t
theorem PE.cmp {op : CmpOp} {o : O2} (ho : OpR X (compareOp op) (rO2 en o)) (ha : PE X a (tE en W ma)) (hb : PE X b (tE en W mb)) (hm : behindInMarks op b = false) : PE X (.Compare a [op] [b] pos) (tE en W (mO2 o ma mb)) := PEimp (pe_cmpR ho ha hb hm) fun σ H Q t => tO2 σ H Q t
/-- a meaning that gives a Bool, as a test -/
def mB (m : EM) : BM := fun ss h => (m ss h).bind fun v h1 => match v with
  | .bl b => .ok b h1
  | _ => .stuck
theorem tBool {m : EM} (σ : L2.St) (H : Hp) (Q : Bool → Hp → Prop) (t : tT en W (mB m) σ H Q) : tB (tE en W m) σ H Q := by
  refine (tM.bind (R1 := RS en) (k := fun v ss h1 => match v with | .bl b => .ok b h1 | _ => .stuck) t).imp fun x H1 ⟨ρ, ss, h, v, rel, rs, rv, f⟩ => ?_
  cases v with
  | bl b =>
    cases rv
    exact ⟨b, rfl, f ρ H1 b (Pre.refl ρ) rel rfl⟩
  | _ => exact f.elim
theorem PT.val {e : Expr} {m : EM} (h : PE X e (tE en W m)) (he : ∀ whole, isTrue e X.env whole = (do let v ← whole; standAt e.pos; holding [v] (truthy v)) := by intro _; rfl) : PT X e (tT en W (mB m)) := PTimp (pt_val h he) fun σ H Q t => tBool σ H Q t
/-! names, constants -/
def mVar (i : Nat) : EM := fun ss h => match ss[i]? with
  | some (some v) => .ok v h
  | _ => .stuck
def mC (v : SV) : EM := fun _ h => .ok v h
theorem PE.var (i : Nat) {x : Str} (hN : X.N[i]? = some x := by rfl) (hv : Vis X.env.scope x := by first | exact Or.inl rfl | exact Or.inr (Or.inl rfl) | exact Or.inr (Or.inr rfl)) (hd : (x == ("__debug__" : Str)) = false := by decide)
    (hcd : (x == ("__classdict__" : Str)) = false := by decide) : PE X (.Name x pos) (tE en W (mVar i)) := by
  refine PEimp (pe_var hN hv hd hcd) fun σ H Q ⟨ρ, ss, h, rel, rs, f⟩ => ?_
  unfold mVar at f
  cases e : ss[i]? with
  | none => rw [e] at f; exact f.elim
  | some o =>
    cases o with
    | none => rw [e] at f; exact f.elim
    | some v =>
      rw [e] at f
      obtain ⟨u, eu, r⟩ := rs.at_ i v e
      exact ⟨u, eu, f ρ H u (Pre.refl ρ) rel r⟩
theorem constOf {v : SV} {u : V} (hr : ∀ ρ, RS en ρ v u) (σ : L2.St) (H : Hp) (Q : VK) (t : tE en W (mC v) σ H Q) : tC u σ H Q := by
  obtain ⟨ρ, ss, h, rel, rs, f⟩ := t
  exact f ρ H u (Pre.refl ρ) rel (hr ρ)
theorem PE.int {i : Int} {j : Nat} : PE X (.Constant (.int i) j pos) (tE en W (mC (.int i))) := PEimp pe_int (constOf fun _ => rfl)
theorem PE.bl {i : Bool} {j : Nat} : PE X (.Constant (.bool i) j pos) (tE en W (mC (.bl i))) := PEimp pe_bl (constOf fun _ => rfl)
theorem PE.non {j : Nat} : PE X (.Constant .none j pos) (tE en W (mC .non)) := PEimp pe_non (constOf fun _ => rfl)
theorem PE.str {x : Str} {j : Nat} : PE X (.Constant (.str x) j pos) (tE en W (mC (.str x))) := PEimp pe_str (constOf fun _ => rfl)
end
end Fw
namespace Fw
open PySem PySem.Spec L2
theorem OpRimp {X : Cx} {f : Value → Value → Sem Value} {r r' : R2} (h : OpR X f r) (k : ∀ x y H Q, r' x y H Q → r x y H Q) : OpR X f r' := fun pins s σ H x y v u Q I rx ry q => h pins s σ H x y v u Q I rx ry (k _ _ _ _ q)
theorem CallRimp {X : Cx} {f : Value} {r r' : List V → Hp → VK → Prop} (h : CallR X f r) (k : ∀ xs H Q, r' xs H Q → r xs H Q) : CallR X f r' := fun pins s σ H xs us Q I r q => h pins s σ H xs us Q I r (k _ _ _ q)
def big : Nat := 16777216
theorem big_eq : (sizeLine : Nat) = big := by rw [sizeLine_eq]; rfl
/-- a new object -/
def alloc (o : SO) : SH → Option (SV × SH) := fun h => some (.ref h.length, h ++ [o])
section
variable {X : Cx} {en : En}
/-- what stays: the places at hand, the answer without objects -/
theorem finO.here {ρ : List Addr} {h : SH} {H : Hp} {a : SV} {b : V} {Q : V → Hp → Prop} (f : finO en ρ (some (a, h)) Q) (rel : Rel en ρ h H) (r : RS en ρ a b) : Q b H := by
  obtain ⟨a', h', e, k⟩ := f
  cases e
  exact k ρ H b (Pre.refl ρ) rel r
theorem finO.new {ρ : List Addr} {h : SH} {H : Hp} {o : SO} {Q : V → Hp → Prop} (f : finO en ρ (alloc o h) Q) (rel : Rel en ρ h H) {p : Addr} {u : HO} (hp : H p = none) (r : RO en (ρ ++ [p]) (upd H p u) p o) : Q (.ref p) (upd H p u) := by
  obtain ⟨a', h', e, k⟩ := f
  cases e
  exact k (ρ ++ [p]) _ _ (Pre.one ρ p) (rel.push hp r) ⟨p, by rw [← rel.len, List.getElem?_append_right (Nat.le_refl _)]; simp, rfl⟩
theorem finO.newLst {ρ : List Addr} {h : SH} {H : Hp} {xs : List SV} {vs : List V} {Q : V → Hp → Prop} (f : finO en ρ (alloc (.lst xs) h) Q) (rel : Rel en ρ h H) (r : RSs en ρ xs vs) : ∀ p, H p = none → Q (.ref p) (upd H p (.lst vs)) :=
  fun p hp => f.new rel hp ⟨vs, upd_same, r.mono (Pre.one ρ p)⟩
theorem finO.newTup {ρ : List Addr} {h : SH} {H : Hp} {xs : List SV} {vs : List V} {Q : V → Hp → Prop} (f : finO en ρ (alloc (.tup xs) h) Q) (rel : Rel en ρ h H) (r : RSs en ρ xs vs) : ∀ p, H p = none → Q (.ref p) (upd H p (.tup vs)) :=
  fun p hp => f.new rel hp ⟨vs, upd_same, r.mono (Pre.one ρ p)⟩
theorem finO.put {ρ : List Addr} {h : SH} {H : Hp} {a : SV} {b : V} {i : Nat} {o : SO} {Q : V → Hp → Prop} (f : finO en ρ (some (a, h.set i o)) Q) (rel : Rel en ρ h H) {p : Addr} {u : HO} (hp : ρ[i]? = some p) (r : RO en ρ (upd H p u) p o) (rb : RS en ρ a b) : Q b (upd H p u) := by
  obtain ⟨a', h', e, k⟩ := f
  cases e
  exact k ρ _ _ (Pre.refl ρ) (rel.put hp r) rb
theorem RSs.len {en : En} {ρ : List Addr} : ∀ {xs : List SV} {vs : List V}, RSs en ρ xs vs → xs.length = vs.length := fun r => Paired.length r
theorem RSs.app {en : En} {ρ : List Addr} : ∀ {xs ys : List SV} {vs ws : List V}, RSs en ρ xs vs → RSs en ρ ys ws → RSs en ρ (xs ++ ys) (vs ++ ws)
  | _, _, _, _, .nil, s => s
  | _, _, _, _, .cons r t, s => .cons r (RSs.app t s)
theorem RSs.get {en : En} {ρ : List Addr} : ∀ {xs : List SV} {vs : List V} {i : Nat} {x : SV}, RSs en ρ xs vs → xs[i]? = some x → ∃ v, vs[i]? = some v ∧ RS en ρ x v
  | _, _, _, _, .nil, e => by simp at e
  | _, _, 0, _, .cons r _, e => by simp at e; subst e; exact ⟨_, rfl, r⟩
  | _, _, i + 1, x, .cons _ t, e => by
    obtain ⟨u, h1, h2⟩ := RSs.get (i := i) (x := x) t (by simpa using e)
    exact ⟨u, by simpa using h1, h2⟩
theorem RSs.set {en : En} {ρ : List Addr} {x : SV} {v : V} (r : RS en ρ x v) : ∀ {xs : List SV} {vs : List V} (i : Nat), RSs en ρ xs vs → RSs en ρ (xs.set i x) (vs.set i v)
  | _, _, _, .nil => .nil
  | _, _, 0, .cons _ t => .cons r t
  | _, _, i + 1, .cons q t => .cons q (RSs.set r i t)
theorem RSs.take {en : En} {ρ : List Addr} : ∀ {xs : List SV} {vs : List V} (n : Nat), RSs en ρ xs vs → RSs en ρ (xs.take n) (vs.take n)
  | _, _, 0, _ => .nil
  | _, _, _ + 1, .nil => .nil
  | _, _, n + 1, .cons r t => .cons r (RSs.take n t)
theorem RSs.drop {en : En} {ρ : List Addr} : ∀ {xs : List SV} {vs : List V} (n : Nat), RSs en ρ xs vs → RSs en ρ (xs.drop n) (vs.drop n)
  | _, _, 0, r => r
  | _, _, _ + 1, .nil => .nil
  | _, _, n + 1, .cons _ t => RSs.drop n t
/-- a list's object -/
theorem Rel.lst {ρ : List Addr} {h : SH} {H : Hp} (R : Rel en ρ h H) {i : Nat} {xs : List SV} {v : V} (e : h[i]? = some (.lst xs)) (r : RS en ρ (.ref i) v) : ∃ p vs, v = .ref p ∧ ρ[i]? = some p ∧ H p = some (.lst vs) ∧ RSs en ρ xs vs := by
  obtain ⟨p, ep, rfl⟩ := r
  obtain ⟨vs, e1, q⟩ := R.at2 ep e
  exact ⟨p, vs, rfl, ep, e1, q⟩
theorem Rel.tup {ρ : List Addr} {h : SH} {H : Hp} (R : Rel en ρ h H) {i : Nat} {xs : List SV} {v : V} (e : h[i]? = some (.tup xs)) (r : RS en ρ (.ref i) v) : ∃ p vs, v = .ref p ∧ ρ[i]? = some p ∧ H p = some (.tup vs) ∧ RSs en ρ xs vs := by
  obtain ⟨p, ep, rfl⟩ := r
  obtain ⟨vs, e1, q⟩ := R.at2 ep e
  exact ⟨p, vs, rfl, ep, e1, q⟩
/-! ### + - * // % ** -/
def opAdd : O2 := fun a b h => match a, b with
  | .int i, .int j => some (.int (i + j), h)
  | .str x, .str y => if x.length + y.length ≤ big then some (.str (x ++ y), h) else none
  | .ref i, .ref j => match h[i]?, h[j]? with
    | some (.lst xs), some (.lst ys) => if xs.length + ys.length ≤ big then alloc (.lst (xs ++ ys)) h else none
    | _, _ => none
  | _, _ => none
theorem op_addM : OpR X (binaryOp .Add) (rO2 en opAdd) := by
  refine OpRimp (op_add.or (op_add_str.or op_cat)) fun x y H Q ⟨ρ, h, a, b, rel, ra, rb, v, h', e, k⟩ => ?_
  unfold opAdd at e
  split at e
  · cases ra; cases rb
    exact .inl ⟨_, _, rfl, rfl, finO.here ⟨_, _, e, k⟩ rel rfl⟩
  · cases ra; cases rb
    split at e
    · exact .inr (.inl ⟨_, _, rfl, rfl, by rw [big_eq]; assumption, finO.here ⟨_, _, e, k⟩ rel rfl⟩)
    · cases e
  · split at e
    · rename_i ei ej
      split at e
      · obtain ⟨p, vs, rfl, ep, e1, r1⟩ := rel.lst ei ra
        obtain ⟨q, ws, rfl, eq, e2, r2⟩ := rel.lst ej rb
        exact .inr (.inr ⟨p, q, vs, ws, rfl, rfl, e1, e2, by rw [big_eq, ← r1.len, ← r2.len]; assumption, finO.newLst ⟨_, _, e, k⟩ rel (r1.app r2)⟩)
      · cases e
    · cases e
  · cases e
end
end Fw
namespace Fw
open PySem PySem.Spec L2
section
variable {X : Cx} {en : En}
def opSub : O2 := fun a b h => match a, b with
  | .int i, .int j => some (.int (i - j), h)
  | _, _ => none
theorem op_subM : OpR X (binaryOp .Sub) (rO2 en opSub) := by
  refine OpRimp op_sub fun x y H Q ⟨ρ, h, a, b, rel, ra, rb, v, h', e, k⟩ => ?_
  unfold opSub at e
  split at e
  · cases ra; cases rb
    exact ⟨_, _, rfl, rfl, finO.here ⟨_, _, e, k⟩ rel rfl⟩
  · cases e
def okMul (i j : Int) : Bool := decide ((-18446744073709551616 < i ∧ i < 18446744073709551616) ∨ (-18446744073709551616 < j ∧ j < 18446744073709551616))
theorem okMul_of {i j : Int} (h : okMul i j = true) : CMul i j := by
  have e : (2 : Int) ^ 64 = 18446744073709551616 := by decide
  unfold CMul
  rw [e]
  exact of_decide_eq_true h
/-- k times the items -/
def repS : Nat → List SV → List SV
  | 0, _ => []
  | n + 1, xs => xs ++ repS n xs
theorem repS_rel {ρ : List Addr} {xs : List SV} {vs : List V} (r : RSs en ρ xs vs) : ∀ n, RSs en ρ (repS n xs) (List.replicate n vs).flatten
  | 0 => .nil
  | n + 1 => by
    rw [List.replicate_succ, List.flatten_cons]
    exact r.app (repS_rel r n)
def opMul : O2 := fun a b h => match a, b with
  | .int i, .int j => if okMul i j = true then some (.int (i * j), h) else none
  | .ref i, .int k => match h[i]? with
    | some (.lst xs) => if k ≤ 16777216 ∧ -16777216 ≤ k ∧ xs.length * k.toNat ≤ big then alloc (.lst (repS k.toNat xs)) h else none
    | _ => none
  | _, _ => none
theorem op_mulM : OpR X (binaryOp .Mult) (rO2 en opMul) := by
  refine OpRimp (op_mul.or op_rep) fun x y H Q ⟨ρ, h, a, b, rel, ra, rb, v, h', e, k⟩ => ?_
  unfold opMul at e
  split at e
  · cases ra; cases rb
    split at e
    · rename_i hk
      exact .inl ⟨_, _, rfl, rfl, okMul_of hk, finO.here ⟨_, _, e, k⟩ rel rfl⟩
    · cases e
  · split at e
    · rename_i ei
      split at e
      · rename_i hk
        cases rb
        obtain ⟨p, vs, rfl, ep, e1, r1⟩ := rel.lst ei ra
        exact .inr ⟨p, _, vs, rfl, rfl, e1, by omega, by omega, by rw [big_eq, ← r1.len]; exact hk.2.2, finO.newLst ⟨_, _, e, k⟩ rel (repS_rel r1 _)⟩
      · cases e
    · cases e
  · cases e
def opFdiv : O2 := fun a b h => match a, b with
  | .int i, .int j => if 0 < j ∧ j.natAbs.log2 < 9000 then some (.int (i / j), h) else none
  | _, _ => none
theorem op_fdivM : OpR X (binaryOp .FloorDiv) (rO2 en opFdiv) := by
  refine OpRimp op_fdivW fun x y H Q ⟨ρ, h, a, b, rel, ra, rb, v, h', e, k⟩ => ?_
  unfold opFdiv at e
  split at e
  · cases ra; cases rb
    split at e
    · rename_i hk
      exact ⟨_, _, rfl, rfl, hk, finO.here ⟨_, _, e, k⟩ rel rfl⟩
    · cases e
  · cases e
def opMod : O2 := fun a b h => match a, b with
  | .int i, .int j => if 0 < j then some (.int (i % j), h) else none
  | _, _ => none
theorem op_modM : OpR X (binaryOp .Mod) (rO2 en opMod) := by
  refine OpRimp op_mod fun x y H Q ⟨ρ, h, a, b, rel, ra, rb, v, h', e, k⟩ => ?_
  unfold opMod at e
  split at e
  · cases ra; cases rb
    split at e
    · rename_i hk
      exact ⟨_, _, rfl, rfl, hk, finO.here ⟨_, _, e, k⟩ rel rfl⟩
    · cases e
  · cases e
def opPow : O2 := fun a b h => match a, b with
  | .int i, .int j => if 0 ≤ j ∧ (Builtin.Int.intBits i : Int) * j ≤ 134217728 then some (.int (i ^ j.toNat), h) else none
  | _, _ => none
theorem op_powW : OpR X (binaryOp .Pow) (rI (fun i j => 0 ≤ j ∧ (Builtin.Int.intBits i : Int) * j ≤ 134217728) fun i j => .int (i ^ j.toNat)) := opI fun i j _ _ _ _ _ hc q => PyProof.Rows.pow_int hc.1 hc.2 q
theorem op_powM : OpR X (binaryOp .Pow) (rO2 en opPow) := by
  refine OpRimp op_powW fun x y H Q ⟨ρ, h, a, b, rel, ra, rb, v, h', e, k⟩ => ?_
  unfold opPow at e
  split at e
  · cases ra; cases rb
    split at e
    · rename_i hk
      exact ⟨_, _, rfl, rfl, hk, finO.here ⟨_, _, e, k⟩ rel rfl⟩
    · cases e
  · cases e
def opNeg : O1 := fun a h => match a with
  | .int i => some (.int (-i), h)
  | _ => none
theorem op_negM : UnR X (unaryOp .USub) (rO1 en opNeg) := fun pins s σ H x v Q I rx ⟨ρ, h, a, rel, ra, w, h', e, k⟩ => by
  unfold opNeg at e
  split at e
  · cases ra
    exact un_neg pins s σ H _ v Q I rx ⟨_, rfl, finO.here ⟨_, _, e, k⟩ rel rfl⟩
  · cases e
theorem PE.un {W : WX} {a : Expr} {ma : EM} {pos : Pos} {op : UnaryOp} {o : O1} (ho : UnR X (unaryOp op) (rO1 en o)) (ha : PE X a (tE en W ma)) : PE X (.UnaryOp op a pos) (tE en W (mO1 o ma)) :=
  PEimp (pe_un ho ha) fun σ H Q t => (tM.bind (R1 := RS en) (k := fun a ss h => lift (o a h)) t).imp fun x H1 ⟨ρ, ss, h, a, rel, rs, ra, f⟩ => ⟨ρ, h, a, rel, ra, f.lift⟩
/-! ### < <= > >= of ints (and <= of one-sign texts), is None -/
def opLt : O2 := fun a b h => match a, b with
  | .int i, .int j => some (.bl (decide (i < j)), h)
  | _, _ => none
def opLe : O2 := fun a b h => match a, b with
  | .int i, .int j => some (.bl (decide (i ≤ j)), h)
  | .str x, .str y => some (.bl (!decide (y.cps.toList < x.cps.toList)), h)
  | _, _ => none
def opGt : O2 := fun a b h => match a, b with
  | .int i, .int j => some (.bl (decide (j < i)), h)
  | _, _ => none
def opGe : O2 := fun a b h => match a, b with
  | .int i, .int j => some (.bl (decide (j ≤ i)), h)
  | _, _ => none
theorem op_ltM : OpR X (compareOp .Lt) (rO2 en opLt) := by
  refine OpRimp op_lt fun x y H Q ⟨ρ, h, a, b, rel, ra, rb, v, h', e, k⟩ => ?_
  unfold opLt at e
  split at e
  · cases ra; cases rb
    exact ⟨_, _, rfl, rfl, finO.here ⟨_, _, e, k⟩ rel rfl⟩
  · cases e
theorem op_gtM : OpR X (compareOp .Gt) (rO2 en opGt) := by
  refine OpRimp op_gt fun x y H Q ⟨ρ, h, a, b, rel, ra, rb, v, h', e, k⟩ => ?_
  unfold opGt at e
  split at e
  · cases ra; cases rb
    exact ⟨_, _, rfl, rfl, finO.here ⟨_, _, e, k⟩ rel rfl⟩
  · cases e
theorem op_geM : OpR X (compareOp .GtE) (rO2 en opGe) := by
  refine OpRimp op_ge fun x y H Q ⟨ρ, h, a, b, rel, ra, rb, v, h', e, k⟩ => ?_
  unfold opGe at e
  split at e
  · cases ra; cases rb
    exact ⟨_, _, rfl, rfl, finO.here ⟨_, _, e, k⟩ rel rfl⟩
  · cases e
theorem op_leM : OpR X (compareOp .LtE) (rO2 en opLe) := by
  refine OpRimp (op_le.or op_le_str) fun x y H Q ⟨ρ, h, a, b, rel, ra, rb, v, h', e, k⟩ => ?_
  unfold opLe at e
  split at e
  · cases ra; cases rb
    exact .inl ⟨_, _, rfl, rfl, finO.here ⟨_, _, e, k⟩ rel rfl⟩
  · cases ra; cases rb
    exact .inr ⟨_, _, rfl, rfl, finO.here ⟨_, _, e, k⟩ rel rfl⟩
  · cases e
def opIsN : O2 := fun a b h => match b with
  | .non => some (.bl (decide (a = .non)), h)
  | _ => none
def opNotN : O2 := fun a b h => match b with
  | .non => some (.bl (!decide (a = .non)), h)
  | _ => none
theorem RS.non_iff {en : En} {ρ : List Addr} {a : SV} {x : V} (r : RS en ρ a x) : decide (a = .non) = decide (x = .non) := by
  cases a with
  | ref i => obtain ⟨p, _, rfl⟩ := r; rfl
  | scr ns => obtain ⟨rfl, _⟩ := r; rfl
  | _ => cases r; rfl
theorem op_isNM : OpR X (compareOp .Is) (rO2 en opIsN) := by
  refine OpRimp op_isN fun x y H Q ⟨ρ, h, a, b, rel, ra, rb, v, h', e, k⟩ => ?_
  unfold opIsN at e
  split at e
  · cases rb
    refine ⟨rfl, ?_⟩
    rw [← ra.non_iff]
    exact finO.here ⟨_, _, e, k⟩ rel rfl
  · cases e
theorem op_notNM : OpR X (compareOp .IsNot) (rO2 en opNotN) := by
  refine OpRimp op_notN fun x y H Q ⟨ρ, h, a, b, rel, ra, rb, v, h', e, k⟩ => ?_
  unfold opNotN at e
  split at e
  · cases rb
    refine ⟨rfl, ?_⟩
    rw [← ra.non_iff]
    exact finO.here ⟨_, _, e, k⟩ rel rfl
  · cases e
end
end Fw
namespace Fw
open PySem PySem.Spec L2
/-- an object's places read as data -/
def dataAll (f : SV → Option PyData) : List SV → Option (List PyData)
  | [] => some []
  | x :: xs => match f x with
    | none => none
    | some d => match dataAll f xs with
      | none => none
      | some ds => some (d :: ds)
def keyD : Key → PyData
  | .inl i => .int i
  | .inr x => .str x
def dataOf : Nat → SH → SV → Option PyData
  | 0, _, _ => none
  | n + 1, h, v => match v with
    | .non => some .none
    | .bl b => some (.bool b)
    | .int i => some (.int i)
    | .str x => some (.str x)
    | .scr _ => none
    | .ref i => match h[i]? with
      | some (.lst xs) => (dataAll (dataOf n h) xs).map .list
      | some (.tup xs) => (dataAll (dataOf n h) xs).map .tuple
      | some (.dK kvs) => (dataAll (dataOf n h) (kvs.map (·.2))).map fun ds => .dict ((kvs.map fun p => keyD p.1).zip ds)
      | _ => none
theorem paired_map {α β γ δ : Type} {R : α → β → Prop} {R' : γ → δ → Prop} {f : α → γ} {g : β → δ} (k : ∀ a b, R a b → R' (f a) (g b)) : ∀ {xs : List α} {ys : List β}, Paired R xs ys → Paired R' (xs.map f) (ys.map g)
  | _, _, .nil => .nil
  | _, _, .cons r t => .cons (k _ _ r) (paired_map k t)
theorem paired_eq {α : Type} : ∀ {xs ys : List α}, Paired Eq xs ys → xs = ys
  | _, _, .nil => rfl
  | _, _, .cons r t => by rw [r, paired_eq t]
theorem readsAll_len {h : Heap} : ∀ {vs : List Value} {ds : List PyData} {as : List Addr}, ReadsAll h vs ds as → vs.length = ds.length
  | _, _, _, .nil => rfl
  | _, _, _, .cons _ t => by rw [List.length_cons, List.length_cons, readsAll_len t]
section
variable {X : Cx} {en : En} {pins : List (Addr × Obj)} {σ : L2.St} {H : Hp} {s : Shared} {ρ : List Addr} {h : SH}
theorem pairs_keys {P : Program} {w : World} : ∀ {es : List DictEntry} {kvs : List (Key × Value)}, Pairs (mixKind P w) es kvs → ReadsAll s.heap (es.map (·.key)) (kvs.map fun p => keyD p.1) []
  | _, _, .nil => .nil
  | e :: es, (k, v) :: kvs, .cons hk hv t => by
    have r : Reads s.heap e.key (keyD k) [] := by
      have hk' : keyIs k e.key = true := hk
      rcases keyIs_shape hk' with ⟨i, u, e1, e2⟩ | ⟨x, u, e1, e2⟩
      · have e1' : k = .inl i := e1
        subst e1'; rw [e2]; exact Reads.int i u
      · have e1' : k = .inr x := e1
        subst e1'; rw [e2]; exact Reads.str x u
    exact ReadsAll.cons r (pairs_keys t)
theorem pairs_vals {P : Program} {w : World} : ∀ {es : List DictEntry} {kvs : List (Key × Value)}, Pairs (mixKind P w) es kvs → es.map (·.val) = kvs.map (·.2)
  | _, _, .nil => rfl
  | e :: es, (k, v) :: kvs, .cons hk hv t => by
    show e.val :: es.map (·.val) = v :: kvs.map (·.2)
    rw [pairs_vals t, hv]
/-- the trackable places of data are not sys.modules -/
theorem reads_of (I : Inv X pins σ H s) (hsm : ∃ o, X.base.get? sysModules = some o) (rel : Rel en ρ h H) : ∀ (n : Nat) (v : SV) (d : PyData) (x : V) (u : Value), dataOf n h v = some d → RS en ρ v x → RelV x u → ∃ as, Reads s.heap u d as ∧ sysModules ∉ as := by
  have ns : ∀ a o, H a = some o → a ≠ sysModules := fun a o e z => by
    obtain ⟨ob, eb⟩ := hsm
    have := (I.bs _ _ eb).2
    rw [← z, e] at this; cases this
  intro n
  induction n with
  | zero => intro v d x u e; cases e
  | succ n ih =>
    have all : ∀ (vs : List SV) (ds : List PyData) (xs : List V) (us : List Value), dataAll (dataOf n h) vs = some ds → RSs en ρ vs xs → Vals xs us → ∃ as, ReadsAll s.heap us ds as ∧ sysModules ∉ as := by
      intro vs
      induction vs with
      | nil => intro ds xs us e r r2; cases r; cases r2; cases e; exact ⟨_, .nil, by simp⟩
      | cons v vs ihv =>
        intro ds xs us e r r2
        cases r with
        | cons r rt =>
          cases r2 with
          | cons r2 rt2 =>
            unfold dataAll at e
            split at e
            · cases e
            · rename_i d ed
              split at e
              · cases e
              · rename_i ds' eds
                cases e
                obtain ⟨as, q1, n1⟩ := ih _ _ _ _ ed r r2
                obtain ⟨bs, q2, n2⟩ := ihv _ _ _ eds rt rt2
                exact ⟨_, .cons q1 q2, by simp [n1, n2]⟩
    intro v d x u e r r2
    unfold dataOf at e
    split at e
    · cases e; cases r; cases r2; exact ⟨_, Reads.none, by simp⟩
    · cases e; cases r; cases r2; exact ⟨_, Reads.bool _, by simp⟩
    · cases e; cases r; obtain ⟨t, rfl⟩ := r2; exact ⟨_, Reads.int _ t, by simp⟩
    · cases e; cases r; obtain ⟨t, rfl⟩ := r2; exact ⟨_, Reads.str _ t, by simp⟩
    · cases e
    · split at e
      · rename_i xs ei
        obtain ⟨p, vs, rfl, ep, e1, r1⟩ := rel.lst ei r
        cases r2
        cases eds : dataAll (dataOf n h) xs with
        | none => rw [eds] at e; cases e
        | some ds =>
          rw [eds] at e; cases e
          obtain ⟨its, rv, ⟨o, n', ho, hc, _, hd⟩, _⟩ := I.list (SqL.of (K := X.K) e1)
          obtain ⟨as, hr, hn⟩ := all _ _ _ _ eds r1 rv
          exact ⟨_, Reads.list ho hc hd hr, by simp [hn]; exact fun z => ns _ _ e1 z.symm⟩
      · rename_i xs ei
        obtain ⟨p, vs, rfl, ep, e1, r1⟩ := rel.tup ei r
        cases r2
        cases eds : dataAll (dataOf n h) xs with
        | none => rw [eds] at e; cases e
        | some ds =>
          rw [eds] at e; cases e
          obtain ⟨its, rv, ⟨o, ho, hc, n', hd⟩, _⟩ := I.tuple (SqT.of (K := X.K) e1)
          obtain ⟨as, hr, hn⟩ := all _ _ _ _ eds r1 rv
          exact ⟨_, Reads.tuple ho hc hd hr, hn⟩
      · rename_i kvs ei
        obtain ⟨p, ep, rfl⟩ := r
        obtain ⟨kws, e1, r1⟩ := rel.at2 ep ei
        cases r2
        cases eds : dataAll (dataOf n h) (kvs.map (·.2)) with
        | none => rw [eds] at e; cases e
        | some ds =>
          rw [eds] at e; cases e
          obtain ⟨_, hsm', vs, rv, o, es, epp, ho, hx, hd, _, hp, _⟩ := dk_of I.hok e1
          have rs : RSs en ρ (kvs.map (·.2)) (kws.map (·.2)) := paired_map (fun _ _ q => q.2) r1
          have rvs : Vals (kws.map (·.2)) (vs.map (·.2)) := paired_map (fun _ _ q => q.2) rv
          have ks : (kvs.map fun p => keyD p.1) = vs.map fun p => keyD p.1 := by
            have k1 : kvs.map (·.1) = kws.map (·.1) := paired_eq (paired_map (fun _ _ q => q.1) r1)
            have k2 : kws.map (·.1) = vs.map (·.1) := paired_eq (paired_map (fun _ _ q => q.1) rv)
            have k3 := congrArg (List.map keyD) (k1.trans k2)
            rw [List.map_map, List.map_map] at k3
            exact k3
          obtain ⟨as, hr, hn⟩ := all _ _ _ _ eds rs rvs
          have hl : ds.length = (vs.map fun p => keyD p.1).length := by
            have l1 := readsAll_len hr
            rw [List.length_map] at l1 ⊢
            exact l1.symm
          refine ⟨_, Reads.dict (kvs := (kvs.map fun p => keyD p.1).zip ds) (as := []) (bs := as) ho hx.1 hd ?_ ?_, ?_⟩
          · rw [ks, List.map_fst_zip (by omega)]
            exact pairs_keys hp
          · rw [ks, List.map_snd_zip (by omega), pairs_vals hp]
            exact hr
          · simp [hn]; exact fun z => ns _ _ e1 z.symm
      · cases e
/-! ### ==, !=, repr of data -/
def eqD (neg : Bool) : O2 := fun a b h => match dataOf 64 h a, dataOf 64 h b with
  | some d, some e => if (SeqAt.shaped d && SeqAt.shaped e) = true then some (.bl (if neg = true then !PyData.eqv d e else PyData.eqv d e), h) else none
  | _, _ => none
theorem op_eqM (hsm : ∃ o, X.base.get? sysModules = some o) (hu : X.A.units + 64 < cLine) : OpR X (compareOp .Eq) (rO2 en (eqD false)) := by
  intro pins s σ H x y v u Q I rx ry ⟨ρ, h, a, b, rel, ra, rb, w, h', e, k⟩
  unfold eqD at e
  split at e
  · rename_i d e' ed ee
    split at e
    · rename_i hs
      obtain ⟨as, r1, _⟩ := reads_of I hsm rel _ _ _ _ _ ed ra rx
      obtain ⟨bs, r2, _⟩ := reads_of I hsm rel _ _ _ _ _ ee rb ry
      have z := Bool.and_eq_true_iff.mp hs
      exact SeqAt.compareEq_shaped r1 r2 z.1 z.2 hu ⟨.bl _, H, I, rfl, finO.here ⟨_, _, e, k⟩ rel rfl⟩
    · cases e
  · cases e
theorem op_neM (hsm : ∃ o, X.base.get? sysModules = some o) (hu : X.A.units + 64 < cLine) : OpR X (compareOp .NotEq) (rO2 en (eqD true)) := by
  intro pins s σ H x y v u Q I rx ry ⟨ρ, h, a, b, rel, ra, rb, w, h', e, k⟩
  unfold eqD at e
  split at e
  · rename_i d e' ed ee
    split at e
    · rename_i hs
      obtain ⟨as, r1, _⟩ := reads_of I hsm rel _ _ _ _ _ ed ra rx
      obtain ⟨bs, r2, _⟩ := reads_of I hsm rel _ _ _ _ _ ee rb ry
      have z := Bool.and_eq_true_iff.mp hs
      exact SeqAt.compareNe_shaped r1 r2 z.1 z.2 hu ⟨.bl _, H, I, rfl, finO.here ⟨_, _, e, k⟩ rel rfl⟩
    · cases e
  · cases e
def opRepr : O1 := fun a h => match dataOf 64 h a with
  | some d => if d.showable = true ∧ d.depth ≤ 64 ∧ d.shown.length ≤ big then some (.str d.shown, h) else none
  | none => none
def un1 (o : O1) : OA := fun as h => match as with
  | [a] => o a h
  | _ => none
def bin2 (o : O2) : OA := fun as h => match as with
  | [a, b] => o a b h
  | _ => none
theorem vals1' {en : En} {ρ : List Addr} {a : SV} {xs : List V} {us : List Value} (r : RSs en ρ [a] xs) (r2 : Vals xs us) : ∃ x u, xs = [x] ∧ us = [u] ∧ RS en ρ a x ∧ RelV x u := by
  cases r with
  | cons r t =>
    cases t
    cases r2 with
    | cons r2 t2 =>
      cases t2
      exact ⟨_, _, rfl, rfl, r, r2⟩
theorem call_reprM (hsm : ∃ o, X.base.get? sysModules = some o) (hg : X.A.guards = some []) (hu : X.A.units + 66 < cLine) : CallR X (.builtin "repr") (rOA en (un1 opRepr)) := by
  intro pins s σ H xs us Q I r ⟨ρ, h, as, rel, ra, w, h', e, k⟩
  unfold un1 at e
  split at e
  · rename_i a
    obtain ⟨x, u, rfl, rfl, rx, ru⟩ := vals1' ra r
    unfold opRepr at e
    split at e
    · rename_i d ed
      split at e
      · rename_i hs
        obtain ⟨hs1, hs2, hs3⟩ := hs
        have hsz : d.shown.length ≤ sizeLine := by rw [big_eq]; exact hs3
        obtain ⟨bs, r1, n1⟩ := reads_of I hsm rel _ _ _ _ _ ed rx ru
        have fin : ∀ (u : Tok) (s' : Shared), Inv X pins σ H s' → EP X pins σ Q (.str d.shown u) s' := fun u s' I' => ⟨.str _, H, I', ⟨u, rfl⟩, finO.here ⟨_, _, e, k⟩ rel rfl⟩
        cases r1 with
        | none => exact PySem.P.repr_of_none (fin _ _ (I.tok _))
        | bool b => exact PySem.P.repr_of_bool (fin _ _ (I.tok _))
        | int i t => exact PySem.P.repr_of_int (by simpa [PyData.showable] using hs1) (fin _ _ (I.tok _))
        | str z t => exact PySem.P.repr_of_str (fin _ _ (I.tok _)) 
        | list h1 h2 h3 h4 => exact PySem.repr_of_reads' (Reads.list h1 h2 h3 h4) hs1 (fun _ => n1) hg (by omega) (fun _ _ z => z) (fun h' u tk hk => fin u _ (I.kept (t' := tk) hk)) hsz
        | tuple h1 h2 h3 h4 => exact PySem.repr_of_reads' (Reads.tuple h1 h2 h3 h4) hs1 (fun _ => n1) hg (by omega) (fun _ _ z => z) (fun h' u tk hk => fin u _ (I.kept (t' := tk) hk)) hsz
        | dict h1 h2 h3 h4 h5 => exact PySem.repr_of_reads' (Reads.dict h1 h2 h3 h4 h5) hs1 (fun _ => n1) hg (by omega) (fun _ _ z => z) (fun h' u tk hk => fin u _ (I.kept (t' := tk) hk)) hsz
      · cases e
    · cases e
  · cases e
end
end Fw
namespace Fw
open PySem PySem.Spec L2
section
variable {X : Cx} {en : En} {W : WX} {a b c : Expr} {ma mb mc : EM} {ta tb : BM} {pos : Pos} {rest : List Expr}
/-- from a meaning's reading to the reading of its first part, the places kept -/
theorem tM.bind2 {α β γ δ : Type} {R1 : List Addr → α → β → Prop} {R2 : List Addr → γ → δ → Prop} {m1 : SS → SH → Res α} {k : α → SS → SH → Res γ} {σ : L2.St} {H : Hp} {Q : δ → Hp → Prop} {Q' : β → Hp → Prop}
    (t : tM en W R2 (fun ss h => (m1 ss h).bind fun a h1 => k a ss h1) σ H Q)
    (f : ∀ ρ ss h a b H1, Rel en ρ h H1 → RSl en ρ ss σ → R1 ρ a b → fin en W R2 σ ρ (k a ss h) Q → Q' b H1) : tM en W R1 m1 σ H Q' :=
  (tM.bind (R1 := R1) t).imp fun b H1 ⟨ρ, ss, h, a, rel, rs, ra, q⟩ => f ρ ss h a b H1 rel rs ra q
/-! ### and, or, not, if else, as values and as tests -/
def mAnd (ma mb : EM) : EM := fun ss h => (ma ss h).bind fun v h1 => match v with
  | .bl true => mb ss h1
  | .bl false => .ok (.bl false) h1
  | _ => .stuck
def mOr (ma mb : EM) : EM := fun ss h => (ma ss h).bind fun v h1 => match v with
  | .bl true => .ok (.bl true) h1
  | .bl false => mb ss h1
  | _ => .stuck
def mNot (ma : EM) : EM := fun ss h => (ma ss h).bind fun v h1 => match v with
  | .bl b => .ok (.bl (!b)) h1
  | _ => .stuck
def mIf (ta : BM) (ma mb : EM) : EM := fun ss h => (ta ss h).bind fun b h1 => if b = true then ma ss h1 else mb ss h1
def bAnd (ta tb : BM) : BM := fun ss h => (ta ss h).bind fun b h1 => if b = true then tb ss h1 else .ok false h1
def bOr (ta tb : BM) : BM := fun ss h => (ta ss h).bind fun b h1 => if b = true then .ok true h1 else tb ss h1
def bNot (ta : BM) : BM := fun ss h => (ta ss h).bind fun b h1 => .ok (!b) h1
theorem PE.and1 {op : PySem.BoolOp} (h : PE X a (tE en W ma)) : PE X (.BoolOp op [a] pos) (tE en W ma) := pe_one h
theorem PE.and (ha : PE X a (tE en W ma)) (hb : PE X (.BoolOp .And (b :: rest) pos) (tE en W mb)) : PE X (.BoolOp .And (a :: b :: rest) pos) (tE en W (mAnd ma mb)) :=
  PEimp (pe_and ha hb) fun σ H Q t => tM.bind2 (R1 := RS en) (k := fun v ss h1 => match v with | .bl true => mb ss h1 | .bl false => .ok (.bl false) h1 | _ => .stuck) t fun ρ ss h v x H1 rel rs r f => by
    cases v with
    | bl b =>
      cases r
      cases b with
      | true => exact ⟨true, rfl, ρ, ss, h, rel, rs, f⟩
      | false => exact ⟨false, rfl, f ρ H1 _ (Pre.refl ρ) rel rfl⟩
    | _ => exact f.elim
theorem PE.or (ha : PE X a (tE en W ma)) (hb : PE X (.BoolOp .Or (b :: rest) pos) (tE en W mb)) : PE X (.BoolOp .Or (a :: b :: rest) pos) (tE en W (mOr ma mb)) :=
  PEimp (pe_or ha hb) fun σ H Q t => tM.bind2 (R1 := RS en) (k := fun v ss h1 => match v with | .bl true => .ok (.bl true) h1 | .bl false => mb ss h1 | _ => .stuck) t fun ρ ss h v x H1 rel rs r f => by
    cases v with
    | bl b =>
      cases r
      cases b with
      | true => exact ⟨true, rfl, f ρ H1 _ (Pre.refl ρ) rel rfl⟩
      | false => exact ⟨false, rfl, ρ, ss, h, rel, rs, f⟩
    | _ => exact f.elim
theorem PE.not (ha : PE X a (tE en W ma)) : PE X (.UnaryOp .Not a pos) (tE en W (mNot ma)) :=
  PEimp (pe_not ha) fun σ H Q t => tM.bind2 (R1 := RS en) (R2 := RS en) (k := fun v (ss : SS) h1 => match v with | .bl b => (Res.ok (SV.bl (!b)) h1 : Res SV) | _ => .stuck) t fun ρ ss h v x H1 rel rs r f => by
    cases v with
    | bl b => cases r; exact ⟨b, rfl, f ρ H1 _ (Pre.refl ρ) rel rfl⟩
    | _ => exact f.elim
theorem PE.ifx (hc : PT X c (tT en W ta)) (ha : PE X a (tE en W ma)) (hb : PE X b (tE en W mb)) : PE X (.IfExp c a b pos) (tE en W (mIf ta ma mb)) :=
  PEimp (pe_ifExp hc ha hb) fun σ H Q t => tM.bind2 (R1 := RB) (k := fun b ss h1 => if b = true then ma ss h1 else mb ss h1) t fun ρ ss h v x H1 rel rs r f => by
    cases r
    cases v with
    | true => exact ⟨ρ, ss, h, rel, rs, f⟩
    | false => exact ⟨ρ, ss, h, rel, rs, f⟩
theorem PW.and1 (ha : PT X a (tT en W ta)) : PW X (.BoolOp .And [a] pos) (tT en W ta) := pw_and1 ha
theorem PW.or1 (ha : PT X a (tT en W ta)) : PW X (.BoolOp .Or [a] pos) (tT en W ta) := pw_or1 ha
theorem PW.and (ha : PT X a (tT en W ta)) (hb : PW X (.BoolOp .And (b :: rest) pos) (tT en W tb)) : PW X (.BoolOp .And (a :: b :: rest) pos) (tT en W (bAnd ta tb)) :=
  PWimp (pw_and ha hb) fun σ H Q t => tM.bind2 (R1 := RB) (k := fun b ss h1 => if b = true then tb ss h1 else .ok false h1) t fun ρ ss h v x H1 rel rs r f => by
    cases r
    cases v with
    | true => exact ⟨ρ, ss, h, rel, rs, f⟩
    | false => exact f ρ H1 _ (Pre.refl ρ) rel rfl
theorem PW.or (ha : PT X a (tT en W ta)) (hb : PW X (.BoolOp .Or (b :: rest) pos) (tT en W tb)) : PW X (.BoolOp .Or (a :: b :: rest) pos) (tT en W (bOr ta tb)) :=
  PWimp (pw_or ha hb) fun σ H Q t => tM.bind2 (R1 := RB) (k := fun b ss h1 => if b = true then .ok true h1 else tb ss h1) t fun ρ ss h v x H1 rel rs r f => by
    cases r
    cases v with
    | true => exact f ρ H1 _ (Pre.refl ρ) rel rfl
    | false => exact ⟨ρ, ss, h, rel, rs, f⟩
theorem PT.not (ha : PT X a (tT en W ta)) : PT X (.UnaryOp .Not a pos) (tT en W (bNot ta)) :=
  PTimp (pt_not ha) fun σ H Q t => tM.bind2 (R1 := RB) (k := fun b ss h1 => .ok (!b) h1) t fun ρ ss h v x H1 rel rs r f => by
    cases r
    exact f ρ H1 _ (Pre.refl ρ) rel rfl
/-! ### a < b < c -/
def mChain (o1 o2 : O2) (ma mb mc : EM) : EM := fun ss h => (ma ss h).bind fun x h1 => (mb ss h1).bind fun y h2 => (lift (o1 x y h2)).bind fun z h3 => match z with
  | .bl true => (mc ss h3).bind fun w h4 => lift (o2 y w h4)
  | .bl false => .ok (.bl false) h3
  | _ => .stuck
theorem chain_read {o1 o2 : O2} (σ : L2.St) (H : Hp) (Q : VK) (t : tE en W (mChain o1 o2 ma mb mc) σ H Q) : tChain (rO2 en o1) (rO2 en o2) (tE en W ma) (tE en W mb) (tE en W mc) σ H Q := by
    obtain ⟨ρ, ss, h, rel, rs, f⟩ := t
    refine ⟨ρ, ss, h, rel, rs, ?_⟩
    unfold mChain at f
    cases e : ma ss h with
    | stuck => simp only [e, Res.bind, fin] at f
    | ex cc xs h1 => simp only [e, Res.bind, fin] at f; exact f
    | ok x h1 =>
      simp only [e, Res.bind] at f
      intro ρ1 H1 u p1 rel1 ru
      refine ⟨ρ1, ss, h1, rel1, rs.mono p1, ?_⟩
      cases e2 : mb ss h1 with
      | stuck => simp only [e2, fin] at f
      | ex cc xs h1 => simp only [e2, fin] at f ⊢; exact fun ρ' H cls d p => f ρ' H cls d (p1.trans p)
      | ok y h2 =>
        simp only [e2] at f
        intro ρ2 H2 v p2 rel2 rv
        refine ⟨ρ2, h2, x, y, rel2, ru.mono p2, rv, ?_⟩
        cases e3 : o1 x y h2 with
        | none => simp only [e3, lift, fin] at f
        | some q =>
          obtain ⟨z, h3⟩ := q
          simp only [e3, lift] at f
          refine ⟨z, h3, rfl, fun ρ3 H3 w p3 rel3 rw' => ?_⟩
          cases z with
          | bl k =>
            cases rw'
            cases k with
            | false => exact ⟨false, rfl, f ρ3 H3 _ ((p1.trans p2).trans p3) rel3 rfl⟩
            | true =>
              refine ⟨true, rfl, ρ3, ss, h3, rel3, ((rs.mono p1).mono p2).mono p3, ?_⟩
              have f' := (f : fin en W (RS en) σ ρ ((mc ss h3).bind fun w h4 => lift (o2 y w h4)) Q)
              cases e4 : mc ss h3 with
              | stuck => simp only [e4, Res.bind, fin] at f'
              | ex cc xs h1 => simp only [e4, Res.bind, fin] at f' ⊢; exact fun ρ' H cls d p => f' ρ' H cls d (((p1.trans p2).trans p3).trans p)
              | ok w' h4 =>
                simp only [e4, Res.bind] at f'
                intro ρ4 H4 uu p4 rel4 ruu
                exact ⟨ρ4, h4, y, w', rel4, (rv.mono p3).mono p4, ruu, ((f'.mono (((p1.trans p2).trans p3).trans p4))).lift⟩
          | _ => exact (f : False).elim
theorem PE.chain {op op' : CmpOp} {o1 o2 : O2} (h1 : OpR X (compareOp op) (rO2 en o1)) (h2 : OpR X (compareOp op') (rO2 en o2)) (ha : PE X a (tE en W ma)) (hb : PE X b (tE en W mb)) (hc : PE X c (tE en W mc))
    (hm : lastMarks [op, op'] [b, c] = false := by with_unfolding_all rfl) : PE X (.Compare a [op, op'] [b, c] pos) (tE en W (mChain o1 o2 ma mb mc)) :=
  PEimp (pe_chain h1 h2 ha hb hc hm) fun σ H Q t => chain_read σ H Q t
theorem PT.chain {op op' : CmpOp} {o1 o2 : O2} (h1 : OpR X (compareOp op) (rO2 en o1)) (h2 : OpR X (compareOp op') (rO2 en o2)) (ha : PE X a (tE en W ma)) (hb : PE X b (tE en W mb)) (hc : PE X c (tE en W mc))
    (hm : lastMarks [op, op'] [b, c] = false := by with_unfolding_all rfl) : PT X (.Compare a [op, op'] [b, c] pos) (tT en W (mB (mChain o1 o2 ma mb mc))) :=
  PTimp (pt_chain h1 h2 ha hb hc hm) fun σ H Q t => chain_read σ H _ (tBool σ H Q t)
theorem PT.cmp {op : CmpOp} {o : O2} (ho : OpR X (compareOp op) (rO2 en o)) (ha : PE X a (tE en W ma)) (hb : PE X b (tE en W mb)) (hm : behindInMarks op b = false) : PT X (.Compare a [op] [b] pos) (tT en W (mB (mO2 o ma mb))) :=
  PTimp (pt_cmpR ho ha hb hm) fun σ H Q t => tO2 σ H _ (tBool σ H Q t)
/-! ### arguments -/
def aNil : AM := fun _ h => .ok [] h
def aCons (ma : EM) (mr : AM) : AM := fun ss h => (ma ss h).bind fun x h1 => (mr ss h1).bind fun xs h2 => .ok (x :: xs) h2
theorem PA.nil : PA X [] (tA en W aNil) := PAimp pa_nil fun σ H Q ⟨ρ, ss, h, rel, rs, f⟩ => f ρ H [] (Pre.refl ρ) rel .nil
theorem PA.cons {es : List Expr} {mr : AM} (ha : PE X a (tE en W ma)) (hr : PA X es (tA en W mr)) (hs : starEach (a :: es) X.env = (false, eval a X.env) :: starEach es X.env := by rfl) : PA X (a :: es) (tA en W (aCons ma mr)) :=
  PAimp (pa_cons ha hr hs) fun σ H Q t => by
    obtain ⟨ρ, ss, h, rel, rs, f⟩ := t
    refine ⟨ρ, ss, h, rel, rs, ?_⟩
    unfold aCons at f
    cases e : ma ss h with
    | stuck => simp only [e, Res.bind, fin] at f
    | ex cc xs h1 => simp only [e, Res.bind, fin] at f; exact f
    | ok x h1 =>
      simp only [e, Res.bind] at f
      intro ρ1 H1 u p1 rel1 ru
      refine ⟨ρ1, ss, h1, rel1, rs.mono p1, ?_⟩
      cases e2 : mr ss h1 with
      | stuck => simp only [e2, fin] at f
      | ex cc xs h1 => simp only [e2, fin] at f ⊢; exact fun ρ' H cls d p => f ρ' H cls d (p1.trans p)
      | ok ys h2 =>
        simp only [e2] at f
        exact fun ρ2 H2 v p2 rel2 rv => f ρ2 H2 _ (p1.trans p2) rel2 (.cons (ru.mono p2) rv)
/-- an operation on an argument list -/
theorem tOA {op : OA} {m : AM} (σ : L2.St) (H : Hp) (Q : VK) (t : tE en W (mOA op m) σ H Q) : tA en W m σ H fun xs H1 => rOA en op xs H1 Q :=
  tM.bind2 (R1 := RSs en) (k := fun as ss h1 => lift (op as h1)) t fun ρ ss h as xs H1 rel rs r f => ⟨ρ, h, as, rel, r, f.lift⟩
theorem PE.callB {x : Str} {id : String} {op : OA} {e : Expr} {es : List Expr} {m : AM} {p : Pos} (hc : CallR X (.builtin id) (rOA en op)) (hg : Gl X x) (hm : X.mg x = none) (hv : bootBuiltins x = some (.builtin id)) (ha : PA X (e :: es) (tA en W m)) (hn : x ≠ "__name__" := by decide) (hdb : (x == ("__debug__" : Str)) = false := by decide)
    (he : starEach (e :: es) X.env = (false, eval e X.env) :: starEach es X.env := by rfl) (hpl : (backTo pos (starEach es X.env)).any (·.1) = false := by rfl) : PE X (.Call (.Name x p) (e :: es) [] pos) (tE en W (mOA op m)) :=
  PEimp (pe_callB hc hg hm hv ha hn hdb he hpl) fun σ H Q t => tOA σ H Q t
theorem PE.callTy {x : Str} {T : String} {op : OA} {e : Expr} {es : List Expr} {m : AM} {p : Pos} (hc : CallR X (.type T) (rOA en op)) (hg : Gl X x) (hm : X.mg x = none) (hv : bootBuiltins x = some (.type T)) (ha : PA X (e :: es) (tA en W m)) (hn : x ≠ "__name__" := by decide) (hdb : (x == ("__debug__" : Str)) = false := by decide)
    (he : starEach (e :: es) X.env = (false, eval e X.env) :: starEach es X.env := by rfl) (hpl : (backTo pos (starEach es X.env)).any (·.1) = false := by rfl) : PE X (.Call (.Name x p) (e :: es) [] pos) (tE en W (mOA op m)) :=
  PEimp (pe_callTy hc hg hm hv ha hn hdb he hpl) fun σ H Q t => tOA σ H Q t
/-- displays -/
def opLst : OA := fun as h => if as.length ≤ big then alloc (.lst as) h else none
def opTup : OA := fun as h => if as.length ≤ big then alloc (.tup as) h else none
theorem PE.lst {es : List Expr} {m : AM} (ha : PA X es (tA en W m)) : PE X (.List es pos) (tE en W (mOA opLst m)) :=
  PEimp (pe_lst ha) fun σ H Q t => tM.imp (tOA σ H Q t) fun xs H1 ⟨ρ, h, as, rel, r, v, h', e, k⟩ => by
    unfold opLst at e
    split at e
    · exact ⟨by rw [big_eq, ← r.len]; assumption, finO.newLst ⟨_, _, e, k⟩ rel r⟩
    · cases e
theorem PE.tup {es : List Expr} {m : AM} {x1 : Nat} (ha : PA X es (tA en W m)) : PE X (.Tuple es x1 pos) (tE en W (mOA opTup m)) :=
  PEimp (pe_tup ha) fun σ H Q t => tM.imp (tOA σ H Q t) fun xs H1 ⟨ρ, h, as, rel, r, v, h', e, k⟩ => by
    unfold opTup at e
    split at e
    · exact ⟨by rw [big_eq, ← r.len]; assumption, finO.newTup ⟨_, _, e, k⟩ rel r⟩
    · cases e
end
end Fw
namespace Fw
open PySem PySem.Spec L2
/-! ### dicts -/
section
variable {κ : Type} [DecidableEq κ]
def getS (kvs : List (κ × SV)) (k : κ) : Option SV := (kvs.find? fun kv => decide (kv.1 = k)).map (·.2)
def putS (kvs : List (κ × SV)) (k : κ) (v : SV) : List (κ × SV) :=
  if (kvs.any fun kv => decide (kv.1 = k)) = true then kvs.map (fun kv => if kv.1 = k then (kv.1, v) else kv) else kvs ++ [(k, v)]
abbrev RK (en : En) (ρ : List Addr) : List (κ × SV) → List (κ × V) → Prop := Paired (fun p q => p.1 = q.1 ∧ RS en ρ p.2 q.2)
theorem RK.get {en : En} {ρ : List Addr} {k : κ} : ∀ {kvs : List (κ × SV)} {kws : List (κ × V)}, RK en ρ kvs kws → (∀ x, getS kvs k = some x → ∃ v, valV kws k = some v ∧ RS en ρ x v) ∧ (getS kvs k = none → valV kws k = none)
  | _, _, .nil => ⟨fun x e => by simp [getS] at e, fun _ => rfl⟩
  | p :: kvs, q :: kws, .cons r t => by
    by_cases h : p.1 = k
    · have h2 : q.1 = k := by rw [← r.1]; exact h
      refine ⟨fun x e => ?_, fun e => ?_⟩
      · simp [getS, List.find?_cons, h] at e
        exact ⟨q.2, valV_pos h2, e ▸ r.2⟩
      · simp [getS, List.find?_cons, h] at e
    · have h2 : ¬ q.1 = k := by rw [← r.1]; exact h
      have e1 : getS (p :: kvs) k = getS kvs k := by simp [getS, List.find?_cons, h]
      rw [e1, valV_neg h2]
      exact RK.get t
theorem RK.any {en : En} {ρ : List Addr} {k : κ} : ∀ {kvs : List (κ × SV)} {kws : List (κ × V)}, RK en ρ kvs kws → (kvs.any fun kv => decide (kv.1 = k)) = (kws.any fun kv => decide (kv.1 = k))
  | _, _, .nil => rfl
  | p :: kvs, q :: kws, .cons r t => by rw [List.any_cons, List.any_cons, r.1, RK.any t]
theorem RK.app {en : En} {ρ : List Addr} {k : κ} {x : SV} {v : V} (h : RS en ρ x v) : ∀ {kvs : List (κ × SV)} {kws : List (κ × V)}, RK en ρ kvs kws → RK en ρ (kvs ++ [(k, x)]) (kws ++ [(k, v)])
  | _, _, .nil => .cons ⟨rfl, h⟩ .nil
  | _, _, .cons r t => .cons r (RK.app h t)
theorem RK.put {en : En} {ρ : List Addr} {k : κ} {x : SV} {v : V} (h : RS en ρ x v) {kvs : List (κ × SV)} {kws : List (κ × V)} (r : RK en ρ kvs kws) : RK en ρ (putS kvs k x) (putK kws k v) := by
  unfold putS putK
  rw [r.any]
  split
  · refine paired_map (fun p q z => ?_) r
    by_cases e : p.1 = k
    · have e2 : q.1 = k := by rw [← z.1]; exact e
      rw [if_pos e, if_pos e2]; exact ⟨z.1, h⟩
    · have e2 : ¬ q.1 = k := by rw [← z.1]; exact e
      rw [if_neg e, if_neg e2]; exact z
  · exact RK.app h r
end
def keyOf : SV → Option Key
  | .int i => some (.inl i)
  | .str x => some (.inr x)
  | _ => none
def keysOf : List SV → Option (List Key)
  | [] => some []
  | x :: xs => match keyOf x with
    | none => none
    | some k => match keysOf xs with
      | none => none
      | some ks => some (k :: ks)
theorem keyOf_rel {en : En} {ρ : List Addr} {a : SV} {v : V} {k : Key} (e : keyOf a = some k) (r : RS en ρ a v) : v = kV k := by
  cases a with
  | int i => cases e; cases r; rfl
  | str x => cases e; cases r; rfl
  | _ => cases e
theorem keysOf_rel {en : En} {ρ : List Addr} : ∀ {xs : List SV} {vs : List V} {ks : List Key}, keysOf xs = some ks → RSs en ρ xs vs → vs = ks.map kV
  | [], _, _, e, r => by cases r; cases e; rfl
  | x :: xs, _, _, e, r => by
    cases r with
    | cons r t =>
      unfold keysOf at e
      split at e
      · cases e
      · rename_i k ek
        split at e
        · cases e
        · rename_i ks eks
          cases e
          rw [List.map_cons, keyOf_rel ek r, keysOf_rel eks t]
/-- what a dict's object holds at a key; none: that can't be asked here -/
def dictGet (h : SH) (o : SO) (k : SV) : Option (Option SV) := match o with
  | .dK kvs => (keyOf k).map fun k => getS kvs k
  | .dT kvs => match k with
    | .ref j => match h[j]? with
      | some (.tup xs) => (keysOf xs).map fun ks => getS kvs ks
      | _ => none
    | _ => none
  | _ => none
section
variable {X : Cx} {en : En} {W : WX} {ρ : List Addr} {h : SH} {H : Hp}
theorem dictGet_rel (rel : Rel en ρ h H) {i : Nat} {o : SO} {a : Addr} {k : SV} {y : V} {r : Option SV} (eo : h[i]? = some o) (ea : ρ[i]? = some a) (e : dictGet h o k = some r) (ry : RS en ρ k y) :
    (∀ x, r = some x → ∃ v, DGet H a y (some v) ∧ RS en ρ x v) ∧ (r = none → DGet H a y none) := by
  unfold dictGet at e
  split at e
  · rename_i kvs
    obtain ⟨kws, e1, rk⟩ := rel.at2 ea eo
    cases ek : keyOf k with
    | none => rw [ek] at e; cases e
    | some kk =>
      rw [ek] at e
      cases e
      obtain rfl := keyOf_rel ek ry
      refine ⟨fun x hx => ?_, fun hn => ?_⟩
      · obtain ⟨v, ev, rv⟩ := (RK.get rk).1 x hx
        exact ⟨v, by rw [← ev]; exact DGet.k e1, rv⟩
      · rw [← (RK.get rk).2 hn]; exact DGet.k e1
  · rename_i kvs
    obtain ⟨kws, e1, rk⟩ := rel.at2 ea eo
    split at e
    · rename_i j
      split at e
      · rename_i xs ej
        cases ek : keysOf xs with
        | none => rw [ek] at e; cases e
        | some ks =>
          rw [ek] at e
          cases e
          obtain ⟨b, vs, rfl, eb, e2, rvs⟩ := rel.tup ej ry
          obtain rfl := keysOf_rel ek rvs
          refine ⟨fun x hx => ?_, fun hn => ?_⟩
          · obtain ⟨v, ev, rv⟩ := (RK.get rk).1 x hx
            exact ⟨v, by rw [← ev]; exact DGet.t e1 e2, rv⟩
          · rw [← (RK.get rk).2 hn]; exact DGet.t e1 e2
      · cases e
    · cases e
  · cases e
/-! ### a[b] -/
def atS {α : Type} (xs : List α) (i : Int) : Option α := atI xs i
theorem RSs.atI {xs : List SV} {vs : List V} (r : RSs en ρ xs vs) {i : Int} {x : SV} (e : L2.atI xs i = some x) : ∃ v, L2.atI vs i = some v ∧ RS en ρ x v := by
  unfold L2.atI at e ⊢
  rw [← r.len]
  cases q : L2.ixN xs.length i with
  | none => rw [q] at e; cases e
  | some j => rw [q] at e; exact r.get e
def opIx : O2 := fun a b h => match a with
  | .scr ns => match b with
    | .int i => match L2.atI ns i with
      | some n => some (.int n, h)
      | none => none
    | _ => none
  | .str z => match b with
    | .int i => if z.length ≤ big then match L2.atI z.cps.toList i with
      | some c => some (.str ⟨#[c]⟩, h)
      | none => none
      else none
    | _ => none
  | .ref i => match h[i]? with
    | some (.lst xs) => match b with
      | .int i => match L2.atI xs i with
        | some x => some (x, h)
        | none => none
      | _ => none
    | some (.tup xs) => match b with
      | .int i => match L2.atI xs i with
        | some x => some (x, h)
        | none => none
      | _ => none
    | some o => match dictGet h o b with
      | some (some x) => some (x, h)
      | _ => none
    | none => none
  | _ => none
theorem atI_map {α β : Type} (f : α → β) (xs : List α) (i : Int) : L2.atI (xs.map f) i = (L2.atI xs i).map f := by
  unfold L2.atI
  rw [List.length_map]
  cases L2.ixN xs.length i with
  | none => rfl
  | some j => simp
theorem subTail {A : Around} {E : Value → Shared → Prop} {s : Shared} {prog : Program} {w : World} {value slice : Expr} {o i : Value} {T id : String} {Q : Value → Shared → Prop} (hT : s.TypeIs o T) (hl : typeLookup (.type T) "__getitem__" = pure (some (.builtin id)))
    (hg : wpAny (model prog w) A (getItem o i) Q E s) (hs : subscripted slice false o i = operate [o, i] (getItem o i)) : wpAny (model prog w) A (PyProof.Rows.subscriptTail value slice o i) Q E s := by
  unfold PyProof.Rows.subscriptTail
  refine wpAny_bind ?_
  rw [getitemInPython_of_ne hT.not_modules]
  refine wpAny_bind (wpAny_specialOf hT hl ?_)
  have z : wpAny (model prog w) A (subscripted slice false o i) (fun r s2 => wpAny (model prog w) A (letTemporaryGo value o r >>= fun _ => pure r) Q E s2) E s := by
    rw [hs]
    exact wpAny_operating (wpAny_mono hg (fun r s2 hq => wpAny_bind (wpAny_letTemporaryGo (wpAny_pure hq))) fun _ _ x => x)
  first
    | exact wpAny_pure (wpAny_bind z)
    | exact wpAny_bind (wpAny_pure (wpAny_bind z))
    | exact wpAny_bind z
theorem ix_dict (hu : X.A.units + 1 < cLine) : IxR X (fun x y H Q => ∃ a v, x = .ref a ∧ DGet H a y (some v) ∧ Q v H) := by
  intro value slice pins s σ H x y v u Q I rx ry ⟨a, w, e, g, q⟩ hs
  subst e
  obtain rfl : v = Value.ref a := rx
  exact subTail (dict_typeIs I g) PySem.F.slot_dict_getitem.lookup (d_getItem hu I g ry fun w' s3 I3 rw' => ⟨w, H, I3, rw', q⟩) hs
theorem IxRimp {r r' : R2} (h : IxR X r) (k : ∀ x y H Q, r' x y H Q → r x y H Q) : IxR X r' := fun value slice pins s σ H x y v u Q I rx ry q hs => h value slice pins s σ H x y v u Q I rx ry (k _ _ _ _ q) hs
theorem ixM (hK : X.K = en.K) (hu : X.A.units + 1 < cLine) : IxR X (rO2 en opIx) := by
  refine IxRimp (ix_list.or (ix_tup.or (ix_str.or (ix_dict hu)))) fun x y H Q ⟨ρ, h, a, b, rel, ra, rb, v, h', e, k⟩ => ?_
  unfold opIx at e
  split at e
  · split at e
    · split at e
      · rename_i en'
        cases rb
        obtain ⟨rfl, rfl⟩ := ra
        refine .inl ⟨_, _, _, _, rfl, rfl, by rw [hK]; exact rel.scr, by rw [atI_map, en']; rfl, finO.here ⟨_, _, e, k⟩ rel rfl⟩
      · cases e
    · cases e
  · split at e
    · split at e
      · rename_i hz
        split at e
        · rename_i ec
          cases ra; cases rb
          exact .inr (.inr (.inl ⟨_, _, _, rfl, rfl, by rw [big_eq]; exact hz, ec, finO.here ⟨_, _, e, k⟩ rel rfl⟩))
        · cases e
      · cases e
    · cases e
  · split at e
    · rename_i xs ei
      split at e
      · split at e
        · rename_i ex
          obtain ⟨p, vs, rfl, ep, e1, r1⟩ := rel.lst ei ra
          cases rb
          obtain ⟨w, ew, rw'⟩ := r1.atI ex
          exact .inl ⟨_, _, _, w, rfl, rfl, SqL.of e1, ew, finO.here ⟨_, _, e, k⟩ rel rw'⟩
        · cases e
      · cases e
    · rename_i xs ei
      split at e
      · split at e
        · rename_i ex
          obtain ⟨p, vs, rfl, ep, e1, r1⟩ := rel.tup ei ra
          cases rb
          obtain ⟨w, ew, rw'⟩ := r1.atI ex
          exact .inr (.inl ⟨_, _, _, w, rfl, rfl, SqT.of e1, ew, finO.here ⟨_, _, e, k⟩ rel rw'⟩)
        · cases e
      · cases e
    · rename_i o _ _ ei
      split at e
      · rename_i ex
        obtain ⟨p, ep, rfl⟩ := ra
        obtain ⟨w, ew, rw'⟩ := (dictGet_rel rel ei ep ex rb).1 _ rfl
        exact .inr (.inr (.inr ⟨p, w, rfl, ew, finO.here ⟨_, _, e, k⟩ rel rw'⟩))
      · cases e
    · cases e
  · cases e
theorem PE.ix {a b : Expr} {ma mb : EM} {pos : Pos} (hK : X.K = en.K) (hu : X.A.units + 1 < cLine) (ha : PE X a (tE en W ma)) (hb : PE X b (tE en W mb)) (hs : PlainIx b) : PE X (.Subscript a b pos) (tE en W (mO2 opIx ma mb)) :=
  PEimp (pe_ix (ixM hK hu) ha hb hs) fun σ H Q t => tO2 σ H Q t
end
end Fw
namespace Fw
open PySem PySem.Spec L2
section
variable {X : Cx} {en : En} {W : WX} {ρ : List Addr} {h : SH} {H : Hp}
/-! ### slices -/
abbrev PM := SS → SH → Res (Option Int)
abbrev RP : List Addr → Option Int → Option Int → Prop := fun _ a b => a = b
def pNone : PM := fun _ h => .ok none h
def pSome (ma : EM) : PM := fun ss h => (ma ss h).bind fun v h1 => match v with
  | .int i => .ok (some i) h1
  | _ => .stuck
abbrev tP (en : En) (W : WX) (m : PM) : TO := tM en W RP m
theorem POimp {e : Option Expr} {t t' : TO} (h : PO X e t) (k : ∀ σ H Q, t' σ H Q → t σ H Q) : PO X e t' := ⟨fun pins s σ H Q I q => h.run pins s σ H Q I (k σ H Q q)⟩
theorem PO.non : PO X none (tP en W pNone) := POimp po_none fun σ H Q ⟨ρ, ss, h, rel, rs, f⟩ => f ρ H none (Pre.refl ρ) rel rfl
theorem PO.som {e : Expr} {ma : EM} (ha : PE X e (tE en W ma)) : PO X (some e) (tP en W (pSome ma)) :=
  POimp (po_some ha) fun σ H Q t => tM.bind2 (R1 := RS en) (R2 := RP) (k := fun v (ss : SS) h1 => match v with | .int i => (Res.ok (some i) h1 : Res (Option Int)) | _ => .stuck) t fun ρ ss h v x H1 rel rs r f => by
    cases v with
    | int i => cases r; exact ⟨i, rfl, f ρ H1 _ (Pre.refl ρ) rel rfl⟩
    | _ => exact f.elim
def cutS {α : Type} (xs : List α) (lo hi : Option Int) : List α := (xs.drop (HT.sIx xs.length 0 lo)).take (HT.sIx xs.length xs.length hi - HT.sIx xs.length 0 lo)
theorem RSs.cut {xs : List SV} {vs : List V} (r : RSs en ρ xs vs) (lo hi : Option Int) : RSs en ρ (cutS xs lo hi) (cutV vs lo hi) := by
  unfold cutS cutV
  rw [r.len]
  exact (r.drop _).take _
def opCut (a : SV) (lo hi : Option Int) (h : SH) : Option (SV × SH) := match a with
  | .ref i => match h[i]? with
    | some (.lst xs) => alloc (.lst (cutS xs lo hi)) h
    | some (.tup xs) => if HT.sIx xs.length 0 lo = 0 ∧ HT.sIx xs.length xs.length hi = xs.length then none else alloc (.tup (cutS xs lo hi)) h
    | _ => none
  | _ => none
def mCut (ma : EM) (pl pu : PM) : EM := fun ss h => (ma ss h).bind fun a h1 => (pl ss h1).bind fun lo h2 => (pu ss h2).bind fun hi h3 => lift (opCut a lo hi h3)
theorem PE.cut {e : Expr} {lo hi : Option Expr} {ma : EM} {pl pu : PM} {p2 pos : Pos} (ha : PE X e (tE en W ma)) (hl : PO X lo (tP en W pl)) (hu : PO X hi (tP en W pu)) : PE X (.Subscript e (.Slice lo hi none p2) pos) (tE en W (mCut ma pl pu)) :=
  PEimp (pe_slice (SlR.or sl_list sl_tup) ha hl hu) fun σ H Q t => by
    obtain ⟨ρ, ss, h, rel, rs, f⟩ := t
    refine ⟨ρ, ss, h, rel, rs, ?_⟩
    unfold mCut at f
    cases e : ma ss h with
    | stuck => simp only [e, Res.bind, fin] at f
    | ex cc xs h1 => simp only [e, Res.bind, fin] at f; exact f
    | ok x h1 =>
      simp only [e, Res.bind] at f
      intro ρ1 H1 u p1 rel1 ru
      refine ⟨ρ1, ss, h1, rel1, rs.mono p1, ?_⟩
      cases e2 : pl ss h1 with
      | stuck => simp only [e2, fin] at f
      | ex cc xs h1 => simp only [e2, fin] at f ⊢; exact fun ρ' H cls d p => f ρ' H cls d (p1.trans p)
      | ok y h2 =>
        simp only [e2] at f
        intro ρ2 H2 v p2 rel2 rv
        refine ⟨ρ2, ss, h2, rel2, (rs.mono p1).mono p2, ?_⟩
        cases e3 : pu ss h2 with
        | stuck => simp only [e3, fin] at f
        | ex cc xs h1 => simp only [e3, fin] at f ⊢; exact fun ρ' H cls d p => f ρ' H cls d ((p1.trans p2).trans p)
        | ok z h3 =>
          simp only [e3] at f
          intro ρ3 H3 w p3 rel3 rw'
          obtain ⟨a', h', e4, k⟩ := (f.mono ((p1.trans p2).trans p3)).lift
          unfold opCut at e4
          cases rv; cases rw'
          split at e4
          · split at e4
            · rename_i ei
              obtain ⟨p, vs, rfl, ep, ee, r1⟩ := rel3.lst ei ((ru.mono p2).mono p3)
              exact .inl ⟨p, vs, rfl, SqL.of ee, finO.newLst ⟨_, _, e4, k⟩ rel3 (r1.cut _ _)⟩
            · rename_i ei
              obtain ⟨p, vs, rfl, ep, ee, r1⟩ := rel3.tup ei ((ru.mono p2).mono p3)
              split at e4
              · cases e4
              · rename_i hw
                exact .inr ⟨p, vs, rfl, SqT.of ee, by rw [← r1.len]; exact hw, finO.newTup ⟨_, _, e4, k⟩ rel3 (r1.cut _ _)⟩
            · cases e4
          · cases e4
/-! ### in, not in -/
def flatS : SV → Bool
  | .non => true
  | .bl _ => true
  | .int _ => true
  | .str _ => true
  | _ => false
def eqS : SV → SV → Bool
  | .non, .non => true
  | .bl a, .bl b => a == b
  | .bl a, .int b => (if a then 1 else 0) == b
  | .int a, .bl b => a == (if b then 1 else 0)
  | .int a, .int b => a == b
  | .str a, .str b => a == b
  | _, _ => false
theorem flatS_rel {a : SV} {v : V} (r : RS en ρ a v) (f : flatS a = true) : flatV v = true := by
  cases a <;> first | (cases r; rfl) | cases f
theorem flatS_all : ∀ {xs : List SV} {vs : List V}, RSs en ρ xs vs → xs.all flatS = true → vs.all flatV = true
  | _, _, .nil, _ => rfl
  | _, _, .cons r t, f => by
    rw [List.all_cons, Bool.and_eq_true] at f ⊢
    exact ⟨flatS_rel r f.1, flatS_all t f.2⟩
theorem eqS_rel {a b : SV} {v u : V} (ra : RS en ρ a v) (rb : RS en ρ b u) (fa : flatS a = true) (fb : flatS b = true) : eqV v u = eqS a b := by
  cases a <;> cases b <;> first | (cases ra; cases rb; rfl) | exact absurd fa Bool.false_ne_true | exact absurd fb Bool.false_ne_true
theorem anyS_rel {x : SV} {v : V} (rx : RS en ρ x v) (fx : flatS x = true) : ∀ {xs : List SV} {vs : List V}, RSs en ρ xs vs → xs.all flatS = true → inV v vs = xs.any fun y => eqS y x
  | _, _, .nil, _ => rfl
  | _, _, .cons r t, f => by
    rw [List.all_cons, Bool.and_eq_true] at f
    have z := anyS_rel rx fx t f.2
    unfold inV at z ⊢
    rw [List.any_cons, List.any_cons, eqS_rel r rx f.1 fx, z]
def opIn (neg : Bool) : O2 := fun a b h => match b with
  | .ref i => match h[i]? with
    | some (.lst xs) => if (flatS a && xs.all flatS) = true then some (.bl (if neg then !(xs.any fun y => eqS y a) else (xs.any fun y => eqS y a)), h) else none
    | some (.tup xs) => if (flatS a && xs.all flatS) = true then some (.bl (if neg then !(xs.any fun y => eqS y a) else (xs.any fun y => eqS y a)), h) else none
    | some o => match dictGet h o a with
      | some r => some (.bl (if neg then !r.isSome else r.isSome), h)
      | none => none
    | none => none
  | _ => none
theorem op_in_dict (hu : X.A.units + 1 < cLine) : OpR X (compareOp .In) (fun y x H Q => ∃ a o, x = .ref a ∧ DGet H a y o ∧ Q (.bl o.isSome) H) := by
  intro pins s σ H y x u v Q I ry rx ⟨a, o, e, g, q⟩
  subst e
  obtain rfl : v = Value.ref a := rx
  exact d_in hu I g ry fun s3 I3 => ⟨.bl o.isSome, H, I3, rfl, q⟩
theorem op_notin_dict (hu : X.A.units + 1 < cLine) : OpR X (compareOp .NotIn) (fun y x H Q => ∃ a o, x = .ref a ∧ DGet H a y o ∧ Q (.bl (!o.isSome)) H) := by
  intro pins s σ H y x u v Q I ry rx ⟨a, o, e, g, q⟩
  subst e
  obtain rfl : v = Value.ref a := rx
  exact d_notIn hu I g ry fun s3 I3 => ⟨.bl (!o.isSome), H, I3, rfl, q⟩
theorem inCore {neg : Bool} {x y : V} {a b : SV} {Q : VK} (rel : Rel en ρ h H) (ra : RS en ρ a x) (rb : RS en ρ b y) (f : finO en ρ (opIn neg a b h) Q) :
    (∃ p xs, y = .ref p ∧ (SqL X.K H p xs ∨ SqT X.K H p xs) ∧ flatV x = true ∧ xs.all flatV = true ∧ Q (.bl (if neg then !inV x xs else inV x xs)) H) ∨ (∃ a o, y = .ref a ∧ DGet H a x o ∧ Q (.bl (if neg then !o.isSome else o.isSome)) H) := by
  obtain ⟨v, h', e, k⟩ := f
  unfold opIn at e
  split at e
  · split at e
    · rename_i ei
      split at e
      · rename_i hf
        obtain ⟨p, vs, rfl, ep, e1, r1⟩ := rel.lst ei rb
        have z := Bool.and_eq_true_iff.mp hf
        refine .inl ⟨p, vs, rfl, .inl (SqL.of e1), flatS_rel ra z.1, flatS_all r1 z.2, ?_⟩
        rw [anyS_rel ra z.1 r1 z.2]
        exact finO.here ⟨_, _, e, k⟩ rel rfl
      · cases e
    · rename_i ei
      split at e
      · rename_i hf
        obtain ⟨p, vs, rfl, ep, e1, r1⟩ := rel.tup ei rb
        have z := Bool.and_eq_true_iff.mp hf
        refine .inl ⟨p, vs, rfl, .inr (SqT.of e1), flatS_rel ra z.1, flatS_all r1 z.2, ?_⟩
        rw [anyS_rel ra z.1 r1 z.2]
        exact finO.here ⟨_, _, e, k⟩ rel rfl
      · cases e
    · rename_i o _ _ ei
      split at e
      · rename_i r er
        obtain ⟨p, ep, rfl⟩ := rb
        obtain ⟨g1, g2⟩ := dictGet_rel rel ei ep er ra
        cases r with
        | none => exact .inr ⟨p, none, rfl, g2 rfl, finO.here ⟨_, _, e, k⟩ rel rfl⟩
        | some w =>
          obtain ⟨u, ug, _⟩ := g1 w rfl
          exact .inr ⟨p, some u, rfl, ug, finO.here ⟨_, _, e, k⟩ rel rfl⟩
      · cases e
    · cases e
  · cases e
theorem op_inM (hu : X.A.units + 1 < cLine) : OpR X (compareOp .In) (rO2 en (opIn false)) := by
  refine OpRimp (op_in_seq.or (op_in_dict hu)) fun x y H Q ⟨ρ, h, a, b, rel, ra, rb, f⟩ => ?_
  exact (inCore (X := X) rel ra rb f).imp (fun z => by simpa [rIn] using z) fun z => by simpa using z
theorem op_notInM (hu : X.A.units + 1 < cLine) : OpR X (compareOp .NotIn) (rO2 en (opIn true)) := by
  refine OpRimp (op_notIn_seq.or (op_notin_dict hu)) fun x y H Q ⟨ρ, h, a, b, rel, ra, rb, f⟩ => ?_
  exact (inCore (X := X) rel ra rb f).imp (fun z => by simpa [rIn] using z) fun z => by simpa using z
/-! ### len, int, bool, max, min, abs, list, tuple -/
def opLen : O1 := fun a h => match a with
  | .scr ns => some (.int ns.length, h)
  | .str z => if z.length ≤ big then some (.int z.length, h) else none
  | .ref i => match h[i]? with
    | some (.lst xs) => some (.int xs.length, h)
    | some (.tup xs) => some (.int xs.length, h)
    | some (.dK kvs) => some (.int kvs.length, h)
    | _ => none
  | _ => none
theorem CallRor {f : Value} {r r' : List V → Hp → VK → Prop} (h : CallR X f r) (h' : CallR X f r') : CallR X f (fun xs H Q => r xs H Q ∨ r' xs H Q) := fun pins s σ H xs us Q I r2 q => q.elim (h pins s σ H xs us Q I r2) (h' pins s σ H xs us Q I r2)
theorem RSs.one {a : SV} {xs : List V} (r : RSs en ρ [a] xs) : ∃ x, xs = [x] ∧ RS en ρ a x := by
  cases r with
  | cons r t => cases t; exact ⟨_, rfl, r⟩
theorem RSs.two {a b : SV} {xs : List V} (r : RSs en ρ [a, b] xs) : ∃ x y, xs = [x, y] ∧ RS en ρ a x ∧ RS en ρ b y := by
  cases r with
  | cons r t =>
    obtain ⟨y, rfl, ry⟩ := RSs.one t
    exact ⟨_, _, rfl, r, ry⟩
theorem un1_of {o : O1} {xs : List V} {H : Hp} {Q : VK} (q : rOA en (un1 o) xs H Q) : ∃ ρ h a x, xs = [x] ∧ Rel en ρ h H ∧ RS en ρ a x ∧ finO en ρ (o a h) Q := by
  obtain ⟨ρ, h, as, rel, r, v, h', e, k⟩ := q
  unfold un1 at e
  split at e
  · obtain ⟨x, rfl, rx⟩ := RSs.one r
    exact ⟨ρ, h, _, x, rfl, rel, rx, v, h', e, k⟩
  · cases e
theorem bin2_of {o : O2} {xs : List V} {H : Hp} {Q : VK} (q : rOA en (bin2 o) xs H Q) : ∃ ρ h a b x y, xs = [x, y] ∧ Rel en ρ h H ∧ RS en ρ a x ∧ RS en ρ b y ∧ finO en ρ (o a b h) Q := by
  obtain ⟨ρ, h, as, rel, r, v, h', e, k⟩ := q
  unfold bin2 at e
  split at e
  · obtain ⟨x, y, rfl, rx, ry⟩ := RSs.two r
    exact ⟨ρ, h, _, _, x, y, rfl, rel, rx, ry, v, h', e, k⟩
  · cases e
theorem call_lenM (hK : X.K = en.K) : CallR X (.builtin "len") (rOA en (un1 opLen)) := by
  refine CallRimp (CallRor call_len_seq (CallRor call_len_str call_lenD)) fun xs H Q q => ?_
  obtain ⟨ρ, h, a, x, rfl, rel, ra, v, h', e, k⟩ := un1_of q
  unfold opLen at e
  split at e
  · obtain ⟨rfl, rfl⟩ := ra
    refine .inl ⟨_, _, rfl, .inl (by rw [hK]; exact rel.scr), ?_⟩
    rw [List.length_map]
    exact finO.here ⟨_, _, e, k⟩ rel rfl
  · split at e
    · cases ra
      exact .inr (.inl ⟨_, rfl, by rw [big_eq]; assumption, finO.here ⟨_, _, e, k⟩ rel rfl⟩)
    · cases e
  · split at e
    · rename_i ei
      obtain ⟨p, vs, rfl, ep, e1, r1⟩ := rel.lst ei ra
      refine .inl ⟨_, _, rfl, .inl (SqL.of e1), ?_⟩
      rw [← r1.len]
      exact finO.here ⟨_, _, e, k⟩ rel rfl
    · rename_i ei
      obtain ⟨p, vs, rfl, ep, e1, r1⟩ := rel.tup ei ra
      refine .inl ⟨_, _, rfl, .inr (SqT.of e1), ?_⟩
      rw [← r1.len]
      exact finO.here ⟨_, _, e, k⟩ rel rfl
    · rename_i kvs ei
      obtain ⟨p, ep, rfl⟩ := ra
      obtain ⟨kws, e1, r1⟩ := rel.at2 ep ei
      refine .inr (.inr ⟨p, kws, rfl, e1, ?_⟩)
      rw [← Paired.length r1]
      exact finO.here ⟨_, _, e, k⟩ rel rfl
    · cases e
  · cases e
def opInt : O1 := fun a h => match a with
  | .int i => some (.int i, h)
  | .bl b => some (.int (if b then 1 else 0), h)
  | _ => none
theorem call_intM : CallR X (.type "int") (rOA en (un1 opInt)) := by
  refine CallRimp call_int1 fun xs H Q q => ?_
  obtain ⟨ρ, h, a, x, rfl, rel, ra, v, h', e, k⟩ := un1_of q
  unfold opInt at e
  split at e
  · cases ra; exact .inl ⟨_, rfl, finO.here ⟨_, _, e, k⟩ rel rfl⟩
  · cases ra; exact .inr ⟨_, rfl, finO.here ⟨_, _, e, k⟩ rel rfl⟩
  · cases e
def opMax : O2 := fun a b h => match a, b with
  | .int i, .int j => some (.int (if j > i then j else i), h)
  | _, _ => none
def opMin : O2 := fun a b h => match a, b with
  | .int i, .int j => some (.int (if j < i then j else i), h)
  | _, _ => none
def opAbs : O1 := fun a h => match a with
  | .int i => some (.int (if i < 0 then -i else i), h)
  | _ => none
theorem call_maxM (hc : X.calm = true) : CallR X (.builtin "max") (rOA en (bin2 opMax)) := by
  refine CallRimp (call_max2 hc) fun xs H Q q => ?_
  obtain ⟨ρ, h, a, b, x, y, rfl, rel, ra, rb, v, h', e, k⟩ := bin2_of q
  unfold opMax at e
  split at e
  · cases ra; cases rb; exact ⟨_, _, rfl, finO.here ⟨_, _, e, k⟩ rel rfl⟩
  · cases e
theorem call_minM (hc : X.calm = true) : CallR X (.builtin "min") (rOA en (bin2 opMin)) := by
  refine CallRimp (call_min2 hc) fun xs H Q q => ?_
  obtain ⟨ρ, h, a, b, x, y, rfl, rel, ra, rb, v, h', e, k⟩ := bin2_of q
  unfold opMin at e
  split at e
  · cases ra; cases rb; exact ⟨_, _, rfl, finO.here ⟨_, _, e, k⟩ rel rfl⟩
  · cases e
theorem call_absM : CallR X (.builtin "abs") (rOA en (un1 opAbs)) := by
  refine CallRimp call_abs fun xs H Q q => ?_
  obtain ⟨ρ, h, a, x, rfl, rel, ra, v, h', e, k⟩ := un1_of q
  unfold opAbs at e
  split at e
  · cases ra; exact ⟨_, rfl, finO.here ⟨_, _, e, k⟩ rel rfl⟩
  · cases e
def opList : O1 := fun a h => match a with
  | .ref i => match h[i]? with
    | some (.lst xs) => alloc (.lst xs) h
    | some (.tup xs) => alloc (.lst xs) h
    | _ => none
  | _ => none
theorem call_listM : CallR X (.type "list") (rOA en (un1 opList)) := by
  refine CallRimp call_list_of fun xs H Q q => ?_
  obtain ⟨ρ, h, a, x, rfl, rel, ra, v, h', e, k⟩ := un1_of q
  unfold opList at e
  split at e
  · split at e
    · rename_i ei
      obtain ⟨p, vs, rfl, ep, e1, r1⟩ := rel.lst ei ra
      exact ⟨_, _, rfl, .inl (SqL.of e1), finO.newLst ⟨_, _, e, k⟩ rel r1⟩
    · rename_i ei
      obtain ⟨p, vs, rfl, ep, e1, r1⟩ := rel.tup ei ra
      exact ⟨_, _, rfl, .inr (SqT.of e1), finO.newLst ⟨_, _, e, k⟩ rel r1⟩
    · cases e
  · cases e
def opTuple : O1 := fun a h => match a with
  | .ref i => match h[i]? with
    | some (.lst xs) => alloc (.tup xs) h
    | some (.tup xs) => some (a, h)
    | _ => none
  | _ => none
theorem call_tupleM : CallR X (.type "tuple") (rOA en (un1 opTuple)) := by
  refine CallRimp call_tuple_of fun xs H Q q => ?_
  obtain ⟨ρ, h, a, x, rfl, rel, ra, v, h', e, k⟩ := un1_of q
  unfold opTuple at e
  split at e
  · split at e
    · rename_i ei
      obtain ⟨p, vs, rfl, ep, e1, r1⟩ := rel.lst ei ra
      exact ⟨_, _, rfl, .inl ⟨SqL.of e1, finO.newTup ⟨_, _, e, k⟩ rel r1⟩⟩
    · rename_i ei
      obtain ⟨p, vs, rfl, ep, e1, r1⟩ := rel.tup ei ra
      exact ⟨_, _, rfl, .inr ⟨SqT.of e1, finO.here ⟨_, _, e, k⟩ rel ⟨p, ep, rfl⟩⟩⟩
    · cases e
  · cases e
end
end Fw
namespace Fw
open PySem PySem.Spec L2
def finS (en : En) (W : WX) (ρ : List Addr) (r : SR) (D : Ends) : Prop := match r with
  | .stuck => False
  | .nx ss h => ∀ ρ' σ H, Pre ρ ρ' → Rel en ρ' h H → RSl en ρ' ss σ → D.nx σ H
  | .rt v h => ∀ ρ' H u, Pre ρ ρ' → Rel en ρ' h H → RS en ρ' v u → D.rt u H
  | .bk ss h => ∀ ρ' σ H, Pre ρ ρ' → Rel en ρ' h H → RSl en ρ' ss σ → D.bk σ H
  | .ct ss h => ∀ ρ' σ H, Pre ρ ρ' → Rel en ρ' h H → RSl en ρ' ss σ → D.ct σ H
  | .ex c xs ss h => ∀ ρ' σ H cls d, Pre ρ ρ' → Rel en ρ' h H → RSl en ρ' ss σ → RX en ρ' H c xs cls d → W cls d σ H
def tS (en : En) (W : WX) (m : SM) : TS := fun D σ H => ∃ ρ ss h, Rel en ρ h H ∧ RSl en ρ ss σ ∧ finS en W ρ (m ss h) D
theorem finS.mono {en : En} {W : WX} {ρ ρ' : List Addr} {r : SR} {D : Ends} (p : Pre ρ ρ') (f : finS en W ρ r D) : finS en W ρ' r D := by
  cases r with
  | stuck => exact f
  | nx ss h => exact fun ρ2 σ H p2 => f ρ2 σ H (p.trans p2)
  | rt v h => exact fun ρ2 σ H p2 => f ρ2 σ H (p.trans p2)
  | bk ss h => exact fun ρ2 σ H p2 => f ρ2 σ H (p.trans p2)
  | ct ss h => exact fun ρ2 σ H p2 => f ρ2 σ H (p.trans p2)
  | ex c xs ss h => exact fun ρ2 σ H cls d p2 => f ρ2 σ H cls d (p.trans p2)
/-- an expression's run goes on as a statement's -/
def thenS {α : Type} (r : Res α) (ss : SS) (k : α → SH → SR) : SR := match r with
  | .stuck => .stuck
  | .ok a h => k a h
  | .ex c xs h => .ex c xs ss h
section
variable {X : Cx} {en : En} {W : WX} {pos : Pos}
theorem tS.bind {α β : Type} {R1 : List Addr → α → β → Prop} {m1 : SS → SH → Res α} {k : SS → α → SH → SR} {D : Ends} {σ : L2.St} {H : Hp} {Q' : β → Hp → Prop}
    (t : tS en W (fun ss h => thenS (m1 ss h) ss (k ss)) D σ H)
    (f : ∀ ρ ss h a b H1, Rel en ρ h H1 → RSl en ρ ss σ → R1 ρ a b → finS en W ρ (k ss a h) D → Q' b H1) : tM en W R1 m1 σ H Q' := by
  obtain ⟨ρ, ss, h, rel, rs, q⟩ := t
  refine ⟨ρ, ss, h, rel, rs, ?_⟩
  cases e : m1 ss h with
  | stuck => simp only [e, thenS, finS] at q
  | ok a h1 =>
    simp only [e, thenS] at q
    exact fun ρ' H' b p rel' rb => f ρ' ss h1 a b H' rel' (rs.mono p) rb (q.mono p)
  | ex c xs h1 =>
    simp only [e, thenS, finS] at q
    exact fun ρ' H' cls d p rel' rx => q ρ' σ H' cls d p rel' (rs.mono p) rx
/-! ### one after the other, if, return, an expression -/
def mNil : SM := fun ss h => .nx ss h
def mSeq (m1 m2 : SM) : SM := fun ss h => match m1 ss h with
  | .nx ss h => m2 ss h
  | r => r
def mIfS (t : BM) (m1 m2 : SM) : SM := fun ss h => thenS (t ss h) ss fun b h1 => if b = true then m1 ss h1 else m2 ss h1
def mRet (m : EM) : SM := fun ss h => thenS (m ss h) ss fun v h1 => .rt v h1
def mRetN : SM := fun _ h => .rt .non h
def mDrop (m : EM) : SM := fun ss h => thenS (m ss h) ss fun _ h1 => .nx ss h1
def mBrk : SM := fun ss h => .bk ss h
def mCnt : SM := fun ss h => .ct ss h
theorem PSs.nil : PSs X [] (tS en W mNil) := PSsimp pss_nil fun D σ H ⟨ρ, ss, h, rel, rs, f⟩ => f ρ σ H (Pre.refl ρ) rel rs
theorem tS.seq {m1 m2 : SM} (D : Ends) (σ : L2.St) (H : Hp) (t : tS en W (mSeq m1 m2) D σ H) : tSeq (tS en W m1) (tS en W m2) D σ H := by
  obtain ⟨ρ, ss, h, rel, rs, f⟩ := t
  refine ⟨ρ, ss, h, rel, rs, ?_⟩
  unfold mSeq at f
  cases e : m1 ss h with
  | nx ss' h' => simp only [e] at f; exact fun ρ' σ' H' p rel' rs' => ⟨ρ', ss', h', rel', rs', f.mono p⟩
  | stuck => simp only [e] at f; exact f
  | rt v h => simp only [e] at f; exact f
  | bk v h => simp only [e] at f; exact f
  | ct v h => simp only [e] at f; exact f
  | ex c xs v h => simp only [e] at f; exact f
theorem PSs.cons {st : Stmt} {rest : List Stmt} {m1 m2 : SM} (h1 : PS X st (tS en W m1)) (h2 : PSs X rest (tS en W m2)) : PSs X (st :: rest) (tS en W (mSeq m1 m2)) := PSsimp (pss_cons h1 h2) tS.seq
theorem PSs.one {st : Stmt} {m1 : SM} (h1 : PS X st (tS en W m1)) : PSs X [st] (tS en W m1) := pss_one h1
theorem PS.pass : PS X (.Pass pos) (tS en W mNil) := PSimp ps_pass fun D σ H ⟨ρ, ss, h, rel, rs, f⟩ => f ρ σ H (Pre.refl ρ) rel rs
theorem PS.doc {x : Str} {j : Nat} {pos' : Pos} : PS X (.Expr (.Constant (.str x) j pos) pos') (tS en W mNil) := PSimp ps_doc fun D σ H ⟨ρ, ss, h, rel, rs, f⟩ => f ρ σ H (Pre.refl ρ) rel rs
theorem PS.brk : PS X (.Break pos) (tS en W mBrk) := PSimp ps_break fun D σ H ⟨ρ, ss, h, rel, rs, f⟩ => f ρ σ H (Pre.refl ρ) rel rs
theorem PS.cnt : PS X (.Continue pos) (tS en W mCnt) := PSimp ps_continue fun D σ H ⟨ρ, ss, h, rel, rs, f⟩ => f ρ σ H (Pre.refl ρ) rel rs
theorem PS.retN : PS X (.Return none pos) (tS en W mRetN) := PSimp ps_retN fun D σ H ⟨ρ, ss, h, rel, rs, f⟩ => f ρ H .non (Pre.refl ρ) rel rfl
theorem PS.ret {e : Expr} {m : EM} (he : PE X e (tE en W m)) : PS X (.Return (some e) pos) (tS en W (mRet m)) :=
  PSimp (ps_ret he) fun D σ H t => tS.bind (R1 := RS en) (k := fun _ v h1 => .rt v h1) t fun ρ ss h a b H1 rel rs r f => f ρ H1 b (Pre.refl ρ) rel r
theorem PS.expr {e : Expr} {m : EM} (he : PE X e (tE en W m)) (hs : swapsWith e none pos.line X.env = pure false := by rfl) : PS X (.Expr e pos) (tS en W (mDrop m)) :=
  PSimp (ps_expr he hs) fun D σ H t => tS.bind (R1 := RS en) (k := fun ss _ h1 => .nx ss h1) t fun ρ ss h a b H1 rel rs r f => f ρ σ H1 (Pre.refl ρ) rel rs
theorem PS.if {c : Expr} {a b : List Stmt} {t : BM} {m1 m2 : SM} (hc : PT X c (tT en W t)) (ha : PSs X a (tS en W m1)) (hb : PSs X b (tS en W m2)) : PS X (.If c a b pos) (tS en W (mIfS t m1 m2)) :=
  PSimp (ps_if hc ha hb) fun D σ H q => tS.bind (R1 := RB) (k := fun ss b h1 => if b = true then m1 ss h1 else m2 ss h1) q fun ρ ss h a b H1 rel rs r f => by
    cases r
    cases a with
    | true => exact ⟨ρ, ss, h, rel, rs, f⟩
    | false => exact ⟨ρ, ss, h, rel, rs, f⟩
/-! ### truth of any value -/
def opTru (v : SV) (h : SH) : Res Bool := match v with
  | .non => .ok false h
  | .bl b => .ok b h
  | .int i => .ok (i != 0) h
  | .str y => if y.length ≤ big then .ok ((y.length : Int) != 0) h else .stuck
  | .scr ns => .ok (!ns.isEmpty) h
  | .ref i => match h[i]? with
    | some (.lst xs) => .ok (!xs.isEmpty) h
    | some (.tup xs) => .ok (!xs.isEmpty) h
    | some (.dK kvs) => .ok (!kvs.isEmpty) h
    | _ => .stuck
def mTru (m : EM) : BM := fun ss h => (m ss h).bind fun v h1 => opTru v h1
theorem Paired.isEmpty {α β : Type} {R : α → β → Prop} : ∀ {xs : List α} {ys : List β}, Paired R xs ys → xs.isEmpty = ys.isEmpty
  | _, _, .nil => rfl
  | _, _, .cons _ _ => rfl
theorem PT.tru {e : Expr} {m : EM} (hK : X.K = en.K) (he : PE X e (tE en W m)) (hi : ∀ whole, isTrue e X.env whole = (do let v ← whole; standAt e.pos; holding [v] (truthy v)) := by intro _; rfl) : PT X e (tT en W (mTru m)) :=
  PTimp (pt_truth he hi) fun σ H Q t => tM.bind2 (R1 := RS en) (R2 := RB) (k := fun v (ss : SS) h1 => opTru v h1) t fun ρ ss h v x H1 rel rs r f => by
    have go : ∀ k : Bool, opTru v h = .ok k h → TruV X.K x H1 k → ∃ k, TruV X.K x H1 k ∧ Q k H1 := fun k e z => by
      rw [e] at f
      exact ⟨k, z, f ρ H1 k (Pre.refl ρ) rel rfl⟩
    have nostuck : opTru v h ≠ .stuck := fun e => by rw [e] at f; exact f
    cases v with
    | non => cases r; exact go _ rfl rfl
    | bl b => cases r; exact go _ rfl rfl
    | int i => cases r; exact go _ rfl rfl
    | str y =>
      cases r
      by_cases hl : y.length ≤ big
      · exact go ((y.length : Int) != 0) (by simp only [opTru, if_pos hl]) ⟨by rw [big_eq]; exact hl, rfl⟩
      · exact (nostuck (by simp only [opTru, if_neg hl])).elim
    | scr ns =>
      obtain ⟨rfl, rfl⟩ := r
      refine go (!en.ns.isEmpty) rfl (.inl ⟨_, by rw [hK]; exact rel.scr, by cases en.ns <;> rfl⟩)
    | ref i =>
      cases ei : h[i]? with
      | none => exact (nostuck (by simp only [opTru, ei])).elim
      | some o =>
        cases o with
        | lst xs =>
          obtain ⟨p, vs, rfl, ep, e1, r1⟩ := rel.lst ei r
          exact go (!xs.isEmpty) (by simp only [opTru, ei]) (.inl ⟨vs, SqL.of e1, by rw [Paired.isEmpty r1]⟩)
        | tup xs =>
          obtain ⟨p, vs, rfl, ep, e1, r1⟩ := rel.tup ei r
          exact go (!xs.isEmpty) (by simp only [opTru, ei]) (.inr (.inl ⟨vs, SqT.of e1, by rw [Paired.isEmpty r1]⟩))
        | dK kvs =>
          obtain ⟨p, ep, rfl⟩ := r
          obtain ⟨kws, e1, r1⟩ := rel.at2 ep ei
          exact go (!kvs.isEmpty) (by simp only [opTru, ei]) (.inr (.inr ⟨kws, e1, by rw [Paired.isEmpty r1]⟩))
        | _ => exact (nostuck (by simp only [opTru, ei])).elim
/-! ### targets -/
abbrev GM := SV → SS → SH → Option SS
abbrev GMs := List SV → SS → SH → Option SS
/-- two slots' lists that differ at the places is alone -/
structure SameOut (is : List Nat) (σ σ' : L2.St) : Prop where
  len : σ'.length = σ.length
  out : ∀ j, j ∉ is → σ'[j]? = σ[j]?
theorem SameOut.refl (is : List Nat) (σ : L2.St) : SameOut is σ σ := ⟨rfl, fun _ _ => rfl⟩
theorem SameOut.set {is : List Nat} {σ : L2.St} {i : Nat} {v : Option V} : SameOut (i :: is) σ (σ.set i v) := ⟨by simp, fun j h => by
  have : i ≠ j := fun e => h (by rw [e]; exact List.mem_cons_self)
  rw [List.getElem?_set_ne this]⟩
theorem SameOut.trans {is js : List Nat} {a b c : L2.St} (h : SameOut is a b) (k : SameOut js b c) : SameOut (is ++ js) a c := ⟨k.len.trans h.len, fun j m => (k.out j fun z => m (List.mem_append_right _ z)).trans (h.out j fun z => m (List.mem_append_left _ z))⟩
def tG (en : En) (is : List Nat) (g : GM) : TG := fun v σ H Q => ∃ ρ ss h x ss', Rel en ρ h H ∧ RSl en ρ ss σ ∧ RS en ρ x v ∧ g x ss h = some ss' ∧ ∀ σ', RSl en ρ ss' σ' → SameOut is σ σ' → Q σ' H
def tGs (en : En) (is : List Nat) (g : GMs) : TGs := fun vs σ H Q => ∃ ρ ss h xs ss', Rel en ρ h H ∧ RSl en ρ ss σ ∧ RSs en ρ xs vs ∧ g xs ss h = some ss' ∧ ∀ σ', RSl en ρ ss' σ' → SameOut is σ σ' → Q σ' H
theorem PGimp {e : Expr} {t t' : TG} (h : PG X e t) (k : ∀ v σ H Q, t' v σ H Q → t v σ H Q) : PG X e t' := ⟨fun pins s σ H v u Q I r q => h.run pins s σ H v u Q I r (k v σ H Q q)⟩
theorem PGsimp {e : List Expr} {t t' : TGs} (h : PGs X e t) (k : ∀ v σ H Q, t' v σ H Q → t v σ H Q) : PGs X e t' := ⟨fun pins s σ H v u Q I r q => h.run pins s σ H v u Q I r (k v σ H Q q)⟩
theorem PGor {e : Expr} {t t' : TG} (h : PG X e t) (h' : PG X e t') : PG X e (fun v σ H Q => t v σ H Q ∨ t' v σ H Q) := ⟨fun pins s σ H v u Q I r q => q.elim (h.run pins s σ H v u Q I r) (h'.run pins s σ H v u Q I r)⟩
def gVar (i : Nat) : GM := fun v ss _ => some (ss.set i (some v))
def gsNil : GMs := fun vs ss _ => match vs with
  | [] => some ss
  | _ => none
def gsCons (g : GM) (gs : GMs) : GMs := fun vs ss h => match vs with
  | v :: r => match g v ss h with
    | some ss' => gs r ss' h
    | none => none
  | [] => none
def gTupM (n : Nat) (g : GMs) : GM := fun v ss h => match v with
  | .ref i => match h[i]? with
    | some (.tup xs) => if xs.length = n then g xs ss h else none
    | some (.lst xs) => if xs.length = n then g xs ss h else none
    | _ => none
  | _ => none
theorem PG.var {i : Nat} {x : Str} (hN : X.N.Nodup) (hi : X.N[i]? = some x) (hx : Loc X.env.scope x) (hf : X.fn x = true ∨ X.env.scope.names.lookup x = some .local := by first | exact .inl rfl | exact .inr rfl | assumption) : PG X (.Name x pos) (tG en [i] (gVar i)) :=
  PGimp (pg_name hN hi hx hf) fun v σ H Q ⟨ρ, ss, h, x, ss', rel, rs, r, e, f⟩ => by
    cases e
    exact f _ (rs.set r i) SameOut.set
theorem PGs.nil : PGs X [] (tGs en [] gsNil) := PGsimp pgs_nil fun vs σ H Q ⟨ρ, ss, h, xs, ss', rel, rs, r, e, f⟩ => by
  cases r with
  | nil => cases e; exact ⟨rfl, f _ rs (SameOut.refl _ _)⟩
  | cons _ _ => cases e
theorem PGs.cons {e : Expr} {es : List Expr} {g : GM} {gs : GMs} {is js : List Nat} (h1 : PG X e (tG en is g)) (h2 : PGs X es (tGs en js gs))
    (hs : (assignEach (e :: es) X.env).map (·.2) = assign e X.env :: (assignEach es X.env).map (·.2) := by rfl) : PGs X (e :: es) (tGs en (is ++ js) (gsCons g gs)) :=
  PGsimp (pgs_cons h1 h2 hs) fun vs σ H Q ⟨ρ, ss, h, xs, ss', rel, rs, r, e, f⟩ => by
    cases r with
    | nil => cases e
    | cons r t =>
      unfold gsCons at e
      split at e
      · rename_i ez
        cases ez
        split at e
        · rename_i ss1 e1
          exact ⟨_, _, rfl, ρ, ss, h, _, ss1, rel, rs, r, e1, fun σ' rs' o => ⟨ρ, ss1, h, _, ss', rel, rs', t, e, fun σ2 rs2 o2 => f σ2 rs2 (o.trans o2)⟩⟩
        · cases e
      · cases e
theorem PG.tup {es : List Expr} {k n : Nat} {g : GMs} {is : List Nat} (hc : X.calm = true) (h : PGs X es (tGs en is g)) (hn : (assignEach es X.env).length = n := by rfl) (hst : (assignEach es X.env).findIdx? (·.1) = none := by rfl) : PG X (.Tuple es k pos) (tG en is (gTupM n g)) :=
  PGimp (PGor (pg_tup hc h hn hst) (pg_unl hc h hn hst)) fun v σ H Q ⟨ρ, ss, h, x, ss', rel, rs, r, e, f⟩ => by
    unfold gTupM at e
    split at e
    · split at e
      · rename_i ei
        split at e
        · obtain ⟨p, vs, rfl, ep, e1, r1⟩ := rel.tup ei r
          exact .inl ⟨p, vs, rfl, SqT.of e1, by rw [← r1.len]; assumption, ρ, ss, h, _, ss', rel, rs, r1, e, f⟩
        · cases e
      · rename_i ei
        split at e
        · obtain ⟨p, vs, rfl, ep, e1, r1⟩ := rel.lst ei r
          exact .inr ⟨p, vs, rfl, SqL.of e1, by rw [← r1.len]; assumption, ρ, ss, h, _, ss', rel, rs, r1, e, f⟩
        · cases e
      · cases e
    · cases e
/-! ### assignments -/
def mSet (i : Nat) (m : EM) : SM := fun ss h => thenS (m ss h) ss fun v h1 => .nx (ss.set i (some v)) h1
def mAsg (g : GM) (m : EM) : SM := fun ss h => thenS (m ss h) ss fun v h1 => match g v ss h1 with
  | some ss' => .nx ss' h1
  | none => .stuck
theorem PS.set {i : Nat} {x : Str} {e : Expr} {m : EM} {pos' : Pos} (hN : X.N.Nodup) (hi : X.N[i]? = some x) (hx : Loc X.env.scope x) (he : PE X e (tE en W m)) (hs : swapsWith e (some (.Name x pos')) pos.line X.env = pure false := by rfl)
    (hf : X.fn x = true ∨ X.env.scope.names.lookup x = some .local := by first | exact .inl rfl | exact .inr rfl | assumption) : PS X (.Assign [.Name x pos'] e pos) (tS en W (mSet i m)) :=
  PSimp (ps_set hN hi hx he hs hf) fun D σ H t => tS.bind (R1 := RS en) (k := fun ss v h1 => .nx (ss.set i (some v)) h1) t fun ρ ss h a b H1 rel rs r f => f ρ _ H1 (Pre.refl ρ) rel (rs.set r i)
theorem PS.asg {tg e : Expr} {g : GM} {m : EM} {is : List Nat} (he : PE X e (tE en W m)) (hg : PG X tg (tG en is g)) (hs : swapsWithSole [tg] e pos.line X.env = pure false := by rfl) (hw : swappedStores [tg] e X.env = pure none := by rfl)
    (h1 : (assignEach [tg] X.env).map (·.2) = [assign tg X.env] := by rfl) : PS X (.Assign [tg] e pos) (tS en W (mAsg g m)) :=
  PSimp (ps_asg he hg hs hw h1) fun D σ H t => tS.bind (R1 := RS en) (k := fun ss v h1 => match g v ss h1 with | some ss' => .nx ss' h1 | none => .stuck) t fun ρ ss h a b H1 rel rs r f => by
    cases e : g a ss h with
    | none => simp only [e, finS] at f
    | some ss' =>
      simp only [e] at f
      exact ⟨ρ, ss, h, a, ss', rel, rs, r, e, fun σ' rs' _ => f ρ σ' H1 (Pre.refl ρ) rel rs'⟩
def mPar (i j : Nat) (m : AM) : SM := fun ss h => thenS (m ss h) ss fun vs h1 => match vs with
  | [v, w] => .nx ((ss.set i (some v)).set j (some w)) h1
  | _ => .stuck
theorem PS.par {i j : Nat} {x y : Str} {a b : Expr} {m : AM} {px py pt pos : Pos} {kt k2 : Nat} {pt2 : Pos} (hc : X.calm = true) (hN : X.N.Nodup) (hi : X.N[i]? = some x) (hj : X.N[j]? = some y) (hij : i ≠ j)
    (hx : X.env.scope.names.lookup x = some .local) (hy : X.env.scope.names.lookup y = some .local) (ha : PA X [a, b] (tA en W m))
    (hw : swappedStores [.Tuple [.Name x px, .Name y py] kt pt] (.Tuple [a, b] k2 pt2) X.env = pure (some [x, y]))
    (hs : swapsWithSole [.Tuple [.Name x px, .Name y py] kt pt] (.Tuple [a, b] k2 pt2) pos.line X.env = pure false := by rfl) :
    PS X (.Assign [.Tuple [.Name x px, .Name y py] kt pt] (.Tuple [a, b] k2 pt2) pos) (tS en W (mPar i j m)) :=
  PSimp (ps_par hc hN hi hj hij hx hy ha hw hs) fun D σ H t => tS.bind (R1 := RSs en) (k := fun ss vs h1 => match vs with | [v, w] => .nx ((ss.set i (some v)).set j (some w)) h1 | _ => .stuck) t fun ρ ss h as bs H1 rel rs r f => by
    split at f
    · obtain ⟨x, y, rfl, rx, ry⟩ := RSs.two r
      exact ⟨x, y, rfl, f ρ _ H1 (Pre.refl ρ) rel ((rs.set rx i).set ry j)⟩
    · exact f.elim
/-- x += e, x -= e -/
def mAug (i : Nat) (o : O2) (m : EM) : SM := fun ss h => match ss[i]? with
  | some (some x) => thenS (m ss h) ss fun v h1 => thenS (lift (o x v h1)) ss fun w h2 => .nx (ss.set i (some w)) h2
  | _ => .stuck
end
end Fw
namespace Fw
open PySem PySem.Spec L2
section
variable {X : Cx} {en : En} {W : WX} {pos : Pos}
def opAddI : O2 := fun a b h => match a, b with
  | .int i, .int j => some (.int (i + j), h)
  | .str x, .str y => if x.length + y.length ≤ big then some (.str (x ++ y), h) else none
  | _, _ => none
theorem ip_addM : PIp X .Add (rO2 en opAddI) := by
  intro pins s σ H x y v u Q I rx ry ⟨ρ, h, a, b, rel, ra, rb, w, h', e, k⟩
  unfold opAddI at e
  split at e
  · cases ra; cases rb
    exact iop_add pins s σ H _ _ v u Q I rx ry ⟨_, _, rfl, rfl, finO.here ⟨_, _, e, k⟩ rel rfl⟩
  · cases ra; cases rb
    split at e
    · exact iop_add_str pins s σ H _ _ v u Q I rx ry ⟨_, _, rfl, rfl, by rw [big_eq]; assumption, finO.here ⟨_, _, e, k⟩ rel rfl⟩
    · cases e
  · cases e
theorem ip_subM : PIp X .Sub (rO2 en opSub) := by
  intro pins s σ H x y v u Q I rx ry ⟨ρ, h, a, b, rel, ra, rb, w, h', e, k⟩
  unfold opSub at e
  split at e
  · cases ra; cases rb
    exact iop_sub pins s σ H _ _ v u Q I rx ry ⟨_, _, rfl, rfl, finO.here ⟨_, _, e, k⟩ rel rfl⟩
  · cases e
theorem PS.aug {i : Nat} {x : Str} {e : Expr} {m : EM} {op : Operator} {o : O2} {pos' : Pos} (hN : X.N.Nodup) (hi : X.N[i]? = some x) (hx : Loc X.env.scope x) (he : PE X e (tE en W m)) (ho : PIp X op (rO2 en o))
    (hf : X.fn x = true ∨ X.env.scope.names.lookup x = some .local := by first | exact .inl rfl | exact .inr rfl | assumption) : PS X (.AugAssign (.Name x pos') op e pos) (tS en W (mAug i o m)) :=
  PSimp (ps_aug hN hi hx he ho hf) fun D σ H ⟨ρ, ss, h, rel, rs, f⟩ => by
    unfold mAug at f
    split at f
    · rename_i x ex
      obtain ⟨u, eu, ru⟩ := rs.at_ i x ex
      refine ⟨u, eu, ρ, ss, h, rel, rs, ?_⟩
      cases e1 : m ss h with
      | stuck => simp only [e1, thenS, finS] at f
      | ex c xs h1 => simp only [e1, thenS, finS] at f; exact fun ρ' H' cls d p rel' rx => f ρ' σ H' cls d p rel' (rs.mono p) rx
      | ok v h1 =>
        simp only [e1, thenS] at f
        intro ρ1 H1 w p1 rel1 rw1
        refine ⟨ρ1, h1, x, v, rel1, ru.mono p1, rw1, ?_⟩
        cases e2 : o x v h1 with
        | none => simp only [e2, lift, finS] at f
        | some q =>
          obtain ⟨z, h2⟩ := q
          simp only [e2, lift] at f
          exact ⟨z, h2, rfl, fun ρ2 H2 b p2 rel2 rb => f ρ2 _ H2 (p1.trans p2) rel2 (((rs.mono p1).mono p2).set rb i)⟩
    · exact f.elim
/-! ### o[i] = e, o.f = e -/
def opSt (o i v : SV) (h : SH) : Option SH := match o with
  | .ref a => match h[a]? with
    | some (.lst xs) => match i with
      | .int k => match L2.ixN xs.length k with
        | some j => some (h.set a (.lst (xs.set j v)))
        | none => none
      | _ => none
    | some (.dK kvs) => match keyOf i with
      | some k => if kvs.length < big then some (h.set a (.dK (putS kvs k v))) else none
      | none => none
    | some (.dT kvs) => match i with
      | .ref b => match h[b]? with
        | some (.tup xs) => match keysOf xs with
          | some ks => if kvs.length < big then some (h.set a (.dT (putS kvs ks v))) else none
          | none => none
        | _ => none
      | _ => none
    | _ => none
  | _ => none
def mSt (me mo mi : EM) : SM := fun ss h => thenS (me ss h) ss fun v h1 => thenS (mo ss h1) ss fun o h2 => thenS (mi ss h2) ss fun i h3 => match opSt o i v h3 with
  | some h4 => .nx ss h4
  | none => .stuck
def rSt (en : En) : TSet := fun o i v H Q => ∃ ρ h a b c h', Rel en ρ h H ∧ RS en ρ a o ∧ RS en ρ b i ∧ RS en ρ c v ∧ opSt a b c h = some h' ∧ ∀ H', Rel en ρ h' H' → Q H'
theorem PSetOr {t t' : TSet} (h : PSet X t) (h' : PSet X t') : PSet X (fun o i v H Q => t o i v H Q ∨ t' o i v H Q) := fun pins s σ H o i v ov iv u Q I ro ri rv q => q.elim (h pins s σ H o i v ov iv u Q I ro ri rv) (h' pins s σ H o i v ov iv u Q I ro ri rv)
theorem set_dict (hu : X.A.units + 1 < cLine) : PSet X (fun o i v H Q => ∃ a H', o = .ref a ∧ DPut H a i v H' ∧ Q H') := by
  intro pins s σ H o i v ov iv u Q I ro ri rv ⟨a, H', e, g, q⟩
  subst e
  obtain rfl : ov = Value.ref a := ro
  exact d_setItem hu I g ri rv fun s4 I4 => ⟨H', I4, q⟩
theorem setM (hu : X.A.units + 1 < cLine) : PSet X (rSt en) := by
  have base := PSetOr (X := X) set_list (set_dict hu)
  intro pins s σ H o i v ov iv u Q I ro ri rv ⟨ρ, h, a, b, c, h', rel, ra, rb, rc, e, k⟩
  refine base pins s σ H o i v ov iv u Q I ro ri rv ?_
  unfold opSt at e
  split at e
  · split at e
    · rename_i ei
      split at e
      · split at e
        · rename_i ej
          cases e
          obtain ⟨p, vs, rfl, ep, e1, r1⟩ := rel.lst ei ra
          cases rb
          refine .inl ⟨p, vs, _, _, rfl, rfl, e1, by rw [← r1.len]; exact ej, k _ (rel.put ep ⟨_, upd_same, r1.set rc _⟩)⟩
        · cases e
      · cases e
    · rename_i ei
      split at e
      · rename_i kk ek
        split at e
        · rename_i hl
          cases e
          obtain ⟨p, ep, rfl⟩ := ra
          obtain ⟨kws, e1, r1⟩ := rel.at2 ep ei
          obtain rfl := keyOf_rel ek rb
          exact .inr ⟨p, _, rfl, DPut.k e1 (by rw [big_eq, ← Paired.length r1]; exact hl), k _ (rel.put ep ⟨_, upd_same, RK.put rc r1⟩)⟩
        · cases e
      · cases e
    · rename_i ei
      split at e
      · split at e
        · rename_i ej
          split at e
          · rename_i ks ek
            split at e
            · rename_i hl
              cases e
              obtain ⟨p, ep, rfl⟩ := ra
              obtain ⟨kws, e1, r1⟩ := rel.at2 ep ei
              obtain ⟨q, ws, rfl, eq, e2, r2⟩ := rel.tup ej rb
              obtain rfl := keysOf_rel ek r2
              exact .inr ⟨p, _, rfl, DPut.t e1 e2 (by rw [big_eq, ← Paired.length r1]; exact hl), k _ (rel.put ep ⟨_, upd_same, RK.put rc r1⟩)⟩
            · cases e
          · cases e
        · cases e
      · cases e
    · cases e
  · cases e
theorem PS.st {o i e : Expr} {me mo mi : EM} {pos' : Pos} (hu : X.A.units + 1 < cLine) (he : PE X e (tE en W me)) (ho : PE X o (tE en W mo)) (hi : PE X i (tE en W mi)) (hs : swapsWithSole [.Subscript o i pos'] e pos.line X.env = pure false := by rfl) (hw : swappedStores [.Subscript o i pos'] e X.env = pure none := by rfl)
    (h1 : (assignEach [.Subscript o i pos'] X.env).map (·.2) = [assign (.Subscript o i pos') X.env] := by rfl)
    (ha : ∀ v, assign (.Subscript o i pos') X.env v = (do
      let ov ← holding [v] (eval o X.env)
      let iv ← holding [v, ov] (eval i X.env)
      standAt pos'
      holding [v, ov, iv] (setItem ov iv v)
      release [v, ov, iv] []) := by intro _; rfl) : PS X (.Assign [.Subscript o i pos'] e pos) (tS en W (mSt me mo mi)) :=
  PSimp (ps_asg he (pg_sub ho hi (setM hu) ha) hs hw h1) fun D σ H t => tS.bind (R1 := RS en) (k := fun ss v h1 => thenS (mo ss h1) ss fun o h2 => thenS (mi ss h2) ss fun i h3 => match opSt o i v h3 with | some h4 => .nx ss h4 | none => .stuck) t fun ρ ss h v x H1 rel rs rv f => by
    refine ⟨ρ, ss, h, rel, rs, ?_⟩
    cases e1 : mo ss h with
    | stuck => simp only [e1, thenS, finS] at f
    | ex c xs h1 => simp only [e1, thenS, finS] at f; exact fun ρ' H' cls d p rel' rx => f ρ' σ H' cls d p rel' (rs.mono p) rx
    | ok o h1 =>
      simp only [e1, thenS] at f
      intro ρ1 H2 y p1 rel1 ro
      refine ⟨ρ1, ss, h1, rel1, rs.mono p1, ?_⟩
      cases e2 : mi ss h1 with
      | stuck => simp only [e2, thenS, finS] at f
      | ex c xs h1 => simp only [e2, thenS, finS] at f; exact fun ρ' H' cls d p rel' rx => f ρ' σ H' cls d (p1.trans p) rel' ((rs.mono p1).mono p) rx
      | ok i h2 =>
        simp only [e2, thenS] at f
        intro ρ2 H3 z p2 rel2 ri
        cases e3 : opSt o i v h2 with
        | none => simp only [e3, finS] at f
        | some h4 =>
          simp only [e3] at f
          exact ⟨ρ2, h2, o, i, v, h4, rel2, ro.mono p2, ri, (rv.mono p1).mono p2, e3, fun H' rel' => f ρ2 σ H' (p1.trans p2) rel' ((rs.mono p1).mono p2)⟩
end
end Fw
namespace Fw
open PySem PySem.Spec L2
/-- what the written part says of the class with the number c: its place, its fields' names in order -/
structure ClsF (en : En) (c : Nat) (C : Addr) (ns : List Str) : Prop where
  at_ : en.cl[c]? = some (C, ns)
  cls : L2.Cls en.K C
  no : ∀ f ∈ ns, NoAttr en.K C f
  nd : ns.Nodup
  few : ns.length ≤ 900
/-- the place of the field f by the class's number: right for the classes that it names -/
def FldOk (en : En) (f : Str) (ix : List (Option Nat)) : Prop := ∀ (c k : Nat), ix[c]? = some (some k) → ∃ C ns, ClsF en c C ns ∧ ns[k]? = some f
theorem zip_lookup {f : Str} : ∀ {ns : List Str} {vs : List V} {k : Nat} {v : V}, ns.Nodup → ns[k]? = some f → vs[k]? = some v → (ns.zip vs).lookup f = some v
  | [], _, _, _, _, h, _ => by simp at h
  | _ :: _, [], _, _, _, _, h => by simp at h
  | n :: ns, w :: vs, 0, v, nd, h1, h2 => by
    simp at h1 h2; subst h1; subst h2
    simp [List.lookup]
  | n :: ns, w :: vs, k + 1, v, nd, h1, h2 => by
    have h1' : ns[k]? = some f := by simpa using h1
    have hn : n ≠ f := fun e => (List.nodup_cons.mp nd).1 (by rw [e]; exact List.mem_of_getElem? h1')
    have hb : (f == n) = false := by simpa using fun e : f = n => hn e.symm
    rw [List.zip_cons_cons, List.lookup_cons, hb]
    exact zip_lookup (List.nodup_cons.mp nd).2 h1' (by simpa using h2)
theorem zip_put {f : Str} {y : V} : ∀ {ns : List Str} {vs : List V} {k : Nat}, ns.Nodup → ns[k]? = some f → k < vs.length → putF f y (ns.zip vs) = ns.zip (vs.set k y)
  | [], _, _, _, h, _ => by simp at h
  | _ :: _, [], _, _, _, h => by simp at h
  | n :: ns, w :: vs, 0, nd, h1, h2 => by
    simp at h1; subst h1
    simp [putF]
  | n :: ns, w :: vs, k + 1, nd, h1, h2 => by
    have h1' : ns[k]? = some f := by simpa using h1
    have hn : n ≠ f := fun e => (List.nodup_cons.mp nd).1 (by rw [e]; exact List.mem_of_getElem? h1')
    rw [List.zip_cons_cons, List.set_cons_succ, List.zip_cons_cons]
    unfold putF
    rw [if_neg hn, zip_put (List.nodup_cons.mp nd).2 h1' (by simpa using h2)]
theorem zip_new {f : Str} {y : V} : ∀ {ns : List Str} {vs : List V}, ns.Nodup → ns[vs.length]? = some f → putF f y (ns.zip vs) = ns.zip (vs ++ [y])
  | [], _, _, h => by simp at h
  | n :: ns, [], nd, h1 => by
    simp at h1; subst h1
    simp [putF]
  | n :: ns, w :: vs, nd, h1 => by
    have h1' : ns[vs.length]? = some f := by simpa using h1
    have hn : n ≠ f := fun e => (List.nodup_cons.mp nd).1 (by rw [e]; exact List.mem_of_getElem? h1')
    rw [List.zip_cons_cons, List.cons_append, List.zip_cons_cons]
    unfold putF
    rw [if_neg hn, zip_new (List.nodup_cons.mp nd).2 h1']
section
variable {X : Cx} {en : En} {W : WX} {pos : Pos}
def opFld (ix : List (Option Nat)) : O1 := fun a h => match a with
  | .ref i => match h[i]? with
    | some (.ins c vs) => match ix[c]? with
      | some (some k) => match vs[k]? with
        | some v => some (v, h)
        | none => none
      | _ => none
    | _ => none
  | _ => none
theorem PE.fld {e : Expr} {f : Str} {m : EM} {ix : List (Option Nat)} (hK : X.K = en.K) (hf : FldOk en f ix) (he : PE X e (tE en W m)) (hb : attributeBase e f X.env (eval e X.env) = eval e X.env := by rfl) : PE X (.Attribute e f pos) (tE en W (mO1 (opFld ix) m)) :=
  PEimp (pe_fld he hb) fun σ H Q t => tM.bind2 (R1 := RS en) (R2 := RS en) (k := fun a (ss : SS) h => lift (opFld ix a h)) t fun ρ ss h a x H1 rel rs ra fn => by
    obtain ⟨v, h', e, k⟩ := fn.lift
    unfold opFld at e
    split at e
    · split at e
      · rename_i ei
        split at e
        · rename_i kk ek
          split at e
          · rename_i ev
            obtain ⟨C, ns, F, en'⟩ := hf _ _ ek
            obtain ⟨p, ep, rfl⟩ := ra
            obtain ⟨C', ns', dx, ws, e1, e2, l, r⟩ := rel.at2 ep ei
            rw [F.at_] at e1; cases e1
            obtain ⟨w, ew, rw'⟩ := r.get ev
            exact ⟨p, C, dx, _, w, rfl, e2, by rw [hK]; exact F.cls, by rw [hK]; exact F.no _ (List.mem_of_getElem? en'), zip_lookup F.nd en' ew, finO.here ⟨_, _, e, k⟩ rel rw'⟩
          · cases e
        · cases e
      · cases e
    · cases e
def opFst (ix : List (Option Nat)) (o v : SV) (h : SH) : Option SH := match o with
  | .ref i => match h[i]? with
    | some (.ins c vs) => match ix[c]? with
      | some (some k) => if k < vs.length then some (h.set i (.ins c (vs.set k v))) else if k = vs.length then some (h.set i (.ins c (vs ++ [v]))) else none
      | _ => none
    | _ => none
  | _ => none
def mFst (ix : List (Option Nat)) (me mo : EM) : SM := fun ss h => thenS (me ss h) ss fun v h1 => thenS (mo ss h1) ss fun o h2 => match opFst ix o v h2 with
  | some h3 => .nx ss h3
  | none => .stuck
theorem PS.fst {o e : Expr} {f : Str} {me mo : EM} {ix : List (Option Nat)} {pos' : Pos} (hK : X.K = en.K) (hf : FldOk en f ix) (ho : PE X o (tE en W mo)) (he : PE X e (tE en W me)) (hs : swapsWith e (some (.Attribute o f pos')) pos.line X.env = pure false := by rfl) :
    PS X (.Assign [.Attribute o f pos'] e pos) (tS en W (mFst ix me mo)) :=
  PSimp (ps_fld ho he hs) fun D σ H t => tS.bind (R1 := RS en) (k := fun ss v h1 => thenS (mo ss h1) ss fun o h2 => match opFst ix o v h2 with | some h3 => .nx ss h3 | none => .stuck) t fun ρ ss h v x H1 rel rs rv fn => by
    refine ⟨ρ, ss, h, rel, rs, ?_⟩
    cases e1 : mo ss h with
    | stuck => simp only [e1, thenS, finS] at fn
    | ex c xs h1 => simp only [e1, thenS, finS] at fn; exact fun ρ' H' cls d p rel' rx => fn ρ' σ H' cls d p rel' (rs.mono p) rx
    | ok o h1 =>
      simp only [e1, thenS] at fn
      intro ρ1 H2 y p1 rel1 ro
      cases e2 : opFst ix o v h1 with
      | none => simp only [e2, finS] at fn
      | some h3 =>
        simp only [e2] at fn
        unfold opFst at e2
        split at e2
        · split at e2
          · rename_i ei
            split at e2
            · rename_i kk ek
              obtain ⟨C, ns, F, en'⟩ := hf _ _ ek
              obtain ⟨p, ep, rfl⟩ := ro
              obtain ⟨C', ns', dx, ws, e1', e2', l, r⟩ := rel1.at2 ep ei
              rw [F.at_] at e1'; cases e1'
              have few : (ns.zip ws).length < 1000 := by
                have := F.few
                rw [List.length_zip]; omega
              refine ⟨p, C, dx, _, rfl, e2', by rw [hK]; exact F.cls, by rw [hK]; exact F.no _ (List.mem_of_getElem? en'), few, ?_⟩
              split at e2
              · rename_i hk
                cases e2
                rw [zip_put F.nd en' (by rw [← r.len]; exact hk)]
                exact fn ρ1 σ _ p1 (rel1.put ep ⟨C, ns, dx, _, F.at_, upd_same, by simpa using l, RSs.set (rv.mono p1) _ r⟩) (rs.mono p1)
              · split at e2
                · rename_i hk
                  cases e2
                  have hl : kk = ws.length := by rw [← r.len]; exact hk
                  rw [zip_new F.nd (by rw [← hl]; exact en')]
                  have hlt : kk < ns.length := (List.getElem?_eq_some_iff.mp en').1
                  exact fn ρ1 σ _ p1 (rel1.put ep ⟨C, ns, dx, _, F.at_, upd_same, by rw [List.length_append, List.length_singleton]; omega, RSs.app r (.cons (rv.mono p1) .nil)⟩) (rs.mono p1)
                · cases e2
            · cases e2
          · cases e2
        · cases e2
end
end Fw
namespace Fw
open PySem PySem.Spec L2
/-- what a loop walks: at turn i an item, or the end -/
abbrev Wk := SH → Nat → Option (Option (SV × SH))
abbrev IM := SS → SH → Res Wk
def ItOk (en : En) (ρ : List Addr) (J : It) (wk : Wk) : Prop := ∀ ρ2 h2 H2 i, Pre ρ ρ2 → Rel en ρ2 h2 H2 →
  (wk h2 i = some none → J.stop i H2) ∧ ∀ x h3, wk h2 i = some (some (x, h3)) → J.go i H2 ∧ ∀ v H3, J.yld i H2 v H3 → ∃ ρ3, Pre ρ2 ρ3 ∧ Rel en ρ3 h3 H3 ∧ RS en ρ3 x v
def tI (en : En) (W : WX) (m : IM) : TI := fun σ H R => ∃ ρ ss h, Rel en ρ h H ∧ RSl en ρ ss σ ∧ match m ss h with
  | .stuck => False
  | .ok wk h1 => ∀ ρ' H' J, Pre ρ ρ' → Rel en ρ' h1 H' → ItOk en ρ' J wk → R J H'
  | .ex c xs h1 => ∀ ρ' H' cls d, Pre ρ ρ' → Rel en ρ' h1 H' → RX en ρ' H' c xs cls d → W cls d σ H'
theorem PIimp {X : Cx} {tg e : Expr} {t t' : TI} (h : PI X tg e t) (k : ∀ σ H R, t' σ H R → t σ H R) : PI X tg e t' := ⟨fun pins s σ H R I q => h.run pins s σ H R I (k σ H R q)⟩
theorem PIor {X : Cx} {tg e : Expr} {t t' : TI} (h : PI X tg e t) (h' : PI X tg e t') : PI X tg e (fun σ H R => t σ H R ∨ t' σ H R) := ⟨fun pins s σ H R I q => q.elim (h.run pins s σ H R I) (h'.run pins s σ H R I)⟩
/-- the walk of a list, of a tuple, as it stands at each turn -/
def wkL (r : Nat) : Wk := fun h i => match h[r]? with
  | some (.lst xs) => match xs[i]? with
    | some x => some (some (x, h))
    | none => some none
  | _ => none
def wkT (r : Nat) : Wk := fun h i => match h[r]? with
  | some (.tup xs) => match xs[i]? with
    | some x => some (some (x, h))
    | none => some none
  | _ => none
def wkScr (ns : List Int) : Wk := fun h i => match ns[i]? with
  | some n => some (some (.int n, h))
  | none => some none
def wkStr (z : Str) : Wk := fun h i => match z.cps[i]? with
  | some c => some (some (.str ⟨#[c]⟩, h))
  | none => some none
def wkRng (lo : Int) (n : Nat) : Wk := fun h i => if i < n then some (some (.int (lo + i), h)) else some none
/-- the walk of enumerate over a list -/
def wkEnum (r : Nat) : Wk := fun h i => match h[r]? with
  | some (.lst xs) => match xs[i]? with
    | some x => some (some (.ref h.length, h ++ [.tup [.int (i : Nat), x]]))
    | none => some none
  | _ => none
def mWalk (m : EM) : IM := fun ss h => (m ss h).bind fun v h1 => match v with
  | .scr ns => .ok (wkScr ns) h1
  | .str z => .ok (wkStr z) h1
  | .ref r => match h1[r]? with
    | some (.lst _) => .ok (wkL r) h1
    | some (.tup _) => .ok (wkT r) h1
    | _ => .stuck
  | _ => .stuck
def mEnum (m : AM) : IM := fun ss h => (m ss h).bind fun vs h1 => match vs with
  | [.ref r] => match h1[r]? with
    | some (.lst _) => .ok (wkEnum r) h1
    | _ => .stuck
  | _ => .stuck
def rngB (i : Int) : Bool := decide (-4611686018427387904 ≤ i ∧ i < 4611686018427387904)
def mRng1 (m : AM) : IM := fun ss h => (m ss h).bind fun vs h1 => match vs with
  | [.int j] => if rngB j = true then .ok (wkRng 0 j.toNat) h1 else .stuck
  | _ => .stuck
def mRng2 (m : AM) : IM := fun ss h => (m ss h).bind fun vs h1 => match vs with
  | [.int i, .int j] => if (rngB i && rngB j) = true then .ok (wkRng i (j - i).toNat) h1 else .stuck
  | _ => .stuck
section
variable {X : Cx} {en : En} {W : WX} {pos : Pos}
theorem rngB_of {i : Int} (h : rngB i = true) : -(2 ^ 62) ≤ i ∧ i < 2 ^ 62 := by
  have e : (2 : Int) ^ 62 = 4611686018427387904 := by decide
  rw [e]
  exact of_decide_eq_true h
theorem itL {ρ : List Addr} {r : Nat} {p : Addr} (K : PySem.W.Frag) (ep : ρ[r]? = some p) : ItOk en ρ (Itl K p) (wkL r) := fun ρ2 h2 H2 i pr rel => by
  have ep2 := pr.get ep
  unfold wkL
  refine ⟨fun e => ?_, fun x h3 e => ?_⟩
  · split at e
    · rename_i ei
      obtain ⟨p', vs, e0, ep', e1, r1⟩ := rel.lst ei ⟨p, ep2, rfl⟩
      cases e0
      split at e
      · cases e
      · rename_i en'
        exact ⟨vs, SqL.of e1, by rw [← r1.len]; exact List.getElem?_eq_none_iff.mp en'⟩
    · cases e
  · split at e
    · rename_i ei
      obtain ⟨p', vs, e0, ep', e1, r1⟩ := rel.lst ei ⟨p, ep2, rfl⟩
      cases e0
      split at e
      · rename_i ex
        cases e
        obtain ⟨w, ew, rw'⟩ := r1.get ex
        refine ⟨⟨vs, w, SqL.of e1, ew⟩, fun v H3 ⟨eh, q⟩ => ?_⟩
        have z := q vs (SqL.of e1)
        rw [ew] at z; cases z; subst eh
        exact ⟨ρ2, Pre.refl ρ2, rel, rw'⟩
      · cases e
    · cases e
theorem itT {ρ : List Addr} {r : Nat} {p : Addr} (K : PySem.W.Frag) (ep : ρ[r]? = some p) : ItOk en ρ (Itt K p) (wkT r) := fun ρ2 h2 H2 i pr rel => by
  have ep2 := pr.get ep
  unfold wkT
  refine ⟨fun e => ?_, fun x h3 e => ?_⟩
  · split at e
    · rename_i ei
      obtain ⟨p', vs, e0, ep', e1, r1⟩ := rel.tup ei ⟨p, ep2, rfl⟩
      cases e0
      split at e
      · cases e
      · rename_i en'
        exact ⟨vs, SqT.of e1, by rw [← r1.len]; exact List.getElem?_eq_none_iff.mp en'⟩
    · cases e
  · split at e
    · rename_i ei
      obtain ⟨p', vs, e0, ep', e1, r1⟩ := rel.tup ei ⟨p, ep2, rfl⟩
      cases e0
      split at e
      · rename_i ex
        cases e
        obtain ⟨w, ew, rw'⟩ := r1.get ex
        refine ⟨⟨vs, w, SqT.of e1, ew⟩, fun v H3 ⟨eh, q⟩ => ?_⟩
        have z := q vs (SqT.of e1)
        rw [ew] at z; cases z; subst eh
        exact ⟨ρ2, Pre.refl ρ2, rel, rw'⟩
      · cases e
    · cases e
theorem itScr {ρ : List Addr} : ItOk en ρ (Itl en.K en.a0) (wkScr en.ns) := fun ρ2 h2 H2 i pr rel => by
  unfold wkScr
  have s := rel.scr
  have m : (en.ns.map V.int)[i]? = (en.ns[i]?).map V.int := List.getElem?_map
  refine ⟨fun e => ?_, fun x h3 e => ?_⟩
  · split at e
    · cases e
    · rename_i en'
      exact ⟨_, s, by rw [List.length_map]; exact List.getElem?_eq_none_iff.mp en'⟩
  · split at e
    · rename_i ex
      cases e
      rw [ex] at m
      refine ⟨⟨_, _, s, m⟩, fun v H3 ⟨eh, q⟩ => ?_⟩
      have z := q _ s
      rw [m] at z; cases z; subst eh
      exact ⟨ρ2, Pre.refl ρ2, rel, rfl⟩
    · cases e
theorem itStr {ρ : List Addr} (z : Str) : ItOk en ρ (Its z) (wkStr z) := fun ρ2 h2 H2 i pr rel => by
  unfold wkStr
  refine ⟨fun e => ?_, fun x h3 e => ?_⟩
  · split at e
    · cases e
    · rename_i en'
      exact Array.getElem?_eq_none_iff.mp en'
  · split at e
    · rename_i ex
      cases e
      refine ⟨(Array.getElem?_eq_some_iff.mp ex).1, fun v H3 ⟨eh, c, ec, q⟩ => ?_⟩
      rw [ex] at ec; cases ec; subst eh; subst q
      exact ⟨ρ2, Pre.refl ρ2, rel, rfl⟩
    · cases e
theorem itRng {ρ : List Addr} (lo : Int) (n : Nat) : ItOk en ρ (Itr lo n) (wkRng lo n) := fun ρ2 h2 H2 i pr rel => by
  unfold wkRng
  refine ⟨fun e => ?_, fun x h3 e => ?_⟩
  · split at e
    · cases e
    · exact Nat.le_of_not_lt (by assumption)
  · split at e
    · cases e
      refine ⟨by assumption, fun v H3 ⟨eh, q⟩ => ?_⟩
      subst eh; subst q
      exact ⟨ρ2, Pre.refl ρ2, rel, rfl⟩
    · cases e
theorem itEnum {ρ : List Addr} {r : Nat} {p : Addr} (K : PySem.W.Frag) (ep : ρ[r]? = some p) : ItOk en ρ (Ite K p) (wkEnum r) := fun ρ2 h2 H2 i pr rel => by
  have ep2 := pr.get ep
  unfold wkEnum
  refine ⟨fun e => ?_, fun x h3 e => ?_⟩
  · split at e
    · rename_i ei
      obtain ⟨p', vs, e0, ep', e1, r1⟩ := rel.lst ei ⟨p, ep2, rfl⟩
      cases e0
      split at e
      · cases e
      · rename_i en'
        exact ⟨vs, SqL.of e1, by rw [← r1.len]; exact List.getElem?_eq_none_iff.mp en'⟩
    · cases e
  · split at e
    · rename_i ei
      obtain ⟨p', vs, e0, ep', e1, r1⟩ := rel.lst ei ⟨p, ep2, rfl⟩
      cases e0
      split at e
      · rename_i ex
        cases e
        obtain ⟨w, ew, rw'⟩ := r1.get ex
        refine ⟨⟨vs, w, SqL.of e1, ew⟩, fun v H3 ⟨T, x, ev, nT, eh, q⟩ => ?_⟩
        have z := q vs (SqL.of e1)
        rw [ew] at z; cases z; subst eh; subst ev
        exact ⟨ρ2 ++ [T], Pre.one ρ2 T, rel.push nT ⟨_, upd_same, .cons rfl (.cons (rw'.mono (Pre.one ρ2 T)) .nil)⟩, ⟨T, by rw [← rel.len, List.getElem?_append_right (Nat.le_refl _)]; simp, rfl⟩⟩
      · cases e
    · cases e
theorem tI.bind {α β : Type} {R1 : List Addr → α → β → Prop} {m1 : SS → SH → Res α} {k : α → SH → Res Wk} {σ : L2.St} {H : Hp} {R : It → Hp → Prop} {Q' : β → Hp → Prop} (t : tI en W (fun ss h => (m1 ss h).bind k) σ H R)
    (f : ∀ ρ h a b H1, Rel en ρ h H1 → R1 ρ a b → (match k a h with | .stuck => False | .ok wk h1 => ∀ ρ' H' J, Pre ρ ρ' → Rel en ρ' h1 H' → ItOk en ρ' J wk → R J H' | .ex c xs h1 => ∀ ρ' H' cls d, Pre ρ ρ' → Rel en ρ' h1 H' → RX en ρ' H' c xs cls d → W cls d σ H') → Q' b H1) : tM en W R1 m1 σ H Q' := by
  obtain ⟨ρ, ss, h, rel, rs, q⟩ := t
  refine ⟨ρ, ss, h, rel, rs, ?_⟩
  cases e : m1 ss h with
  | stuck => simp only [e, Res.bind] at q
  | ex c xs h1 => simp only [e, Res.bind] at q; exact q
  | ok a h1 =>
    simp only [e, Res.bind] at q
    intro ρ1 H1 b p rel1 r
    refine f ρ1 h1 a b H1 rel1 r ?_
    cases e2 : k a h1 with
    | stuck => simp only [e2] at q
    | ok wk h2 => simp only [e2] at q ⊢; exact fun ρ' H' J p' => q ρ' H' J (p.trans p')
    | ex c xs h2 => simp only [e2] at q ⊢; exact fun ρ' H' cls d p' => q ρ' H' cls d (p.trans p')
theorem PI.walk {tg e : Expr} {m : EM} (hK : X.K = en.K) (he : PE X e (tE en W m)) : PI X tg e (tI en W (mWalk m)) := by
  refine PIimp (PIor (pi_list he) (PIor (pi_tup he) (pi_str he))) fun σ H R t => ?_
  have t' := t
  obtain ⟨ρ, ss, h, rel, rs, q⟩ := t
  unfold mWalk at q
  cases e1 : m ss h with
  | stuck => simp only [e1, Res.bind] at q
  | ex c xs h1 => simp only [e1, Res.bind] at q; exact .inl ⟨ρ, ss, h, rel, rs, by rw [e1]; exact q⟩
  | ok v h1 =>
    simp only [e1, Res.bind] at q
    cases v with
    | scr ns =>
      refine .inl ⟨ρ, ss, h, rel, rs, ?_⟩
      rw [e1]
      intro ρ1 H1 b p rel1 ⟨eb, en'⟩
      subst eb; subst en'
      exact ⟨en.a0, rfl, ⟨_, by rw [hK]; exact rel1.scr⟩, q ρ1 H1 _ p rel1 (by rw [hK]; exact itScr)⟩
    | str z =>
      refine .inr (.inr ⟨ρ, ss, h, rel, rs, ?_⟩)
      rw [e1]
      intro ρ1 H1 b p rel1 r
      cases r
      exact ⟨z, rfl, q ρ1 H1 _ p rel1 (itStr z)⟩
    | ref r =>
      cases ei : h1[r]? with
      | none => simp only [ei] at q
      | some o =>
        cases o with
        | lst xs =>
          simp only [ei] at q
          refine .inl ⟨ρ, ss, h, rel, rs, ?_⟩
          rw [e1]
          intro ρ1 H1 b p rel1 ⟨a, ea, eb⟩
          subst eb
          obtain ⟨p', vs, e0, ep', e3, r1⟩ := rel1.lst ei ⟨a, ea, rfl⟩
          cases e0
          exact ⟨a, rfl, ⟨_, SqL.of e3⟩, q ρ1 H1 _ p rel1 (itL _ ea)⟩
        | tup xs =>
          simp only [ei] at q
          refine .inr (.inl ⟨ρ, ss, h, rel, rs, ?_⟩)
          rw [e1]
          intro ρ1 H1 b p rel1 ⟨a, ea, eb⟩
          subst eb
          obtain ⟨p', vs, e0, ep', e3, r1⟩ := rel1.tup ei ⟨a, ea, rfl⟩
          cases e0
          exact ⟨a, rfl, ⟨_, SqT.of e3⟩, q ρ1 H1 _ p rel1 (itT _ ea)⟩
        | _ => simp only [ei] at q
    | _ => exact q.elim
theorem PI.rng1 {tg a : Expr} {m : AM} {p : Pos} (hg : Gl X "range") (hm : X.mg "range" = none) (ha : PA X [a] (tA en W m)) (hs : starEach [a] X.env = [(false, eval a X.env)] := by rfl) : PI X tg (.Call (.Name "range" p) [a] [] pos) (tI en W (mRng1 m)) :=
  PIimp (pi_range1 hg hm ha hs) fun σ H R t => tI.bind (R1 := RSs en) t fun ρ h as bs H1 rel r q => by
    split at q
    · exact q.elim
    · rename_i e2
      split at e2
      · split at e2
        · rename_i hb
          cases e2
          obtain ⟨x, rfl, rx⟩ := RSs.one r
          cases rx
          exact ⟨_, rfl, (rngB_of hb).1, (rngB_of hb).2, q ρ H1 _ (Pre.refl ρ) rel (itRng 0 _)⟩
        · cases e2
      · cases e2
    · rename_i e2
      split at e2
      · split at e2 <;> cases e2
      · cases e2
theorem PI.rng2 {tg a b : Expr} {m : AM} {p : Pos} (hg : Gl X "range") (hm : X.mg "range" = none) (ha : PA X [a, b] (tA en W m)) (hs : starEach [a, b] X.env = [(false, eval a X.env), (false, eval b X.env)] := by rfl) (hs2 : starEach [b] X.env = [(false, eval b X.env)] := by rfl) : PI X tg (.Call (.Name "range" p) [a, b] [] pos) (tI en W (mRng2 m)) :=
  PIimp (pi_range2 hg hm ha hs hs2) fun σ H R t => tI.bind (R1 := RSs en) t fun ρ h as bs H1 rel r q => by
    split at q
    · exact q.elim
    · rename_i e2
      split at e2
      · split at e2
        · rename_i hb
          cases e2
          obtain ⟨x, y, rfl, rx, ry⟩ := RSs.two r
          cases rx; cases ry
          have z := Bool.and_eq_true_iff.mp hb
          exact ⟨_, _, rfl, ⟨(rngB_of z.1).1, (rngB_of z.1).2, (rngB_of z.2).1, (rngB_of z.2).2⟩, q ρ H1 _ (Pre.refl ρ) rel (itRng _ _)⟩
        · cases e2
      · cases e2
    · rename_i e2
      split at e2
      · split at e2 <;> cases e2
      · cases e2
theorem PI.enm {e : Expr} {m : AM} {p tpos : Pos} {elts : List Expr} {kk : Nat} (hg : Gl X "enumerate") (hm : X.mg "enumerate" = none) (ha : PA X [e] (tA en W m)) (hs : starEach [e] X.env = [(false, eval e X.env)] := by rfl) : PI X (.Tuple elts kk tpos) (.Call (.Name "enumerate" p) [e] [] pos) (tI en W (mEnum m)) :=
  PIimp (pi_enum hg hm ha hs) fun σ H R t => tI.bind (R1 := RSs en) t fun ρ h as bs H1 rel r q => by
    split at q
    · exact q.elim
    · rename_i e2
      split at e2
      · split at e2
        · rename_i ei
          cases e2
          obtain ⟨x, rfl, rx⟩ := RSs.one r
          obtain ⟨p', vs, rfl, ep', e3, r1⟩ := rel.lst ei rx
          exact ⟨p', vs, rfl, SqL.of e3, q ρ H1 _ (Pre.refl ρ) rel (itEnum _ ep')⟩
        · cases e2
      · cases e2
    · rename_i e2
      split at e2
      · split at e2 <;> cases e2
      · cases e2
end
end Fw
namespace Fw
open PySem PySem.Spec L2
/-- the turns of a for -/
def forM (g : GM) (wk : Wk) (body : SM) : Nat → Nat → SM
  | 0, _ => fun _ _ => .stuck
  | n + 1, i => fun ss h => match wk h i with
    | none => .stuck
    | some none => .nx ss h
    | some (some (x, h1)) => match g x ss h1 with
      | none => .stuck
      | some ss1 => match body ss1 h1 with
        | .nx ss2 h2 => forM g wk body n (i + 1) ss2 h2
        | .ct ss2 h2 => forM g wk body n (i + 1) ss2 h2
        | .bk ss2 h2 => .nx ss2 h2
        | r => r
/-- more turns than there are -/
def many : Nat := 18446744073709551616
def mFor (m : IM) (g : GM) (body : SM) : SM := fun ss h => match m ss h with
  | .stuck => .stuck
  | .ex c xs h1 => .ex c xs ss h1
  | .ok wk h1 => forM g wk body many 0 ss h1
/-- the turns of a while -/
def whileM (t : BM) (body : SM) : Nat → SM
  | 0 => fun _ _ => .stuck
  | n + 1 => fun ss h => thenS (t ss h) ss fun b h1 => if b = true then (match body ss h1 with
    | .nx ss2 h2 => whileM t body n ss2 h2
    | .ct ss2 h2 => whileM t body n ss2 h2
    | .bk ss2 h2 => .nx ss2 h2
    | r => r) else .nx ss h1
def mWhile (t : BM) (body : SM) : SM := whileM t body many
section
variable {X : Cx} {en : En} {W : WX} {pos : Pos}
theorem PS.for {tg iter : Expr} {body : List Stmt} {m : IM} {g : GM} {mb : SM} {is : List Nat} (hp : PassesOwn (model X.prog X.w) X.A X.env X.xe) (hc : X.calm = true) (hi : PI X tg iter (tI en W m)) (hg : PG X tg (tG en is g)) (hb : PSs X body (tS en W mb))
    (hs : ∀ x, foldedSetIterable iter X.env x = pure x := by intro _; rfl) : PS X (.For tg iter body [] pos) (tS en W (mFor m g mb)) :=
  PSimp (ps_for hp hc hi hg hb hs) fun D σ H t => by
    obtain ⟨ρ, ss, h, rel, rs, f⟩ := t
    refine ⟨ρ, ss, h, rel, rs, ?_⟩
    unfold mFor at f
    cases e : m ss h with
    | stuck => simp only [e, finS] at f
    | ex c xs h1 => simp only [e, finS] at f ⊢; exact fun ρ' H' cls d p rel' rx => f ρ' σ H' cls d p rel' (rs.mono p) rx
    | ok wk h1 =>
      simp only [e] at f ⊢
      intro ρ1 H1 J p1 rel1 ok
      refine ⟨fun i n σ2 H2 => ∃ ρ2 ss2 h2, Pre ρ1 ρ2 ∧ Rel en ρ2 h2 H2 ∧ RSl en ρ2 ss2 σ2 ∧ finS en W ρ2 (forM g wk mb n i ss2 h2) D, ⟨many, ρ1, ss, h1, Pre.refl ρ1, rel1, rs.mono p1, f.mono p1⟩, ?_⟩
      rintro i n σ2 H2 ⟨ρ2, ss2, h2, p2, rel2, rs2, f2⟩
      cases n with
      | zero => exact f2.elim
      | succ n =>
        unfold forM at f2
        obtain ⟨k1, k2⟩ := ok ρ2 h2 H2 i p2 rel2
        cases e2 : wk h2 i with
        | none => simp only [e2, finS] at f2
        | some o =>
          cases o with
          | none =>
            simp only [e2] at f2
            exact .inl ⟨k1 e2, f2 ρ2 σ2 H2 (Pre.refl ρ2) rel2 rs2⟩
          | some q =>
            obtain ⟨x, h3⟩ := q
            simp only [e2] at f2
            obtain ⟨go, yl⟩ := k2 x h3 e2
            refine .inr ⟨go, fun σ' H' => ∃ ρ4 ss4 h4, Pre ρ2 ρ4 ∧ Rel en ρ4 h4 H' ∧ RSl en ρ4 ss4 σ' ∧ finS en W ρ4 (forM g wk mb n (i + 1) ss4 h4) D, fun σ' H' ⟨ρ4, ss4, h4, p4, rel4, rs4, f4⟩ => ⟨n, Nat.lt_succ_self n, ρ4, ss4, h4, p2.trans p4, rel4, rs4, f4⟩, fun v H3 yv => ?_⟩
            obtain ⟨ρ3, p3, rel3, rv⟩ := yl v H3 yv
            cases e3 : g x ss2 h3 with
            | none => simp only [e3, finS] at f2
            | some ss1 =>
              simp only [e3] at f2
              refine ⟨ρ3, ss2, h3, x, ss1, rel3, rs2.mono p3, rv, e3, fun σ' rs' _ => ⟨ρ3, ss1, h3, rel3, rs', ?_⟩⟩
              cases e4 : mb ss1 h3 with
              | stuck => simp only [e4] at f2; exact f2
              | nx ss5 h5 => simp only [e4] at f2; exact fun ρ5 σ5 H5 p5 rel5 rs5 => ⟨ρ5, ss5, h5, p3.trans p5, rel5, rs5, f2.mono (p3.trans p5)⟩
              | ct ss5 h5 => simp only [e4] at f2; exact fun ρ5 σ5 H5 p5 rel5 rs5 => ⟨ρ5, ss5, h5, p3.trans p5, rel5, rs5, f2.mono (p3.trans p5)⟩
              | bk ss5 h5 => simp only [e4] at f2; exact fun ρ5 σ5 H5 p5 rel5 rs5 => f2 ρ5 σ5 H5 (p3.trans p5) rel5 rs5
              | rt v h5 => simp only [e4] at f2; exact f2.mono p3
              | ex c xs ss5 h5 => simp only [e4] at f2; exact f2.mono p3
theorem PS.while {c : Expr} {body : List Stmt} {t : BM} {mb : SM} (hp : PassesOwn (model X.prog X.w) X.A X.env X.xe) (hc : PT X c (tT en W t)) (hb : PSs X body (tS en W mb)) : PS X (.While c body [] pos) (tS en W (mWhile t mb)) :=
  PSimp (ps_while hp hc hb) fun D σ H q => by
    obtain ⟨ρ, ss, h, rel, rs, f⟩ := q
    refine ⟨fun n σ2 H2 => ∃ ρ2 ss2 h2, Rel en ρ2 h2 H2 ∧ RSl en ρ2 ss2 σ2 ∧ finS en W ρ2 (whileM t mb n ss2 h2) D, ⟨many, ρ, ss, h, rel, rs, f⟩, ?_⟩
    rintro n σ2 H2 ⟨ρ2, ss2, h2, rel2, rs2, f2⟩
    cases n with
    | zero => exact f2.elim
    | succ n =>
      unfold whileM at f2
      refine tS.bind (D := D) (R1 := RB) (k := fun ss b h1 => if b = true then (match mb ss h1 with
        | .nx ss2 h2 => whileM t mb n ss2 h2
        | .ct ss2 h2 => whileM t mb n ss2 h2
        | .bk ss2 h2 => .nx ss2 h2
        | r => r) else .nx ss h1) ⟨ρ2, ss2, h2, rel2, rs2, f2⟩ fun ρ3 ss3 h3 a b H3 rel3 rs3 r f3 => ?_
      cases r
      cases a with
      | false => exact f3 ρ3 σ2 H3 (Pre.refl ρ3) rel3 rs3
      | true =>
        rw [if_pos rfl] at f3
        refine ⟨fun σ' H' => ∃ ρ4 ss4 h4, Rel en ρ4 h4 H' ∧ RSl en ρ4 ss4 σ' ∧ finS en W ρ4 (whileM t mb n ss4 h4) D, fun σ' H' z => ⟨n, Nat.lt_succ_self n, z⟩, ρ3, ss3, h3, rel3, rs3, ?_⟩
        cases e4 : mb ss3 h3 with
        | stuck => simp only [e4] at f3; exact f3
        | nx ss5 h5 => simp only [e4] at f3; exact fun ρ5 σ5 H5 p5 rel5 rs5 => ⟨ρ5, ss5, h5, rel5, rs5, f3.mono p5⟩
        | ct ss5 h5 => simp only [e4] at f3; exact fun ρ5 σ5 H5 p5 rel5 rs5 => ⟨ρ5, ss5, h5, rel5, rs5, f3.mono p5⟩
        | bk ss5 h5 => simp only [e4] at f3; exact fun ρ5 σ5 H5 p5 rel5 rs5 => f3 ρ5 σ5 H5 p5 rel5 rs5
        | rt v h5 => simp only [e4] at f3; exact f3
        | ex c xs ss5 h5 => simp only [e4] at f3; exact f3
end
end Fw
namespace Fw
open PySem PySem.Spec L2
/-- what a run of a def's meaning is to bring -/
def finF (en : En) (ρ : List Addr) (r : Res SV) (Q : VK) (E : XK) : Prop := match r with
  | .stuck => False
  | .ok v h => ∀ ρ' H u, Pre ρ ρ' → Rel en ρ' h H → RS en ρ' v u → Q u H
  | .ex c xs h => ∀ ρ' H cls d, Pre ρ ρ' → Rel en ρ' h H → RX en ρ' H c xs cls d → E cls d H
def spM (en : En) (n : Nat) (m : FM) : Sp := fun vs H Q E => vs.length = n ∧ ∃ ρ svs h, Rel en ρ h H ∧ RSs en ρ svs vs ∧ finF en ρ (m svs h) Q E
/-- a def keeps a promise wherever no text is being shown and sys.modules stands -/
structure FnG (P : Program) (w : World) (K : PySem.W.Frag) (mg : Str → Option Value) (base : Heap) (k : Nat) (f : Addr) (fd : FuncData) (ps : List Str) (sp : Sp) : Prop where
  len : ∀ vs H Q E, sp vs H Q E → vs.length = ps.length
  run : ∀ (A : Around) (outer : List Env) (s : Shared) (H : Hp) (args : Args) (us : List Value) (vs : List V) (Q : VK) (E : XK), Room k A → A.guards = some [] → Env0 P w K mg base A outer s H → BindsTo s fd args (ps.zip us) → Vals vs us → sp vs H Q E →
    codeAny (model P w) A (.call (.ref f) args) (CR (L2.CX P w) outer P w H s Q E) s
theorem FnG.mono {P : Program} {w : World} {K : PySem.W.Frag} {mg : Str → Option Value} {base : Heap} {j k : Nat} {f : Addr} {fd : FuncData} {ps : List Str} {sp : Sp} (F : FnG P w K mg base j f fd ps sp) (h : j ≤ k) : FnG P w K mg base k f fd ps sp :=
  ⟨F.len, fun A outer s H args us vs Q E hr => F.run A outer s H args us vs Q E (hr.mono h)⟩
/-- a def's body, at its entry -/
structure Good (en : En) (X : Cx) (W : WX) (k : Nat) : Prop where
  tk : Takes X W
  pass : PassesOwn (model X.prog X.w) X.A X.env X.xe
  room : Room k X.A
  gd : X.A.guards = some []
  sm : ∃ o, X.base.get? sysModules = some o
  calm : X.calm = true
  K : X.K = en.K
theorem Good.u64 {en : En} {X : Cx} {W : WX} {k : Nat} (G : Good en X W k) : X.A.units + 64 < cLine := G.room.units
theorem Good.u1 {en : En} {X : Cx} {W : WX} {k : Nat} (G : Good en X W k) : X.A.units + 1 < cLine := by have := G.room.un; omega
theorem Good.u66 {en : En} {X : Cx} {W : WX} {k : Nat} (G : Good en X W k) : X.A.units + 66 < cLine := by have := G.room.un; omega
def endF (r : SR) : Res SV := match r with
  | .stuck => .stuck
  | .nx _ h => .ok .non h
  | .rt v h => .ok v h
  | .bk _ _ => .stuck
  | .ct _ _ => .stuck
  | .ex c xs _ h => .ex c xs h
/-- what is wanted behind a body -/
theorem finS.body {en : En} {ρ : List Addr} {m : SM} {ss : SS} {h : SH} {Q : VK} {E : XK} (f : finF en ρ (endF (m ss h)) Q E) :
    finS en (fun cls d _ H => E cls d H) ρ (m ss h) { nx := fun _ H' => Q .non H', rt := Q } := by
  cases e : m ss h with
  | stuck => rw [e] at f; exact f
  | nx ss' h' => rw [e] at f; exact fun ρ' σ H p rel rs => f ρ' H .non p rel rfl
  | rt v h' => rw [e] at f; exact f
  | bk ss' h' => rw [e] at f; exact f.elim
  | ct ss' h' => rw [e] at f; exact f.elim
  | ex c xs ss' h' => rw [e] at f; exact fun ρ' σ H cls d p rel rs rx => f ρ' H cls d p rel rx
/-- a def's meaning by its body's: n slots, the first for the arguments -/
def mFn (np n : Nat) (m : SM) : FM := fun vs h => if vs.length = np then endF (m (vs.map some ++ List.replicate (n - vs.length) none) h) else .stuck
theorem mFn_fin {en : En} {ρ : List Addr} {np n : Nat} {m : SM} {svs : List SV} {vs : List V} {h : SH} {Q : VK} {E : XK} (hl : vs.length = np) (r : RSs en ρ svs vs) (f : finF en ρ (mFn np n m svs h) Q E) : finF en ρ (endF (m (svs.map some ++ List.replicate (n - svs.length) none) h)) Q E := by
  unfold mFn at f
  rw [if_pos (by rw [r.len]; exact hl)] at f
  exact f
theorem mFn_len {np n : Nat} {m : SM} {vs : List SV} {h : SH} (e : mFn np n m vs h ≠ .stuck) : vs.length = np := by
  unfold mFn at e
  split at e
  · assumption
  · exact absurd rfl e
theorem start_rel {en : En} {ρ : List Addr} {svs : List SV} {vs : List V} {N : List Str} (r : RSs en ρ svs vs) : RSl en ρ (svs.map some ++ List.replicate (N.length - svs.length) none) (L2.start N vs) := by
  unfold L2.start
  rw [r.len]
  refine ⟨by simp [r.len], fun i v e => ?_⟩
  by_cases hi : i < svs.length
  · rw [List.getElem?_append_left (by simpa using hi), List.getElem?_map] at e
    cases q : svs[i]? with
    | none => rw [q] at e; cases e
    | some x =>
      rw [q] at e; cases e
      obtain ⟨u, eu, ru⟩ := r.get q
      exact ⟨u, by rw [List.getElem?_append_left (by rw [List.length_map, ← r.len]; exact hi), List.getElem?_map, eu]; rfl, ru⟩
  · rw [List.getElem?_append_right (by simpa using hi), List.getElem?_replicate] at e
    split at e <;> cases e
section
variable {P : Program} {w : World} {K : PySem.W.Frag} {mg : Str → Option Value} {base : Heap} {en : En}
/-- THE RULE for a def -/
theorem fnG_of {k : Nat} {f : Addr} {name qual : Str} {params : Arguments} {body : List Stmt} {scope : Scope} {dV kV doc pm cdv ct oc : Value} {an od : Option Addr} {osl : Array (Option Value)} {N ps : List Str} {m : SM}
    (lk : K.lookup f = some ⟨oc, od, .func (PySem.W.fnOf name qual params body scope dV kV doc pm an cdv ct), osl⟩) (hcd : PySem.W.codeIn K cdv qual = true) (S : FnScope N ps scope) (hK : K = en.K) (hsm : ∃ o, base.get? sysModules = some o)
    (hb : ∀ (A : Around) (outer : List Env) (s : Shared) (H : Hp) (E : XK), Good en (cxOf (L2.CX P w) P w K mg base N qual scope f cdv A outer s H E) (fun cls d _ H => E cls d H) k → PSs (cxOf (L2.CX P w) P w K mg base N qual scope f cdv A outer s H E) body (tS en (fun cls d _ H => E cls d H) m)) :
    FnG P w K mg base (k + 1) f (PySem.W.fnOf name qual params body scope dV kV doc pm an cdv ct) ps (spM en ps.length (mFn ps.length N.length m)) := by
  refine ⟨fun vs H Q E h => h.1, fun A outer s H args us vs Q E hr hgd e0 hbd r hsp => ?_⟩
  obtain ⟨hl, ρ, svs, h, rel, rvs, fq⟩ := hsp
  have inK : K.In s.heap := e0.mod.kin.keeps fun b o e => (e0.bs b o e).1
  have noL : s.heap.NoLimit := e0.mod.nolimit.keeps fun b o e => (e0.bs b o e).1
  have kinds : ∀ y ∈ ps.zip us, scope.names.lookup y.1 = some .local ∨ (scope.names.lookup y.1 = some .cell ∧ ((cellsFrom (s.heap.objs.size + 1) scope.names []).lookup y.1).isSome = true) := by
    intro y hy
    rcases S.par y.1 (List.of_mem_zip (show (y.1, y.2) ∈ ps.zip us from hy)).1 with q | q
    · exact .inl q
    · exact .inr ⟨q, PySem.W.cellsFrom_some _ _ _ (.inl q)⟩
  refine codeAny_call_function hr.depth (inK _ _ lk) rfl S.co S.gen rfl (PySem.W.codeRec_of inK hcd) (hbd _ _ _ _ ?_)
  refine wpAny_newFunctionEnv_cells S.kind kinds fun env he s1 x => ?_
  subst he
  refine ⟨noL.keeps x.toInCall.keep, codeAny_func ?_⟩
  obtain ⟨X, hX⟩ : ∃ X, X = cxOf (L2.CX P w) P w K mg base N qual scope f cdv A outer s H E := ⟨_, rfl⟩
  have body : PSs X body (tS en (fun cls d _ H => E cls d H) m) := by
    subst hX
    exact hb A outer s H E ⟨takes_of rfl rfl rfl rfl, passes_of (K := fun e s'' => L2.CX P w outer H s E e s'') rfl, hr.deeper _, hgd, hsm, rfl, hK⟩
  have I : Inv X [] (L2.start N vs) H s1 := by
    subst hX
    exact inv_start S hr.hd e0 hl r x
  have t : tS en (fun cls d _ H => E cls d H) m { nx := fun _ H' => Q .non H', rt := Q } (L2.start N vs) H := ⟨ρ, _, h, rel, start_rel rvs, finS.body (mFn_fin hl rvs fq)⟩
  have run := body.run [] s1 (L2.start N vs) H _ I t
  subst hX
  refine wpAny_mono run (fun fl s' hs => ?_) fun e s' hs => hs
  cases fl with
  | ret u =>
    obtain ⟨v, σ', H', J, rv, q⟩ := hs
    exact ⟨v, H', J.os, J.bare, J.base, J.hok, rv, q⟩
  | next =>
    obtain ⟨σ', H', J, q⟩ := hs
    exact ⟨.non, H', J.os, J.bare, J.base, J.hok, rfl, q⟩
  | brk =>
    obtain ⟨_, _, _, q⟩ := hs
    exact False.elim q
  | cont =>
    obtain ⟨_, _, _, q⟩ := hs
    exact False.elim q
end
/-! ### calls -/
def mCall (f : FM) (ma : AM) : EM := fun ss h => (ma ss h).bind fun vs h1 => f vs h1
theorem finF.call {en : En} {W : WX} {σ : L2.St} {ρ : List Addr} {r : Res SV} {Q : VK} (f : fin en W (RS en) σ ρ r Q) : finF en ρ r Q (fun cls d H => W cls d σ H) := by
  cases r with
  | stuck => exact f
  | ok v h => exact f
  | ex c xs h => exact f
section
variable {X : Cx} {en : En} {W : WX} {k j : Nat} {f : Addr} {fd : FuncData} {ps : List Str} {sp : Sp} {x mn : Str} {p pos apos : Pos} {e o : Expr} {es : List Expr} {ma : AM} {mo : EM} {m : FM}
theorem run_fnG {pins : List (Addr × Obj)} {σ : L2.St} {H : Hp} {s : Shared} {Q : VK} {us : List Value} {vs : List V} (F : FnG X.prog X.w X.K X.mg X.base k f fd ps sp) (hr : Room k X.A) (hg : X.A.guards = some []) (hb : Binds X.K fd ps []) (tk : Takes X W)
    (I : Inv X pins σ H s) (r : Vals vs us) (h : sp vs H Q (fun cls d H => W cls d σ H)) : wpAny (model X.prog X.w) X.A (call (.ref f) us) (EP X pins σ Q) X.xe s := by
  have hl : us.length = ps.length := by rw [← r.length]; exact F.len _ _ _ _ h
  have b := hb s us I.kIn (by rw [List.append_nil]; exact hl)
  rw [List.append_nil] at b
  refine wpAny_call (codeAny_mono (F.run X.A X.stack s H ⟨us, []⟩ us vs Q _ hr hg I.env0 b r h) fun rr s' hq => ?_)
  match rr, hq with
  | .error e, hq => exact tk e s' (XE.of_call I (fun _ _ _ z => z) hq)
  | .ok (.ret u), hq => exact I.after hq
  | .ok .next, hq => exact False.elim hq
  | .ok .brk, hq => exact False.elim hq
  | .ok .cont, hq => exact False.elim hq
/-- a def that is called by its name -/
structure DefAt (P : Program) (w : World) (K : PySem.W.Frag) (mg : Str → Option Value) (base : Heap) (en : En) (k : Nat) (x : Str) (n : Nat) (m : FM) : Prop where
  ex : ∃ f fd ps, mg x = some (.ref f) ∧ PySem.W.keepIn K (.ref f) = true ∧ FnG P w K mg base k f fd ps (spM en n m) ∧ Binds K fd ps []
  len : ∀ vs h, m vs h ≠ .stuck → vs.length = n
theorem PE.call (D : DefAt X.prog X.w X.K X.mg X.base en j x n m) (G : Good en X W k) (hj : j ≤ k) (hg : Gl X x) (ha : PA X (e :: es) (tA en W ma))
    (hdb : (x == ("__debug__" : Str)) = false := by decide) (he : starEach (e :: es) X.env = (false, eval e X.env) :: starEach es X.env := by rfl) (hpl : (backTo pos (starEach es X.env)).any (·.1) = false := by rfl) : PE X (.Call (.Name x p) (e :: es) [] pos) (tE en W (mCall m ma)) := by
  obtain ⟨f, fd, ps, hm, hk, F, hb⟩ := D.ex
  refine ⟨fun pins s σ H Q I t => ?_⟩
  refine wpAny_Call_Name_kw (ld_glob I hg hm ?_ hdb)
  have t2 : tA en W ma σ H fun vs H1 => spM en n m vs H1 Q (fun cls d H => W cls d σ H) := by
    obtain ⟨ρ, ss, h, rel, rs, q⟩ := t
    refine ⟨ρ, ss, h, rel, rs, ?_⟩
    unfold mCall at q
    cases e1 : ma ss h with
    | stuck => simp only [e1, Res.bind, fin] at q
    | ex c xs h1 => simp only [e1, Res.bind, fin] at q; exact q
    | ok vs h1 =>
      simp only [e1, Res.bind] at q
      exact fun ρ1 H1 b p1 rel1 rb => ⟨by rw [← rb.len]; exact D.len vs h1 (fun z => by rw [z] at q; exact q), ρ1, vs, h1, rel1, rb, finF.call (q.mono p1)⟩
  refine PySem.W.callWith_K (h₀ := X.base) I.ok.mod.kin hk (thn (ha.run pos pins s σ H _ I t2) fun us s1 ⟨vs, H1, I1, r, q⟩ => ⟨I1.kIn, ?_⟩) he hpl
  exact run_fnG F (G.room.mono hj) G.gd hb G.tk I1 r q
theorem PE.call0 (D : DefAt X.prog X.w X.K X.mg X.base en j x 0 m) (G : Good en X W k) (hj : j ≤ k) (hg : Gl X x) (hdb : (x == ("__debug__" : Str)) = false := by decide) : PE X (.Call (.Name x p) [] [] pos) (tE en W (mCall m aNil)) := by
  obtain ⟨f, fd, ps, hm, hk, F, hb⟩ := D.ex
  refine ⟨fun pins s σ H Q I t => ?_⟩
  refine wpAny_Call_Name_kw (ld_glob I hg hm ?_ hdb)
  obtain ⟨ρ, ss, h, rel, rs, q⟩ := t
  exact PySem.W.callWith_K0 I.kIn hk (run_fnG (us := []) F (G.room.mono hj) G.gd hb G.tk I .nil ⟨rfl, ρ, [], h, rel, .nil, finF.call q⟩)
/-! ### o.m(..) -/
/-- a method of the classes with the numbers that cs names -/
structure MethAt (P : Program) (w : World) (K : PySem.W.Frag) (mg : Str → Option Value) (base : Heap) (en : En) (k : Nat) (c : Nat) (mn : Str) (n : Nat) (m : FM) : Prop where
  ex : ∃ f fd ps C ns, ClsF en c C ns ∧ mn ∉ ns ∧ Meth K C mn f ∧ FnG P w K mg base k f fd ps (spM en n m) ∧ Binds K fd ps []
  len : ∀ vs h, m vs h ≠ .stuck → vs.length = n
def insOf (h : SH) (v : SV) : Option Nat := match v with
  | .ref i => match h[i]? with
    | some (.ins c _) => some c
    | _ => none
  | _ => none
def mMeth (c : Nat) (f : FM) (mo : EM) (ma : AM) : EM := fun ss h => (mo ss h).bind fun o h1 => if insOf h1 o = some c then (ma ss h1).bind fun vs h2 => f (o :: vs) h2 else .stuck
theorem insOf_rel {ρ : List Addr} {h : SH} {H : Hp} {o : SV} {v : V} {c : Nat} (rel : Rel en ρ h H) (ro : RS en ρ o v) (e : insOf h o = some c) : ∃ a C ns dx vs, v = .ref a ∧ en.cl[c]? = some (C, ns) ∧ H a = some (.ins C dx (ns.zip vs)) := by
  unfold insOf at e
  split at e
  · split at e
    · rename_i ei
      cases e
      obtain ⟨p, ep, rfl⟩ := ro
      obtain ⟨C, ns, dx, vs, e1, e2, l, r⟩ := rel.at2 ep ei
      exact ⟨p, C, ns, dx, vs, rfl, e1, e2⟩
    · cases e
  · cases e
theorem zip_none {f : Str} : ∀ {ns : List Str} {vs : List V}, f ∉ ns → (ns.zip vs).lookup f = none
  | [], _, _ => rfl
  | _ :: _, [], _ => rfl
  | n :: ns, v :: vs, h => by
    have hb : (f == n) = false := by simpa using fun e : f = n => h (by rw [e]; exact List.mem_cons_self)
    rw [List.zip_cons_cons, List.lookup_cons, hb]
    exact zip_none fun m => h (List.mem_cons_of_mem _ m)
theorem PE.meth {c : Nat} {pl : Sem Bool} (D : MethAt X.prog X.w X.K X.mg X.base en j c mn n m) (G : Good en X W k) (hj : j ≤ k) (ho : PE X o (tE en W mo)) (ha : PA X (e :: es) (tA en W ma))
    (hst : starEach (e :: es) X.env = (false, eval e X.env) :: starEach es X.env := by rfl) (hpl : (backTo pos (starEach es X.env)).any (·.1) = false := by rfl)
    (ht : eval (.Call (.Attribute o mn apos) (e :: es) [] pos) X.env = (do
      let ov ← eval o X.env
      standAt apos.atName
      let (f, first) ← holding [ov] (getMethod ov mn pl)
      callWith pos f first (backTo pos (starEach (e :: es) X.env)) (backToKw pos (keywordEach [] X.env))) := by rfl) :
    PE X (.Call (.Attribute o mn apos) (e :: es) [] pos) (tE en W (mMeth c m mo ma)) := by
  obtain ⟨f, fd, ps, C, ns, cf, hnn, hm, F, hb⟩ := D.ex
  refine ⟨fun pins s σ H Q I t => ?_⟩
  have t1 : tE en W mo σ H fun x H1 => ∃ a dx fs, x = .ref a ∧ H1 a = some (.ins C dx fs) ∧ fs.lookup mn = none ∧ tA en W ma σ H1 fun vs H2 => spM en n m (x :: vs) H2 Q (fun cls d H => W cls d σ H) := by
    obtain ⟨ρ, ss, h, rel, rs, q⟩ := t
    refine ⟨ρ, ss, h, rel, rs, ?_⟩
    unfold mMeth at q
    cases e1 : mo ss h with
    | stuck => simp only [e1, Res.bind, fin] at q
    | ex c xs h1 => simp only [e1, Res.bind, fin] at q; exact q
    | ok ov h1 =>
      simp only [e1, Res.bind] at q
      intro ρ1 H1 b p1 rel1 rb
      split at q
      · rename_i hc
        obtain ⟨a, C', ns', dx, vs0, rfl, ec, eh⟩ := insOf_rel rel1 rb hc
        rw [cf.at_] at ec; cases ec
        refine ⟨a, dx, _, rfl, eh, zip_none hnn, ρ1, ss, h1, rel1, rs.mono p1, ?_⟩
        cases e2 : ma ss h1 with
        | stuck => simp only [e2, fin] at q
        | ex c xs h1 => simp only [e2, fin] at q ⊢; exact fun ρ' H' cls d p => q ρ' H' cls d (p1.trans p)
        | ok vs h2 =>
          simp only [e2] at q
          exact fun ρ2 H2 bs p2 rel2 rbs => ⟨by rw [List.length_cons, ← rbs.len]; exact D.len (ov :: vs) h2 (fun z => by rw [z] at q; exact q), ρ2, ov :: vs, h2, rel2, .cons (rb.mono p2) rbs, finF.call (q.mono (p1.trans p2))⟩
      · exact q.elim
  refine PySem.W.methodCall_KW (pl := pl) (thn (ho.run pins s σ H _ I t1) fun u s1 ⟨x, H1, I1, rx, a, dx, fs, ex, ea, l, q⟩ => ?_) ht
  subst ex
  obtain rfl : u = Value.ref a := rx
  refine getmeth_ok I1 ea (by rw [G.K]; exact cf.cls) hm l ?_
  refine PySem.W.callWith_K (first := [.ref a]) (h₀ := X.base) I.ok.mod.kin hm.kp (thn (ha.run pos pins s1 σ H1 _ I1 q) fun us s2 ⟨vs, H2, I2, r, q2⟩ => ⟨I2.kIn, ?_⟩) hst hpl
  exact run_fnG (us := .ref a :: us) (vs := .ref a :: vs) F (G.room.mono hj) G.gd hb G.tk I2 (.cons rfl r) q2
theorem PE.meth0 {c : Nat} {pl : Sem Bool} (D : MethAt X.prog X.w X.K X.mg X.base en j c mn 1 m) (G : Good en X W k) (hj : j ≤ k) (ho : PE X o (tE en W mo))
    (ht : eval (.Call (.Attribute o mn apos) [] [] pos) X.env = (do
      let ov ← eval o X.env
      standAt apos.atName
      let (f, first) ← holding [ov] (getMethod ov mn pl)
      callWith pos f first (backTo pos (starEach [] X.env)) (backToKw pos (keywordEach [] X.env))) := by rfl) :
    PE X (.Call (.Attribute o mn apos) [] [] pos) (tE en W (mMeth c m mo aNil)) := by
  obtain ⟨f, fd, ps, C, ns, cf, hnn, hm, F, hb⟩ := D.ex
  refine ⟨fun pins s σ H Q I t => ?_⟩
  have t1 : tE en W mo σ H fun x H1 => ∃ a dx fs, x = .ref a ∧ H1 a = some (.ins C dx fs) ∧ fs.lookup mn = none ∧ spM en 1 m [x] H1 Q (fun cls d H => W cls d σ H) := by
    obtain ⟨ρ, ss, h, rel, rs, q⟩ := t
    refine ⟨ρ, ss, h, rel, rs, ?_⟩
    unfold mMeth at q
    cases e1 : mo ss h with
    | stuck => simp only [e1, Res.bind, fin] at q
    | ex c xs h1 => simp only [e1, Res.bind, fin] at q; exact q
    | ok ov h1 =>
      simp only [e1, Res.bind] at q
      intro ρ1 H1 b p1 rel1 rb
      split at q
      · rename_i hc
        obtain ⟨a, C', ns', dx, vs0, rfl, ec, eh⟩ := insOf_rel rel1 rb hc
        rw [cf.at_] at ec; cases ec
        exact ⟨a, dx, _, rfl, eh, zip_none hnn, rfl, ρ1, [ov], h1, rel1, .cons rb .nil, finF.call (q.mono p1)⟩
      · exact q.elim
  refine PySem.W.methodCall_KW (pl := pl) (thn (ho.run pins s σ H _ I t1) fun u s1 ⟨x, H1, I1, rx, a, dx, fs, ex, ea, l, q⟩ => ?_) ht
  subst ex
  obtain rfl : u = Value.ref a := rx
  refine getmeth_ok I1 ea (by rw [G.K]; exact cf.cls) hm l ?_
  exact PySem.W.callWith_K0 (first := [.ref a]) I1.kIn hm.kp (run_fnG (us := [.ref a]) (vs := [.ref a]) F (G.room.mono hj) G.gd hb G.tk I1 (.cons rfl .nil) q)
/-! ### C(..) -/
structure MakeAt (P : Program) (w : World) (K : PySem.W.Frag) (mg : Str → Option Value) (base : Heap) (en : En) (k : Nat) (x : Str) (c : Nat) (n : Nat) (m : FM) : Prop where
  ex : ∃ f fd ps C ns, ClsF en c C ns ∧ mg x = some (.ref C) ∧ Mk K C f ∧ FnG P w K mg base k f fd ps (spM en n m) ∧ Binds K fd ps []
  len : ∀ vs h, m vs h ≠ .stuck → vs.length = n
def mMake (c : Nat) (f : FM) (ma : AM) : EM := fun ss h => (ma ss h).bind fun vs h1 => (f (.ref h1.length :: vs) (h1 ++ [.ins c []])).bind fun v h2 => match v with
  | .non => .ok (.ref h1.length) h2
  | _ => .stuck
theorem guards_make {A : Around} {C : Addr} {us : List Value} {kw : List (Str × Value)} (h : A.guards = some []) : (A.under (.builtin "type.__call__" ⟨.ref C :: us, kw⟩)).guards = some [] := by
  first | exact h | simp [Around.under, Code.guards, Code.isGuard, guardIds, pushGuards, h]
theorem run_makeG {pins : List (Addr × Obj)} {σ : L2.St} {H : Hp} {s : Shared} {Q : VK} {us : List Value} {vs : List V} {C : Addr} (M : Mk X.K C f) (F : FnG X.prog X.w X.K X.mg X.base j f fd ps sp) (hr : Room (j + 1) X.A) (hg : X.A.guards = some []) (hb : Binds X.K fd ps []) (tk : Takes X W) (I : Inv X pins σ H s) (r : Vals vs us)
    (h : ∀ x dx, H x = none → H dx = none → dx ≠ x → sp (.ref x :: vs) (upd (upd H dx (.own x)) x (.ins C dx [])) (fun v H2 => v = .non ∧ Q (.ref x) H2) (fun cls d H => W cls d σ H)) :
    wpAny (model X.prog X.w) X.A (call (.ref C) us) (EP X pins σ Q) X.xe s := by
  obtain ⟨n, hn⟩ : ∃ n, n = s.heap.objs.size := ⟨_, rfl⟩
  have q := h (n + 1) n (I.hok.fresh (by omega)) (I.hok.fresh (by omega)) (Nat.ne_of_lt (Nat.lt_succ_self n))
  subst hn
  have I2 := Inv.made (C := C) I
  have r2 : Vals (V.ref (s.heap.objs.size + 1) :: vs) (Value.ref (s.heap.objs.size + 1) :: us) := .cons rfl r
  have hl : (Value.ref (s.heap.objs.size + 1) :: us).length = ps.length := by rw [← r2.length]; exact F.len _ _ _ _ q
  have b := hb _ (Value.ref (s.heap.objs.size + 1) :: us) I2.kIn (by rw [List.append_nil]; exact hl)
  rw [List.append_nil] at b
  refine wpAny_call (make_map (f := f) I.kIn M.makes M.init (beq_iff_eq.mp M.fn) (codeAny_mono (F.run _ X.stack _ _ ⟨Value.ref (s.heap.objs.size + 1) :: us, []⟩ _ _ _ _ (hr.make C us []) (guards_make hg) (I2.env0.make C us []) b r2 q) fun rr s' hq => ?_))
  match rr, hq with
  | .error e, hq => exact tk e s' (XE.of_call I2 (fun _ _ _ z => z) hq)
  | .ok (.ret u), hq =>
    obtain ⟨v, H', I3, rv, ev, q3⟩ := I2.after hq
    subst ev
    exact ⟨rv, .ref (s.heap.objs.size + 1), H', I3, rfl, q3⟩
  | .ok .next, hq => exact False.elim hq
  | .ok .brk, hq => exact False.elim hq
  | .ok .cont, hq => exact False.elim hq
/-- the new instance is held -/
theorem made_rel {ρ : List Addr} {h : SH} {H : Hp} {c : Nat} {C : Addr} {ns : List Str} {x dx : Addr} (rel : Rel en ρ h H) (cf : ClsF en c C ns) (nx : H x = none) (nd : H dx = none) (ne : dx ≠ x) : Rel en (ρ ++ [x]) (h ++ [.ins c []]) (upd (upd H dx (.own x)) x (.ins C dx [])) := by
  have rel1 : Rel en ρ h (upd H dx (.own x)) := rel.keep fun a u e => by rw [upd_ne (ne_of_none e nd)]; exact e
  refine rel1.push (by rw [upd_ne (Ne.symm ne)]; exact nx) ⟨C, ns, dx, [], cf.at_, ?_, Nat.zero_le _, .nil⟩
  rw [upd_same]
  cases ns <;> rfl
theorem PE.make {c : Nat} (D : MakeAt X.prog X.w X.K X.mg X.base en j x c n m) (G : Good en X W k) (hj : j + 1 ≤ k) (hg : Gl X x) (ha : PA X (e :: es) (tA en W ma))
    (hdb : (x == ("__debug__" : Str)) = false := by decide) (he : starEach (e :: es) X.env = (false, eval e X.env) :: starEach es X.env := by rfl) (hpl : (backTo pos (starEach es X.env)).any (·.1) = false := by rfl) : PE X (.Call (.Name x p) (e :: es) [] pos) (tE en W (mMake c m ma)) := by
  obtain ⟨f, fd, ps, C, ns, cf, hm, M, F, hb⟩ := D.ex
  refine ⟨fun pins s σ H Q I t => ?_⟩
  refine wpAny_Call_Name_kw (ld_glob I hg hm ?_ hdb)
  have t2 : tA en W ma σ H fun vs H1 => ∀ x dx, H1 x = none → H1 dx = none → dx ≠ x → spM en n m (.ref x :: vs) (upd (upd H1 dx (.own x)) x (.ins C dx [])) (fun v H2 => v = .non ∧ Q (.ref x) H2) (fun cls d H => W cls d σ H) := by
    obtain ⟨ρ, ss, h, rel, rs, q⟩ := t
    refine ⟨ρ, ss, h, rel, rs, ?_⟩
    unfold mMake at q
    cases e1 : ma ss h with
    | stuck => simp only [e1, Res.bind, fin] at q
    | ex c xs h1 => simp only [e1, Res.bind, fin] at q; exact q
    | ok vs h1 =>
      simp only [e1, Res.bind] at q
      intro ρ1 H1 b p1 rel1 rb x dx nx nd ne
      have rel2 := made_rel rel1 cf nx nd ne
      have rx : RS en (ρ1 ++ [x]) (.ref h1.length) (.ref x) := ⟨x, by rw [← rel1.len, List.getElem?_append_right (Nat.le_refl _)]; simp, rfl⟩
      refine ⟨?_, ρ1 ++ [x], .ref h1.length :: vs, h1 ++ [.ins c []], rel2, .cons rx (rb.mono (Pre.one ρ1 x)), ?_⟩
      · rw [List.length_cons, ← rb.len]
        exact D.len (.ref h1.length :: vs) _ fun z => by rw [z] at q; exact q
      · cases e2 : m (.ref h1.length :: vs) (h1 ++ [.ins c []]) with
        | stuck => rw [e2] at q; exact q
        | ex c xs h2 => rw [e2] at q; exact fun ρ' H' cls d p => q ρ' H' cls d ((p1.trans (Pre.one ρ1 x)).trans p)
        | ok v h2 =>
          rw [e2] at q
          intro ρ2 H2 u p2 rel3 ru
          cases v with
          | non => cases ru; exact ⟨rfl, q ρ2 H2 _ ((p1.trans (Pre.one ρ1 x)).trans p2) rel3 (rx.mono p2)⟩
          | _ => exact (q : False).elim
  refine PySem.W.callWith_K (h₀ := X.base) I.ok.mod.kin M.kp (thn (ha.run pos pins s σ H _ I t2) fun us s1 ⟨vs, H1, I1, r, q⟩ => ⟨I1.kIn, ?_⟩) he hpl
  exact run_makeG M F (G.room.mono hj) G.gd hb G.tk I1 r q
end
end Fw
namespace Fw
open PySem PySem.Spec L2
section
variable {X : Cx} {en : En} {W : WX} {pos apos cpos : Pos} {o e : Expr} {es : List Expr} {mo : EM} {ma : AM}
/-! ### methods of lists -/
def isLst (h : SH) (v : SV) : Bool := match v with
  | .ref i => match h[i]? with
    | some (.lst _) => true
    | _ => false
  | _ => false
def mBm (f : SV → OA) (mo : EM) (ma : AM) : EM := fun ss h => (mo ss h).bind fun o h1 => if isLst h1 o = true then (ma ss h1).bind fun vs h2 => lift (f o vs h2) else .stuck
def rBm (en : En) (f : SV → OA) : V → List V → Hp → VK → Prop := fun x xs H Q => ∃ ρ h a as, Rel en ρ h H ∧ RS en ρ a x ∧ RSs en ρ as xs ∧ finO en ρ (f a as h) Q
theorem isLst_ty {ρ : List Addr} {h : SH} {H : Hp} {a : SV} {x : V} {K : PySem.W.Frag} (rel : Rel en ρ h H) (r : RS en ρ a x) (e : isLst h a = true) : tyV K "list" x H := by
  unfold isLst at e
  split at e
  · split at e
    · rename_i ei
      obtain ⟨p, vs, rfl, ep, e1, r1⟩ := rel.lst ei r
      exact .inl ⟨rfl, _, SqL.of e1⟩
    · cases e
  · cases e
theorem tBmM {f : SV → OA} (σ : L2.St) (H : Hp) (Q : VK) (t : tE en W (mBm f mo ma) σ H Q) : tBM X.K "list" (rBm en f) (tE en W mo) (tA en W ma) σ H Q := by
  obtain ⟨ρ, ss, h, rel, rs, q⟩ := t
  refine ⟨ρ, ss, h, rel, rs, ?_⟩
  unfold mBm at q
  cases e1 : mo ss h with
  | stuck => simp only [e1, Res.bind, fin] at q
  | ex c xs h1 => simp only [e1, Res.bind, fin] at q; exact q
  | ok ov h1 =>
    simp only [e1, Res.bind] at q
    intro ρ1 H1 b p1 rel1 rb
    split at q
    · rename_i hc
      refine ⟨isLst_ty rel1 rb hc, ρ1, ss, h1, rel1, rs.mono p1, ?_⟩
      cases e2 : ma ss h1 with
      | stuck => simp only [e2, fin] at q
      | ex c xs h1 => simp only [e2, fin] at q ⊢; exact fun ρ' H' cls d p => q ρ' H' cls d (p1.trans p)
      | ok vs h2 =>
        simp only [e2] at q
        exact fun ρ2 H2 bs p2 rel2 rbs => ⟨ρ2, h2, ov, vs, rel2, rb.mono p2, rbs, (q.mono (p1.trans p2)).lift⟩
    · exact q.elim
theorem tBmM0 {f : SV → OA} (σ : L2.St) (H : Hp) (Q : VK) (t : tE en W (mBm f mo aNil) σ H Q) : tBM0 X.K "list" (rBm en f) (tE en W mo) σ H Q := by
  obtain ⟨ρ, ss, h, rel, rs, q⟩ := t
  refine ⟨ρ, ss, h, rel, rs, ?_⟩
  unfold mBm at q
  cases e1 : mo ss h with
  | stuck => simp only [e1, Res.bind, fin] at q
  | ex c xs h1 => simp only [e1, Res.bind, fin] at q; exact q
  | ok ov h1 =>
    simp only [e1, Res.bind] at q
    intro ρ1 H1 b p1 rel1 rb
    split at q
    · rename_i hc
      exact ⟨isLst_ty rel1 rb hc, ρ1, h1, ov, [], rel1, rb, .nil, ((show fin en W (RS en) σ ρ (lift (f ov [] h1)) Q from q).mono p1).lift⟩
    · exact q.elim
theorem MtRimp {id : String} {r r' : V → List V → Hp → VK → Prop} (h : MtR X id r) (k : ∀ x xs H Q, r' x xs H Q → r x xs H Q) : MtR X id r' := fun pins s σ H x xs v us Q I rx rs q => h pins s σ H x xs v us Q I rx rs (k _ _ _ _ q)
def opAppend (a : SV) : OA := fun as h => match a, as with
  | .ref i, [y] => match h[i]? with
    | some (.lst xs) => if xs.length < big then some (.non, h.set i (.lst (xs ++ [y]))) else none
    | _ => none
  | _, _ => none
theorem mt_appendM : MtR X "list.append" (rBm en opAppend) := by
  refine MtRimp mt_append fun x xs H Q ⟨ρ, h, a, as, rel, ra, ras, v, h', e, k⟩ => ?_
  unfold opAppend at e
  split at e
  · split at e
    · rename_i ei
      split at e
      · obtain ⟨p, vs, rfl, ep, e1, r1⟩ := rel.lst ei ra
        obtain ⟨y, rfl, ry⟩ := RSs.one ras
        exact ⟨p, vs, y, rfl, rfl, e1, by rw [big_eq, ← r1.len]; assumption, finO.put ⟨_, _, e, k⟩ rel ep ⟨_, upd_same, r1.app (.cons ry .nil)⟩ rfl⟩
      · cases e
    · cases e
  · cases e
theorem dropLast_rel {ρ : List Addr} {xs : List SV} {vs : List V} (r : RSs en ρ xs vs) : RSs en ρ xs.dropLast vs.dropLast := by
  rw [List.dropLast_eq_take, List.dropLast_eq_take, r.len]
  exact r.take _
def opPop (a : SV) : OA := fun as h => match a, as with
  | .ref i, [] => match h[i]? with
    | some (.lst xs) => match xs[xs.length - 1]? with
      | some y => some (y, h.set i (.lst xs.dropLast))
      | none => none
    | _ => none
  | .ref i, [.int 0] => match h[i]? with
    | some (.lst (y :: xs)) => some (y, h.set i (.lst xs))
    | _ => none
  | _, _ => none
theorem mt_popM : MtR X "list.pop" (rBm en opPop) := by
  refine MtRimp (MtR.or mt_pop mt_popAt) fun x xs H Q ⟨ρ, h, a, as, rel, ra, ras, v, h', e, k⟩ => ?_
  unfold opPop at e
  split at e
  · split at e
    · rename_i ei
      split at e
      · rename_i ey
        obtain ⟨p, vs, rfl, ep, e1, r1⟩ := rel.lst ei ra
        cases ras
        obtain ⟨w, ew, rw'⟩ := r1.get ey
        rw [r1.len] at ew
        refine .inl ⟨p, vs, w, rfl, rfl, e1, ew, finO.put ⟨_, _, e, k⟩ rel ep ⟨_, upd_same, dropLast_rel r1⟩ rw'⟩
      · cases e
    · cases e
  · split at e
    · rename_i ei
      obtain ⟨p, vs, rfl, ep, e1, r1⟩ := rel.lst ei ra
      obtain ⟨z, rfl, rz⟩ := RSs.one ras
      cases rz
      cases r1 with
      | cons r0 rt =>
        refine .inr ⟨p, _, 0, 0, _, rfl, rfl, e1, by decide, by decide, ?_, rfl, finO.put ⟨_, _, e, k⟩ rel ep ⟨_, upd_same, rt⟩ r0⟩
        rw [seqIndex_of (by decide) (by rw [List.length_cons]; omega)]
        rfl
    · cases e
  · cases e
/-- the first place of y -/
def findS (y : SV) : List SV → Option Nat
  | [] => none
  | x :: xs => if eqS x y = true then some 0 else (findS y xs).map (· + 1)
theorem findS_spec {ρ : List Addr} {y : SV} {u : V} (ry : RS en ρ y u) (fy : flatS y = true) : ∀ {xs : List SV} {vs : List V} {j : Nat}, RSs en ρ xs vs → xs.all flatS = true → findS y xs = some j →
    ∃ z, vs[j]? = some z ∧ eqV z u = true ∧ ∀ (m : Nat) (z' : V), m < j → vs[m]? = some z' → eqV z' u = false
  | [], _, _, _, _, e => by cases e
  | x :: xs, _, j, .cons r t, f, e => by
    rw [List.all_cons, Bool.and_eq_true] at f
    unfold findS at e
    have q := eqS_rel r ry f.1 fy
    by_cases hx : eqS x y = true
    · rw [if_pos hx] at e
      cases e
      exact ⟨_, rfl, by rw [q]; exact hx, fun m z' hm => by omega⟩
    · rw [if_neg hx] at e
      cases ej : findS y xs with
      | none => rw [ej] at e; cases e
      | some i =>
        rw [ej] at e
        cases e
        obtain ⟨z, h1, h2, h3⟩ := findS_spec ry fy t f.2 ej
        refine ⟨z, by simpa using h1, h2, fun m z' hm hz => ?_⟩
        cases m with
        | zero => simp at hz; subst hz; rw [q]; simpa using hx
        | succ m =>
          have hm' : m + 1 < i + 1 := hm
          exact h3 m z' (by omega) (by simpa using hz)
def opIndex (a : SV) : OA := fun as h => match a, as with
  | .ref i, [y] => match h[i]? with
    | some (.lst xs) => if (flatS y && xs.all flatS) = true then match findS y xs with
      | some j => some (.int (j : Nat), h)
      | none => none
      else none
    | _ => none
  | _, _ => none
theorem mt_indexM : MtR X "list.index" (rBm en opIndex) := by
  refine MtRimp mt_index fun x xs H Q ⟨ρ, h, a, as, rel, ra, ras, v, h', e, k⟩ => ?_
  unfold opIndex at e
  split at e
  · split at e
    · rename_i ei
      split at e
      · rename_i hf
        split at e
        · rename_i ej
          obtain ⟨p, vs, rfl, ep, e1, r1⟩ := rel.lst ei ra
          obtain ⟨y, rfl, ry⟩ := RSs.one ras
          have z := Bool.and_eq_true_iff.mp hf
          obtain ⟨w, h1, h2, h3⟩ := findS_spec ry z.1 r1 z.2 ej
          exact ⟨p, vs, y, _, w, rfl, rfl, SqL.of e1, flatS_rel ry z.1, flatS_all r1 z.2, h1, h2, h3, finO.here ⟨_, _, e, k⟩ rel rfl⟩
        · cases e
      · cases e
    · cases e
  · cases e
theorem PE.append (ho : PE X o (tE en W mo)) (ha : PA X [e] (tA en W ma)) (hbase : attributeBase o "append" X.env (eval o X.env) = eval o X.env := by rfl)
    (hfew : ((backTo cpos (starEach [e] X.env)).all (fun x => !x.1) && (backToKw cpos (keywordEach [] X.env)).all (fun x => x.1.isSome) && decide ([e].length + ([] : List Keyword).length + (if ([] : List Keyword).isEmpty then 0 else 1) < 30)) = true := by rfl)
    (hline : (apos.endLine == cpos.line) = true := by rfl) (hs : starEach [e] X.env = (false, eval e X.env) :: starEach [] X.env := by rfl) (hplain : (backTo cpos (starEach [] X.env)).any (·.1) = false := by rfl) :
    PE X (.Call (.Attribute o "append" apos) [e] [] cpos) (tE en W (mBm opAppend mo ma)) :=
  PEimp (pe_bm PySem.F.plainAttrs_list PySem.F.slot_list_append PySem.F.type_list_append mt_appendM ho ha hbase hfew hline hs hplain) fun σ H Q t => tBmM σ H Q t
theorem PE.pop1 (ho : PE X o (tE en W mo)) (ha : PA X [e] (tA en W ma)) (hbase : attributeBase o "pop" X.env (eval o X.env) = eval o X.env := by rfl)
    (hfew : ((backTo cpos (starEach [e] X.env)).all (fun x => !x.1) && (backToKw cpos (keywordEach [] X.env)).all (fun x => x.1.isSome) && decide ([e].length + ([] : List Keyword).length + (if ([] : List Keyword).isEmpty then 0 else 1) < 30)) = true := by rfl)
    (hline : (apos.endLine == cpos.line) = true := by rfl) (hs : starEach [e] X.env = (false, eval e X.env) :: starEach [] X.env := by rfl) (hplain : (backTo cpos (starEach [] X.env)).any (·.1) = false := by rfl) :
    PE X (.Call (.Attribute o "pop" apos) [e] [] cpos) (tE en W (mBm opPop mo ma)) :=
  PEimp (pe_bm PySem.F.plainAttrs_list PySem.F.slot_list_pop PySem.F.type_list_pop mt_popM ho ha hbase hfew hline hs hplain) fun σ H Q t => tBmM σ H Q t
theorem PE.pop0 (ho : PE X o (tE en W mo)) (hbase : attributeBase o "pop" X.env (eval o X.env) = eval o X.env := by rfl) (hline : (apos.endLine == cpos.line) = true := by rfl) :
    PE X (.Call (.Attribute o "pop" apos) [] [] cpos) (tE en W (mBm opPop mo aNil)) :=
  PEimp (pe_bm0 PySem.F.plainAttrs_list PySem.F.slot_list_pop PySem.F.type_list_pop mt_popM ho hbase hline) fun σ H Q t => tBmM0 σ H Q t
theorem PE.index (ho : PE X o (tE en W mo)) (ha : PA X [e] (tA en W ma)) (hbase : attributeBase o "index" X.env (eval o X.env) = eval o X.env := by rfl)
    (hfew : ((backTo cpos (starEach [e] X.env)).all (fun x => !x.1) && (backToKw cpos (keywordEach [] X.env)).all (fun x => x.1.isSome) && decide ([e].length + ([] : List Keyword).length + (if ([] : List Keyword).isEmpty then 0 else 1) < 30)) = true := by rfl)
    (hline : (apos.endLine == cpos.line) = true := by rfl) (hs : starEach [e] X.env = (false, eval e X.env) :: starEach [] X.env := by rfl) (hplain : (backTo cpos (starEach [] X.env)).any (·.1) = false := by rfl) :
    PE X (.Call (.Attribute o "index" apos) [e] [] cpos) (tE en W (mBm opIndex mo ma)) :=
  PEimp (pe_bm PySem.F.plainAttrs_list PySem.F.slot_list_index PySem.F.type_list_index mt_indexM ho ha hbase hfew hline hs hplain) fun σ H Q t => tBmM σ H Q t
/-! ### n.bit_length() -/
def opBits : O1 := fun a h => match a with
  | .int i => some (.int (Builtin.Int.intBits i : Nat), h)
  | _ => none
theorem PE.bits (ho : PE X o (tE en W mo)) (hbase : attributeBase o "bit_length" X.env (eval o X.env) = eval o X.env := by rfl) (hline : (apos.endLine == pos.line) = true := by rfl) : PE X (.Call (.Attribute o "bit_length" apos) [] [] pos) (tE en W (mO1 opBits mo)) :=
  PEimp (pe_bits ho hbase hline) fun σ H Q t => tM.bind2 (R1 := RS en) (R2 := RS en) (k := fun a (ss : SS) h => lift (opBits a h)) t fun ρ ss h a x H1 rel rs ra f => by
    obtain ⟨v, h', e, k⟩ := f.lift
    unfold opBits at e
    split at e
    · cases ra; exact ⟨_, rfl, finO.here ⟨_, _, e, k⟩ rel rfl⟩
    · cases e
/-! ### sum, all of a list -/
def intsOf : List SV → Option (List Int)
  | [] => some []
  | x :: xs => match x with
    | .int i => match intsOf xs with
      | some is => some (i :: is)
      | none => none
    | _ => none
theorem intsOf_rel {ρ : List Addr} : ∀ {xs : List SV} {vs : List V} {is : List Int}, intsOf xs = some is → RSs en ρ xs vs → vs = is.map V.int
  | [], _, _, e, r => by cases r; cases e; rfl
  | x :: xs, _, _, e, r => by
    cases r with
    | cons r t =>
      unfold intsOf at e
      split at e
      · split at e
        · rename_i ei
          cases e
          cases r
          rw [List.map_cons, intsOf_rel ei t]
        · cases e
      · cases e
def opSum : O1 := fun a h => match a with
  | .ref i => match h[i]? with
    | some (.lst xs) => match intsOf xs with
      | some is => some (.int is.sum, h)
      | none => none
    | _ => none
  | _ => none
theorem call_sumM (hc : X.calm = true) : CallR X (.builtin "sum") (rOA en (un1 opSum)) := by
  refine CallRimp (cr_sum hc) fun xs H Q q => ?_
  obtain ⟨ρ, h, a, x, rfl, rel, ra, v, h', e, k⟩ := un1_of q
  unfold opSum at e
  split at e
  · split at e
    · rename_i ei
      split at e
      · rename_i es
        obtain ⟨p, vs, rfl, ep, e1, r1⟩ := rel.lst ei ra
        obtain rfl := intsOf_rel es r1
        exact ⟨p, _, rfl, SqL.of e1, finO.here ⟨_, _, e, k⟩ rel rfl⟩
      · cases e
    · cases e
  · cases e
def boolsOf : List SV → Option (List Bool)
  | [] => some []
  | x :: xs => match x with
    | .bl i => match boolsOf xs with
      | some is => some (i :: is)
      | none => none
    | _ => none
theorem boolsOf_rel {ρ : List Addr} : ∀ {xs : List SV} {vs : List V} {is : List Bool}, boolsOf xs = some is → RSs en ρ xs vs → vs = is.map V.bl
  | [], _, _, e, r => by cases r; cases e; rfl
  | x :: xs, _, _, e, r => by
    cases r with
    | cons r t =>
      unfold boolsOf at e
      split at e
      · split at e
        · rename_i ei
          cases e
          cases r
          rw [List.map_cons, boolsOf_rel ei t]
        · cases e
      · cases e
def opAll : O1 := fun a h => match a with
  | .ref i => match h[i]? with
    | some (.lst xs) => match boolsOf xs with
      | some bs => some (.bl (bs.all id), h)
      | none => none
    | _ => none
  | _ => none
theorem call_allM (hc : X.calm = true) : CallR X (.builtin "all") (rOA en (un1 opAll)) := by
  refine CallRimp (cr_all hc) fun xs H Q q => ?_
  obtain ⟨ρ, h, a, x, rfl, rel, ra, v, h', e, k⟩ := un1_of q
  unfold opAll at e
  split at e
  · split at e
    · rename_i ei
      split at e
      · rename_i es
        obtain ⟨p, vs, rfl, ep, e1, r1⟩ := rel.lst ei ra
        obtain rfl := boolsOf_rel es r1
        exact ⟨p, _, rfl, SqL.of e1, finO.here ⟨_, _, e, k⟩ rel rfl⟩
      · cases e
    · cases e
  · cases e
end
end Fw
namespace Fw
open PySem PySem.Spec L2
def wipeS (ss : SS) : List Nat → SS
  | [] => ss
  | i :: is => (wipeS ss is).set i none
theorem wipe_rel {en : En} {ρ : List Addr} {ss : SS} {σ : L2.St} (r : RSl en ρ ss σ) : ∀ is : List Nat, RSl en ρ (wipeS ss is) (wipe σ is)
  | [] => r
  | i :: is => (wipe_rel r is).clear i
/-- the turns of a list comprehension, D its list's number -/
def lcM (g : GM) (wk : Wk) (t : BM) (e : EM) (is : List Nat) (D : Nat) (ss : SS) : Nat → Nat → SH → Res SV
  | 0, _ => fun _ => .stuck
  | n + 1, i => fun h => match wk h i with
    | none => .stuck
    | some none => .ok (.ref D) h
    | some (some (x, h1)) => match g x (wipeS ss is) h1 with
      | none => .stuck
      | some ss1 => match t ss1 h1 with
        | .ok b h2 => if b = true then (match e ss1 h2 with
          | .ok y h3 => match h3[D]? with
            | some (.lst acc) => if acc.length < big then lcM g wk t e is D ss n (i + 1) (h3.set D (.lst (acc ++ [y]))) else .stuck
            | _ => .stuck
          | _ => .stuck) else lcM g wk t e is D ss n (i + 1) h2
        | _ => .stuck
def mLc (m : IM) (g : GM) (t : BM) (e : EM) (is : List Nat) : EM := fun ss h => match m ss h with
  | .stuck => .stuck
  | .ex c xs h1 => .ex c xs h1
  | .ok wk h1 => lcM g wk t e is h1.length ss many 0 (h1 ++ [.lst []])
def bYes : BM := fun _ h => .ok true h
abbrev W0 : WX := fun _ _ _ _ => False
theorem wipe_get {σ : L2.St} {i : Nat} : ∀ {vs : List Nat}, i ∉ vs → (wipe σ vs)[i]? = σ[i]?
  | [], _ => rfl
  | v :: vs, h => by
    unfold wipe
    have : v ≠ i := fun e => h (by rw [e]; exact List.mem_cons_self)
    rw [List.getElem?_set_ne this]
    exact wipe_get fun m => h (List.mem_cons_of_mem _ m)
theorem wipe_in {σ : L2.St} {i : Nat} (hi : i < σ.length) : ∀ {vs : List Nat}, i ∈ vs → (wipe σ vs)[i]? = some none
  | v :: vs, h => by
    unfold wipe
    by_cases e : v = i
    · subst e
      rw [List.getElem?_set_self (by rw [wipe_length]; exact hi)]
    · rw [List.getElem?_set_ne e]
      rcases List.mem_cons.mp h with z | z
      · exact absurd z.symm e
      · exact wipe_in hi z
theorem wipe_same {σ σ2 : L2.St} {vs : List Nat} (o : SameOut vs (wipe σ vs) σ2) : wipe σ2 vs = wipe σ vs := by
  have hl : σ2.length = σ.length := by rw [o.len, wipe_length]
  apply List.ext_getElem?
  intro i
  by_cases hi : i ∈ vs
  · by_cases hlt : i < σ.length
    · rw [wipe_in (by rw [hl]; exact hlt) hi, wipe_in hlt hi]
    · rw [List.getElem?_eq_none (by rw [wipe_length, hl]; omega), List.getElem?_eq_none (by rw [wipe_length]; omega)]
  · rw [wipe_get hi, o.out i hi]
section
variable {X : Cx} {en : En} {W : WX} {pos : Pos}
theorem Good.blk {k : Nat} (G : Good en X W k) (s : Shared) (H : Hp) (sc : Scope) (ce : Env) (fp : List Addr) : Good en (X.blk s H sc ce fp) W0 k :=
  ⟨takes0, PassesOwn.never, G.room, G.gd, G.sm, G.calm, G.K⟩
theorem PTs.nil : PTs X [] (tT en W bYes) := ⟨fun pins s σ H Q I ⟨ρ, ss, h, rel, rs, f⟩ => pts_nil.run pins s σ H Q I (f ρ H true (Pre.refl ρ) rel rfl)⟩
theorem PTs.one {c : Expr} {t : BM} (h : PT X c (tT en W t)) : PTs X [c] (tT en W t) := pts_one h
/-- the reading of a comprehension from its meaning -/
theorem tLcM {m : IM} {g : GM} {t : BM} {e : EM} {is : List Nat} (σ : L2.St) (H : Hp) (Q : VK) (q : tE en W (mLc m g t e is) σ H Q) : tLc (tI en W m) (tG en is g) (tT en W0 t) (tE en W0 e) is σ H Q := by
  obtain ⟨ρ, ss, h, rel, rs, f⟩ := q
  refine ⟨ρ, ss, h, rel, rs, ?_⟩
  unfold mLc at f
  cases e1 : m ss h with
  | stuck => simp only [e1, fin] at f
  | ex c xs h1 => simp only [e1, fin] at f ⊢; exact f
  | ok wk h1 =>
    simp only [e1] at f ⊢
    intro ρ1 H1 J p1 rel1 ok D nD
    have relD : Rel en (ρ1 ++ [D]) (h1 ++ [.lst []]) (upd H1 D (.lst [])) := rel1.push nD ⟨[], upd_same, .nil⟩
    have eD : (ρ1 ++ [D])[h1.length]? = some D := by rw [← rel1.len, List.getElem?_append_right (Nat.le_refl _)]; simp
    refine ⟨fun i n H2 => ∃ ρ2 h2, Pre (ρ1 ++ [D]) ρ2 ∧ Rel en ρ2 h2 H2 ∧ fin en W (RS en) σ ρ2 (lcM g wk t e is h1.length ss n i h2) Q, ⟨many, ρ1 ++ [D], h1 ++ [.lst []], Pre.refl _, relD, f.mono (p1.trans (Pre.one ρ1 D))⟩, ?_⟩
    rintro i n H2 ⟨ρ2, h2, p2, rel2, f2⟩
    have pr : Pre ρ1 ρ2 := (Pre.one ρ1 D).trans p2
    cases n with
    | zero => exact f2.elim
    | succ n =>
      unfold lcM at f2
      obtain ⟨k1, k2⟩ := ok ρ2 h2 H2 i pr rel2
      cases e2 : wk h2 i with
      | none => simp only [e2, fin] at f2
      | some o =>
        cases o with
        | none =>
          simp only [e2] at f2
          exact .inl ⟨k1 e2, f2 ρ2 H2 _ (Pre.refl ρ2) rel2 ⟨D, p2.get eD, rfl⟩⟩
        | some qq =>
          obtain ⟨x, h3⟩ := qq
          simp only [e2] at f2
          obtain ⟨go, yl⟩ := k2 x h3 e2
          refine .inr ⟨go, fun H' => ∃ ρ4 h4, Pre (ρ1 ++ [D]) ρ4 ∧ Rel en ρ4 h4 H' ∧ fin en W (RS en) σ ρ4 (lcM g wk t e is h1.length ss n (i + 1) h4) Q, fun H' z => ⟨n, Nat.lt_succ_self n, z⟩, fun v H3 yv => ?_⟩
          obtain ⟨ρ3, p3, rel3, rv⟩ := yl v H3 yv
          have rsw : RSl en ρ3 (wipeS ss is) (wipe σ is) := wipe_rel (rs.mono (p1.trans (pr.trans p3))) is
          cases e3 : g x (wipeS ss is) h3 with
          | none => simp only [e3, fin] at f2
          | some ss1 =>
            simp only [e3] at f2
            refine ⟨ρ3, _, h3, x, ss1, rel3, rsw, rv, e3, fun σ2 rs2 so => ⟨wipe_same so, ρ3, ss1, h3, rel3, rs2, ?_⟩⟩
            cases e4 : t ss1 h3 with
            | stuck => simp only [e4, fin] at f2
            | ex c xs h4 => simp only [e4, fin] at f2
            | ok b h4 =>
              simp only [e4] at f2
              intro ρ4 H4 b' p4 rel4 rb
              cases rb
              cases b with
              | false =>
                have f3 : fin en W (RS en) σ ρ2 (lcM g wk t e is h1.length ss n (i + 1) h4) Q := f2
                exact ⟨ρ4, h4, (p2.trans p3).trans p4, rel4, f3.mono (p3.trans p4)⟩
              | true =>
                rw [if_pos rfl] at f2
                refine ⟨ρ4, ss1, h4, rel4, rs2.mono p4, ?_⟩
                cases e5 : e ss1 h4 with
                | stuck => simp only [e5, fin] at f2
                | ex c xs h5 => simp only [e5, fin] at f2
                | ok y h5 =>
                  simp only [e5] at f2
                  intro ρ5 H5 u p5 rel5 ru
                  cases e6 : h5[h1.length]? with
                  | none => simp only [e6, fin] at f2
                  | some o6 =>
                    cases o6 with
                    | lst acc =>
                      simp only [e6] at f2
                      split at f2
                      · rename_i hz
                        have p25 : Pre (ρ1 ++ [D]) ρ5 := ((p2.trans p3).trans p4).trans p5
                        obtain ⟨D', vs, e0, ep, e7, r7⟩ := rel5.lst e6 ⟨D, p25.get eD, rfl⟩
                        cases e0
                        exact ⟨vs, e7, by rw [big_eq, ← r7.len]; exact hz, ρ5, _, p25, rel5.put (o := .lst (acc ++ [y])) (p25.get eD) ⟨_, upd_same, r7.app (.cons ru .nil)⟩, f2.mono ((p3.trans p4).trans p5)⟩
                      · exact f2.elim
                    | _ => simp only [e6, fin] at f2
theorem PE.lc {elt tg iter : Expr} {ifs : List Expr} {scope : Scope} {own : List (Str × Nat)} {m : IM} {g : GM} {t : BM} {e : EM} (hc : X.calm = true) (hN : X.N.Nodup) (hi : PI X tg iter (tI en W m)) (ok : BlkOk X.N X.env.scope scope own)
    (hg : ∀ (s : Shared) (H : Hp) (C : Addr) (cl : List (Str × Addr)) (fp : List Addr), PG (X.blk s H scope (compEnvC scope cl C X.env) fp) tg (tG en (own.map (·.2)) g)) (ht : ∀ (s : Shared) (H : Hp) (C : Addr) (cl : List (Str × Addr)) (fp : List Addr), PTs (X.blk s H scope (compEnvC scope cl C X.env) fp) ifs (tT en W0 t))
    (he : ∀ (s : Shared) (H : Hp) (C : Addr) (cl : List (Str × Addr)) (fp : List Addr), PE (X.blk s H scope (compEnvC scope cl C X.env) fp) elt (tE en W0 e)) (hs : ∀ x, foldedSetIterable iter X.env x = pure x := by intro _; rfl) :
    PE X (.ListComp elt [⟨tg, iter, ifs, 0⟩] scope pos) (tE en W (mLc m g t e (own.map (·.2)))) :=
  PEimp (pe_lc hc hN hi ok hg ht he hs) fun σ H Q q => tLcM σ H Q q
theorem PS.setLc {i : Nat} {y : Str} {py : Pos} {elt tg iter : Expr} {ifs : List Expr} {scope : Scope} {own : List (Str × Nat)} {spos : Pos} {m : IM} {g : GM} {t : BM} {e : EM} (hc : X.calm = true) (hN : X.N.Nodup) (hy : X.N[i]? = some y) (hyl : X.env.scope.names.lookup y = some .local)
    (hsw : swapsWith (.ListComp elt [⟨tg, iter, ifs, 0⟩] scope pos) (some (.Name y py)) spos.line X.env = pure true) (hi : PI X tg iter (tI en W m)) (ok : BlkOk X.N X.env.scope scope own)
    (hg : ∀ (s : Shared) (H : Hp) (C : Addr) (cl : List (Str × Addr)) (fp : List Addr), PG (X.blk s H scope (compEnvC scope cl C X.env) fp) tg (tG en (own.map (·.2)) g)) (ht : ∀ (s : Shared) (H : Hp) (C : Addr) (cl : List (Str × Addr)) (fp : List Addr), PTs (X.blk s H scope (compEnvC scope cl C X.env) fp) ifs (tT en W0 t))
    (he : ∀ (s : Shared) (H : Hp) (C : Addr) (cl : List (Str × Addr)) (fp : List Addr), PE (X.blk s H scope (compEnvC scope cl C X.env) fp) elt (tE en W0 e)) (hs : ∀ x, foldedSetIterable iter X.env x = pure x := by intro _; rfl) :
    PS X (.Assign [.Name y py] (.ListComp elt [⟨tg, iter, ifs, 0⟩] scope pos) spos) (tS en W (mSet i (mLc m g t e (own.map (·.2))))) :=
  PSimp (ps_setLc hc hN hy hyl hsw hi ok hg ht he hs) fun D σ H q => tLcM σ H _ (tS.bind (R1 := RS en) (k := fun ss v h1 => .nx (ss.set i (some v)) h1) q fun ρ ss h a b H1 rel rs r f => f ρ _ H1 (Pre.refl ρ) rel (rs.set r i))
end
end Fw
namespace Er
open PySem PySem.W PySem.Calls PyProof.Rows PySem.HandSPX
/-! an own error: class X(Base): def __init__(self, f=None): super().__init__('..'); self.f = f -/
def eA (f : Str) (p1 p2 p3 : Pos) (k : Nat) : Arguments := { posonlyargs := [], args := [{ arg := "self", annotation := none, pos := p1 }, { arg := f, annotation := none, pos := p2 }], vararg := none, kwonlyargs := [], kw_defaults := [], kwarg := none, defaults := [.Constant .none k p3] }
def eB (f txt : Str) (q1 q2 q3 q4 q5 q6 q7 q8 q9 q10 : Pos) (k : Nat) : List Stmt :=
  [.Expr (.Call (.Attribute (.Call (.Name "super" q1) [] [] q2) "__init__" q3) [.Constant (.str txt) k q4] [] q5) q6, .Assign [.Attribute (.Name "self" q7) f q8] (.Name f q9) q10]
def eS (f : Str) : Scope := { kind := .function, names := [(PySem.Str.ofString "self", .local), (f, .local), (PySem.Str.ofString "__class__", .free), (PySem.Str.ofString "super", .globalImplicit)], isGenerator := false, isCoroutine := false, more := [] }
/-- what the written part says of the error class at C, its __init__ at fI, its cell, its code -/
structure ErrTxt (P : Program) (K : Frag) (f : Str) (C fI : Addr) : Prop where
  cls : ∃ nm q N bs bm sn sub ab col dd k0 k1 k2 k3 k5, K.lookup C = some (excClassObj nm q C N bs bm true sn sub ab col dd k0 k1 k2 k3 k5 "ValueError.__new__") ∧ refsVE bm = true ∧ alongIn K "__init__" bm = some (some (.builtin "ValueError.__init__"))
  sa : findIn K (.ref C) "__setattr__" = some (some (.builtin "object.__setattr__"))
  ga : findIn K (.ref C) "__getattribute__" = some (some (.builtin "BaseException.__getattribute__"))
  gg : findIn K (.ref C) "__getattr__" = some none
  noN : findIn K (.ref C) f = some none
  iC : findIn K (.ref C) "__init__" = some (some (.ref fI))
  tC : typeIn K (.ref fI) = some (.type "function")
  kC : keepIn K (.ref C) = true
  exC : subIn K (.ref C) (.type "BaseException") = some true
  veC : subIn K (.ref C) (.type "ValueError") = some true
  tyC : typeIn K (.ref C) = some (.type "type")
  hdC : hasDictIn K C = true
  mrC : mroIn K C (.ref C) = some true
  opq : nsIn K cStatics "thirdparty.any" = some none
  fn : ∃ (qual txt : Str) (oc ccl cl : Value) (od cdd cld : Option Addr) (kV doc pm : Value) (dv : Value) (an : Option Addr) (cda cc : Addr) (ct : Value) (osl ccs csl : Array (Option Value)) (vs : Array Value) (file : Str) (tf : Tok) (p1 p2 p3 q1 q2 q3 q4 q5 q6 q7 q8 q9 q10 : Pos) (k k' : Nat),
    K.lookup fI = some ⟨oc, od, .func (fnX "__init__" qual (eA f p1 p2 p3 k) (eB f txt q1 q2 q3 q4 q5 q6 q7 q8 q9 q10 k') (eS f) [("__class__", cc)] dv kV doc pm an (.ref cda) ct), osl⟩ ∧ codeIn K (.ref cda) qual = true ∧
    K.lookup cda = some ⟨ccl, cdd, .fields vs, ccs⟩ ∧ vs[2]? = some (.str file tf) ∧ ((P.main.file : Str) == file) = true ∧ K.lookup cc = some ⟨cl, cld, .cell (some (.ref C)), csl⟩ ∧ txt.length ≤ sizeLine ∧ (q3.endLine == q5.line) = true
  b0 : ∀ oc od fd osl, K.lookup fI = some ⟨oc, od, .func fd, osl⟩ → L2.Binds K fd ["self", f] [] ∧ L2.Binds K fd ["self", f] [.none]
  bK : ∀ oc od fd osl, K.lookup fI = some ⟨oc, od, .func fd, osl⟩ → ∀ (s : Shared) (x v : Value), K.In s.heap → BindsTo s fd ⟨[x], [(f, v)]⟩ [("self", x), (f, v)]
  htop : (P.main.scope.names.lookup ("super" : Str)).isSome = false
  fgood : (f == ("self" : Str)) = false ∧ (f == ("__class__" : Str)) = false ∧ (f == ("super" : Str)) = false ∧ (f == ("__debug__" : Str)) = false
/-- what ValueError.__init__ bound to a fresh error does -/
theorem call_mw {prog : Program} {w : World} {A : Around} {E : Value → Shared → Prop} {h : Heap} {g : Array GenState} {d : Drawn} {t : Nat} {os : OsState} {nm q : Str} {C N : Addr} {bs bm : List Value} {hdct : Bool} {sn : List Str} {sub : List Value} {ab : Bool} {col : Option Bool} {dd : Option Addr} {k0 k1 k2 k3 k5 : Option Value}
    {u e t0 : Addr} {rest : List Value} {Q : Value → Shared → Prop}
    (hC : h.get? C = some (excClassObj nm q C N bs bm hdct sn sub ab col dd k0 k1 k2 k3 k5 "ValueError.__new__")) (he : h.get? e = some (excO C t0)) (hu : h.get? u = some (kxs_mw "ValueError.__init__" e)) (hrest : rest.length ≤ sizeLine)
    (hq : ∀ h' t1, (∀ b o, b ≠ e → h.get? b = some o → h'.get? b = some o) → h'.get? e = some (excO C t1) → Q .none ⟨h', g, d, t, os⟩) :
    wpAny (model prog w) A (call (.ref u) rest) Q E ⟨h, g, d, t, os⟩ := by
  refine wpAny_call (codeAny_of_tree ?_)
  show wpAny _ A.in1 (callAny (.ref u) ⟨rest, []⟩) _ _ _
  simp only [callAny]
  refine wpAny_bind (wpAny_load hu ?_)
  have e1 : (Value.type "method-wrapper" == Value.type "method" || Value.type "method-wrapper" == Value.type "builtin_function_or_method" || Value.type "method-wrapper" == Value.type "method-wrapper") = true := by decide
  simp only [kxs_mw, e1, if_true]
  refine KFB.if_so (by decide) ?_
  refine wpAny_bind (check_bound_init PySem.F.excBase_ValueError.toExcCallFacts hC he rfl ?_)
  refine wpAny_bind (wpAny_pure (wpAny_pure ?_))
  refine ⟨Code.quiet_builtin _ (by decide +kernel), codeAny_builtin PySem.F.excBase_ValueError.initEntry ?_⟩
  rw [Around.under_plainId PySem.F.excBase_ValueError.init.plain _]
  wp_walk
  refine hq _ h.objs.size (fun b o hb ho => ?_) ?_
  · rw [Heap.get?_update_other _ _ (Ne.symm hb)]
    exact Heap.get?_push_of_some _ ho
  · rw [Heap.get?_update_self _ (Heap.get?_push_of_some _ he) rfl]
    rfl
/-- a call of an attribute of what is no name: the place it stands at -/
theorem mcall {o : Expr} {name : Str} {q3 q5 : Pos} {a : Expr} {env : Env} (hpos : (q3.endLine == q5.line) = true) (hf : methodCallForm 1 (backTo q5 (starEach [a] env)) [] = true) :
    eval (.Call (.Attribute o name q3) [a] [] q5) env = (do
      let ov ← attributeBase o name env (eval o env)
      standAt q3.atName
      let (f, first) ← holding [ov] (getMethod ov name (do return (← importBound o env).getD true))
      callWith q5 f first (backTo q5 (starEach [a] env)) []) := by
  have e : methodCallPos (methodCallForm 1 (backTo q5 (starEach [a] env)) []) o env q3 q5 = pure q5 := by
    unfold methodCallPos
    rw [hpos, Bool.or_true]; rfl
  have e2 : ∀ ov, calleeOf (methodCallForm 1 (backTo q5 (starEach [a] env)) []) o env ov name = getMethod ov name (do return (← importBound o env).getD true) := by
    intro ov
    unfold calleeOf
    rw [hf]; rfl
  show (do
    let ov ← attributeBase o name env (eval o env)
    standAt q3.atName
    methodCall o name q3 q5 env ov 1 (backTo q5 (starEach [a] env)) []) = _
  unfold methodCall
  rw [e]
  simp only [e2, pure_bind]
/-- what __init__ leaves of a fresh error at x -/
structure InitEnd (h h' : Heap) (x C dx : Addr) (f : Str) (v : Value) : Prop where
  keep : ∀ b o, b ≠ x → h.get? b = some o → h'.get? b = some o
  obj : ∃ t1, h'.get? x = some { cls := .ref C, dict := some dx, data := .fields #[.ref t1, .none, .none, .none, .bool false, .none] }
  dbig : h.objs.size ≤ dx
  dne : dx ≠ x
  ns : h'.Ns1 dx (fun y => if y = f then some v else none)
theorem lookup_eS (f : Str) (g : (f == ("self" : Str)) = false ∧ (f == ("__class__" : Str)) = false ∧ (f == ("super" : Str)) = false ∧ (f == ("__debug__" : Str)) = false) : (eS f).names.lookup f = some .local := by
  show List.lookup f [(PySem.Str.ofString "self", NameKind.local), (f, .local), (PySem.Str.ofString "__class__", .free), (PySem.Str.ofString "super", .globalImplicit)] = _
  rw [List.lookup_cons, show (f == PySem.Str.ofString "self") = false from g.1, List.lookup_cons, show (f == f) = true from by simp]
theorem neS {a b : Str} (h : (a == b) = false) : (b == a) = false := by
  have : a ≠ b := by simpa using h
  simpa using Ne.symm this
theorem lookup_super (f : Str) (g : (f == ("self" : Str)) = false ∧ (f == ("__class__" : Str)) = false ∧ (f == ("super" : Str)) = false ∧ (f == ("__debug__" : Str)) = false) : (eS f).names.lookup ("super" : Str) = some .globalImplicit := by
  show List.lookup (PySem.Str.ofString "super") [(PySem.Str.ofString "self", NameKind.local), (f, .local), (PySem.Str.ofString "__class__", .free), (PySem.Str.ofString "super", .globalImplicit)] = _
  rw [List.lookup_cons, show (PySem.Str.ofString "super" == PySem.Str.ofString "self") = false from by decide, List.lookup_cons, show (PySem.Str.ofString "super" == f) = false from neS g.2.2.1]
  rfl
theorem lookup_class (f : Str) (g : (f == ("self" : Str)) = false ∧ (f == ("__class__" : Str)) = false ∧ (f == ("super" : Str)) = false ∧ (f == ("__debug__" : Str)) = false) : (eS f).names.lookup ("__class__" : Str) = some .free := by
  show List.lookup (PySem.Str.ofString "__class__") [(PySem.Str.ofString "self", NameKind.local), (f, .local), (PySem.Str.ofString "__class__", .free), (PySem.Str.ofString "super", .globalImplicit)] = _
  rw [List.lookup_cons, show (PySem.Str.ofString "__class__" == PySem.Str.ofString "self") = false from by decide, List.lookup_cons, show (PySem.Str.ofString "__class__" == f) = false from neS g.2.1]
  rfl
theorem _root_.PySem.LowY.one_size (v : Value) : [v].length ≤ sizeLine := by
  rw [sizeLine_eq]
  exact (by decide : 1 ≤ 16777216)
section
variable {prog : Program} {w : World} {A : Around} {R : Result → Shared → Prop} {s : Shared} {K : Frag} {C fI : Addr} {f : Str} {mg mb : Str → Option Value}
theorem err_init (T : ErrTxt prog K f C fI) {x t0 : Addr} {v : Value} (X : K.In s.heap) (hG : s.heap.Ns mainGlobals mg) (hB : s.heap.Ns builtinsNs mb) (hs1 : mg "super" = none) (hs2 : mb "super" = some (.type "super")) (hlim : s.heap.NoLimit) (hx : s.heap.get? x = some (excO C t0)) (hnx : K.lookup x = none) (hroom : A.depth < recursionLimit)
    {args : Args} (hbd : ∀ oc od fd osl, K.lookup fI = some ⟨oc, od, .func fd, osl⟩ → BindsTo s fd args [("self", .ref x), (f, v)])
    (hq : ∀ h' tk dx, InitEnd s.heap h' x C dx f v → R (.ok (.ret .none)) { s with heap := h', toks := tk }) :
    codeAny (model prog w) A (.call (.ref fI) args) R s := by
  obtain ⟨qual, txt, oc, ccl, cl, od, cdd, cld, kV, doc, pm, dv, an, cda, cc, ct, osl, ccs, csl, vs, file, tf, p1, p2, p3, q1, q2, q3, q4, q5, q6, q7, q8, q9, q10, k, k', ho, hcd, hcda, hvs, hfile, hcc, htxt, hpos⟩ := T.fn
  obtain ⟨nm, q, N, bs, bm, sn, sub, ab, col, dd, k0, k1, k2, k3, k5, hC, hbm, hal⟩ := T.cls
  have g := T.fgood
  have hcl : clsIn K C = some { name := nm, bases := bs, mro := .ref C :: bm, ns := N, qualname := q, hasDict := true, slotNames := sn, subclasses := sub, abstract := ab, collection := col, hasDel := false } := by unfold clsIn; rw [hC] <;> rfl
  have lf := lookup_eS f g
  refine ks_codeAny_call_defAt (fd := fnX "__init__" qual (eA f p1 p2 p3 k) (eB f txt q1 q2 q3 q4 q5 q6 q7 q8 q9 q10 k') (eS f) [("__class__", cc)] dv kV doc pm an (.ref cda) ct) (binds := [("self", .ref x), (f, v)]) hroom (X _ _ ho) rfl hlim (codeRec_of X hcd) rfl
    (hbd _ _ _ _ ho) (fun y hy => ?_) (fun y hy => ?_) (fun h1 hns hk1 => ?_)
  · have : y ∈ [(PySem.Str.ofString "self", NameKind.local), (f, .local), (PySem.Str.ofString "__class__", .free), (PySem.Str.ofString "super", .globalImplicit)] := hy
    simp at this
    rcases this with rfl | rfl | rfl | rfl <;> simp
  · have : y = (PySem.Str.ofString "self", .ref x) ∨ y = (f, v) := by simpa using hy
    rcases this with rfl | rfl
    · rfl
    · exact lf
  · have X1 : K.In h1 := X.keeps hk1
    have hx1 := hk1 _ _ hx
    have mself : (fun y => ([(("self" : Str), Value.ref x), (f, v)] : List (Str × Value)).reverse.lookup y) ("self" : Str) = some (.ref x) := by
      show List.lookup (PySem.Str.ofString "self") [(f, v), (PySem.Str.ofString "self", .ref x)] = _
      rw [List.lookup_cons, show (PySem.Str.ofString "self" == f) = false from neS g.1]
      rfl
    have mval : (fun y => ([(("self" : Str), Value.ref x), (f, v)] : List (Str × Value)).reverse.lookup y) f = some v := by
      show List.lookup f [(f, v), (PySem.Str.ofString "self", .ref x)] = _
      rw [List.lookup_cons, show (f == f) = true from by simp]
    have I1 : InstAt h1 x (excO C t0) C none := ⟨hx1, rfl, rfl, trivial⟩
    have lk2 := lookup_super f g
    have lk3 := lookup_class f g
    obtain ⟨hp, gn, dr, tk, os⟩ := s
    refine ks_wpAt_execs_cons (ks_wpAt_Expr_any (ks_wpAt_MethodCall ?_ (mcall hpos (by rfl))))
    refine ks_wpAt_super_base (f := fI) (cc := cda) lk2 lk3 rfl rfl (X1 _ _ ho) rfl rfl rfl (X1 _ _ hcda) rfl hvs hfile T.htop ?_
    refine ks_loadName_global rfl lk2 (loadGlobal_builtin (hG.keeps hk1) hs1 (hB.keeps hk1) hs2 ⟨rfl, ?_⟩)
    refine wpAny_loadName_free (c := cc) rfl lk3 rfl ⟨_, X1 _ _ hcc, rfl⟩ ?_
    refine wpAny_loadName_local rfl rfl hns mself ?_
    refine ks_wpAny_isType_cls (X1 _ _ hC) rfl ⟨rfl, ?_⟩
    refine ks_wpAny_call_super (X1 _ _ hC) rfl hx1 rfl (fun c e => by cases e) (looks_mroIn X1 T.mrC) (fun h2 e2 k2 => ?_)
    have X2 : K.In h2 := X1.keeps k2
    have hx2 := k2 _ _ hx1
    have I2 : InstAt h2 x (excO C t0) C none := ⟨hx2, rfl, rfl, trivial⟩
    have hI2 : Looks (model prog w) h2 (isInstance (.ref x) (.type "ValueError")) true := I2.type.andThen (looks_subIn X2 T.veC)
    refine kxs_getMethod kxs_ValueError e2 (looks_opaque X2 T.opq) (l₀ := .ref C :: bm) ?_ (ESX.drop_own C bm) X2 hal hI2 (ks_ne X2 I2 hcl) (by decide) ?_
    · exact fun A Q E s kk qq => wpAny_bind ((looks_clsIn X2 hcl) A _ E s kk (wpAny_pure qq))
    · have hu : (h2.push (kxs_mw "ValueError.__init__" x)).get? h2.objs.size = some (kxs_mw "ValueError.__init__" x) := Heap.get?_push_at rfl rfl
      refine kxs_callWith (i := "ValueError.__init__") (x := x) (by rfl) (evalArgs_plain ?_)
      refine Calls.spliced_cons (Calls.Constant_str (pos := q4) (k := k') (Calls.spliced_nil ?_))
      refine ⟨hu, call_mw (h := h2.push (kxs_mw "ValueError.__init__" x)) (Heap.get?_push_of_some _ (X2 _ _ hC)) (Heap.get?_push_of_some _ hx2) hu (PySem.LowY.one_size _) ?_⟩
      intro h3 t1 k3 hx3
      show PyProof.Rows.wpAt _ _ _ (execs _ _) _ _ _
      have old : ∀ b o, b ≠ x → h1.get? b = some o → h3.get? b = some o := fun b o hb e => k3 b o hb (Heap.get?_push_of_some _ (k2 b o e))
      have X3 : K.In h3 := fun a o e => old a o (fun z => by rw [z, hnx] at e; cases e) (X1 a o e)
      have hxL : hp.objs.size ≠ x := Nat.ne_of_gt (Heap.lt_size hx)
      have hns3 := hns.at (fun o e => old _ o hxL e)
      refine wpAt_of_wpAny (wpAny_execs_cons (plainObj_wpAny_Assign_Attribute ?_ ?_))
      · refine wpAny_Name (wpAny_loadName_local rfl lf hns3 mval ?_) g.2.2.2
        refine wpAny_Name (wpAny_loadName_local rfl rfl hns3 mself ?_) (by decide)
        refine W.set_plain X3 (ox := excO C t1) (od := none) ⟨hx3, rfl, rfl, trivial⟩ T.sa ?_
        refine exc_osa X3 hx3 hcl (show refsVE (.ref C :: bm) = true from hbm) rfl T.noN (fun h₃ tk₃ dx k₃ dn dne hx₃ hn₃ => ?_)
        show wpAny _ _ (execs _ _) _ _ _
        refine wpAny_execs_nil (hq h₃ tk₃ dx ⟨fun b o hb e => k₃ b o hb (old b o hb (hk1 b o e)), ⟨t1, hx₃⟩, Nat.le_of_lt (Nat.lt_of_lt_of_le hns3.lt dn), dne, hn₃⟩)
      · rfl
end
end Er
namespace Er
open PySem PySem.W PySem.Calls PyProof.Rows PySem.HandSPX
/-- a made error at e, its dict d -/
structure MadeE (h h' : Heap) (e C : Addr) (d : Option Addr) (kvs : List (Str × Value)) : Prop where
  keep : ∀ b o, h.get? b = some o → h'.get? b = some o
  new : h.get? e = none
  obj : ∃ oe vs, h'.get? e = some oe ∧ L2.Zc (.ref C) d oe ∧ oe.data = .fields vs ∧ vs[1]? = some .none
  dict : (d = none ∧ kvs = []) ∨ ∃ dx f v, d = some dx ∧ kvs = [(f, v)] ∧ h.objs.size ≤ dx ∧ dx ≠ e ∧ h'.Ns1 dx (fun y => if y = f then some v else none)
/-- what a call of an own error class does -/
def Makes (P : Program) (w : World) (K : Frag) (mg : Str → Option Value) (C : Addr) (fs : List Str) : Prop :=
  ∀ (A : Around) (mb : Str → Option Value) (s : Shared) (us : List Value) (v : Value) (R : Value → Shared → Prop) (E : Value → Shared → Prop), K.In s.heap → s.heap.Ns mainGlobals mg → s.heap.Ns builtinsNs mb → mb "super" = some (.type "super") → s.heap.NoLimit → A.depth + 1 < recursionLimit →
    (us = [v] ∨ (us = [] ∧ v = .none)) → (∀ h' tk e d, MadeE s.heap h' e C d (fs.zip [v]) → R (.ref e) { s with heap := h', toks := tk }) → wpAny (model P w) A (call (.ref C) us) R E s
theorem err_made {P : Program} {w : World} {K : Frag} {mg : Str → Option Value} {C fI : Addr} {f : Str} (T : ErrTxt P K f C fI) (hs1 : mg "super" = none) : Makes P w K mg C [f] := by
  intro A mb s us v R E X hG hB hs2 hlim hroom hus hq
  obtain ⟨nm, q, N, bs, bm, sn, sub, ab, col, dd, k0, k1, k2, k3, k5, hC, hbm, hal⟩ := T.cls
  obtain ⟨hp, g, dr, tk, os⟩ := s
  have hlen : us.length ≤ sizeLine := by
    rcases hus with rfl | ⟨rfl, _⟩
    · exact PySem.LowY.one_size v
    · exact Nat.zero_le _
  have k : ∀ b o, hp.get? b = some o → ((hp.push (kdv_tup us)).push (excO C hp.objs.size)).get? b = some o := fun b o e => Heap.get?_push_of_some _ (Heap.get?_push_of_some _ e)
  have hget : ((hp.push (kdv_tup us)).push (excO C hp.objs.size)).get? (hp.objs.size + 1) = some (excO C hp.objs.size) := by heap_get
  have hnx : K.lookup (hp.objs.size + 1) = none := by
    cases e : K.lookup (hp.objs.size + 1) with
    | none => rfl
    | some o =>
      have z : hp.get? (hp.objs.size + 1) = some o := X _ _ e
      have z2 : hp.objs.size + 1 < hp.objs.size := Heap.lt_size z
      omega
  refine wpAny_call (call_own PySem.F.excBase_ValueError (fun X => refsVE_contains X bm hbm) (X _ _ hC) (looks_findIn X T.iC) (fun self => bind_fn X self T.tC) hlen ?_)
  refine err_init (s := ⟨(hp.push (kdv_tup us)).push (excO C hp.objs.size), g, dr, tk, os⟩) (mg := mg) (mb := mb) (v := v) T (X.keeps k) (hG.keeps k) (hB.keeps k) hs1 hs2 (hlim.keeps k) hget hnx ?_ (fun oc od fd osl e => ?_) fun h' tk' dx ie => ?_
  · show A.depth + 1 < recursionLimit
    exact hroom
  · obtain ⟨b0, b1⟩ := T.b0 oc od fd osl e
    rcases hus with rfl | ⟨rfl, rfl⟩
    · exact b0 _ [.ref (hp.objs.size + 1), v] (X.keeps k) rfl
    · exact b1 _ [.ref (hp.objs.size + 1)] (X.keeps k) rfl
  · have k' := ie.keep
    have old : ∀ b o, hp.get? b = some o → h'.get? b = some o := fun b o e => k' b o (Nat.ne_of_lt (Nat.lt_succ_of_lt (Heap.lt_size e))) (k b o e)
    have dn := ie.dbig
    have z : hp.objs.size + 1 + 1 ≤ dx := by
      first
        | (simpa only [Heap.size_push] using dn)
        | exact dn
        | (have q := dn; rw [Heap.size_push, Heap.size_push] at q; exact q)
    obtain ⟨t1, ho⟩ := ie.obj
    have z3 : hp.objs.size ≤ dx := by omega
    have z4 : hp.get? (hp.objs.size + 1) = none := by
      cases e : hp.get? (hp.objs.size + 1) with
      | none => rfl
      | some o => have z2 : hp.objs.size + 1 < hp.objs.size := Heap.lt_size e; omega
    exact ⟨rfl, hq h' tk' (hp.objs.size + 1) (some dx) ⟨old, z4, ⟨_, _, ho, ⟨rfl, rfl⟩, rfl, rfl⟩, .inr ⟨dx, f, v, rfl, rfl, z3, ie.dne, ie.ns⟩⟩⟩
/-- a class without an own __init__ -/
theorem err_made0 {P : Program} {w : World} {K : Frag} {mg : Str → Option Value} {C : Addr} {bmB : List Value} {B newId initId : String} (F : ExcBaseFacts B newId initId bmB) (q : PySem.W.excIn K C bmB newId = true) : Makes P w K mg C [] := by
  intro A mb s us v R E X hG hB hs2 hlim hroom hus hq
  obtain ⟨hp, g, dr, tk, os⟩ := s
  obtain ⟨bm, N, nm, qn, bs, hdct, sn, sub, ab, col, dd, k0, k1, k2, k3, k5, mN, hC, hN, hni, T⟩ := L2.exc_obj X q
  refine wpAny_call_exc_subT F T hC hN hni (fun h' e hm => ?_) ?_
  · obtain ⟨t, he, _, _⟩ := hm.there
    exact hq h' tk e none ⟨hm.keeps, hm.new, ⟨_, _, he, ⟨rfl, rfl⟩, rfl, rfl⟩, .inl ⟨rfl, rfl⟩⟩
  · rcases hus with rfl | ⟨rfl, _⟩
    · exact PySem.LowY.one_size v
    · exact Nat.zero_le _
end Er
namespace Fw
open PySem PySem.Spec PyProof.Rows L2
/-- an own error class with the number c, called x -/
structure ErrAt (P : Program) (w : World) (K : PySem.W.Frag) (mg : Str → Option Value) (en : En) (c : Nat) (n : Nat) (x : Str) : Prop where
  n1 : n ≤ 1
  ex : ∃ C ns, en.cl[c]? = some (C, ns) ∧ ns.length = n ∧ mg x = some (.ref C) ∧ PySem.W.keepIn K (.ref C) = true ∧ Er.Makes P w K mg C ns ∧ PySem.W.subIn K (.ref C) (.type "BaseException") = some true ∧ PySem.W.typeIn K (.ref C) = some (.type "type")
/-- how the tracked heap grows where an error is made -/
def Grown (ns : List Str) (v : V) (d : Option Addr) (H H' : Hp) : Prop := (d = none ∧ ns = [] ∧ H' = H) ∨ ∃ dx f, d = some dx ∧ ns = [f] ∧ H dx = none ∧ H' = upd H dx (.xd [(f, v)])
section
variable {X : Cx} {en : En} {W : WX} {k c n : Nat} {x : Str} {p pos : Pos} {e : Expr} {ma : AM} {pins : List (Addr × Obj)} {σ : L2.St}
theorem made_inv {H1 : Hp} {s1 : Shared} {h' : Heap} {tk' : Nat} {a C : Addr} {d : Option Addr} {ns : List Str} {v : V} {v' : Value} (I1 : Inv X pins σ H1 s1) (M : Er.MadeE s1.heap h' a C d (ns.zip [v'])) (hn : ns.length ≤ 1) (rv : RelV v v') :
    ∃ G H2, Inv X pins σ H2 { s1 with heap := G, toks := tk' } ∧ G.get? a = none ∧ (∀ b o, G.get? b = some o → h'.get? b = some o) ∧ H2 a = none ∧ Grown ns v d H1 H2 := by
  have hna : H1 a = none := I1.hok.gone M.new
  rcases M.dict with ⟨hd, hk⟩ | ⟨dx, f, w', hd, hk, dbig, dne, hns⟩
  · have hns : ns = [] := by
      cases ns with
      | nil => rfl
      | cons _ _ => cases hk
    exact ⟨s1.heap, H1, I1.tok tk', M.new, M.keep, hna, .inl ⟨hd, hns, rfl⟩⟩
  · obtain ⟨rfl, rfl⟩ : ns = [f] ∧ w' = v' := by
      cases ns with
      | nil => cases hk
      | cons g l =>
        cases l with
        | nil => cases hk; exact ⟨rfl, rfl⟩
        | cons _ _ => simp at hn
    obtain ⟨G', g1, g2⟩ := restrict h' fun b => decide (b ≠ a)
    have gk : ∀ b, b ≠ a → G'.get? b = h'.get? b := fun b hb => g1 b (decide_eq_true hb)
    have ge : G'.get? a = none := g2 a (by simp)
    have old : ∀ b o, s1.heap.get? b = some o → G'.get? b = some o := fun b o q => (gk b (fun z => by rw [z, M.new] at q; cases q)).trans (M.keep b o q)
    have ob : ObjOk X.prog X.w (upd H1 dx (.xd [(f, v)])) G' dx (.xd [(f, v)]) := by
      refine ⟨_, hns.at (fun o q => (gk dx dne).trans q), fun y => ?_⟩
      by_cases hw : y = f
      · subst hw
        rw [if_pos rfl]
        have q : List.lookup y [(y, v)] = some v := by simp [List.lookup]
        rw [q]; exact rv
      · rw [if_neg hw]
        have qw : (y == f) = false := by simpa using hw
        have q2 : List.lookup y [(f, v)] = none := by simp [List.lookup, qw]
        rw [q2]; trivial
    refine ⟨G', _, I1.laid (t' := tk') old dbig ob, ge, fun b o q => ?_, ?_, .inr ⟨dx, f, hd, rfl, I1.hok.fresh dbig, rfl⟩⟩
    · by_cases hb : b = a
      · rw [hb, ge] at q; cases q
      · exact (gk b hb).symm.trans q
    · rw [upd_ne (Ne.symm dne)]; exact hna
/-- x(e) or x(), made: what comes -/
theorem run_err (D : ErrAt X.prog X.w X.K X.mg en c n x) (G : Good en X W k) {H1 : Hp} {s1 : Shared} {us : List Value} {v : V} {v' : Value} {Q : Value → Shared → Prop} (I1 : Inv X pins σ H1 s1) (rv : RelV v v') (hus : us = [v'] ∨ (us = [] ∧ v' = .none)) {C : Addr} {ns : List Str} (hc : en.cl[c]? = some (C, ns))
    (hq : ∀ h' tk a d G H2, Inv X pins σ H2 { s1 with heap := G, toks := tk } → G.get? a = none → (∀ b o, G.get? b = some o → h'.get? b = some o) → H2 a = none → Grown ns v d H1 H2 →
      (∃ oe vs, h'.get? a = some oe ∧ Zc (.ref C) d oe ∧ oe.data = .fields vs ∧ vs[1]? = some .none) → Q (.ref a) { s1 with heap := h', toks := tk }) :
    wpAny (model X.prog X.w) X.A (call (.ref C) us) Q X.xe s1 := by
  obtain ⟨C', ns', hc', hl, hm, hkp, hmk, _, _⟩ := D.ex
  rw [hc] at hc'; cases hc'
  have hnn : ns.length ≤ 1 := hl ▸ D.n1
  obtain ⟨mb, h1, h2⟩ := I1.ok.mod.blt
  refine hmk X.A mb s1 us v' _ _ I1.kIn (I1.ok.mod.glob.keeps I1.bk) (h1.keeps I1.bk) ((h2 _ (by decide)).trans rfl) I1.nolimit (by have := G.room.dp; omega) hus fun h' tk a d M => ?_
  obtain ⟨G', H2, J, g1, g2, g3, g4⟩ := made_inv (tk' := tk) I1 M hnn rv
  exact hq h' tk a d G' H2 J g1 g2 g3 g4 M.obj
end
end Fw
namespace Fw
open PySem PySem.Spec PyProof.Rows L2
/-- the fields that an error gets: n of them, from what is written -/
def errV (n : Nat) (vs : List SV) : Option (List SV) := match vs with
  | [] => some (List.replicate n .non)
  | [v] => some (List.replicate n v)
  | _ => none
def mRaise (c n : Nat) (ma : AM) : SM := fun ss h => match ma ss h with
  | .stuck => .stuck
  | .ex c' xs h1 => .ex c' xs ss h1
  | .ok vs h1 => match errV n vs with
    | some xs => .ex c xs ss h1
    | none => .stuck
def mErr (c n : Nat) (ma : AM) : EM := fun ss h => (ma ss h).bind fun vs h1 => match errV n vs with
  | some xs => .ok (.ref h1.length) (h1 ++ [.exo c xs])
  | none => .stuck
/-- how an error grows out of its arguments -/
def OneV (vs : List V) (v : V) : Prop := vs = [v] ∨ (vs = [] ∧ v = .non)
theorem oneV_us {vs : List V} {us : List Value} {v : V} (r : Vals vs us) (o : OneV vs v) : ∃ v', RelV v v' ∧ (us = [v'] ∨ (us = [] ∧ v' = .none)) := by
  rcases o with rfl | ⟨rfl, rfl⟩
  · cases r with
    | cons rv rn => cases rn; exact ⟨_, rv, .inl rfl⟩
  · cases r; exact ⟨.none, rfl, .inr ⟨rfl, rfl⟩⟩
theorem errV_one {en : En} {ρ : List Addr} {n : Nat} {svs xs : List SV} {vs : List V} (r : RSs en ρ svs vs) (e : errV n svs = some xs) : ∃ sv v, OneV vs v ∧ RS en ρ sv v ∧ xs = List.replicate n sv := by
  unfold errV at e
  split at e
  · cases e; cases r; exact ⟨.non, .non, .inr ⟨rfl, rfl⟩, rfl, rfl⟩
  · cases e
    cases r with
    | cons rv rn => cases rn; exact ⟨_, _, .inl rfl, rv, rfl⟩
  · cases e
theorem Grown.keep {ns : List Str} {v : V} {d : Option Addr} {H H' : Hp} (g : Grown ns v d H H') : ∀ a u, H a = some u → H' a = some u := by
  intro a u e
  rcases g with ⟨_, _, rfl⟩ | ⟨dx, f, _, _, hn, rfl⟩
  · exact e
  · rw [upd_ne (fun z => by rw [z, hn] at e; cases e)]; exact e
theorem Grown.hasF {en : En} {ρ : List Addr} {h : SH} {ns : List Str} {v : V} {d : Option Addr} {H H' : Hp} (g : Grown ns v d H H') (rel : Rel en ρ h H) : HasF ρ H' d (ns.zip (List.replicate ns.length v)) := by
  rcases g with ⟨hd, hn, rfl⟩ | ⟨dx, f, hd, hn, hx, rfl⟩
  · subst hn; exact .inl ⟨hd, rfl⟩
  · subst hn
    exact .inr ⟨dx, hd, upd_same, fun m => by obtain ⟨u, e, _⟩ := rel.mem m; rw [hx] at e; cases e⟩
theorem paired_rep {α β : Type} {R : α → β → Prop} {a : α} {b : β} (r : R a b) : ∀ n, Paired R (List.replicate n a) (List.replicate n b)
  | 0 => .nil
  | n + 1 => .cons r (paired_rep r n)
section
variable {X : Cx} {en : En} {W : WX} {k c n : Nat} {x : Str} {p pos pos2 : Pos} {e : Expr} {ma : AM}
def tMkE (C : Addr) (ns : List Str) (ta : TA) : L2.St → Hp → XK → Prop := fun σ H Q => ta σ H fun vs H1 => ∃ v, OneV vs v ∧ ∀ d H2, Grown ns v d H1 H2 → Q (.ref C) d H2
theorem mk_run (D : ErrAt X.prog X.w X.K X.mg en c n x) (G : Good en X W k) {C : Addr} {ns : List Str} (hc : en.cl[c]? = some (C, ns)) {pins : List (Addr × Obj)} {σ : L2.St} {H1 : Hp} {s1 : Shared} {us : List Value} {vs : List V} {v : V} {Q : XK} (I1 : Inv X pins σ H1 s1) (r : Vals vs us) (o : OneV vs v)
    (q : ∀ d H2, Grown ns v d H1 H2 → Q (.ref C) d H2) : wpAny (model X.prog X.w) X.A (call (.ref C) us) (MkP X pins σ Q) X.xe s1 := by
  obtain ⟨v', rv, hus⟩ := oneV_us r o
  obtain ⟨C', ns', hc', hl, hm, hkp, hmk, hex, hty⟩ := D.ex
  have hcc := hc
  rw [hc] at hc'; cases hc'
  refine run_err D G I1 rv hus hcc fun h' tk a d G' H2 J g1 g2 g3 g4 ⟨oe, fv, hoe, hz, hdat, h1⟩ => ?_
  exact ⟨a, oe, fv, { s1 with heap := G', toks := tk }, H2, .ref C, d, rfl, J, g2, g1, hoe, hz, hdat, h1, g3, rfl, I1.bare, raises_own hex hty, q d H2 g4⟩
theorem pmk_e (D : ErrAt X.prog X.w X.K X.mg en c n x) (G : Good en X W k) {C : Addr} {ns : List Str} {ta : TA} (hc : en.cl[c]? = some (C, ns)) (hg : Gl X x) (ha : PA X [e] ta)
    (hdb : (x == ("__debug__" : Str)) = false := by decide) (he : starEach (e :: []) X.env = (false, eval e X.env) :: starEach [] X.env := by rfl) (hpl : (backTo pos (starEach [] X.env)).any (·.1) = false := by rfl) : PMk X (.Call (.Name x p) [e] [] pos) (tMkE C ns ta) := by
  intro pins s σ H Q I t
  have hcc := hc
  obtain ⟨C', ns', hc', hl, hm, hkp, hmk, hex, hty⟩ := D.ex
  rw [hc] at hc'; cases hc'
  refine wpAny_Call_Name_kw (ld_glob I hg hm ?_ hdb)
  refine PySem.W.callWith_K (h₀ := X.base) I.ok.mod.kin hkp (thn (ha.run pos pins s σ H _ I t) fun us s1 ⟨vs, H1, I1, r, v, o, q⟩ => ⟨I1.kIn, ?_⟩) he hpl
  exact mk_run D G hcc I1 r o q
theorem pmk_e0 (D : ErrAt X.prog X.w X.K X.mg en c n x) (G : Good en X W k) {C : Addr} {ns : List Str} (hc : en.cl[c]? = some (C, ns)) (hg : Gl X x) (hdb : (x == ("__debug__" : Str)) = false := by decide) :
    PMk X (.Call (.Name x p) [] [] pos) (tMkE C ns (fun _ H Q => Q [] H)) := by
  intro pins s σ H Q I t
  have hcc := hc
  obtain ⟨C', ns', hc', hl, hm, hkp, hmk, hex, hty⟩ := D.ex
  rw [hc] at hc'; cases hc'
  refine wpAny_Call_Name_kw (ld_glob I hg hm ?_ hdb)
  obtain ⟨v, o, q⟩ := t
  exact PySem.W.callWith_K0 I.kIn hkp (mk_run (us := []) D G hcc I .nil o q)
theorem raise_read {C : Addr} {ns : List Str} (hc : en.cl[c]? = some (C, ns)) (hl : ns.length = n) {D : Ends} {σ : L2.St} {H : Hp} (t : tS en W (mRaise c n ma) D σ H) : tMkE C ns (tA en W ma) σ H fun cls d H' => W cls d σ H' := by
  obtain ⟨ρ, ss, h, rel, rs, f⟩ := t
  refine ⟨ρ, ss, h, rel, rs, ?_⟩
  unfold mRaise at f
  cases e1 : ma ss h with
  | stuck => simp only [e1] at f; exact f
  | ex c' xs h1 => simp only [e1] at f; exact fun ρ' H' cls d p rel' rx => f ρ' σ H' cls d p rel' (rs.mono p) rx
  | ok svs h1 =>
    simp only [e1] at f
    intro ρ1 H1 vs p1 rel1 rvs
    split at f
    · rename_i xs ex
      obtain ⟨sv, v, o, rv, rfl⟩ := errV_one rvs ex
      refine ⟨v, o, fun d H2 g => f ρ1 σ H2 _ d p1 (rel1.keep g.keep) (rs.mono p1) ⟨C, ns, List.replicate ns.length v, hc, rfl, g.hasF rel1, by simp [hl], ?_⟩⟩
      rw [hl]
      exact paired_rep rv n
    · exact f.elim
theorem PS.raise (D : ErrAt X.prog X.w X.K X.mg en c n x) (G : Good en X W k) (hg : Gl X x) (ha : PA X [e] (tA en W ma))
    (hdb : (x == ("__debug__" : Str)) = false := by decide) (he : starEach (e :: []) X.env = (false, eval e X.env) :: starEach [] X.env := by rfl) (hpl : (backTo pos (starEach [] X.env)).any (·.1) = false := by rfl) :
    PS X (.Raise (some (.Call (.Name x p) [e] [] pos)) none pos2) (tS en W (mRaise c n ma)) := by
  obtain ⟨C, ns, hc, hl, _⟩ := D.ex
  exact PSimp (ps_raise G.calm G.tk (pmk_e D G hc hg ha hdb he hpl)) fun _ σ H t => raise_read hc hl t
theorem PS.raise0 (D : ErrAt X.prog X.w X.K X.mg en c n x) (G : Good en X W k) (hg : Gl X x) (hdb : (x == ("__debug__" : Str)) = false := by decide) :
    PS X (.Raise (some (.Call (.Name x p) [] [] pos)) none pos2) (tS en W (mRaise c n aNil)) := by
  obtain ⟨C, ns, hc, hl, _⟩ := D.ex
  refine PSimp (ps_raise G.calm G.tk (pmk_e0 D G hc hg hdb)) fun _ σ H t => ?_
  obtain ⟨ρ, ss, h, rel, rs, f⟩ := raise_read hc hl t
  exact f ρ H [] (Pre.refl ρ) rel .nil
/-! ### an error as a value -/
theorem exo_ok {P : Program} {w : World} {H : Hp} {h : Heap} {a : Addr} {cls : Value} {d : Option Addr} {oe : Obj} {us : Array Value} (e : h.get? a = some oe) (z : Zc cls d oe) (q : oe.data = .fields us) : ObjOk P w H h a (.ext (exoφ a cls d)) :=
  ⟨⟨oe, us, e, z, q⟩, ⟨oe, e⟩, fun _ _ ⟨o, u, x, r⟩ k => ⟨o, u, k o x, r⟩⟩
theorem val_run (D : ErrAt X.prog X.w X.K X.mg en c n x) (G : Good en X W k) {C : Addr} {ns : List Str} (hc : en.cl[c]? = some (C, ns)) {pins : List (Addr × Obj)} {σ : L2.St} {H1 : Hp} {s1 : Shared} {us : List Value} {vs : List V} {v : V} {Q : VK} (I1 : Inv X pins σ H1 s1) (r : Vals vs us) (o : OneV vs v)
    (q : ∀ d H2 a, Grown ns v d H1 H2 → H2 a = none → Q (.ref a) (upd H2 a (.ext (exoφ a (.ref C) d)))) : wpAny (model X.prog X.w) X.A (call (.ref C) us) (EP X pins σ Q) X.xe s1 := by
  obtain ⟨v', rv, hus⟩ := oneV_us r o
  refine run_err D G I1 rv hus hc fun h' tk a d G' H2 J g1 g2 g3 g4 ⟨oe, fv, hoe, hz, hdat, h1⟩ => ?_
  exact ⟨.ref a, _, J.laidN (t' := tk) (o := .ext (exoφ a (.ref C) d)) (h' := h') g2 g1 g3 (exo_ok hoe hz hdat), rfl, q d H2 a g4 g3⟩
theorem err_read {C : Addr} {ns : List Str} (hc : en.cl[c]? = some (C, ns)) (hl : ns.length = n) {Q : VK} {σ : L2.St} {H : Hp} (t : tE en W (mErr c n ma) σ H Q) : tA en W ma σ H fun vs H1 => ∃ v, OneV vs v ∧ ∀ d H2 a, Grown ns v d H1 H2 → H2 a = none → Q (.ref a) (upd H2 a (.ext (exoφ a (.ref C) d))) := by
  obtain ⟨ρ, ss, h, rel, rs, f⟩ := t
  refine ⟨ρ, ss, h, rel, rs, ?_⟩
  unfold mErr at f
  cases e1 : ma ss h with
  | stuck => simp only [e1, Res.bind] at f; exact f
  | ex c' xs h1 => simp only [e1, Res.bind] at f; exact f
  | ok svs h1 =>
    simp only [e1, Res.bind] at f
    intro ρ1 H1 vs p1 rel1 rvs
    split at f
    · rename_i xs ex
      obtain ⟨sv, v, o, rv, rfl⟩ := errV_one rvs ex
      refine ⟨v, o, fun d H2 a g na => ?_⟩
      have rel2 := rel1.keep g.keep
      have rel3 := rel2.push (p := a) (u := .ext (exoφ a (.ref C) d)) (o := .exo c (List.replicate n sv)) na ?_
      · refine f _ _ (.ref a) (p1.trans (Pre.one ρ1 a)) rel3 ⟨a, ?_, rfl⟩
        rw [← rel1.len, List.getElem?_append_right (Nat.le_refl _)]; simp
      · refine ⟨C, ns, d, List.replicate ns.length v, hc, upd_same, ?_, by simp [hl], ?_⟩
        · rcases g.hasF rel1 with z | ⟨dx, e1, e2, e3⟩
          · exact .inl z
          · have ne : dx ≠ a := fun z => by rw [z, na] at e2; cases e2
            exact .inr ⟨dx, e1, by rw [upd_ne ne]; exact e2, fun m => by
              rcases List.mem_append.mp m with m | m
              · exact e3 m
              · simp at m; exact ne m⟩
        · rw [hl]
          exact paired_mono (fun _ _ z => z.mono (Pre.one ρ1 a)) (paired_rep rv n)
    · exact f.elim
theorem PE.err (D : ErrAt X.prog X.w X.K X.mg en c n x) (G : Good en X W k) (hg : Gl X x) (ha : PA X [e] (tA en W ma))
    (hdb : (x == ("__debug__" : Str)) = false := by decide) (he : starEach (e :: []) X.env = (false, eval e X.env) :: starEach [] X.env := by rfl) (hpl : (backTo pos (starEach [] X.env)).any (·.1) = false := by rfl) :
    PE X (.Call (.Name x p) [e] [] pos) (tE en W (mErr c n ma)) := by
  obtain ⟨C, ns, hc, hl, hm, hkp, hmk, hex, hty⟩ := D.ex
  refine ⟨fun pins s σ H Q I t => ?_⟩
  refine wpAny_Call_Name_kw (ld_glob I hg hm ?_ hdb)
  refine PySem.W.callWith_K (h₀ := X.base) I.ok.mod.kin hkp (thn (ha.run pos pins s σ H _ I (err_read hc hl t)) fun us s1 ⟨vs, H1, I1, r, v, o, q⟩ => ⟨I1.kIn, ?_⟩) he hpl
  exact val_run D G hc I1 r o q
theorem PE.err0 (D : ErrAt X.prog X.w X.K X.mg en c n x) (G : Good en X W k) (hg : Gl X x) (hdb : (x == ("__debug__" : Str)) = false := by decide) : PE X (.Call (.Name x p) [] [] pos) (tE en W (mErr c n aNil)) := by
  obtain ⟨C, ns, hc, hl, hm, hkp, hmk, hex, hty⟩ := D.ex
  refine ⟨fun pins s σ H Q I t => ?_⟩
  refine wpAny_Call_Name_kw (ld_glob I hg hm ?_ hdb)
  obtain ⟨ρ, ss, h, rel, rs, f⟩ := err_read hc hl t
  obtain ⟨v, o, q⟩ := f ρ H [] (Pre.refl ρ) rel .nil
  exact PySem.W.callWith_K0 I.kIn hkp (val_run (us := []) D G hc I .nil o q)
end
end Fw
namespace Fw
open PySem PySem.Spec PyProof.Rows L2
/-- a value's kind -/
inductive Tag where
  | non | bl | int | str | lst | tup | dct | ins (c : Nat) | exo (c : Nat)
def tagOf (h : SH) : SV → Option Tag
  | .non => some .non
  | .bl _ => some .bl
  | .int _ => some .int
  | .str _ => some .str
  | .scr _ => some .lst
  | .ref i => match h[i]? with
    | some (.lst _) => some .lst
    | some (.tup _) => some .tup
    | some (.dK _) => some .dct
    | some (.dT _) => some .dct
    | some (.ins c _) => some (.ins c)
    | some (.exo c _) => some (.exo c)
    | some (.lk _) => none
    | none => none
/-- what the written part says of a class, so that isinstance asks its instances rightly -/
structure InsIs (K : PySem.W.Frag) (C : Addr) : Prop where
  cl : L2.Cls K C
  ha : PySem.W.findIn K (.ref C) "__class__" = some (some (.builtin "object.__class__"))
  hn : PySem.W.specialIn K (.builtin "object.__class__") "__get__" = some (some (.builtin "getset_descriptor.__get__"))
  ht : PySem.W.takesIn K (.builtin "object.__class__") = some true
  hm : PySem.W.mroIn K C (.type "object") = some true
structure ExcIs (K : PySem.W.Frag) (C : Addr) : Prop where
  hcl : (PySem.W.clsIn K C).isSome = true
  ga : PySem.W.findIn K (.ref C) "__getattribute__" = some (some (.builtin "BaseException.__getattribute__"))
  gg : PySem.W.findIn K (.ref C) "__getattr__" = some none
  sub : PySem.W.subIn K (.ref C) (.type "BaseException") = some true
  ha : PySem.W.findIn K (.ref C) "__class__" = some (some (.builtin "object.__class__"))
  hn : PySem.W.specialIn K (.builtin "object.__class__") "__get__" = some (some (.builtin "getset_descriptor.__get__"))
  ht : PySem.W.takesIn K (.builtin "object.__class__") = some true
  hm : PySem.W.mroIn K C (.type "object") = some true
  hd : PySem.W.hasDictIn K C = true
def tagV (en : En) : Tag → Option Value
  | .non => some (.type "NoneType")
  | .bl => some (.type "bool")
  | .int => some (.type "int")
  | .str => some (.type "str")
  | .lst => some (.type "list")
  | .tup => some (.type "tuple")
  | .dct => some (.type "dict")
  | .ins c => (en.cl[c]?).map fun p => .ref p.1
  | .exo c => (en.cl[c]?).map fun p => .ref p.1
def TagOk (en : En) : Tag → Prop
  | .ins c => ∃ C ns, en.cl[c]? = some (C, ns) ∧ InsIs en.K C
  | .exo c => ∃ C ns, en.cl[c]? = some (C, ns) ∧ ExcIs en.K C
  | _ => True
section
variable {X : Cx} {en : En} {W : WX} {k c n : Nat} {x : Str} {p pos pos2 : Pos} {e : Expr} {pins : List (Addr × Obj)} {σ : L2.St} {H : Hp} {s : Shared}
theorem exo_inst {ρ : List Addr} {h : SH} {i : Nat} {xs : List SV} {v : V} (I : Inv X pins σ H s) (rel : Rel en ρ h H) (r : RS en ρ (.ref i) v) (e : h[i]? = some (.exo c xs)) :
    ∃ a C ns ox od vs, v = .ref a ∧ en.cl[c]? = some (C, ns) ∧ PySem.W.InstAt s.heap a ox C od ∧ xs.length = ns.length ∧ RSs en ρ xs vs ∧ (ns ≠ [] → ∃ (m : Str → Option Value) (od' : Obj), od = some od' ∧ (∀ f, PySem.W.lookIn f od' = some (m f)) ∧ ∀ f, RelO ((ns.zip vs).lookup f) (m f)) := by
  obtain ⟨a, ea, rfl⟩ := r
  obtain ⟨C, ns, d, vs, e1, e2, hf, l, q⟩ := rel.at2 ea e
  obtain ⟨⟨oe, us, g1, g2, g3⟩, _, _⟩ := I.hok a _ e2
  have hnc : PySem.W.notCls oe = true := by unfold PySem.W.notCls; rw [g3] <;> rfl
  rcases hf with ⟨hd, hk⟩ | ⟨dx, hd, hx, _⟩
  · refine ⟨a, C, ns, oe, none, vs, rfl, e1, ⟨g1, g2.1, hnc, by rw [g2.2, hd]; trivial⟩, l, q, fun hn => ?_⟩
    exfalso
    cases ns with
    | nil => exact hn rfl
    | cons a ns =>
      cases q with
      | nil => simp at l
      | cons _ _ => cases hk
  · have ho : ObjOk X.prog X.w H s.heap dx (.xd (ns.zip vs)) := I.hok dx _ hx
    obtain ⟨mA, hns, hr⟩ := ho
    obtain ⟨od, hod, hl⟩ := lookIn_ns hns
    exact ⟨a, C, ns, oe, some od, vs, rfl, e1, ⟨g1, g2.1, hnc, by rw [g2.2, hd]; exact hod⟩, l, q, fun _ => ⟨mA, od, rfl, hl, hr⟩⟩
theorem tag_kit {ρ : List Addr} {h : SH} {a : SV} {v : V} {u tv : Value} {t : Tag} (hK : X.K = en.K) (I : Inv X pins σ H s) (rel : Rel en ρ h H) (r : RS en ρ a v) (ru : RelV v u) (et : tagOf h a = some t) (ev : tagV en t = some tv) (ok : TagOk en t) :
    ∃ P, PySem.W.KitX X.K u tv P ∧ P s.heap ∧ u ≠ .builtin "__main__.__loader__#opaque" := by
  cases a with
  | non => cases et; cases ev; cases (show v = V.non from r); exact kit_of I ru (.base .non)
  | bl b => cases et; cases ev; cases (show v = V.bl b from r); exact kit_of I ru (.base (.bl b))
  | int i => cases et; cases ev; cases (show v = V.int i from r); exact kit_of I ru (.base (.int i))
  | str y => cases et; cases ev; cases (show v = V.str y from r); exact kit_of I ru (.base (.str y))
  | scr ns =>
    cases et; cases ev
    obtain ⟨rfl, _⟩ := (show v = .ref en.a0 ∧ ns = en.ns from r)
    rcases rel.scr with (z | ⟨o, z⟩) | ⟨o, its, n, z, hc, _⟩
    · exact kit_of I ru (.base (.lst z))
    · exact kit_of I ru (.base (.frz z))
    · exact kit_of I ru (.kList (by rw [hK]; exact z) hc)
  | ref i =>
    obtain ⟨b, eb, rfl⟩ := r
    unfold tagOf at et
    cases eo : h[i]? with
    | none => simp only [eo] at et; cases et
    | some o =>
      have ro := rel.at2 eb eo
      cases o with
      | lst xs => simp only [eo] at et; cases et; cases ev; obtain ⟨vs, e1, _⟩ := ro; exact kit_of I ru (.base (.lst e1))
      | tup xs => simp only [eo] at et; cases et; cases ev; obtain ⟨vs, e1, _⟩ := ro; exact kit_of I ru (.base (.tup e1))
      | dK xs => simp only [eo] at et; cases et; cases ev; obtain ⟨vs, e1, _⟩ := ro; exact kit_of I ru (.base (.dK e1))
      | dT xs => simp only [eo] at et; cases et; cases ev; obtain ⟨vs, e1, _⟩ := ro; exact kit_of I ru (.base (.dT e1))
      | ins c xs =>
        simp only [eo] at et; cases et
        obtain ⟨C, ns, hc, ok⟩ := ok
        unfold tagV at ev
        simp only [hc, Option.map_some] at ev
        cases ev
        obtain ⟨C', ns', dx, vs, hc', e1, _⟩ := ro
        rw [hc] at hc'; cases hc'
        rw [← hK] at ok
        exact kit_of I ru (.base (.ins e1 ok.cl ok.ha ok.hn ok.ht ok.hm))
      | lk xs => simp only [eo] at et; cases et
      | exo c xs =>
        simp only [eo] at et; cases et
        obtain ⟨C, ns, hc, ok⟩ := ok
        unfold tagV at ev
        simp only [hc, Option.map_some] at ev
        cases ev
        obtain ⟨a, C', ns', ox, od, vs, ea, hc', J, _⟩ := exo_inst I rel ⟨b, eb, rfl⟩ eo
        cases ea
        rw [hc] at hc'; cases hc'
        rw [← hK] at ok
        cases (show u = Value.ref b from ru)
        exact ⟨_, PySem.W.kitx_exc ok.hcl ok.ga ok.gg ok.sub ok.ha ok.hn ok.ht ok.hm, J, fun z => nomatch z⟩
def opIsi (f : Tag → Option Bool) : O1 := fun a h => match tagOf h a with
  | some t => match f t with
    | some b => some (.bl b, h)
    | none => none
  | none => none
/-- f tells isinstance(_, cv) rightly -/
def IsiOk (en : En) (cv : Value) (f : Tag → Option Bool) : Prop := ∀ t b, f t = some b → ∃ tv, tagV en t = some tv ∧ TagOk en t ∧ PySem.W.kitOne en.K tv cv = some b
def rIsG (en : En) (f : Tag → Option Bool) (cv : V) : List V → Hp → VK → Prop := fun xs H Q => ∃ ρ h a v, xs = [v, cv] ∧ Rel en ρ h H ∧ RS en ρ a v ∧ finO en ρ (opIsi f a h) Q
theorem call_isG {cV : V} {cv : Value} {f : Tag → Option Bool} (hK : X.K = en.K) (hc : ClsV cV cv) (ok : IsiOk en cv f) : CallR X (.builtin "isinstance") (rIsG en f cV) := by
  intro pins s σ H xs us Q I r h
  obtain ⟨ρ, h, a, v, rfl, rel, ra, w, h', e, q⟩ := h
  obtain ⟨u1, u2, rfl, r1, r2⟩ := vals2 r
  have e2 := hc.eq r2
  subst e2
  unfold opIsi at e
  cases et : tagOf h a with
  | none => simp only [et] at e; cases e
  | some t =>
    simp only [et] at e
    cases ef : f t with
    | none => simp only [ef] at e; cases e
    | some b =>
      simp only [ef] at e
      cases e
      obtain ⟨tv, ev, tk, ek⟩ := ok t b ef
      obtain ⟨P, Z, hp, hx⟩ := tag_kit hK I rel ra r1 et ev tk
      exact PySem.W.kia_one Z I.kIn hp (by rw [hK]; exact ek) hx fun tk => ⟨.bl b, H, I.tok tk, rfl, q ρ H (.bl b) (Pre.refl ρ) rel rfl⟩
theorem PE.isi {m : EM} {ec : Expr} {cV : V} {cv : Value} {f : Tag → Option Bool} (hK : X.K = en.K) (hc : ClsV cV cv) (ok : IsiOk en cv f) (hg : Gl X "isinstance") (hm : X.mg "isinstance" = none) (he : PE X e (tE en W m)) (hec : PE X ec (tC cV))
    (hs1 : starEach (e :: [ec]) X.env = (false, eval e X.env) :: starEach [ec] X.env := by rfl) (hs2 : starEach (ec :: []) X.env = (false, eval ec X.env) :: starEach [] X.env := by rfl) (hpl : (backTo pos (starEach [ec] X.env)).any (·.1) = false := by rfl) :
    PE X (.Call (.Name "isinstance" p) [e, ec] [] pos) (tE en W (mO1 (opIsi f) m)) :=
  PEimp (pe_callB (call_isG hK hc ok) hg hm rfl (pa_cons he (pa_cons hec pa_nil hs2) hs1) (by decide) (by decide) hs1 hpl) fun σ H Q t => by
    refine tM.bind2 (R1 := RS en) (R2 := RS en) (k := fun a (ss : SS) h => lift (opIsi f a h)) t fun ρ ss h a v H1 rel rs ra fn => ?_
    exact ⟨ρ, h, a, v, rfl, rel, ra, fn.lift⟩
/-- e.f, e an error -/
def ExfOk (en : En) (f : Str) (ix : List (Option Nat)) : Prop := ∀ (c k : Nat), ix[c]? = some (some k) → ∃ C ns, en.cl[c]? = some (C, ns) ∧ ExcIs en.K C ∧ PySem.W.findIn en.K (.ref C) f = some none ∧ ns.Nodup ∧ ns[k]? = some f
def opExf (ix : List (Option Nat)) : O1 := fun a h => match a with
  | .ref i => match h[i]? with
    | some (.exo c vs) => match ix[c]? with
      | some (some k) => match vs[k]? with
        | some v => some (v, h)
        | none => none
      | _ => none
    | _ => none
  | _ => none
theorem PE.exf {f : Str} {m : EM} {ix : List (Option Nat)} (hK : X.K = en.K) (hf : ExfOk en f ix) (he : PE X e (tE en W m)) (hb : attributeBase e f X.env (eval e X.env) = eval e X.env := by rfl) : PE X (.Attribute e f pos) (tE en W (mO1 (opExf ix) m)) := by
  refine ⟨fun pins s σ H Q I t => ?_⟩
  have t2 : tE en W m σ H fun v H1 => ∃ ρ h a, Rel en ρ h H1 ∧ RS en ρ a v ∧ finO en ρ (opExf ix a h) Q := tM.bind2 (R1 := RS en) (R2 := RS en) (k := fun a (ss : SS) h => lift (opExf ix a h)) t fun ρ ss h a v H1 rel rs ra fn => ⟨ρ, h, a, rel, ra, fn.lift⟩
  refine attr_of hb (thn (he.run pins s σ H _ I t2) fun u s1 ⟨v, H1, I1, ru, ρ, h, a, rel, ra, w, h', e1, q⟩ => ?_)
  unfold opExf at e1
  split at e1
  · rename_i i
    split at e1
    · rename_i c vs ei
      split at e1
      · rename_i kk ek
        split at e1
        · rename_i y ev
          cases e1
          obtain ⟨C, ns, hc, ok, hno, nd, en'⟩ := hf _ _ ek
          obtain ⟨b, C', ns', ox, od, ws, rfl, hc', J, hl, rv, hx⟩ := exo_inst I1 rel ra ei
          rw [hc] at hc'; cases hc'
          rw [← hK] at ok hno
          obtain ⟨mm, od', rfl, hl1, hl2⟩ := hx (fun z => by rw [z] at en'; cases en')
          obtain ⟨z, ez, rz⟩ := rv.get ev
          have lz : (ns.zip ws).lookup f = some z := zip_lookup nd en' ez
          obtain ⟨u', hu, ru'⟩ := RelO.some_of (v := z) (o := mm f) (by rw [← lz]; exact hl2 f)
          cases (show u = Value.ref b from ru)
          exact HandSPX.exc_get I1.kIn J ok.ga ok.gg ok.sub (PySem.W.findObj_own ok.hd hno rfl (by rw [hl1, hu])) (handed_of ru') ⟨z, H1, I1.tok _, ru', q ρ H1 z (Pre.refl ρ) rel rz⟩
        · cases e1
      · cases e1
    · cases e1
  · cases e1
end
end Fw
namespace Fw
open PySem PySem.Spec PyProof.Rows L2
section
variable {X : Cx} {pins : List (Addr × Obj)} {σ : L2.St} {H : Hp} {s : Shared}
/-- an error that was caught is held from now on like any object -/
theorem tracked {a : Addr} {oe : Obj} {us : Array Value} {cls : Value} {d : Option Addr} (I : Inv X pins σ H s) (ha : s.heap.get? a = some oe) (hz : Zc cls d oe) (hu : oe.data = .fields us) (na : H a = none) (n0 : X.s_0.heap.get? a = none) (nL : a ≠ X.env.locals)
    (hp : ∀ p ∈ X.pn ++ pins, p.1 ≠ a) : Inv (X.suite a (X.pn ++ pins)) [] σ (upd H a (.ext (exoφ a cls d))) s where
  ok := I.ok.suite _ _
  os := I.os
  bare := I.bare
  base := by
    have B := I.base
    refine ⟨B.keep, B.slot, fun b o e n q => ?_, B.there, fun b xs e => ?_, fun b o u e => ?_, fun b ps e => ?_⟩
    · have hb : b ≠ a := fun z => by subst z; rw [n0] at e; cases e
      rw [upd_ne hb]; exact B.free b o e n q
    · have q := B.tups b xs e
      rw [upd_ne (ne_of_none q na)]; exact q
    · have q := B.frzs b o u e
      rw [upd_ne (ne_of_none q na)]; exact q
    · obtain ⟨m, q⟩ := B.tbls b ps e
      exact ⟨m, by rw [upd_ne (ne_of_none q na)]; exact q⟩
  loc := I.loc
  cell := I.cell
  free := by
    show upd H a _ X.env.locals = none
    rw [upd_ne (Ne.symm nL)]; exact I.free
  freeC := fun y c e => by
    have hc : c ≠ a := fun z => by
      obtain ⟨w', o', e1, e2⟩ := I.cell y c e
      subst z
      rw [ha] at e1; cases e1
      rw [hu] at e2; cases e2
    rw [upd_ne hc]; exact I.freeC y c e
  pin := fun p q => by
    have q' : p ∈ X.pn ++ pins := by rw [List.append_nil] at q; exact q
    obtain ⟨e, n, z⟩ := I.pin p q'
    exact ⟨e, by rw [upd_ne (hp p q')]; exact n, z⟩
  hok := I.hok.laidN (fun _ _ z => z) na (exo_ok ha hz hu)
  len := I.len
theorem untrackedCx {a : Addr} (I : Inv (X.suite a (X.pn ++ pins)) [] σ H s) (ok : X.Ok) : Inv X pins σ H s where
  ok := ok
  os := I.os
  bare := I.bare
  base := I.base
  loc := I.loc
  cell := I.cell
  free := I.free
  freeC := I.freeC
  pin := fun p q => I.pin p (List.mem_append_left _ q)
  hok := I.hok
  len := I.len
/-- the ends of a suite whose name i goes -/
def goneE (i : Nat) (D : Ends) : Ends := { nx := fun σ' H' => D.nx (σ'.set i none) H', rt := D.rt, bk := fun σ' H' => D.bk (σ'.set i none) H', ct := fun σ' H' => D.ct (σ'.set i none) H' }
/-- what 'except x as n' wishes of an exception: the one that it catches is held -/
def wTr (K : PySem.W.Frag) (c : Value) (i : Nat) (ts : TS) (Wout : WX) (D : Ends) : WX := fun cls d σ H =>
  ∃ b, PySem.W.exmOne K cls c = some b ∧ (b = true → ∀ a, H a = none → ts (goneE i D) (σ.set i (some (.ref a))) (upd H a (.ext (exoφ a cls d)))) ∧ (b = false → Wout cls d σ H)
variable {x n : Str} {c : Value} {i : Nat} {body suite : List Stmt} {b₀ : Stmt} {np pos pos' : Pos} {tb : WX → TS} {ts : TS} {Wout : WX}
/-- the clause, once the error stands in the frame's own hand -/
theorem clause_run (hs : X.stack = X.env :: X.outer) (hf : X.env.frame = some X.env.locals) (hx : X.ex = []) (hN : X.N.Nodup) (hi : X.N[i]? = some n) (hln : X.env.kindOf n = some .local) (hc : Names X x c) (tk : Takes X Wout) (hsu : ∀ (a : Addr) (pn : List (Addr × Obj)), PSs (X.suite a pn) (b₀ :: suite) ts)
    {D : Ends} {a : Addr} {B : Heap} {sI s3 : Shared} {cls : Value} {d : Option Addr} (J : Inv X pins σ H sI) (nb : ∀ b o, sI.heap.get? b = some o → b ∉ frs X.stack → B.get? b = some o) (up : sI.heap.UpToSlots s3.heap) (fl : HandSPX.FlyingZ B (X.env :: X.outer) a (Zc cls d) s3.heap)
    (na : H a = none) (os : s3.os = sI.os) (ag : AllBare s3.gens) (w : wTr X.K c i ts Wout D cls d σ H) :
    wpAny (model X.prog X.w) X.A (handleBy (.ref a) X.env [.ExceptHandler (some (.Name x np)) (some n) (b₀ :: suite) pos']) (SP X pins D) X.xe s3 := by
  obtain ⟨b, hb1, hyes, hno⟩ := w
  have ok := J.ok
  have nfr : a ∉ frs X.stack := by
    rw [hs]
    intro hm
    obtain ⟨oe, us, e1, _, e2⟩ := fl.there
    obtain ⟨_, o', e3, e4⟩ := fl.2.2.1.mem hm
    rw [e1] at e3; cases e3
    exact e4 _ e2
  have nL : a ≠ X.env.locals := fun z => nfr (by rw [hs]; exact List.mem_filterMap.mpr ⟨X.env, List.mem_cons_self, by rw [hf, z]⟩)
  have nI : sI.heap.get? a = none := by
    cases e : sI.heap.get? a with
    | none => rfl
    | some o => have z := nb a o e nfr; rw [fl.2.1] at z; cases z
  have n0 : X.s_0.heap.get? a = none := by
    cases e : X.s_0.heap.get? a with
    | none => rfl
    | some o =>
      obtain ⟨o', z⟩ := J.base.there a o e (by rw [hx]; exact fun z => nomatch z)
      rw [nI] at z; cases z
  have np' : ∀ p ∈ X.pn ++ pins, p.1 ≠ a := fun p hp z => by
    have q := (J.pin p hp).1
    rw [z, nI] at q; cases q
  -- held, in any heap where it has landed
  have held : ∀ {h' : Heap} {t' : Nat}, HandSPX.FlyingZ B (X.env :: X.outer) a (Zc cls d) h' → sI.heap.UpToSlots h' → Inv (X.suite a (X.pn ++ pins)) [] σ (upd H a (.ext (exoφ a cls d))) { s3 with heap := h', toks := t' } := fun {h' t'} f u => by
    obtain ⟨oe, us, e1, z, e2⟩ := f.there
    exact tracked ((J.landed (s' := { s3 with heap := h' }) nb f.1 u os ag).tok t') e1 z e2 na n0 nL np'
  have I3 := held (t' := s3.toks) fl up
  refine wpAny_handleBy_cons (codeAny_handlers_test ?_) (by intro q; cases q)
  have look : ∀ {Q : Value → Shared → Prop} {E : Value → Shared → Prop}, Q c s3 → wpAny (model X.prog X.w) (X.A.mark (some (.ref a))) (eval (.Name x np) X.env) Q E s3 := fun {Q E} q => by
    obtain ⟨g1, g2, g3 | ⟨g3, g4, g5⟩⟩ := hc
    · exact ld_glob (X := X.suite a (X.pn ++ pins)) I3 g1 g3 q g2
    · exact ld_blt (X := X.suite a (X.pn ++ pins)) I3 g1 g3 g4 q g5 g2
  refine look ?_
  obtain ⟨oe, us, e1, z1, e2⟩ := id fl.there
  have ty : PySem.W.Looks (model X.prog X.w) s3.heap (typeOf (.ref a)) cls := fun A Q E s k q => wpAny_typeOf_ref (k _ _ e1) (by rw [z1.1]; exact q)
  refine (PySem.W.exm_one (M := model X.prog X.w) I3.kIn ty hb1).here ?_
  cases b with
  | false =>
    refine wpAny_handleBy_nil ?_
    obtain ⟨k1, k2, k3, o4, v4, T, oT, t4, g1, g2, g3, g4, g5⟩ := id fl
    have out : wpAny (model X.prog X.w) X.A (setFlight (.ref a) X.env.frame) (fun _ s4 => wpAny (model X.prog X.w) X.A (throw (.ref a) : Sem Flow) (SP X pins D) X.xe s4) X.xe s3 := by
      rw [hf]
      refine HandSPX.setFlight_upZ fl fun h4 q4 u4 => wpAny_throw (tk _ _ ?_)
      exact ⟨a, B, sI, pins, σ, H, cls, d, rfl, J, nb, up.trans u4, .inr (.inr (by rw [hs]; exact q4)), na, os, ag, hno rfl⟩
    unfold PySem.passOn
    refine wpAny_bind (wpAny_field g1 g3 g4 ?_)
    have ne : ¬ ((Value.ref T == Value.none) = true) := by simp
    rw [if_neg ne]
    first
      | exact wpAny_bind out
      | exact wpAny_bind (wpAny_pure (wpAny_bind out))
  | true =>
    refine codeAny_handlers_suite_as ?_
    refine HandSPX.lands_againZ fl fun h4 f4 u4 => ?_
    have I4 := held (t' := s3.toks) f4 (up.trans u4)
    refine store_ok (X := X.suite a (X.pn ++ pins)) (v := .ref a) I4 hN hi (.inl hln) rfl (fun s5 I5 => ?_) (.inr hln)
    have goes : ∀ {σ6 : L2.St} {H6 : Hp} {s6 : Shared} {Q : Shared → Prop}, Inv (X.suite a (X.pn ++ pins)) [] σ6 H6 s6 → (∀ s7, Inv X pins (σ6.set i none) H6 s7 → Q s7) →
        wpAny (model X.prog X.w) X.A (do bindName X.env n .none; unbindBehindTheSuite X.env n pos') (fun _ s7 => Q s7) X.xe s6 := fun {σ6 H6 s6 Q} I6 hq => gone_ok (untrackedCx I6 ok) hN hi hln hq
    refine wpAny_mono ((hsu a (X.pn ++ pins)).run [] s5 _ _ (goneE i D) I5 (hyes rfl a na)) (fun fw s6 h6 => ?_) (fun _ _ z => False.elim z)
    cases fw with
    | next => obtain ⟨σ6, H6, I6, q6⟩ := h6; exact goes I6 fun s7 I7 => ⟨_, _, I7, q6⟩
    | brk => obtain ⟨σ6, H6, I6, q6⟩ := h6; exact goes I6 fun s7 I7 => ⟨_, _, I7, q6⟩
    | cont => obtain ⟨σ6, H6, I6, q6⟩ := h6; exact goes I6 fun s7 I7 => ⟨_, _, I7, q6⟩
    | ret u => obtain ⟨v6, σ6, H6, I6, r6, q6⟩ := h6; exact goes I6 fun s7 I7 => ⟨_, _, _, I7, r6, q6⟩
theorem ps_tryT (hs : X.stack = X.env :: X.outer) (hf : X.env.frame = some X.env.locals) (hx : X.ex = []) (hN : X.N.Nodup) (hi : X.N[i]? = some n) (hln : X.env.kindOf n = some .local) (hc : Names X x c) (tk : Takes X Wout)
    (hb : ∀ (W : WX) (pn : List (Addr × Obj)) (xe : Value → Shared → Prop), Takes (X.tr pn xe) W → PassesOwn (model X.prog X.w) X.A X.env xe → PSs (X.tr pn xe) body (tb W)) (hsu : ∀ (a : Addr) (pn : List (Addr × Obj)), PSs (X.suite a pn) (b₀ :: suite) ts) :
    PS X (.Try body [.ExceptHandler (some (.Name x np)) (some n) (b₀ :: suite) pos'] [] [] pos) (fun D σ H => tb (wTr X.K c i ts Wout D) D σ H) := by
  refine ⟨fun pins s σ H D I t => wpAny_Try_except ?_⟩
  have ok := I.ok
  have hfr : X.A.frames = some (X.env :: X.outer) := by rw [ok.frames, hs]
  let xe : Value → Shared → Prop := fun e s₁ => wpAny (model X.prog X.w) X.A (noteFrame e X.env) (fun _ s₂ => wpAny (model X.prog X.w) X.A (setFlight e none) (fun _ s₃ =>
    wpAny (model X.prog X.w) X.A (handleBy e X.env [.ExceptHandler (some (.Name x np)) (some n) (b₀ :: suite) pos']) (SP X pins D) X.xe s₃) X.xe s₂) X.xe s₁
  have tkT : Takes (X.tr (X.pn ++ pins) xe) (wTr X.K c i ts Wout D) := by
    rintro u s' ⟨a, B, sI, pins', σ', H', cls, d, rfl, J', nb, up, sky, na, os, ag, w⟩
    have sky2 : Sky B (X.env :: X.outer) a (Zc cls d) X.env.locals s'.heap := by rw [← hs]; exact sky
    show wpAny _ X.A (noteFrame (.ref a) X.env) _ _ s'
    exact Sky.land Zc.steady hfr hf sky2 fun h3 f3 u3 => clause_run (s3 := { s' with heap := h3 }) hs hf hx hN hi hln hc tk hsu (J'.ofTry ok) nb (up.trans u3) f3 na os ag w
  refine wpAny_mono ((hb _ (X.pn ++ pins) xe tkT PassesOwn.looking).run [] s σ H D (I.toTry _) t) (fun fw s1 h1 => ?_) (fun _ _ z => z)
  cases fw with
  | next => obtain ⟨σ1, H1, I1, q1⟩ := h1; exact wpAny_execs_nil ⟨σ1, H1, I1.ofTry ok, q1⟩
  | brk => obtain ⟨σ1, H1, I1, q1⟩ := h1; exact ⟨σ1, H1, I1.ofTry ok, q1⟩
  | cont => obtain ⟨σ1, H1, I1, q1⟩ := h1; exact ⟨σ1, H1, I1.ofTry ok, q1⟩
  | ret u => obtain ⟨v1, σ1, H1, I1, r1, q1⟩ := h1; exact ⟨v1, σ1, H1, I1.ofTry ok, r1, q1⟩
end
end Fw
namespace Fw
open PySem PySem.Spec PyProof.Rows L2
/-- behind a suite whose name i goes -/
def goneR (i : Nat) (r : SR) : SR := match r with
  | .nx ss h => .nx (ss.set i none) h
  | .bk ss h => .bk (ss.set i none) h
  | .ct ss h => .ct (ss.set i none) h
  | .rt v h => .rt v h
  | .ex _ _ _ _ => .stuck
  | .stuck => .stuck
def mTry (i : Nat) (sub : Nat → Option Bool) (mb ms : SM) : SM := fun ss h => match mb ss h with
  | .ex c xs ss1 h1 => match sub c with
    | some true => goneR i (ms (ss1.set i (some (.ref h1.length))) (h1 ++ [.exo c xs]))
    | some false => .ex c xs ss1 h1
    | none => .stuck
  | r => r
/-- sub tells by the class's number whether the clause of cv catches it -/
def SubOk (en : En) (cv : Value) (sub : Nat → Option Bool) : Prop := ∀ c b, sub c = some b → ∃ C ns, en.cl[c]? = some (C, ns) ∧ PySem.W.exmOne en.K (.ref C) cv = some b
abbrev wNo : WX := fun _ _ _ _ => False
theorem finS.gone {en : En} {W : WX} {ρ : List Addr} {i : Nat} {r : SR} {D : Ends} (f : finS en W ρ (goneR i r) D) : finS en wNo ρ r (goneE i D) := by
  cases r with
  | stuck => exact f
  | nx ss h => exact fun ρ' σ H p rel rs => f ρ' _ H p rel (rs.clear i)
  | bk ss h => exact fun ρ' σ H p rel rs => f ρ' _ H p rel (rs.clear i)
  | ct ss h => exact fun ρ' σ H p rel rs => f ρ' _ H p rel (rs.clear i)
  | rt v h => exact f
  | ex c xs ss h => exact f.elim
theorem HasF.more {ρ : List Addr} {H : Hp} {d : Option Addr} {kvs : List (Str × V)} {a : Addr} {u : HO} (h : HasF ρ H d kvs) (na : H a = none) : HasF (ρ ++ [a]) (upd H a u) d kvs := by
  rcases h with z | ⟨dx, e1, e2, e3⟩
  · exact .inl z
  · have ne : dx ≠ a := fun z => by rw [z, na] at e2; cases e2
    exact .inr ⟨dx, e1, by rw [upd_ne ne]; exact e2, fun m => by
      rcases List.mem_append.mp m with m | m
      · exact e3 m
      · simp at m; exact ne m⟩
section
variable {X : Cx} {en : En} {W : WX} {k i : Nat} {x n : Str} {cv : Value} {body suite : List Stmt} {b₀ : Stmt} {np pos pos' : Pos} {mb ms : SM} {sub : Nat → Option Bool}
theorem try_read (hK : X.K = en.K) (ok : SubOk en cv sub) {D : Ends} {σ : L2.St} {H : Hp} (t : tS en W (mTry i sub mb ms) D σ H) : tS en (wTr X.K cv i (tS en wNo ms) W D) mb D σ H := by
  obtain ⟨ρ, ss, h, rel, rs, f⟩ := t
  refine ⟨ρ, ss, h, rel, rs, ?_⟩
  unfold mTry at f
  cases e1 : mb ss h with
  | stuck => rw [e1] at f; exact f
  | nx s2 h2 => rw [e1] at f; exact f
  | bk s2 h2 => rw [e1] at f; exact f
  | ct s2 h2 => rw [e1] at f; exact f
  | rt v h2 => rw [e1] at f; exact f
  | ex c xs ss1 h1 =>
    simp only [e1] at f
    intro ρ1 σ1 H1 cls d p1 rel1 rs1 rx
    have rx0 := rx
    obtain ⟨C, ns, vs, hc, rfl, hf, hl, rv⟩ := rx
    cases eb : sub c with
    | none => simp only [eb] at f; exact f.elim
    | some b =>
      obtain ⟨C', ns', hc', ek⟩ := ok c b eb
      rw [hc] at hc'; cases hc'
      refine ⟨b, by rw [hK]; exact ek, fun hb a na => ?_, fun hb => ?_⟩
      · subst hb
        simp only [eb] at f
        have p2 := Pre.one ρ1 a
        have rel2 : Rel en (ρ1 ++ [a]) (h1 ++ [.exo c xs]) (upd H1 a (.ext (exoφ a (.ref C) d))) := rel1.push na ⟨C, ns, d, vs, hc, upd_same, hf.more na, hl, rv.mono p2⟩
        refine ⟨ρ1 ++ [a], _, _, rel2, (rs1.mono p2).set (x := .ref h1.length) (v := .ref a) ⟨a, ?_, rfl⟩ i, ((f.mono p1).mono p2).gone⟩
        rw [← rel1.len, List.getElem?_append_right (Nat.le_refl _)]; simp
      · subst hb
        simp only [eb] at f
        exact f ρ1 σ1 H1 _ d p1 rel1 rs1 rx0
/-- try: body, except x as n: suite -/
theorem PS.tryAs (G : Good en X W k) (hs : X.stack = X.env :: X.outer) (hf : X.env.frame = some X.env.locals) (hx : X.ex = []) (hN : X.N.Nodup) (hi : X.N[i]? = some n) (hln : X.env.kindOf n = some .local) (hc : Names X x cv) (ok : SubOk en cv sub)
    (hb : ∀ (W' : WX) (pn : List (Addr × Obj)) (xe : Value → Shared → Prop), Good en (X.tr pn xe) W' k → PSs (X.tr pn xe) body (tS en W' mb)) (hsu : ∀ (a : Addr) (pn : List (Addr × Obj)), PSs (X.suite a pn) (b₀ :: suite) (tS en wNo ms)) :
    PS X (.Try body [.ExceptHandler (some (.Name x np)) (some n) (b₀ :: suite) pos'] [] [] pos) (tS en W (mTry i sub mb ms)) :=
  PSimp (ps_tryT (tb := fun W' => tS en W' mb) hs hf hx hN hi hln hc G.tk (fun W' pn xe tk ps => hb W' pn xe ⟨tk, ps, G.room, G.gd, G.sm, G.calm, G.K⟩) hsu) fun D σ H t => try_read G.K ok t
end
end Fw
namespace Fw
open PySem PySem.Spec PyProof.Rows L2
/-! ### dict displays -/
abbrev DM := SS → SH → Res (List (SV × SV))
abbrev RVV (en : En) : List Addr → List (SV × SV) → List (V × V) → Prop := fun ρ => Paired fun p q => RS en ρ p.1 q.1 ∧ RS en ρ p.2 q.2
def dNil : DM := fun _ h => .ok [] h
def dCons (mk mv : EM) (mr : DM) : DM := fun ss h => (mk ss h).bind fun k h1 => (mv ss h1).bind fun v h2 => (mr ss h2).bind fun ps h3 => .ok ((k, v) :: ps) h3
def keysP : List (SV × SV) → Option (List (Key × SV))
  | [] => some []
  | p :: r => match keyOf p.1 with
    | some k => match keysP r with
      | some ks => some ((k, p.2) :: ks)
      | none => none
    | none => none
def mergeS (kvs more : List (Key × SV)) : List (Key × SV) := more.foldl (fun acc kv => putS acc kv.1 kv.2) kvs
def mDict0 : EM := fun _ h => .ok (.ref h.length) (h ++ [.dK []])
def mDict0T : EM := fun _ h => .ok (.ref h.length) (h ++ [.dT []])
def mDict (md : DM) : EM := fun ss h => (md ss (h ++ [.dK []])).bind fun ps h1 => match keysP ps with
  | some kvs => if kvs.length ≤ 15 ∧ h1[h.length]? = some (.dK []) then .ok (.ref h.length) (h1.set h.length (.dK (mergeS [] kvs))) else .stuck
  | none => .stuck
section
variable {X : Cx} {en : En} {W : WX} {pos : Pos}
/-- the pairs of a display and their meaning -/
structure PD (X : Cx) (en : En) (W : WX) (pos : Pos) (keys : List (Option Expr)) (values : List Expr) (md : DM) : Prop where
  ex : ∃ trs, PPs X pos keys values trs ∧ ∀ σ H Q, tM en W (RVV en) md σ H Q → tPairs trs σ H Q
  all : keys.all (·.isSome) = true
  len : keys.length = values.length
theorem PD.nil : PD X en W pos [] [] dNil := ⟨⟨[], pps_nil, fun σ H Q ⟨ρ, ss, h, rel, rs, f⟩ => f ρ H [] (Pre.refl ρ) rel .nil⟩, rfl, rfl⟩
theorem PD.cons {k v : Expr} {ks : List (Option Expr)} {vs : List Expr} {mk mv : EM} {mr : DM} (hk : PE X k (tE en W mk)) (hv : PE X v (tE en W mv)) (hr : PD X en W pos ks vs mr) : PD X en W pos (some k :: ks) (v :: vs) (dCons mk mv mr) := by
  obtain ⟨trs, hp, hq⟩ := hr.ex
  refine ⟨⟨(tE en W mk, tE en W mv) :: trs, pps_cons hk hv hp, fun σ H Q t => ?_⟩, by rw [List.all_cons, hr.all]; rfl, by rw [List.length_cons, List.length_cons, hr.len]⟩
  obtain ⟨ρ, ss, h, rel, rs, f⟩ := t
  show tE en W mk σ H fun x H1 => tE en W mv σ H1 fun y H2 => tPairs trs σ H2 fun ps H3 => Q ((x, y) :: ps) H3
  refine ⟨ρ, ss, h, rel, rs, ?_⟩
  unfold dCons at f
  cases e1 : mk ss h with
  | stuck => simp only [e1, Res.bind, fin] at f
  | ex cc xs h1 => simp only [e1, Res.bind, fin] at f; exact f
  | ok k0 h1 =>
    simp only [e1, Res.bind] at f
    intro ρ1 H1 x p1 rel1 rx
    refine ⟨ρ1, ss, h1, rel1, rs.mono p1, ?_⟩
    cases e2 : mv ss h1 with
    | stuck => simp only [e2, fin] at f
    | ex cc xs h2 => simp only [e2, fin] at f ⊢; exact fun ρ' H cls d p => f ρ' H cls d (p1.trans p)
    | ok v0 h2 =>
      simp only [e2] at f
      intro ρ2 H2 y p2 rel2 ry
      refine hq σ H2 _ ⟨ρ2, ss, h2, rel2, (rs.mono p1).mono p2, ?_⟩
      cases e3 : mr ss h2 with
      | stuck => simp only [e3, fin] at f
      | ex cc xs h3 => simp only [e3, fin] at f ⊢; exact fun ρ' H cls d p => f ρ' H cls d ((p1.trans p2).trans p)
      | ok ps h3 =>
        simp only [e3] at f
        exact fun ρ3 H3 qs p3 rel3 rq => f ρ3 H3 _ ((p1.trans p2).trans p3) rel3 (.cons ⟨(rx.mono p2).mono p3, ry.mono p3⟩ rq)
theorem keysP_rel {ρ : List Addr} : ∀ {ps : List (SV × SV)} {qs : List (V × V)} {kvs : List (Key × SV)}, keysP ps = some kvs → RVV en ρ ps qs → ∃ kws : List (Key × V), qs = kws.map (fun kv => (kV kv.1, kv.2)) ∧ RK en ρ kvs kws
  | [], _, _, e, r => by cases r; cases e; exact ⟨[], rfl, .nil⟩
  | p :: ps, _, _, e, r => by
    cases r with
    | @cons _ q _ qs r t =>
      unfold keysP at e
      split at e
      · rename_i k ek
        split at e
        · rename_i ks eks
          cases e
          obtain ⟨kws, e1, e2⟩ := keysP_rel eks t
          obtain ⟨q1, q2⟩ := q
          refine ⟨(k, q2) :: kws, ?_, .cons ⟨rfl, r.2⟩ e2⟩
          rw [List.map_cons, ← e1]
          have := keyOf_rel ek r.1
          simp only at this
          rw [this]
        · cases e
      · cases e
theorem merge_rel {ρ : List Addr} : ∀ {kvs : List (Key × SV)} {kws : List (Key × V)} {a : List (Key × SV)} {b : List (Key × V)}, RK en ρ a b → RK en ρ kvs kws → RK en ρ (mergeS a kvs) (mergeK b kws)
  | _, _, _, _, r, .nil => r
  | p :: kvs, q :: kws, a, b, r, .cons z t => by
    show RK en ρ (mergeS (putS a p.1 p.2) kvs) (mergeK (putK b q.1 q.2) kws)
    rw [← z.1]
    exact merge_rel (RK.put z.2 r) t
theorem PE.dict0 : PE X (.Dict [] [] pos) (tE en W mDict0) := PEimp pe_dnewK fun σ H Q ⟨ρ, ss, h, rel, rs, f⟩ p hp => by
  refine f (ρ ++ [p]) _ (.ref p) (Pre.one ρ p) (rel.push (o := .dK []) hp ⟨[], upd_same, .nil⟩) ⟨p, ?_, rfl⟩
  rw [← rel.len, List.getElem?_append_right (Nat.le_refl _)]; simp
theorem PE.dict0T : PE X (.Dict [] [] pos) (tE en W mDict0T) := PEimp pe_dnewT fun σ H Q ⟨ρ, ss, h, rel, rs, f⟩ p hp => by
  refine f (ρ ++ [p]) _ (.ref p) (Pre.one ρ p) (rel.push (o := .dT []) hp ⟨[], upd_same, .nil⟩) ⟨p, ?_, rfl⟩
  rw [← rel.len, List.getElem?_append_right (Nat.le_refl _)]; simp
theorem PE.dict {keys : List (Option Expr)} {values : List Expr} {md : DM} (h : PD X en W pos keys values md) (h0 : keys ≠ [] := by intro z; cases z) (h15 : keys.length ≤ 15 := by decide) : PE X (.Dict keys values pos) (tE en W (mDict md)) := by
  obtain ⟨trs, hp, hq⟩ := h.ex
  refine PEimp (pe_disp hp h.all h.len h0 h15) fun σ H Q t => ?_
  intro p hp0
  obtain ⟨ρ, ss, hh, rel, rs, f⟩ := t
  have rel1 := rel.push (o := .dK []) hp0 ⟨[], upd_same, .nil⟩
  have ei : (ρ ++ [p])[hh.length]? = some p := by rw [← rel.len, List.getElem?_append_right (Nat.le_refl _)]; simp
  refine hq σ _ _ ⟨ρ ++ [p], ss, _, rel1, rs.mono (Pre.one ρ p), ?_⟩
  unfold mDict at f
  cases e1 : md ss (hh ++ [.dK []]) with
  | stuck => simp only [e1, Res.bind, fin] at f
  | ex cc xs h1 => simp only [e1, Res.bind, fin] at f ⊢; exact fun ρ' H cls d p2 => f ρ' H cls d ((Pre.one ρ p).trans p2)
  | ok ps h1 =>
    simp only [e1, Res.bind] at f
    intro ρ1 H1 qs p1 rel2 rq
    split at f
    · rename_i kvs ek
      split at f
      · rename_i hc
        obtain ⟨kws, e2, rk⟩ := keysP_rel ek rq
        obtain ⟨vs0, e3, r0⟩ := rel2.at2 (p1.get ei) hc.2
        cases r0
        refine ⟨e3, kws, e2, by rw [← rk.length]; exact hc.1, ?_⟩
        refine f ρ1 _ (.ref p) ((Pre.one ρ p).trans p1) (rel2.put (p1.get ei) (o := .dK (mergeS [] kvs)) ⟨_, upd_same, merge_rel .nil rk⟩) ⟨p, p1.get ei, rfl⟩
      · exact f.elim
    · exact f.elim
end
end Fw
namespace Er
open PySem PySem.W PySem.Calls PyProof.Rows PySem.HandSPX
abbrev veM : List Value := [.type "ValueError", .type "Exception", .type "BaseException", .type "object"]
section
variable {prog : Program} {w : World} {M : Model} {A : Around} {E : Value → Shared → Prop} {R : Result → Shared → Prop} {h : Heap} {g : Array GenState} {d : Drawn} {t : Nat} {os : OsState}
variable {nm q : Str} {C N : Addr} {bs bm : List Value} {sn : List Str} {sub : List Value} {ab : Bool} {col : Option Bool} {dd : Option Addr} {k0 k1 k2 k3 k5 : Option Value} {f : Str} {v : Value}
/-- C(f = v): the checks of ValueError.__new__ -/
theorem kw_check (hT : ∀ X : String, bm.contains (.type X) = veM.contains (.type X)) {Q : Unit → Shared → Prop} (hC : h.get? C = some (excClassObj nm q C N bs bm true sn sub ab col dd k0 k1 k2 k3 k5 "ValueError.__new__")) (z : Q () ⟨h, g, d, t, os⟩) :
    wpAny M A (checkBuiltinCall "ValueError.__new__" ⟨[.ref C], [(f, v)]⟩) Q E ⟨h, g, d, t, os⟩ := by
  have F := PySem.F.excBase_ValueError
  have cB : (Value.ref C :: bm).contains (.type "ValueError") = true := by rw [List.contains_cons, hT, F.hasB, Bool.or_true]
  have st := F.noStar
  simp only [checkBuiltinCall, F.newKind, F.newSplit, F.newRow]
  repeat (first | (refine wpAny_isSubtype_exc hC ?_; rw [cB]) | refine wpAny_loadPart_at hC ?_ | refine wpAny_madeBy_exc hC ?_ | refine wpAny_staticBase_exc hC ?_ | wp_step | simp only [bne_self_eq_false, Bool.false_eq_true, if_false])
  all_goals exact z
/-- .. ValueError.__new__ -/
theorem kw_new (hT : ∀ X : String, bm.contains (.type X) = veM.contains (.type X)) (hC : h.get? C = some (excClassObj nm q C N bs bm true sn sub ab col dd k0 k1 k2 k3 k5 "ValueError.__new__"))
    (z : R (.ok (.ret (.ref (h.objs.size + 1)))) ⟨(h.push (kdv_tup [])).push (excO C h.objs.size), g, d, t, os⟩) : codeAny (model prog w) A (.builtin "ValueError.__new__" ⟨[.ref C], [(f, v)]⟩) R ⟨h, g, d, t, os⟩ := by
  have F := PySem.F.excBase_ValueError
  have fin := F.ends
  have cB : (Value.ref C :: bm).contains (.type "ValueError") = true := by rw [List.contains_cons, hT, F.hasB, Bool.or_true]
  have cA : (Value.ref C :: bm).contains (.type "AttributeError") = false := by rw [List.contains_cons, hT, F.noAttr]; rfl
  have cN : (Value.ref C :: bm).contains (.type "NameError") = false := by rw [List.contains_cons, hT, F.noName]; rfl
  refine codeAny_builtinAt F.entry ?_
  unfold Builtin.«BaseException.__new__»
  refine PySem.wpAt_bind ?_
  show PySem.wpAt _ _ _ (stack >>= _) _ _ _
  refine PySem.wpAt_bind (PySem.wpAt_stack fun p below => PySem.wpAt_of_wpAny ?_)
  wp_walk
  refine PySem.wpAt_of_wpAny ?_
  rw [F.owner]
  repeat (first | with_reducible refine wpAny_loadPart_at hC ?_ | with_reducible refine wpAny_madeHere_exc F.canon hC ?_ | (with_reducible refine wpAny_isSubtype_exc hC ?_; first | rw [cA] | rw [cN] | rw [cB]) | wp_step)
  show R _ _
  rw [Heap.size_push]
  exact z
theorem kw_type (hT : ∀ X : String, bm.contains (.type X) = veM.contains (.type X)) {fI : Addr} {Q : Fin → Shared → Prop} (hC : h.get? C = some (excClassObj nm q C N bs bm true sn sub ab col dd k0 k1 k2 k3 k5 "ValueError.__new__"))
    (hi : Looks (model prog w) h (typeLookup (.ref C) "__init__") (some (.ref fI))) (hb : ∀ self, Looks (model prog w) h (bindSpecial (.ref fI) self) (.ref fI, [self]))
    (z : codeAny (model prog w) A (.call (.ref fI) ⟨[.ref (h.objs.size + 1)], [(f, v)]⟩) (fun r s' => match r with | .ok (.ret u) => u = .none ∧ Q (.done (.ret (.ref (h.objs.size + 1)))) s' | .ok _ => False | .error e => E e s')
      ⟨(h.push (kdv_tup [])).push (excO C h.objs.size), g, d, t, os⟩) : wpAny (model prog w) A (Builtin.«type.__call__» ⟨[.ref C], [(f, v)]⟩) Q E ⟨h, g, d, t, os⟩ := by
  have F := PySem.F.excBase_ValueError
  repeat (first | with_reducible refine wpAny_madeBy_exc hC ?_ | with_reducible refine wpAny_loadPart_at hC ?_ | wp_step)
  refine codeAny_call_builtin_code (Code.quiet_builtin _ F.quiet) (kw_check hT hC (kw_new hT hC ?_))
  show wpAny _ _ _ _ _ _
  have kp : ∀ b o, h.get? b = some o → ((h.push (kdv_tup [])).push (excO C h.objs.size)).get? b = some o := fun b o e => Heap.get?_push_of_some _ (Heap.get?_push_of_some _ e)
  have hC2 := kp _ _ hC
  have at2 : ((h.push (kdv_tup [])).push (excO C h.objs.size)).get? (h.objs.size + 1) = some (excO C h.objs.size) := by heap_get
  have cC : (Value.ref C :: bm).contains (.ref C) = true := by simp
  have i2 := hi.keeps kp
  have b2 := (hb (.ref (h.objs.size + 1))).keeps kp
  unfold isInstance
  repeat (first | with_reducible refine wpAny_loadPart_at at2 ?_ | (with_reducible refine wpAny_isSubtype_exc hC2 ?_; rw [cC]) | wp_step)
  show wpAny _ _ (typeLookup (.ref C) _) _ _ _
  refine i2.at (wpAny_holding (wpAny_bind (b2.at ?_)))
  refine wpAny_bind (wpAny_call (codeAny_mono z fun r s' y => ?_))
  rcases r with e | (u | _ | _ | _) <;> first | exact y | exact y.elim | skip
  obtain ⟨rfl, y⟩ := y
  first
    | exact wpAny_pure (wpAny_pure y)
    | (wp_walk; exact y)
theorem kw_call (hT : ∀ X : String, bm.contains (.type X) = veM.contains (.type X)) {fI : Addr} (hC : h.get? C = some (excClassObj nm q C N bs bm true sn sub ab col dd k0 k1 k2 k3 k5 "ValueError.__new__"))
    (hi : Looks (model prog w) h (typeLookup (.ref C) "__init__") (some (.ref fI))) (hb : ∀ self, Looks (model prog w) h (bindSpecial (.ref fI) self) (.ref fI, [self]))
    (z : codeAny (model prog w) (A.under (.builtin "type.__call__" ⟨[.ref C], [(f, v)]⟩)) (.call (.ref fI) ⟨[.ref (h.objs.size + 1)], [(f, v)]⟩) (InitBack (h.objs.size + 1) R) ⟨(h.push (kdv_tup [])).push (excO C h.objs.size), g, d, t, os⟩) :
    codeAny (model prog w) A (.call (.ref C) ⟨[], [(f, v)]⟩) R ⟨h, g, d, t, os⟩ := by
  have t1 := tc_lookup
  have t2 := tc_bind (.ref C)
  have ty : (⟨h, g, d, t, os⟩ : Shared).TypeIs (.ref C) "type" := ⟨_, hC, rfl⟩
  refine codeAny_of_tree ?_
  show wpAny _ _ (callAny (.ref C) _) _ _ _
  repeat (any_goals (first | assumption | with_reducible refine wpAny_loadPart_at hC ?_ | wp_step))
  refine ⟨rfl, ?_⟩
  refine codeAny_call_builtin_at (Code.quiet_builtin _ (by decide +kernel)) entry_typeCall (wpAny_check_type_call_sub hC (kw_type hT hC hi hb ?_))
  refine codeAny_mono z fun r s' y => ?_
  rcases r with e | (u | _ | _ | _) <;> exact y
end
/-- what a call of an own error class by its field's name does -/
def MakesK (P : Program) (w : World) (K : Frag) (mg : Str → Option Value) (C : Addr) (f : Str) : Prop :=
  ∀ (A : Around) (mb : Str → Option Value) (s : Shared) (v : Value) (R : Value → Shared → Prop) (E : Value → Shared → Prop), K.In s.heap → s.heap.Ns mainGlobals mg → s.heap.Ns builtinsNs mb → mb "super" = some (.type "super") → s.heap.NoLimit → A.depth + 1 < recursionLimit →
    (∀ h' tk e d, MadeE s.heap h' e C d [(f, v)] → R (.ref e) { s with heap := h', toks := tk }) → wpAny (model P w) A (call (.ref C) [] [(f, v)]) R E s
theorem err_madeK {P : Program} {w : World} {K : Frag} {mg : Str → Option Value} {C fI : Addr} {f : Str} (T : ErrTxt P K f C fI) (hs1 : mg "super" = none) : MakesK P w K mg C f := by
  intro A mb s v R E X hG hB hs2 hlim hroom hq
  obtain ⟨nm, q, N, bs, bm, sn, sub, ab, col, dd, k0, k1, k2, k3, k5, hC, hbm, hal⟩ := T.cls
  obtain ⟨hp, g, dr, tk, os⟩ := s
  have kp : ∀ b o, hp.get? b = some o → ((hp.push (kdv_tup [])).push (excO C hp.objs.size)).get? b = some o := fun b o e => Heap.get?_push_of_some _ (Heap.get?_push_of_some _ e)
  have hget : ((hp.push (kdv_tup [])).push (excO C hp.objs.size)).get? (hp.objs.size + 1) = some (excO C hp.objs.size) := by heap_get
  have none1 : hp.get? (hp.objs.size + 1) = none := by
    cases e : hp.get? (hp.objs.size + 1) with
    | none => rfl
    | some o => have z2 : hp.objs.size + 1 < hp.objs.size := Heap.lt_size e; omega
  have hnx : K.lookup (hp.objs.size + 1) = none := by
    cases e : K.lookup (hp.objs.size + 1) with
    | none => rfl
    | some o =>
      have z : hp.get? (hp.objs.size + 1) = some o := X _ _ e
      rw [none1] at z; cases z
  refine wpAny_call (kw_call (fun X => refsVE_contains X bm hbm) (X _ _ hC) (looks_findIn X T.iC) (fun self => bind_fn X self T.tC) ?_)
  refine err_init (s := ⟨(hp.push (kdv_tup [])).push (excO C hp.objs.size), g, dr, tk, os⟩) (mg := mg) (mb := mb) (v := v) T (X.keeps kp) (hG.keeps kp) (hB.keeps kp) hs1 hs2 (hlim.keeps kp) hget hnx ?_ (fun oc od fd osl e => T.bK oc od fd osl e _ _ _ (X.keeps kp)) fun h' tk' dx ie => ?_
  · show A.depth + 1 < recursionLimit
    exact hroom
  · have k2 := ie.keep
    have old : ∀ b o, hp.get? b = some o → h'.get? b = some o := fun b o e => k2 b o (Nat.ne_of_lt (Nat.lt_succ_of_lt (Heap.lt_size e))) (kp b o e)
    have dn := ie.dbig
    have z : hp.objs.size + 1 + 1 ≤ dx := by
      first
        | (simpa only [Heap.size_push] using dn)
        | exact dn
        | (have q := dn; rw [Heap.size_push, Heap.size_push] at q; exact q)
    obtain ⟨t1, ho⟩ := ie.obj
    have z3 : hp.objs.size ≤ dx := by omega
    exact ⟨rfl, hq h' tk' (hp.objs.size + 1) (some dx) ⟨old, none1, ⟨_, _, ho, ⟨rfl, rfl⟩, rfl, rfl⟩, .inr ⟨dx, f, v, rfl, rfl, z3, ie.dne, ie.ns⟩⟩⟩
end Er
namespace Fw
open PySem PySem.Spec PyProof.Rows L2
structure ErrAtK (P : Program) (w : World) (K : PySem.W.Frag) (mg : Str → Option Value) (en : En) (c : Nat) (x f : Str) : Prop where
  ex : ∃ C, en.cl[c]? = some (C, [f]) ∧ mg x = some (.ref C) ∧ PySem.W.keepIn K (.ref C) = true ∧ Er.MakesK P w K mg C f
theorem PE.errK {X : Cx} {en : En} {W : WX} {k c : Nat} {x f : Str} {p pos kpos : Pos} {e : Expr} {me : EM} (D : ErrAtK X.prog X.w X.K X.mg en c x f) (G : Good en X W k) (hg : Gl X x) (he : PE X e (tE en W me))
    (hall : (backToKw pos (keywordEach [⟨some f, e, kpos⟩] X.env)).all (·.1.isSome) = true := by rfl) (hks : (backToKw pos (keywordEach [⟨some f, e, kpos⟩] X.env)).filterMap (·.1) = [f] := by rfl) (hdb : (x == ("__debug__" : Str)) = false := by decide)
    (hpl : ((backTo pos (starEach [] X.env)).any (·.1) || (backToKw pos (keywordEach [⟨some f, e, kpos⟩] X.env)).any (·.1.isNone)) = false := by rfl) :
    PE X (.Call (.Name x p) [] [⟨some f, e, kpos⟩] pos) (tE en W (mErr c 1 (aCons me aNil))) := by
  obtain ⟨C, hc, hm, hkp, hmk⟩ := D.ex
  refine ⟨fun pins s σ H Q I t => ?_⟩
  refine wpAny_Call_Name_kw (ld_glob I hg hm ?_ hdb)
  have t2 : tE en W me σ H fun x H1 => ∀ d H2 a, Grown [f] x d H1 H2 → H2 a = none → Q (.ref a) (upd H2 a (.ext (exoφ a (.ref C) d))) := by
    obtain ⟨ρ, ss, h, rel, rs, fn⟩ := err_read hc rfl t
    refine ⟨ρ, ss, h, rel, rs, ?_⟩
    unfold aCons at fn
    cases e1 : me ss h with
    | stuck => simp only [e1, Res.bind, fin] at fn
    | ex c' xs h1 => simp only [e1, Res.bind, fin] at fn; exact fn
    | ok y h1 =>
      simp only [e1, Res.bind, aNil] at fn
      intro ρ1 H1 b p1 rel1 rb
      obtain ⟨v, o, z⟩ := fn ρ1 H1 [b] p1 rel1 (.cons rb .nil)
      rcases o with o | ⟨o, _⟩
      · cases o; exact z
      · cases o
  refine PySem.W.callWith_KW0 (h₀ := X.base) I.ok.mod.kin hkp hall ?_ hpl
  refine thn ((pk_cons he pk_nil).run pos pins s σ H (fun vs H1 => ∃ v, vs = [v] ∧ ∀ d H2 a, Grown [f] v d H1 H2 → H2 a = none → Q (.ref a) (upd H2 a (.ext (exoφ a (.ref C) d)))) I ?_) fun us s1 ⟨vs, H1, I1, r, v, ev, q⟩ => ⟨I1.kIn, ?_⟩
  · exact t2.imp fun b H1 z => ⟨b, rfl, z⟩
  · subst ev
    rw [hks]
    obtain ⟨v', rfl, rv⟩ : ∃ v', us = [v'] ∧ RelV v v' := by
      cases r with
      | cons rv rn => cases rn; exact ⟨_, rfl, rv⟩
    obtain ⟨mb, h1, h2⟩ := I1.ok.mod.blt
    refine hmk X.A mb s1 v' _ _ I1.kIn (I1.ok.mod.glob.keeps I1.bk) (h1.keeps I1.bk) ((h2 _ (by decide)).trans rfl) I1.nolimit (by have := G.room.dp; omega) fun h' tk a d M => ?_
    obtain ⟨G', H2, J, g1, g2, g3, g4⟩ := made_inv (tk' := tk) (ns := [f]) I1 M (by simp) rv
    obtain ⟨oe, fv, hoe, hz, hdat, _⟩ := M.obj
    exact ⟨.ref a, _, J.laidN (t' := tk) (o := .ext (exoφ a (.ref C) d)) (h' := h') g2 g1 g3 (exo_ok hoe hz hdat), rfl, q d H2 a g4 g3⟩
end Fw
namespace Fw
open PySem PySem.Spec PyProof.Rows L2
section
variable {X : Cx} {en : En} {W : WX} {x : Str} {pos : Pos}
/-- a module's constant -/
theorem PE.gint {i : Int} (hm : ∃ t, X.mg x = some (.int i t)) (hg : Gl X x) (hd : (x == ("__debug__" : Str)) = false := by decide) : PE X (.Name x pos) (tE en W (mC (.int i))) := by
  obtain ⟨t, hm⟩ := hm
  exact PEimp (pe_glob hg hm (v := .int i) ⟨t, rfl⟩ hd) (constOf fun _ => rfl)
theorem PE.gstr {i : Str} (hm : ∃ t, X.mg x = some (.str i t)) (hg : Gl X x) (hd : (x == ("__debug__" : Str)) = false := by decide) : PE X (.Name x pos) (tE en W (mC (.str i))) := by
  obtain ⟨t, hm⟩ := hm
  exact PEimp (pe_glob hg hm (v := .str i) ⟨t, rfl⟩ hd) (constOf fun _ => rfl)
end
section
variable {X : Cx} {en : En} {W : WX} {pos : Pos} {k : Nat}
/-- a list comprehension, the block's state of affairs handed on -/
theorem PE.lcG {elt tg iter : Expr} {ifs : List Expr} {scope : Scope} {own : List (Str × Nat)} {m : IM} {g : GM} {t : BM} {e : EM} (G : Good en X W k) (hN : X.N.Nodup) (hi : PI X tg iter (tI en W m)) (ok : BlkOk X.N X.env.scope scope own)
    (hg : ∀ (s : Shared) (H : Hp) (C : Addr) (cl : List (Str × Addr)) (fp : List Addr), Good en (X.blk s H scope (compEnvC scope cl C X.env) fp) W0 k → PG (X.blk s H scope (compEnvC scope cl C X.env) fp) tg (tG en (own.map (·.2)) g))
    (ht : ∀ (s : Shared) (H : Hp) (C : Addr) (cl : List (Str × Addr)) (fp : List Addr), Good en (X.blk s H scope (compEnvC scope cl C X.env) fp) W0 k → PTs (X.blk s H scope (compEnvC scope cl C X.env) fp) ifs (tT en W0 t))
    (he : ∀ (s : Shared) (H : Hp) (C : Addr) (cl : List (Str × Addr)) (fp : List Addr), Good en (X.blk s H scope (compEnvC scope cl C X.env) fp) W0 k → PE (X.blk s H scope (compEnvC scope cl C X.env) fp) elt (tE en W0 e)) (hs : ∀ x, foldedSetIterable iter X.env x = pure x := by intro _; rfl) :
    PE X (.ListComp elt [⟨tg, iter, ifs, 0⟩] scope pos) (tE en W (mLc m g t e (own.map (·.2)))) :=
  PE.lc G.calm hN hi ok (fun s H C cl fp => hg s H C cl fp (G.blk s H _ _ fp)) (fun s H C cl fp => ht s H C cl fp (G.blk s H _ _ fp)) (fun s H C cl fp => he s H C cl fp (G.blk s H _ _ fp)) hs
theorem PS.setLcG {i : Nat} {y : Str} {py : Pos} {elt tg iter : Expr} {ifs : List Expr} {scope : Scope} {own : List (Str × Nat)} {spos : Pos} {m : IM} {g : GM} {t : BM} {e : EM} (G : Good en X W k) (hN : X.N.Nodup) (hy : X.N[i]? = some y) (hyl : X.env.scope.names.lookup y = some .local)
    (hsw : swapsWith (.ListComp elt [⟨tg, iter, ifs, 0⟩] scope pos) (some (.Name y py)) spos.line X.env = pure true) (hi : PI X tg iter (tI en W m)) (ok : BlkOk X.N X.env.scope scope own)
    (hg : ∀ (s : Shared) (H : Hp) (C : Addr) (cl : List (Str × Addr)) (fp : List Addr), Good en (X.blk s H scope (compEnvC scope cl C X.env) fp) W0 k → PG (X.blk s H scope (compEnvC scope cl C X.env) fp) tg (tG en (own.map (·.2)) g))
    (ht : ∀ (s : Shared) (H : Hp) (C : Addr) (cl : List (Str × Addr)) (fp : List Addr), Good en (X.blk s H scope (compEnvC scope cl C X.env) fp) W0 k → PTs (X.blk s H scope (compEnvC scope cl C X.env) fp) ifs (tT en W0 t))
    (he : ∀ (s : Shared) (H : Hp) (C : Addr) (cl : List (Str × Addr)) (fp : List Addr), Good en (X.blk s H scope (compEnvC scope cl C X.env) fp) W0 k → PE (X.blk s H scope (compEnvC scope cl C X.env) fp) elt (tE en W0 e)) (hs : ∀ x, foldedSetIterable iter X.env x = pure x := by intro _; rfl) :
    PS X (.Assign [.Name y py] (.ListComp elt [⟨tg, iter, ifs, 0⟩] scope pos) spos) (tS en W (mSet i (mLc m g t e (own.map (·.2))))) :=
  PS.setLc G.calm hN hy hyl hsw hi ok (fun s H C cl fp => hg s H C cl fp (G.blk s H _ _ fp)) (fun s H C cl fp => ht s H C cl fp (G.blk s H _ _ fp)) (fun s H C cl fp => he s H C cl fp (G.blk s H _ _ fp)) hs
end
section
variable {P : Program} {w : World} {K : PySem.W.Frag} {mg : Str → Option Value} {base : Heap} {en : En}
theorem DefAt.mk' {k : Nat} {x : Str} {np nn : Nat} {m : SM} {f : Addr} {fd : FuncData} {ps : List Str} {q : Str} {st : Stmt} (hm : mg x = some (.ref f)) (F : L2.Fun K x q st f fd) (G : FnG P w K mg base k f fd ps (spM en np (mFn np nn m))) (hb : Binds K fd ps []) : DefAt P w K mg base en k x np (mFn np nn m) :=
  ⟨⟨f, fd, ps, hm, F.kp, G, hb⟩, fun vs h e => mFn_len e⟩
end
end Fw
namespace Fw
open PySem PySem.Spec PyProof.Rows L2
section
variable {P : Program} {w : World} {K : PySem.W.Frag} {mg mb : Str → Option Value} {k : Nat} {fa a : Addr} {fd : FuncData} {x : Str} {s : Shared} {vs : List Value} {ns : List Int}
/-- the law, called over an abstract heap that tracks the script at most -/
theorem head_at (KX : K.In s.heap) (hns : s.heap.Ns mainGlobals mg) (hb : s.heap.Ns builtinsNs mb) (hbb : ∀ y : Str, y ≠ "__name__" → mb y = bootBuiltins y) (hlim : s.heap.NoLimit) (hmods : ∃ mm, s.heap.Ns sysModules mm) (hg : s.gens = #[])
    (ha : s.heap.get? a = some { cls := .type "list", data := .seq vs.toArray }) (hr : Room k callerA) (hbind : ∀ (t : Shared) (u : Value), BindsTo t fd ⟨[u], []⟩ [(x, u)]) {H : Hp} (only : Only H) (own : ∀ b, H b ≠ none → b = a) (apart : H a ≠ none → K.lookup a = none) (ok : HOk P w H s.heap) {sp : Sp}
    (F : ∀ base : Heap, K.In base → base.Ns mainGlobals mg → (∃ o, base.get? sysModules = some o) → FnG P w K mg base k fa fd [x] sp) (hsp : sp [.ref a] H (fun v _ => v = .bl true) fun _ _ _ => False) :
    codeAny (model P w) callerA (.call (.ref fa) ⟨[.ref a], []⟩) (fun r s' => r = .ok (.ret (.bool true)) ∧ OldK s.heap s'.heap ∧ s'.os = s.os ∧ AllBare s'.gens) s := by
  -- a dict isn't tracked, so every namespace stands in the base too
  have free : ∀ {b : Addr} {o : Obj} {es : Array DictEntry} {ep : Nat}, s.heap.get? b = some o → o.data = .dict es ep → H b = none := fun {b o es ep} e d => by
    by_cases z : H b = none
    · exact z
    · have hb := own b z
      subst hb
      rw [ha] at e; cases e; cases d
  have nsB : ∀ {b : Addr} {m : Str → Option Value}, s.heap.Ns b m → (hidT s.heap H).Ns b m := fun ⟨o, es, ep, e, d, r⟩ => ⟨o, es, ep, hidT_get e (free e d), d, r⟩
  have kB : K.In (hidT s.heap H) := fun b o e => hidT_get (KX b o e) (by
    by_cases z : H b = none
    · exact z
    · have hb := own b z
      subst hb
      rw [apart z] at e; cases e)
  have mod : Mod K mg (hidT s.heap H) := ⟨kB, nsB hns, ⟨mb, nsB hb, hbb⟩, by obtain ⟨mc, h1, h2⟩ := hlim; exact ⟨mc, nsB h1, h2⟩⟩
  have sm : ∃ o, (hidT s.heap H).get? sysModules = some o := by
    obtain ⟨mm, hm⟩ := hmods
    obtain ⟨o, _, _, e, _⟩ := nsB hm
    exact ⟨o, e⟩
  have e0 : Env0 P w K mg (hidT s.heap H) callerA [] s H := ⟨rfl, mod, fun b o e => of_hidT e, Nat.le_of_eq (hidT_size _ _), trivial, (fun b z => absurd (show b ∈ ([] : List Addr) from z) (by simp)), ok, .of_eq hg⟩
  refine codeAny_mono ((F _ kB mod.glob sm).run callerA [] s H ⟨[.ref a], []⟩ [.ref a] [.ref a] _ _ hr rfl e0 (hbind s (.ref a)) (.cons rfl .nil) hsp) fun r s' z => ?_
  match r, z with
  | .error e, ⟨_, _, _, _, _, _, _, _, _, _, _, _, f⟩ => exact f.elim
  | .ok (.ret u), ⟨v, H', os, bare, un, ok', ru, q⟩ =>
    subst q
    have eu : u = Value.bool true := ru
    subst eu
    refine ⟨rfl, OldK.of_keep fun b o e => ?_, os, bare⟩
    rcases only b with q | ⟨ob, xs, q⟩
    · exact un.keep b o e q (fun z => absurd (show b ∈ ([] : List Addr) from z) (by simp)) (by simp)
    · obtain ⟨e1, _⟩ := ok b _ q
      obtain ⟨e2, _⟩ := ok' b _ (un.frzs b ob _ q)
      rw [e] at e1; cases e1
      exact e2
  | .ok .next, z => exact False.elim z
  | .ok .brk, z => exact False.elim z
  | .ok .cont, z => exact False.elim z
/-- .. wherever the script stands -/
theorem head_run (KX : K.In s.heap) (hns : s.heap.Ns mainGlobals mg) (hb : s.heap.Ns builtinsNs mb) (hbb : ∀ y : Str, y ≠ "__name__" → mb y = bootBuiltins y) (hlim : s.heap.NoLimit) (hmods : ∃ mm, s.heap.Ns sysModules mm) (hg : s.gens = #[])
    (ha : s.heap.get? a = some { cls := .type "list", data := .seq vs.toArray }) (hi : IntsAre vs ns) (hl : ns.length ≤ sizeLine) (hr : Room k callerA) (hbind : ∀ (t : Shared) (u : Value), BindsTo t fd ⟨[u], []⟩ [(x, u)])
    {nn : Nat} {en : En} {m : SM} {h2 : SH} (hk : en.K = K) (ea : en.a0 = a) (en' : en.ns = ns) (F : ∀ base : Heap, K.In base → base.Ns mainGlobals mg → (∃ o, base.get? sysModules = some o) → FnG P w K mg base k fa fd [x] (spM en 1 (mFn 1 nn m))) (law : mFn 1 nn m [.scr ns] [] = .ok (.bl true) h2) :
    codeAny (model P w) callerA (.call (.ref fa) ⟨[.ref a], []⟩) (fun r s' => r = .ok (.ret (.bool true)) ∧ OldK s.heap s'.heap ∧ s'.os = s.os ∧ AllBare s'.gens) s := by
  have rv := vals_ints hi
  have done : ∀ H : Hp, ((∃ o, H en.a0 = some (.frz o (.lst (en.ns.map V.int)))) ∨ SqL en.K (fun _ => none) en.a0 (en.ns.map V.int)) → spM en 1 (mFn 1 nn m) [.ref a] H (fun v _ => v = .bl true) fun _ _ _ => False := fun H h => by
    refine ⟨rfl, [], [.scr ns], [], ⟨rfl, .nil, fun i b o e => by simp at e, ?_⟩, .cons ⟨by rw [ea], en'.symm⟩ .nil, ?_⟩
    · rcases h with ⟨o, z⟩ | z
      · exact .inl ⟨o, z, by simp⟩
      · exact .inr z
    · rw [law]
      exact fun ρ' H u p rel r => r
  cases hq : K.lookup a with
  | some o =>
    have e := KX a o hq
    rw [ha] at e; cases e
    refine head_at KX hns hb hbb hlim hmods hg ha hr hbind (H := fun _ => none) (fun b => .inl rfl) (fun b z => absurd rfl z) (fun z => absurd rfl z) (fun b u z => nomatch z) F (done _ (.inr ?_))
    rw [hk, ea, en']
    exact .inr ⟨_, vs.toArray, _, hq, rfl, rfl, rfl, by rw [List.size_toArray, hi.length]; exact hl, by simpa using rv⟩
  | none =>
    have at_ : ∀ {b : Addr} {u : HO}, (if b = a then some (HO.frz { cls := .type "list", data := .seq vs.toArray } (.lst (ns.map V.int))) else none) = some u → b = a ∧ u = .frz { cls := .type "list", data := .seq vs.toArray } (.lst (ns.map V.int)) := fun {b u} z => by
      split at z
      · rename_i hb; cases z; exact ⟨hb, rfl⟩
      · cases z
    refine head_at KX hns hb hbb hlim hmods hg ha hr hbind (H := fun b => if b = a then some (.frz { cls := .type "list", data := .seq vs.toArray } (.lst (ns.map V.int))) else none) (fun b => ?_) (fun b z => ?_) (fun _ => hq) (fun b u z => ?_) F (done _ (.inl ⟨{ cls := .type "list", data := .seq vs.toArray }, ?_⟩))
    · by_cases hb : b = a
      · exact .inr ⟨_, _, if_pos hb⟩
      · exact .inl (if_neg hb)
    · by_cases hb : b = a
      · exact hb
      · exact absurd (if_neg hb) z
    · obtain ⟨rfl, rfl⟩ := at_ z
      exact ⟨ha, by rw [List.length_map]; exact hl, vs, _, rv, ha⟩
    · rw [ea, en']; exact if_pos rfl
end
end Fw
namespace Fw
open PySem PySem.Spec PyProof.Rows L2
/-- THE END: the law's row from its def and its meaning's answer -/
theorem walk_ofG {l : PySem.W.OpenLaw} {n k nn : Nat} {q : Program} {loose : List Str} {XP : (Str → Option Value) → Heap → Prop} {YP : World → Heap → Prop} {d : DefRec} {K : Params → PySem.W.Frag} {x : Str} {m : SM}
    (hn : l.most = some n) (hn2 : n ≤ sizeLine) (hdf : d.params.defaults = []) (hr : Room k callerA) (himp : importsNone q = true) (hY : ∀ (w : World) (h : Heap), YP w h → (K w.params).In h)
    (F : ∀ (w : World) (mg : Str → Option Value) (fa : Addr) (h : Heap), (K w.params).In h → h.Ns mainGlobals mg → mg d.name = some (.ref fa) →
      ∃ (fd : FuncData) (cl : List (Addr × List Str)), (∀ (s : Shared) (u : Value), BindsTo s fd ⟨[u], []⟩ [(x, u)]) ∧
        ∀ (base : Heap) (a0 : Addr) (ns : List Int), (K w.params).In base → base.Ns mainGlobals mg → (∃ o, base.get? sysModules = some o) → FnG l.prog w (K w.params) mg base k fa fd [x] (spM ⟨cl, K w.params, a0, ns, []⟩ 1 (mFn 1 nn m)))
    (law : ∀ ns : List Int, ns.length ≤ n → (∀ z ∈ ns, Builtin.Int.intBits z ≤ 1048576) → ∃ h2, mFn 1 nn m [.scr ns] [] = .ok (.bl true) h2) :
    PySem.W.WalkO q loose XP YP l.row.toRowW d [] (fun f vs => PySem.call f vs) := by
  refine Att.attach_callB hn hdf fun w s₀ s₁ mg mb fa o pm cd doc a vs ns G Y ho hd hcd hmg hobj hints hlen hbits hg => ?_
  have KX := hY w _ Y
  obtain ⟨fd, cl, hb, hF⟩ := F w mg fa _ KX G.T.g hmg
  obtain ⟨mm, hmm, _⟩ := (G.T.seer himp).mods
  obtain ⟨h2, hl⟩ := law ns hlen hbits
  exact head_run (en := ⟨cl, K w.params, a, ns, []⟩) KX G.T.g G.T.b G.T.builtins G.T.nolimit ⟨mm, hmm⟩ hg hobj hints (Nat.le_trans hlen hn2) hr hb rfl rfl rfl (fun base h1 h2 h3 => hF base a ns h1 h2 h3) hl
theorem one_of {us : List Value} {d : Value} (h : (us ++ [d]).length = 2) : ∃ a, us = [a] := by
  match us, h with
  | [], h => simp at h
  | [a], _ => exact ⟨a, rfl⟩
  | _ :: _ :: _, h => simp at h
theorem two_of {us : List Value} (h : (us ++ []).length = 2) : ∃ a b, us = [a, b] := by
  match us, h with
  | [], h => simp at h
  | [_], h => simp at h
  | [a, b], _ => exact ⟨a, b, rfl⟩
  | _ :: _ :: _ :: _, h => simp at h
end Fw
namespace Er
open PySem PySem.W PySem.Calls PyProof.Rows PySem.HandSPX
theorem along_of {K : Frag} {nm q : Str} {C N : Addr} {bs bm : List Value} {hdct : Bool} {sn : List Str} {sub : List Value} {ab : Bool} {col : Option Bool} {dd : Option Addr} {k0 k1 k2 k3 k5 : Option Value} {newId : String} {m : Str} {r : Option (Option Value)}
    (xL : K.lookup C = some (excClassObj nm q C N bs bm hdct sn sub ab col dd k0 k1 k2 k3 k5 newId)) (h : ks_superIn K C C m = r) : alongIn K m bm = r := by
  have hcl : clsIn K C = some { name := nm, bases := bs, mro := .ref C :: bm, ns := N, qualname := q, hasDict := hdct, slotNames := sn, subclasses := sub, abstract := ab, collection := col, hasDel := false } := by unfold clsIn; rw [xL] <;> rfl
  unfold ks_superIn at h
  rw [hcl, Option.bind_some] at h
  rwa [ESX.drop_own] at h
end Er
namespace Fw
open PySem PySem.Spec L2
theorem fin.bind {α β γ δ : Type} {en : En} {W : WX} {R1 : List Addr → α → β → Prop} {R2 : List Addr → γ → δ → Prop} {σ : L2.St} {ρ : List Addr} {r : Res α} {k : α → SH → Res γ} {Q : δ → Hp → Prop} (f : fin en W R2 σ ρ (r.bind k) Q) :
    fin en W R1 σ ρ r fun x H1 => ∃ ρ1 a h1, Pre ρ ρ1 ∧ Rel en ρ1 h1 H1 ∧ R1 ρ1 a x ∧ fin en W R2 σ ρ1 (k a h1) Q := by
  cases r with
  | stuck => exact f
  | ok a h => exact fun ρ' H' b p rel rb => ⟨ρ', a, h, p, rel, rb, fin.mono p f⟩
  | ex c xs h => exact f
theorem fin.imp {α β : Type} {en : En} {W : WX} {R : List Addr → α → β → Prop} {σ : L2.St} {ρ : List Addr} {r : Res α} {Q Q' : β → Hp → Prop} (f : fin en W R σ ρ r Q) (k : ∀ b H, Q b H → Q' b H) : fin en W R σ ρ r Q' := by
  cases r with
  | stuck => exact f
  | ok a h => exact fun ρ' H' b p rel rb => k _ _ (f ρ' H' b p rel rb)
  | ex c xs h => exact f
/-! ### d.get(k, z), d.setdefault(k, z) -/
def isDct (h : SH) (v : SV) : Bool := match v with
  | .ref i => match h[i]? with
    | some (.dK _) => true
    | some (.dT _) => true
    | _ => false
  | _ => false
abbrev O3 := SV → SV → SV → SH → Option (SV × SH)
def mD3 (op : O3) (mo mk md : EM) : EM := fun ss h => (mo ss h).bind fun o h1 => if isDct h1 o = true then (mk ss h1).bind fun k h2 => (md ss h2).bind fun z h3 => lift (op o k z h3) else .stuck
def opGet2 : O3 := fun o k z h => match o with
  | .ref i => match h[i]? with
    | some ob => match dictGet h ob k with
      | some r => some (r.getD z, h)
      | none => none
    | none => none
  | _ => none
def opSetd : O3 := fun o k z h => match o with
  | .ref i => match h[i]? with
    | some (.dK kvs) => match keyOf k with
      | some kk => if kvs.length < big then match getS kvs kk with
        | some x => some (x, h)
        | none => some (z, h.set i (.dK (putS kvs kk z)))
        else none
      | none => none
    | _ => none
  | _ => none
section
variable {X : Cx} {en : En} {W : WX} {o e f : Expr} {mo mk md : EM} {apos cpos : Pos}
theorem isDct_rel {ρ : List Addr} {h : SH} {H : Hp} {a : SV} {v : V} (rel : Rel en ρ h H) (ra : RS en ρ a v) (e : isDct h a = true) : ∃ i p, a = .ref i ∧ v = .ref p ∧ ρ[i]? = some p ∧ IsD H p := by
  unfold isDct at e
  split at e
  · rename_i i
    obtain ⟨p, ep, rfl⟩ := ra
    split at e
    · rename_i kvs ei
      obtain ⟨kws, e1, _⟩ := rel.at2 ep ei
      exact ⟨_, p, rfl, rfl, ep, .inl ⟨kws, .inl e1⟩⟩
    · rename_i kvs ei
      obtain ⟨kws, e1, _⟩ := rel.at2 ep ei
      exact ⟨_, p, rfl, rfl, ep, .inr ⟨kws, .inl e1⟩⟩
    · cases e
  · cases e
theorem tD3 {op : O3} (σ : L2.St) (H : Hp) (Q : VK) (t : tE en W (mD3 op mo mk md) σ H Q) : tE en W mo σ H fun x H1 => ∃ a, x = .ref a ∧ IsD H1 a ∧ tE en W mk σ H1 fun y H2 => tE en W md σ H2 fun z H3 =>
    ∃ ρ h i k d, Rel en ρ h H3 ∧ ρ[i]? = some a ∧ RS en ρ k y ∧ RS en ρ d z ∧ finO en ρ (op (.ref i) k d h) Q := by
  obtain ⟨ρ, ss, h, rel, rs, f⟩ := t
  refine ⟨ρ, ss, h, rel, rs, (fin.bind (R1 := RS en) f).imp fun x H1 ⟨ρ1, a, h1, p1, rel1, ra, f1⟩ => ?_⟩
  split at f1
  · rename_i hd
    obtain ⟨i, p, rfl, rfl, ep, id⟩ := isDct_rel rel1 ra hd
    refine ⟨p, rfl, id, ρ1, ss, h1, rel1, rs.mono p1, (fin.bind (R1 := RS en) f1).imp fun y H2 ⟨ρ2, k, h2, p2, rel2, rk, f2⟩ => ?_⟩
    refine ⟨ρ2, ss, h2, rel2, rs.mono (p1.trans p2), (fin.bind (R1 := RS en) f2).imp fun z H3 ⟨ρ3, d, h3, p3, rel3, rd, f3⟩ => ?_⟩
    exact ⟨ρ3, h3, i, k, d, rel3, (p2.trans p3).get ep, rk.mono p3, rd, f3.lift⟩
  · exact f1.elim
theorem PE.get2 (hu : X.A.units + 1 < cLine) (ho : PE X o (tE en W mo)) (he : PE X e (tE en W mk)) (hf : PE X f (tE en W md)) (m : M2 X o "get" apos e f cpos := by exact ⟨rfl, rfl, rfl, rfl⟩) :
    PE X (.Call (.Attribute o "get" apos) [e, f] [] cpos) (tE en W (mD3 opGet2 mo mk md)) :=
  PEimp (pe_dget2 hu ho he hf m) fun σ H Q t => (tD3 σ H Q t).imp fun x H1 ⟨a, ex, id, t1⟩ => ⟨a, ex, id, t1.imp fun y H2 t2 => t2.imp fun z H3 ⟨ρ, h, i, k, d, rel, ep, rk, rd, fo⟩ => by
    obtain ⟨v, h', e1, q⟩ := fo
    unfold opGet2 at e1
    dsimp only at e1
    split at e1
    · rename_i ob eo
      split at e1
      · rename_i r er
        obtain ⟨g1, g2⟩ := dictGet_rel rel eo ep er rk
        cases r with
        | none => exact ⟨none, g2 rfl, finO.here ⟨_, _, e1, q⟩ rel rd⟩
        | some x => obtain ⟨w, gw, rw'⟩ := g1 x rfl; exact ⟨some w, gw, finO.here ⟨_, _, e1, q⟩ rel rw'⟩
      · cases e1
    · cases e1⟩
theorem PE.setd (ho : PE X o (tE en W mo)) (he : PE X e (tE en W mk)) (hf : PE X f (tE en W md)) (m : M2 X o "setdefault" apos e f cpos := by exact ⟨rfl, rfl, rfl, rfl⟩) :
    PE X (.Call (.Attribute o "setdefault" apos) [e, f] [] cpos) (tE en W (mD3 opSetd mo mk md)) :=
  PEimp (pe_dsetd ho he hf m) fun σ H Q t => (tD3 σ H Q t).imp fun x H1 ⟨a, ex, id, t1⟩ => ⟨a, ex, id, t1.imp fun y H2 t2 => t2.imp fun z H3 ⟨ρ, h, i, k, d, rel, ep, rk, rd, fo⟩ => by
    obtain ⟨v, h', e1, q⟩ := fo
    unfold opSetd at e1
    dsimp only at e1
    split at e1
    · rename_i kvs eo
      obtain ⟨kws, eh, rkv⟩ := rel.at2 ep eo
      split at e1
      · rename_i kk ek
        split at e1
        · rename_i hl
          have hle : kws.length = kvs.length := (Paired.length rkv).symm
          refine ⟨kws, kk, eh, keyOf_rel ek rk, by rw [hle, big_eq]; exact hl, fun w ew => ?_, fun en' => ?_⟩
          · cases g : getS kvs kk with
            | none => rw [(RK.get rkv).2 g] at ew; cases ew
            | some x =>
              obtain ⟨w', ew', rw'⟩ := (RK.get rkv).1 x g
              rw [ew'] at ew; cases ew
              rw [g] at e1
              exact finO.here ⟨_, _, e1, q⟩ rel rw'
          · cases g : getS kvs kk with
            | some x =>
              obtain ⟨w', ew', rw'⟩ := (RK.get rkv).1 x g
              rw [ew'] at en'; cases en'
            | none =>
              rw [g] at e1
              exact finO.put ⟨_, _, e1, q⟩ rel ep ⟨_, upd_same, RK.put rd rkv⟩ rd
        · cases e1
      · cases e1
    · cases e1⟩
/-! ### list(range(a)), list(range(a, b)) -/
def rngS (a b : Int) : List SV := (List.range (b - a).toNat).map fun i : Nat => SV.int (a + (i : Nat))
def opLR2 : O2 := fun x y h => match x, y with
  | .int a, .int b => if (rngB a && rngB b && decide ((b - a).toNat ≤ 16777216)) = true then alloc (.lst (rngS a b)) h else none
  | _, _ => none
def opLR1 : O1 := fun x h => opLR2 (.int 0) x h
theorem rngS_rel {ρ : List Addr} (a b : Int) : RSs en ρ (rngS a b) (rgV a b) := by
  unfold rngS rgV
  generalize List.range (b - a).toNat = l
  induction l with
  | nil => exact .nil
  | cons i l ih => exact .cons rfl ih
theorem rgOk_of {a b : Int} (h : (rngB a && rngB b && decide ((b - a).toNat ≤ 16777216)) = true) : RgOk a b := by
  rw [Bool.and_eq_true, Bool.and_eq_true] at h
  obtain ⟨⟨h1, h2⟩, h3⟩ := h
  have z1 := rngB_of h1
  have z2 := rngB_of h2
  have z3 := of_decide_eq_true h3
  exact ⟨z1.1, z1.2, z2.1, z2.2, by
    have e : (2 : Nat) ^ 24 = 16777216 := by decide
    rw [e]; exact z3⟩
theorem opLR2_q {ρ : List Addr} {h : SH} {H : Hp} {a b : Int} {Q : VK} (rel : Rel en ρ h H) (fo : finO en ρ (opLR2 (.int a) (.int b) h) Q) : RgOk a b ∧ ∀ q, H q = none → Q (.ref q) (upd H q (.lst (rgV a b))) := by
  obtain ⟨v, h', e1, q⟩ := fo
  unfold opLR2 at e1
  dsimp only at e1
  split at e1
  · rename_i hk
    exact ⟨rgOk_of hk, finO.newLst ⟨_, _, e1, q⟩ rel (rngS_rel a b)⟩
  · cases e1
theorem PE.lr2 {x p p2 pos : _} (hc : X.calm = true) (hg : Gl X "list") (hm : X.mg "list" = none) (hg2 : Gl X "range") (hm2 : X.mg "range" = none) (he : PE X e (tE en W mo)) (hf : PE X f (tE en W md))
    (na : starEach [.Call (.Name "range" p2) [e, f] [] pos] X.env = (false, eval (.Call (.Name "range" p2) [e, f] [] pos) X.env) :: starEach [] X.env := by rfl) (n1 : starEach [e, f] X.env = (false, eval e X.env) :: starEach [f] X.env := by rfl)
    (n2 : starEach [f] X.env = (false, eval f X.env) :: starEach [] X.env := by rfl) (hp : (backTo pos (starEach [f] X.env)).any (·.1) = false := by rfl) :
    PE X (.Call (.Name "list" p) [.Call (.Name "range" p2) [e, f] [] pos] [] x) (tE en W (mO2 opLR2 mo md)) :=
  PEimp (pe_listRg hc hg hm (prg_2 hg2 hm2 he hf n1 n2 hp) na) fun σ H Q t => by
    obtain ⟨ρ, ss, h, rel, rs, f0⟩ := t
    refine ⟨ρ, ss, h, rel, rs, (fin.bind (R1 := RS en) f0).imp fun x H1 ⟨ρ1, a, h1, p1, rel1, ra, f1⟩ => ?_⟩
    refine ⟨ρ1, ss, h1, rel1, rs.mono p1, (fin.bind (R1 := RS en) f1).imp fun y H2 ⟨ρ2, b, h2, p2, rel2, rb, f2⟩ => ?_⟩
    have fo := f2.lift
    have ra2 := ra.mono p2
    cases a with
    | int i =>
      cases b with
      | int j => cases ra; cases rb; exact ⟨i, j, rfl, rfl, opLR2_q rel2 fo⟩
      | _ => obtain ⟨_, _, e, _⟩ := fo; cases e
    | _ => obtain ⟨_, _, e, _⟩ := fo; cases e
theorem PE.lr1 {x p p2 pos : _} (hc : X.calm = true) (hg : Gl X "list") (hm : X.mg "list" = none) (hg2 : Gl X "range") (hm2 : X.mg "range" = none) (he : PE X e (tE en W mo))
    (na : starEach [.Call (.Name "range" p2) [e] [] pos] X.env = (false, eval (.Call (.Name "range" p2) [e] [] pos) X.env) :: starEach [] X.env := by rfl) (n1 : starEach [e] X.env = (false, eval e X.env) :: starEach [] X.env := by rfl) :
    PE X (.Call (.Name "list" p) [.Call (.Name "range" p2) [e] [] pos] [] x) (tE en W (mO1 opLR1 mo)) :=
  PEimp (pe_listRg hc hg hm (prg_1 hg2 hm2 he n1) na) fun σ H Q t => by
    obtain ⟨ρ, ss, h, rel, rs, f0⟩ := t
    refine ⟨ρ, ss, h, rel, rs, (fin.bind (R1 := RS en) f0).imp fun x H1 ⟨ρ1, a, h1, p1, rel1, ra, f1⟩ => ?_⟩
    have fo := f1.lift
    cases a with
    | int i => cases ra; exact ⟨i, rfl, opLR2_q rel1 fo⟩
    | _ => obtain ⟨_, _, e, _⟩ := fo; cases e
end
end Fw
namespace Fw
open PySem PySem.Spec L2
/-! ### for k, v in d.items(): the dict is held under a lock while the loop runs -/
def keyS : Key → SV
  | .inl i => .int i
  | .inr x => .str x
theorem keyS_rel {en : En} {ρ : List Addr} (k : Key) : RS en ρ (keyS k) (kV k) := by
  cases k <;> rfl
def wkIt (r : Nat) : Wk := fun h i => match h[r]? with
  | some (.lk kvs) => match kvs[i]? with
    | some (k, x) => some (some (.ref h.length, h ++ [.tup [keyS k, x]]))
    | none => some none
  | _ => none
def mIt (m : EM) : IM := fun ss h => (m ss h).bind fun v h1 => match v with
  | .ref r => match h1[r]? with
    | some (.lk _) => .ok (wkIt r) h1
    | _ => .stuck
  | _ => .stuck
def unS (i : Nat) (r : SR) : SR := match r with
  | .nx ss h => match h[i]? with
    | some (.lk kvs) => .nx ss (h.set i (.dK kvs))
    | _ => .stuck
  | .rt v h => match h[i]? with
    | some (.lk kvs) => .rt v (h.set i (.dK kvs))
    | _ => .stuck
  | .bk ss h => match h[i]? with
    | some (.lk kvs) => .bk ss (h.set i (.dK kvs))
    | _ => .stuck
  | .ct ss h => match h[i]? with
    | some (.lk kvs) => .ct ss (h.set i (.dK kvs))
    | _ => .stuck
  | _ => .stuck
def mItems (m : EM) (g : GM) (mb : SM) : SM := fun ss h => match m ss h with
  | .ok (.ref i) _ => match h[i]? with
    | some (.dK kvs) => unS i (mFor (mIt m) g mb ss (h.set i (.lk kvs)))
    | _ => .stuck
  | _ => .stuck
def En.fzd (en : En) (l : List (Addr × Obj × List (Key × V))) : En := { en with fz := l }
section
variable {X : Cx} {en : En} {W : WX}
theorem RK.at {ρ : List Addr} : ∀ {kvs : List (Key × SV)} {kws : List (Key × V)} {i : Nat} {k : Key} {x : SV}, RK en ρ kvs kws → kvs[i]? = some (k, x) → ∃ v, kws[i]? = some (k, v) ∧ RS en ρ x v
  | p :: kvs, q :: kws, 0, k, x, .cons r t, e => by
    have e' : p = (k, x) := by simpa using e
    subst e'
    exact ⟨q.2, by rw [show k = q.1 from r.1]; rfl, r.2⟩
  | p :: kvs, q :: kws, i + 1, k, x, .cons r t, e => by
    obtain ⟨v, e1, e2⟩ := RK.at (i := i) (k := k) (x := x) t (by simpa using e)
    exact ⟨v, by simpa using e1, e2⟩
theorem itIt {ρ : List Addr} {r : Nat} {p : Addr} {o : Obj} {kws : List (Key × V)} (ep : ρ[r]? = some p) (ef : en.fz.lookup p = some (o, kws)) : ItOk en ρ (Iti p o kws) (wkIt r) := fun ρ2 h2 H2 i pr rel => by
  have ep2 := pr.get ep
  unfold wkIt
  refine ⟨fun e => ?_, fun x h3 e => ?_⟩
  · split at e
    · rename_i ei
      obtain ⟨o', kws', ef', eh, rk⟩ := rel.at2 ep2 ei
      rw [ef] at ef'; cases ef'
      split at e
      · cases e
      · rename_i en'
        exact ⟨eh, by rw [← Paired.length rk]; exact List.getElem?_eq_none_iff.mp en'⟩
    · cases e
  · split at e
    · rename_i ei
      obtain ⟨o', kws', ef', eh, rk⟩ := rel.at2 ep2 ei
      rw [ef] at ef'; cases ef'
      split at e
      · rename_i k y ex
        cases e
        obtain ⟨w, ew, rw'⟩ := RK.at rk ex
        refine ⟨⟨eh, (List.getElem?_eq_some_iff.mp ew).1⟩, fun v H3 ⟨T, k', v', e1, ev, nT, eH⟩ => ?_⟩
        rw [ew] at e1; cases e1; subst ev; subst eH
        exact ⟨ρ2 ++ [T], Pre.one ρ2 T, rel.push nT ⟨_, upd_same, .cons (keyS_rel k) (.cons (rw'.mono (Pre.one ρ2 T)) .nil)⟩, ⟨T, by rw [← rel.len, List.getElem?_append_right (Nat.le_refl _)]; simp, rfl⟩⟩
      · cases e
    · cases e
theorem PI.items {e : Expr} {m : EM} {elts : List Expr} {kk : Nat} {tpos apos cpos : Pos} (he : PE X e (tE en W m)) (hbase : attributeBase e "items" X.env (eval e X.env) = eval e X.env := by rfl) (hline : (apos.endLine == cpos.line) = true := by rfl) :
    PI X (.Tuple elts kk tpos) (.Call (.Attribute e "items" apos) [] [] cpos) (tI en W (mIt m)) :=
  PIimp (pi_items he hbase hline) fun σ H R t => tI.bind (R1 := RS en) t fun ρ h a b H1 rel r q => by
    cases a with
    | ref i =>
      obtain ⟨p, ep, rfl⟩ := r
      cases ei : h[i]? with
      | none => simp only [ei] at q
      | some ob =>
        cases ob with
        | lk kvs =>
          simp only [ei] at q
          obtain ⟨o, kws, ef, eh, rk⟩ := rel.at2 ep ei
          exact ⟨p, o, kws, rfl, eh, q ρ H1 _ (Pre.refl ρ) rel (itIt ep ef)⟩
        | _ => simp only [ei] at q
    | _ => exact q.elim
/-- one more lock, or one less: what is held otherwise stays so -/
theorem ro_fz {ρ : List Addr} {H : Hp} {a : Addr} {l l' : List (Addr × Obj × List (Key × V))} (ne : ∀ (o : Obj) (kws : List (Key × V)), H a = some (.frz o (.dK kws)) → l.lookup a = some (o, kws) → l'.lookup a = some (o, kws)) {u : SO} (r : RO (en.fzd l) ρ H a u) : RO (en.fzd l') ρ H a u := by
  cases u with
  | lk kvs => obtain ⟨o, kws, ef, eh, rk⟩ := r; exact ⟨o, kws, ne o kws eh ef, eh, rk⟩
  | _ => exact r
theorem Rel.fz {ρ : List Addr} {h : SH} {H : Hp} {l l' : List (Addr × Obj × List (Key × V))} (ne : ∀ (a : Addr) (o : Obj) (kws : List (Key × V)), H a = some (.frz o (.dK kws)) → l.lookup a = some (o, kws) → l'.lookup a = some (o, kws)) (r : Rel (en.fzd l) ρ h H) : Rel (en.fzd l') ρ h H :=
  ⟨r.len, r.nd, fun i a o ea eo => ro_fz (ne a) (r.ob i a o ea eo), r.sc⟩
theorem PS.items {tg e : Expr} {body : List Stmt} {m : EM} {g : GM} {mb : SM} {pos : Pos} (hb : ∀ l, PS X (.For tg e body [] pos) (tS (en.fzd l) W (mFor (mIt m) g mb))) : PS X (.For tg e body [] pos) (tS en W (mItems m g mb)) := by
  refine ⟨fun pins s σ H D I t => ?_⟩
  obtain ⟨ρ, ss, h, rel, rs, f⟩ := t
  unfold mItems at f
  cases e1 : m ss h with
  | stuck => simp only [e1] at f; exact f.elim
  | ex c xs h1 => simp only [e1] at f; exact f.elim
  | ok v h1 =>
    cases v with
    | ref i =>
      simp only [e1] at f
      cases ei : h[i]? with
      | none => simp only [ei] at f; exact f.elim
      | some ob =>
        cases ob with
        | dK kvs =>
          simp only [ei] at f
          obtain ⟨p, ep, kws, eh, rk⟩ := rel.at ei
          obtain ⟨od, I1⟩ := I.lock eh trivial
          have nf := I.nofrz eh trivial
          have look : ((p, od, kws) :: en.fz).lookup p = some (od, kws) := by simp [List.lookup]
          have skip : ∀ a, a ≠ p → ((p, od, kws) :: en.fz).lookup a = en.fz.lookup a := fun a n => by
            have hb : (a == p) = false := by simpa using n
            rw [List.lookup_cons, hb]
          have rel1 : Rel (en.fzd ((p, od, kws) :: en.fz)) ρ h H := Rel.fz (l := en.fz) (en := en) (fun a o kw ea el => by
            rw [skip a (fun z => by subst z; rw [eh] at ea; cases ea)]; exact el) rel
          have rel2 : Rel (en.fzd ((p, od, kws) :: en.fz)) ρ (h.set i (.lk kvs)) (upd H p (.frz od (.dK kws))) := rel1.put ep ⟨od, kws, look, upd_same, rk⟩
          have back : ∀ {ρ' : List Addr} {h2 : SH} {H2 : Hp} {kv2 : List (Key × SV)}, Pre ρ ρ' → h2[i]? = some (.lk kv2) → Rel (en.fzd ((p, od, kws) :: en.fz)) ρ' h2 H2 → ∃ o2 kw2, H2 p = some (.frz o2 (.dK kw2)) ∧ Rel en ρ' (h2.set i (.dK kv2)) (upd H2 p (.dK kw2)) := fun {ρ' h2 H2 kv2} pr e2 r2 => by
            obtain ⟨o2, kw2, ef2, eh2, rk2⟩ := r2.at2 (pr.get ep) e2
            refine ⟨o2, kw2, eh2, ?_⟩
            have z : Rel (en.fzd ((p, od, kws) :: en.fz)) ρ' (h2.set i (.dK kv2)) (upd H2 p (.dK kw2)) := r2.put (pr.get ep) ⟨kw2, upd_same, rk2⟩
            exact Rel.fz (en := en) (l' := en.fz) (fun a o kw ea el => by
              rw [skip a (fun y => by subst y; rw [upd_same] at ea; cases ea)] at el; exact el) z
          have run := (hb ((p, od, kws) :: en.fz)).run pins s σ _ ⟨fun σ' H' => ∃ o2 kw2, H' p = some (.frz o2 (.dK kw2)) ∧ D.nx σ' (upd H' p (.dK kw2)), fun v H' => ∃ o2 kw2, H' p = some (.frz o2 (.dK kw2)) ∧ D.rt v (upd H' p (.dK kw2)), fun σ' H' => ∃ o2 kw2, H' p = some (.frz o2 (.dK kw2)) ∧ D.bk σ' (upd H' p (.dK kw2)), fun σ' H' => ∃ o2 kw2, H' p = some (.frz o2 (.dK kw2)) ∧ D.ct σ' (upd H' p (.dK kw2))⟩ I1 ⟨ρ, ss, h.set i (.lk kvs), rel2, ⟨rs.len, rs.at_⟩, by
            cases er : mFor (mIt m) g mb ss (h.set i (.lk kvs)) with
            | stuck => rw [er] at f; exact f
            | ex c xs s2 h2 => rw [er] at f; exact f.elim
            | nx s2 h2 =>
              rw [er] at f
              unfold unS at f
              dsimp only at f
              split at f
              · rename_i kv2 e2
                intro ρ' σ' H' pr r2 rs2
                obtain ⟨o2, kw2, z1, z2⟩ := back pr e2 r2
                exact ⟨o2, kw2, z1, f ρ' σ' _ pr z2 ⟨rs2.len, rs2.at_⟩⟩
              · exact f.elim
            | bk s2 h2 =>
              rw [er] at f
              unfold unS at f
              dsimp only at f
              split at f
              · rename_i kv2 e2
                intro ρ' σ' H' pr r2 rs2
                obtain ⟨o2, kw2, z1, z2⟩ := back pr e2 r2
                exact ⟨o2, kw2, z1, f ρ' σ' _ pr z2 ⟨rs2.len, rs2.at_⟩⟩
              · exact f.elim
            | ct s2 h2 =>
              rw [er] at f
              unfold unS at f
              dsimp only at f
              split at f
              · rename_i kv2 e2
                intro ρ' σ' H' pr r2 rs2
                obtain ⟨o2, kw2, z1, z2⟩ := back pr e2 r2
                exact ⟨o2, kw2, z1, f ρ' σ' _ pr z2 ⟨rs2.len, rs2.at_⟩⟩
              · exact f.elim
            | rt v h2 =>
              rw [er] at f
              unfold unS at f
              dsimp only at f
              split at f
              · rename_i kv2 e2
                intro ρ' H' u pr r2 ru
                obtain ⟨o2, kw2, z1, z2⟩ := back pr e2 r2
                exact ⟨o2, kw2, z1, f ρ' _ u pr z2 ru⟩
              · exact f.elim⟩
          refine thn run fun fl s1 q => ?_
          cases fl with
          | next => obtain ⟨σ', H', I2, o2, kw2, e, q⟩ := q; exact ⟨σ', _, I2.unlock e nf, q⟩
          | brk => obtain ⟨σ', H', I2, o2, kw2, e, q⟩ := q; exact ⟨σ', _, I2.unlock e nf, q⟩
          | cont => obtain ⟨σ', H', I2, o2, kw2, e, q⟩ := q; exact ⟨σ', _, I2.unlock e nf, q⟩
          | ret v => obtain ⟨x, σ', H', I2, r, o2, kw2, e, q⟩ := q; exact ⟨x, σ', _, I2.unlock e nf, r, q⟩
        | _ => simp only [ei] at f; exact f.elim
    | _ => simp only [e1] at f; exact f.elim
end
end Fw
namespace Fw
open PySem PySem.Spec L2
theorem ClsF.fz {en : En} {c : Nat} {C : Addr} {ns : List Str} {l : List (Addr × Obj × List (Key × V))} (h : ClsF en c C ns) : ClsF (en.fzd l) c C ns := ⟨h.at_, h.cls, h.no, h.nd, h.few⟩
theorem FldOk.fz {en : En} {f : Str} {ix : List (Option Nat)} {l : List (Addr × Obj × List (Key × V))} (h : FldOk en f ix) : FldOk (en.fzd l) f ix := fun c k e => let ⟨C, ns, q, z⟩ := h c k e; ⟨C, ns, q.fz, z⟩
theorem Good.fz {en : En} {X : Cx} {W : WX} {k : Nat} {l : List (Addr × Obj × List (Key × V))} (h : Good en X W k) : Good (en.fzd l) X W k := ⟨h.1, h.2, h.3, h.4, h.5, h.6, h.7⟩
end Fw
namespace Fw
open PySem PySem.Spec L2
theorem exm_of {K : PySem.W.Frag} {S C : Addr} {b : Bool} (h1 : PySem.W.subIn K (.ref S) (.type "BaseException") = some true) (h2 : PySem.W.isClsIn K S = true) (h3 : PySem.W.typeIn K (.ref S) = some (.type "type")) (h4 : PySem.W.subIn K (.ref C) (.ref S) = some b) :
    PySem.W.exmOne K (.ref C) (.ref S) = some b := by
  have e1 : (PySem.W.subIn K (.ref S) (.type "BaseException") == some true) = true := by rw [h1] <;> rfl
  have e2 : ((PySem.W.clsIn K S).isSome && PySem.W.typeIn K (.ref S) == some (.type "type")) = true := by
    have h2' : (PySem.W.clsIn K S).isSome = true := h2
    rw [h2', h3] <;> rfl
  show (if (PySem.W.subIn K (.ref S) (.type "BaseException") == some true) = true then (if ((PySem.W.clsIn K S).isSome && PySem.W.typeIn K (.ref S) == some (.type "type")) = true then PySem.W.subIn K (.ref C) (.ref S) else none) else none) = some b
  rw [if_pos e1, if_pos e2]
  exact h4
end Fw
namespace Fw
open PySem PySem.Spec L2
/-! ### gcd, lcm -/
def opGcd : O2 := fun a b h => match a, b with
  | .int i, .int j => some (.int ((Nat.gcd i.natAbs j.natAbs : Nat) : Int), h)
  | _, _ => none
def opLcm : O2 := fun a b h => match a, b with
  | .int i, .int j => if i.natAbs < 2147483648 ∧ j.natAbs < 2147483648 then some (.int ((Nat.lcm i.natAbs j.natAbs : Nat) : Int), h) else none
  | _, _ => none
section
variable {X : Cx} {en : En} {W : WX} {pos : Pos}
theorem call_gcdM : CallR X (.builtin "math.gcd") (rOA en (bin2 opGcd)) := by
  refine CallRimp cr_gcd fun xs H Q q => ?_
  obtain ⟨ρ, h, a, b, x, y, rfl, rel, ra, rb, v, h', e, k⟩ := bin2_of q
  unfold opGcd at e
  split at e
  · cases ra; cases rb; exact ⟨_, _, rfl, finO.here ⟨_, _, e, k⟩ rel rfl⟩
  · cases e
theorem call_lcmM : CallR X (.builtin "math.lcm") (rOA en (bin2 opLcm)) := by
  intro pins s σ H vs us Q I r q
  obtain ⟨ρ, h, a, b, x, y, rfl, rel, ra, rb, v, h', e, k⟩ := bin2_of q
  unfold opLcm at e
  split at e
  · rename_i i j
    cases ra; cases rb
    split at e
    · rename_i hk
      obtain ⟨t, u, rfl⟩ := Vals.int2 r
      have e1 : (Nat.lcm 1 i.natAbs).lcm j.natAbs = Nat.lcm i.natAbs j.natAbs := by rw [Nat.lcm_one_left]
      have hlt : Nat.lcm i.natAbs j.natAbs < 2 ^ 62 := by
        have h1 : Nat.lcm i.natAbs j.natAbs ≤ i.natAbs * j.natAbs := by
          unfold Nat.lcm
          exact Nat.div_le_self _ _
        have h2 : i.natAbs * j.natAbs < 2147483648 * 2147483648 := by
          by_cases hz : j.natAbs = 0
          · rw [hz, Nat.mul_zero]; decide
          · exact Nat.lt_of_lt_of_le ((Nat.mul_lt_mul_right (Nat.pos_of_ne_zero hz)).mpr hk.1) (Nat.mul_le_mul_left _ (Nat.le_of_lt hk.2))
        have h3 : (2147483648 * 2147483648 : Nat) = 2 ^ 62 := by decide
        omega
      refine PySem.W.mg_lcm (by omega) (by omega) ?_ ?_
      · rw [e1]
        have : (((Nat.lcm i.natAbs j.natAbs : Nat) : Int)).natAbs.log2 ≤ 61 := PySem.W.mg_log (by simpa using hlt)
        exact Nat.lt_of_le_of_lt this (by decide)
      · rw [e1]
        exact ⟨.int _, H, I.tok _, ⟨_, rfl⟩, finO.here ⟨_, _, e, k⟩ rel rfl⟩
    · cases e
  · cases e
/-- a built-in function that the module has by a name -/
theorem PE.bfn {x : Str} {id : String} {op : OA} {e : Expr} {es : List Expr} {m : AM} {p : Pos} (hc : CallR X (.builtin id) (rOA en op)) (hg : Gl X x) (hm : X.mg x = some (.builtin id)) (ha : PA X (e :: es) (tA en W m)) (hdb : (x == ("__debug__" : Str)) = false := by decide)
    (he : starEach (e :: es) X.env = (false, eval e X.env) :: starEach es X.env := by rfl) (hpl : (backTo pos (starEach es X.env)).any (·.1) = false := by rfl) : PE X (.Call (.Name x p) (e :: es) [] pos) (tE en W (mOA op m)) :=
  PEimp (pe_callBfun hc hg hm ha hdb he hpl) fun σ H Q t => tOA σ H Q t
end
/-! ### dict comprehensions -/
def dcM (g : GM) (wk : Wk) (t : BM) (ek ev : EM) (is : List Nat) (D : Nat) (ss : SS) : Nat → Nat → SH → Res SV
  | 0, _ => fun _ => .stuck
  | n + 1, i => fun h => match wk h i with
    | none => .stuck
    | some none => .ok (.ref D) h
    | some (some (x, h1)) => match g x (wipeS ss is) h1 with
      | none => .stuck
      | some ss1 => match t ss1 h1 with
        | .ok b h2 => if b = true then (match ek ss1 h2 with
          | .ok y h3 => match ev ss1 h3 with
            | .ok z h4 => match h4[D]? with
              | some (.dK acc) => match keyOf y with
                | some kk => if acc.length < big then dcM g wk t ek ev is D ss n (i + 1) (h4.set D (.dK (putS acc kk z))) else .stuck
                | none => .stuck
              | _ => .stuck
            | _ => .stuck
          | _ => .stuck) else dcM g wk t ek ev is D ss n (i + 1) h2
        | _ => .stuck
def mDc (m : IM) (g : GM) (t : BM) (ek ev : EM) (is : List Nat) : EM := fun ss h => match m ss h with
  | .stuck => .stuck
  | .ex c xs h1 => .ex c xs h1
  | .ok wk h1 => dcM g wk t ek ev is h1.length ss many 0 (h1 ++ [.dK []])
section
variable {X : Cx} {en : En} {W : WX} {pos : Pos}
theorem tDcM {m : IM} {g : GM} {t : BM} {ek ev : EM} {is : List Nat} (σ : L2.St) (H : Hp) (Q : VK) (q : tE en W (mDc m g t ek ev is) σ H Q) : tDc (tI en W m) (tG en is g) (tT en W0 t) (tE en W0 ek) (tE en W0 ev) is σ H Q := by
  obtain ⟨ρ, ss, h, rel, rs, f⟩ := q
  refine ⟨ρ, ss, h, rel, rs, ?_⟩
  unfold mDc at f
  cases e1 : m ss h with
  | stuck => simp only [e1, fin] at f
  | ex c xs h1 => simp only [e1, fin] at f ⊢; exact f
  | ok wk h1 =>
    simp only [e1] at f ⊢
    intro ρ1 H1 J p1 rel1 ok D nD
    have relD : Rel en (ρ1 ++ [D]) (h1 ++ [.dK []]) (upd H1 D (.dK [])) := rel1.push nD ⟨[], upd_same, .nil⟩
    have eD : (ρ1 ++ [D])[h1.length]? = some D := by rw [← rel1.len, List.getElem?_append_right (Nat.le_refl _)]; simp
    refine ⟨fun i n H2 => ∃ ρ2 h2, Pre (ρ1 ++ [D]) ρ2 ∧ Rel en ρ2 h2 H2 ∧ fin en W (RS en) σ ρ2 (dcM g wk t ek ev is h1.length ss n i h2) Q, ⟨many, ρ1 ++ [D], h1 ++ [.dK []], Pre.refl _, relD, f.mono (p1.trans (Pre.one ρ1 D))⟩, ?_⟩
    rintro i n H2 ⟨ρ2, h2, p2, rel2, f2⟩
    have pr : Pre ρ1 ρ2 := (Pre.one ρ1 D).trans p2
    cases n with
    | zero => exact f2.elim
    | succ n =>
      unfold dcM at f2
      obtain ⟨k1, k2⟩ := ok ρ2 h2 H2 i pr rel2
      cases e2 : wk h2 i with
      | none => simp only [e2, fin] at f2
      | some o =>
        cases o with
        | none =>
          simp only [e2] at f2
          exact .inl ⟨k1 e2, f2 ρ2 H2 _ (Pre.refl ρ2) rel2 ⟨D, p2.get eD, rfl⟩⟩
        | some qq =>
          obtain ⟨x, h3⟩ := qq
          simp only [e2] at f2
          obtain ⟨go, yl⟩ := k2 x h3 e2
          refine .inr ⟨go, fun H' => ∃ ρ4 h4, Pre (ρ1 ++ [D]) ρ4 ∧ Rel en ρ4 h4 H' ∧ fin en W (RS en) σ ρ4 (dcM g wk t ek ev is h1.length ss n (i + 1) h4) Q, fun H' z => ⟨n, Nat.lt_succ_self n, z⟩, fun v H3 yv => ?_⟩
          obtain ⟨ρ3, p3, rel3, rv⟩ := yl v H3 yv
          have rsw : RSl en ρ3 (wipeS ss is) (wipe σ is) := wipe_rel (rs.mono (p1.trans (pr.trans p3))) is
          cases e3 : g x (wipeS ss is) h3 with
          | none => simp only [e3, fin] at f2
          | some ss1 =>
            simp only [e3] at f2
            refine ⟨ρ3, _, h3, x, ss1, rel3, rsw, rv, e3, fun σ2 rs2 so => ⟨wipe_same so, ρ3, ss1, h3, rel3, rs2, ?_⟩⟩
            cases e4 : t ss1 h3 with
            | stuck => simp only [e4, fin] at f2
            | ex c xs h4 => simp only [e4, fin] at f2
            | ok b h4 =>
              simp only [e4] at f2
              intro ρ4 H4 b' p4 rel4 rb
              cases rb
              cases b with
              | false =>
                have f3 : fin en W (RS en) σ ρ2 (dcM g wk t ek ev is h1.length ss n (i + 1) h4) Q := f2
                exact ⟨ρ4, h4, (p2.trans p3).trans p4, rel4, f3.mono (p3.trans p4)⟩
              | true =>
                rw [if_pos rfl] at f2
                refine ⟨ρ4, ss1, h4, rel4, rs2.mono p4, ?_⟩
                cases e5 : ek ss1 h4 with
                | stuck => simp only [e5, fin] at f2
                | ex c xs h5 => simp only [e5, fin] at f2
                | ok y h5 =>
                  simp only [e5] at f2
                  intro ρ5 H5 u p5 rel5 ru
                  refine ⟨ρ5, ss1, h5, rel5, rs2.mono (p4.trans p5), ?_⟩
                  cases e8 : ev ss1 h5 with
                  | stuck => simp only [e8, fin] at f2
                  | ex c xs h6 => simp only [e8, fin] at f2
                  | ok z h6 =>
                    simp only [e8] at f2
                    intro ρ6 H6 w p6 rel6 rw6
                    cases e6 : h6[h1.length]? with
                    | none => simp only [e6, fin] at f2
                    | some o6 =>
                      cases o6 with
                      | dK acc =>
                        simp only [e6] at f2
                        cases ekk : keyOf y with
                        | none => simp only [ekk, fin] at f2
                        | some kk =>
                          simp only [ekk] at f2
                          split at f2
                          · rename_i hz
                            have p26 : Pre (ρ1 ++ [D]) ρ6 := (((p2.trans p3).trans p4).trans p5).trans p6
                            obtain ⟨kws, eh, rkv⟩ := rel6.at2 (p26.get eD) e6
                            exact ⟨kws, kk, keyOf_rel ekk ru, eh, by rw [big_eq, ← Paired.length rkv]; exact hz, ρ6, _, p26, rel6.put (o := .dK (putS acc kk z)) (p26.get eD) ⟨_, upd_same, RK.put rw6 rkv⟩, f2.mono (((p3.trans p4).trans p5).trans p6)⟩
                          · exact f2.elim
                      | _ => simp only [e6, fin] at f2
theorem PE.dcG {k : Nat} {kx vx tg iter : Expr} {ifs : List Expr} {scope : Scope} {own : List (Str × Nat)} {m : IM} {g : GM} {t : BM} {ek ev : EM} (G : Good en X W k) (hN : X.N.Nodup) (hi : PI X tg iter (tI en W m)) (ok : BlkOk X.N X.env.scope scope own)
    (hg : ∀ (s : Shared) (H : Hp) (C : Addr) (cl : List (Str × Addr)) (fp : List Addr), Good en (X.blk s H scope (compEnvC scope cl C X.env) fp) W0 k → PG (X.blk s H scope (compEnvC scope cl C X.env) fp) tg (tG en (own.map (·.2)) g))
    (ht : ∀ (s : Shared) (H : Hp) (C : Addr) (cl : List (Str × Addr)) (fp : List Addr), Good en (X.blk s H scope (compEnvC scope cl C X.env) fp) W0 k → PTs (X.blk s H scope (compEnvC scope cl C X.env) fp) ifs (tT en W0 t))
    (hk : ∀ (s : Shared) (H : Hp) (C : Addr) (cl : List (Str × Addr)) (fp : List Addr), Good en (X.blk s H scope (compEnvC scope cl C X.env) fp) W0 k → PE (X.blk s H scope (compEnvC scope cl C X.env) fp) kx (tE en W0 ek))
    (he : ∀ (s : Shared) (H : Hp) (C : Addr) (cl : List (Str × Addr)) (fp : List Addr), Good en (X.blk s H scope (compEnvC scope cl C X.env) fp) W0 k → PE (X.blk s H scope (compEnvC scope cl C X.env) fp) vx (tE en W0 ev)) (hs : ∀ x, foldedSetIterable iter X.env x = pure x := by intro _; rfl) :
    PE X (.DictComp kx vx [⟨tg, iter, ifs, 0⟩] scope pos) (tE en W (mDc m g t ek ev (own.map (·.2)))) :=
  PEimp (pe_dc G.calm hN hi ok (fun s H C cl fp => hg s H C cl fp (G.blk s H _ _ fp)) (fun s H C cl fp => ht s H C cl fp (G.blk s H _ _ fp)) (fun s H C cl fp => hk s H C cl fp (G.blk s H _ _ fp)) (fun s H C cl fp => he s H C cl fp (G.blk s H _ _ fp)) hs) fun σ H Q q => tDcM σ H Q q
end
end Fw
namespace Fw
open PySem PySem.Spec L2
section
variable {X : Cx} {en : En} {W : WX} {pos : Pos} {a : Expr} {ma : EM}
/-- not of any value -/
def mNotT (ma : EM) : EM := fun ss h => (ma ss h).bind fun v h1 => (opTru v h1).bind fun b h2 => .ok (.bl (!b)) h2
theorem PE.notT (hK : X.K = en.K) (ha : PE X a (tE en W ma)) : PE X (.UnaryOp .Not a pos) (tE en W (mNotT ma)) :=
  PEimp (L2.pe_notT ha) fun σ H Q t => tM.bind2 (R1 := RS en) (R2 := RS en) (k := fun v (ss : SS) h1 => (opTru v h1).bind fun b h2 => (Res.ok (SV.bl (!b)) h2 : Res SV)) t fun ρ ss h v x H1 rel rs r f => by
    have go : ∀ k : Bool, opTru v h = .ok k h → TruV X.K x H1 k → ∃ k, TruV X.K x H1 k ∧ Q (.bl (!k)) H1 := fun k e z => by
      rw [e] at f
      exact ⟨k, z, f ρ H1 (.bl (!k)) (Pre.refl ρ) rel rfl⟩
    have nostuck : opTru v h ≠ .stuck := fun e => by rw [e] at f; exact f
    cases v with
    | non => cases r; exact go _ rfl rfl
    | bl b => cases r; exact go _ rfl rfl
    | int i => cases r; exact go _ rfl rfl
    | str y =>
      cases r
      by_cases hl : y.length ≤ big
      · exact go ((y.length : Int) != 0) (by simp only [opTru, if_pos hl]) ⟨by rw [big_eq]; exact hl, rfl⟩
      · exact (nostuck (by simp only [opTru, if_neg hl])).elim
    | scr ns =>
      obtain ⟨rfl, rfl⟩ := r
      refine go (!en.ns.isEmpty) rfl (.inl ⟨_, by rw [hK]; exact rel.scr, by cases en.ns <;> rfl⟩)
    | ref i =>
      cases ei : h[i]? with
      | none => exact (nostuck (by simp only [opTru, ei])).elim
      | some o =>
        cases o with
        | lst xs =>
          obtain ⟨p, vs, rfl, ep, e1, r1⟩ := rel.lst ei r
          exact go (!xs.isEmpty) (by simp only [opTru, ei]) (.inl ⟨vs, SqL.of e1, by rw [Paired.isEmpty r1]⟩)
        | tup xs =>
          obtain ⟨p, vs, rfl, ep, e1, r1⟩ := rel.tup ei r
          exact go (!xs.isEmpty) (by simp only [opTru, ei]) (.inr (.inl ⟨vs, SqT.of e1, by rw [Paired.isEmpty r1]⟩))
        | dK kvs =>
          obtain ⟨p, ep, rfl⟩ := r
          obtain ⟨kws, e1, r1⟩ := rel.at2 ep ei
          exact go (!kvs.isEmpty) (by simp only [opTru, ei]) (.inr (.inr ⟨kws, e1, by rw [Paired.isEmpty r1]⟩))
        | _ => exact (nostuck (by simp only [opTru, ei])).elim
end
end Fw
namespace Fw
open PySem PySem.Spec L2
/-! ## Runs of meanings, without a machine: what a run must bring, from the end to the front -/
/-- what stood stays -/
def Le (h h' : SH) : Prop := ∀ (j : Nat) (o : SO), h[j]? = some o → h'[j]? = some o
theorem Le.refl (h : SH) : Le h h := fun _ _ e => e
theorem Le.trans {a b c : SH} (x : Le a b) (y : Le b c) : Le a c := fun j o e => y j o (x j o e)
theorem Le.push (h : SH) (o : SO) : Le h (h ++ [o]) := fun j u e => by
  rw [List.getElem?_append_left (List.getElem?_eq_some_iff.mp e).1]; exact e
theorem Le.len {h h' : SH} (x : Le h h') : h.length ≤ h'.length := by
  cases e : h.length with
  | zero => exact Nat.zero_le _
  | succ n =>
    have q : h[n]? = some h[n] := List.getElem?_eq_getElem (by omega)
    have := (List.getElem?_eq_some_iff.mp (x n _ q)).1
    omega
theorem new_at (h : SH) (o : SO) : (h ++ [o])[h.length]? = some o := by rw [List.getElem?_append_right (Nat.le_refl _)]; simp
theorem set_at {h : SH} {i : Nat} {o u : SO} (e : h[i]? = some u) : (h.set i o)[i]? = some o := List.getElem?_set_self (List.getElem?_eq_some_iff.mp e).1
theorem set_ne {h : SH} {i j : Nat} {o : SO} (n : i ≠ j) : (h.set i o)[j]? = h[j]? := List.getElem?_set_ne n
/-- a run that answers, and what of its answer -/
def Is {α : Type} (r : Res α) (P : α → SH → Prop) : Prop := match r with
  | .ok a h => P a h
  | _ => False
theorem Is.mono {α : Type} {r : Res α} {P Q : α → SH → Prop} (x : Is r P) (k : ∀ a h, P a h → Q a h) : Is r Q := by
  cases r with
  | ok a h => exact k a h x
  | stuck => exact x
  | ex c xs h => exact x
theorem Is.bind {α β : Type} {r : Res α} {k : α → SH → Res β} {P : β → SH → Prop} (x : Is r fun a h => Is (k a h) P) : Is (r.bind k) P := by
  cases r with
  | ok a h => exact x
  | stuck => exact x
  | ex c xs h => exact x
theorem Is.out {α : Type} {r : Res α} {P : α → SH → Prop} (x : Is r P) : ∃ a h, r = .ok a h ∧ P a h := by
  cases r with
  | ok a h => exact ⟨a, h, rfl, x⟩
  | stuck => exact x.elim
  | ex c xs h => exact x.elim
/-- .. of a statement: behind it, returned, broken off, gone on -/
def Ist (r : SR) (N : SS → SH → Prop) (R : SV → SH → Prop) (B C : SS → SH → Prop) : Prop := match r with
  | .nx ss h => N ss h
  | .rt v h => R v h
  | .bk ss h => B ss h
  | .ct ss h => C ss h
  | _ => False
section
variable {N B C N' B' C' : SS → SH → Prop} {R R' : SV → SH → Prop} {ss : SS} {h : SH} {P : SV → SH → Prop}
theorem Ist.mono {r : SR} (x : Ist r N R B C) (kn : ∀ s h, N s h → N' s h) (kr : ∀ v h, R v h → R' v h) (kb : ∀ s h, B s h → B' s h) (kc : ∀ s h, C s h → C' s h) : Ist r N' R' B' C' := by
  cases r with
  | nx s h => exact kn _ _ x
  | rt v h => exact kr _ _ x
  | bk s h => exact kb _ _ x
  | ct s h => exact kc _ _ x
  | stuck => exact x
  | ex c xs s h => exact x
theorem Ist.then {α : Type} {r : Res α} {k : α → SH → SR} (x : Is r fun a h => Ist (k a h) N R B C) : Ist (thenS r ss k) N R B C := by
  cases r with
  | ok a h => exact x
  | stuck => exact x
  | ex c xs h => exact x
theorem Ist.seq {m1 m2 : SM} (x : Ist (m1 ss h) (fun s h => Ist (m2 s h) N R B C) R B C) : Ist (mSeq m1 m2 ss h) N R B C := by
  unfold mSeq
  cases e : m1 ss h with
  | nx s h => rw [e] at x; exact x
  | rt v h => rw [e] at x; exact x
  | bk s h => rw [e] at x; exact x
  | ct s h => rw [e] at x; exact x
  | stuck => rw [e] at x; exact x
  | ex c xs s h => rw [e] at x; exact x
theorem Ist.nil (x : N ss h) : Ist (mNil ss h) N R B C := x
theorem Ist.set {i : Nat} {m : EM} (x : Is (m ss h) fun v h1 => N (ss.set i (some v)) h1) : Ist (mSet i m ss h) N R B C := Ist.then x
theorem Ist.ret {m : EM} (x : Is (m ss h) R) : Ist (mRet m ss h) N R B C := Ist.then x
theorem Ist.drop {m : EM} (x : Is (m ss h) fun _ h1 => N ss h1) : Ist (mDrop m ss h) N R B C := Ist.then x
theorem Ist.ite {t : BM} {m1 m2 : SM} (x : Is (t ss h) fun b h1 => if b = true then Ist (m1 ss h1) N R B C else Ist (m2 ss h1) N R B C) : Ist (mIfS t m1 m2 ss h) N R B C := Ist.then (x.mono fun b h1 y => by
  cases b with
  | true => exact y
  | false => exact y)
theorem Ist.st {me mo mi : EM} (x : Is (me ss h) fun v h1 => Is (mo ss h1) fun o h2 => Is (mi ss h2) fun i h3 => ∃ h4, opSt o i v h3 = some h4 ∧ N ss h4) : Ist (mSt me mo mi ss h) N R B C := by
  refine Ist.then (x.mono fun v h1 y => Ist.then (y.mono fun o h2 z => Ist.then (z.mono fun i h3 w => ?_)))
  obtain ⟨h4, e, n⟩ := w
  rw [e]; exact n
theorem Is.var {i : Nat} {v : SV} (e : ss[i]? = some (some v)) (p : P v h) : Is (mVar i ss h) P := by
  unfold mVar; rw [e]; exact p
theorem Is.c {v : SV} (p : P v h) : Is (mC v ss h) P := p
theorem Is.lift {α : Type} {o : Option (α × SH)} {P : α → SH → Prop} (x : ∃ a h, o = some (a, h) ∧ P a h) : Is (lift o) P := by
  obtain ⟨a, h, rfl, p⟩ := x; exact p
theorem Is.o1 {op : O1} {ma : EM} (x : Is (ma ss h) fun a h1 => ∃ v h2, op a h1 = some (v, h2) ∧ P v h2) : Is (mO1 op ma ss h) P := Is.bind (x.mono fun a h1 y => Is.lift y)
theorem Is.o2 {op : O2} {ma mb : EM} (x : Is (ma ss h) fun a h1 => Is (mb ss h1) fun b h2 => ∃ v h3, op a b h2 = some (v, h3) ∧ P v h3) : Is (mO2 op ma mb ss h) P := Is.bind (x.mono fun a h1 y => Is.bind (y.mono fun b h2 z => Is.lift z))
theorem Is.oa {op : OA} {ma : AM} (x : Is (ma ss h) fun a h1 => ∃ v h2, op a h1 = some (v, h2) ∧ P v h2) : Is (mOA op ma ss h) P := Is.bind (x.mono fun a h1 y => Is.lift y)
theorem Is.anil {P : List SV → SH → Prop} (p : P [] h) : Is (aNil ss h) P := p
theorem Is.acons {P : List SV → SH → Prop} {ma : EM} {mr : AM} (x : Is (ma ss h) fun v h1 => Is (mr ss h1) fun vs h2 => P (v :: vs) h2) : Is (aCons ma mr ss h) P := Is.bind (x.mono fun a h1 y => Is.bind (y.mono fun b h2 z => z))
theorem Is.call {f : FM} {ma : AM} (x : Is (ma ss h) fun vs h1 => Is (f vs h1) P) : Is (mCall f ma ss h) P := Is.bind x
theorem Is.fn {np n : Nat} {m : SM} {vs : List SV} (hl : vs.length = np) (x : Ist (m (vs.map some ++ List.replicate (n - vs.length) none) h) (fun _ h => P .non h) P (fun _ _ => False) (fun _ _ => False)) : Is (mFn np n m vs h) P := by
  unfold mFn
  rw [if_pos hl]
  cases e : m (vs.map some ++ List.replicate (n - vs.length) none) h with
  | nx s h => rw [e] at x; exact x
  | rt v h => rw [e] at x; exact x
  | bk s h => rw [e] at x; exact x.elim
  | ct s h => rw [e] at x; exact x.elim
  | stuck => rw [e] at x; exact x
  | ex c xs s h => rw [e] at x; exact x
/-- tests -/
theorem Is.bm {P : Bool → SH → Prop} {m : EM} (x : Is (m ss h) fun v h1 => ∃ b, v = .bl b ∧ P b h1) : Is (mB m ss h) P := Is.bind (x.mono fun v h1 y => by
  obtain ⟨b, rfl, p⟩ := y; exact p)
theorem Is.tru {P : Bool → SH → Prop} {m : EM} (x : Is (m ss h) fun v h1 => Is (opTru v h1) P) : Is (mTru m ss h) P := Is.bind x
theorem Is.bnot {P : Bool → SH → Prop} {t : BM} (x : Is (t ss h) fun b h1 => P (!b) h1) : Is (bNot t ss h) P := Is.bind x
theorem Is.band {P : Bool → SH → Prop} {s t : BM} (x : Is (s ss h) fun b h1 => if b = true then Is (t ss h1) P else P false h1) : Is (bAnd s t ss h) P := Is.bind (x.mono fun b h1 y => by
  cases b with
  | true => exact y
  | false => exact y)
theorem Is.bor {P : Bool → SH → Prop} {s t : BM} (x : Is (s ss h) fun b h1 => if b = true then P true h1 else Is (t ss h1) P) : Is (bOr s t ss h) P := Is.bind (x.mono fun b h1 y => by
  cases b with
  | true => exact y
  | false => exact y)
/-- loops -/
theorem Ist.forM {g : GM} {wk : Wk} {body : SM} {I : Nat → SS → SH → Prop} {len : Nat}
    (hn : ∀ k s h, k < len → I k s h → ∃ x h1 s1, wk h k = some (some (x, h1)) ∧ g x s h1 = some s1 ∧ Ist (body s1 h1) (I (k + 1)) R N (I (k + 1))) (he : ∀ s h, I len s h → wk h len = some none ∧ N s h) :
    ∀ (n i : Nat) (s : SS) (h : SH), i ≤ len → len - i < n → I i s h → Ist (forM g wk body n i s h) N R B C
  | 0, _, _, _, _, hl, _ => absurd hl (by omega)
  | n + 1, i, s, h, hi, hl, inv => by
    unfold Fw.forM
    by_cases e : i = len
    · subst e
      obtain ⟨e1, e2⟩ := he s h inv
      rw [e1]; exact e2
    · obtain ⟨x, h1, s1, e1, e2, e3⟩ := hn i s h (by omega) inv
      rw [e1]
      simp only [e2]
      cases e4 : body s1 h1 with
      | nx s2 h2 => rw [e4] at e3; exact Ist.forM hn he n (i + 1) s2 h2 (by omega) (by omega) e3
      | ct s2 h2 => rw [e4] at e3; exact Ist.forM hn he n (i + 1) s2 h2 (by omega) (by omega) e3
      | bk s2 h2 => rw [e4] at e3; exact e3
      | rt v h2 => rw [e4] at e3; exact e3
      | stuck => rw [e4] at e3; exact e3
      | ex c xs s2 h2 => rw [e4] at e3; exact e3
theorem Ist.for {m : IM} {g : GM} {body : SM} (x : Is (m ss h) fun wk h1 => ∃ (len : Nat) (I : Nat → SS → SH → Prop), len < many ∧ I 0 ss h1 ∧
      (∀ k s h, k < len → I k s h → ∃ x h1 s1, wk h k = some (some (x, h1)) ∧ g x s h1 = some s1 ∧ Ist (body s1 h1) (I (k + 1)) R N (I (k + 1))) ∧ (∀ s h, I len s h → wk h len = some none ∧ N s h)) : Ist (mFor m g body ss h) N R B C := by
  unfold mFor
  cases e : m ss h with
  | ok wk h1 =>
    rw [e] at x
    obtain ⟨len, I, hl, i0, hn, he⟩ := x
    exact Ist.forM hn he many 0 ss h1 (Nat.zero_le _) (by omega) i0
  | stuck => rw [e] at x; exact x
  | ex c xs h1 => rw [e] at x; exact x
theorem Is.rng1 {P : Wk → SH → Prop} {m : AM} (x : Is (m ss h) fun vs h1 => ∃ j, vs = [.int j] ∧ rngB j = true ∧ P (wkRng 0 j.toNat) h1) : Is (mRng1 m ss h) P := Is.bind (x.mono fun vs h1 y => by
  obtain ⟨j, rfl, hj, p⟩ := y
  show Is (if rngB j = true then _ else _) P
  rw [if_pos hj]; exact p)
theorem Is.rng2 {P : Wk → SH → Prop} {m : AM} (x : Is (m ss h) fun vs h1 => ∃ i j, vs = [.int i, .int j] ∧ rngB i = true ∧ rngB j = true ∧ P (wkRng i (j - i).toNat) h1) : Is (mRng2 m ss h) P := Is.bind (x.mono fun vs h1 y => by
  obtain ⟨i, j, rfl, hi, hj, p⟩ := y
  show Is (if (rngB i && rngB j) = true then _ else _) P
  rw [if_pos (by rw [hi, hj]; rfl)]; exact p)
theorem Is.walkL {P : Wk → SH → Prop} {m : EM} (x : Is (m ss h) fun v h1 => ∃ r xs, v = .ref r ∧ h1[r]? = some (.lst xs) ∧ P (wkL r) h1) : Is (mWalk m ss h) P := Is.bind (x.mono fun v h1 y => by
  obtain ⟨r, xs, rfl, e, p⟩ := y
  show Is (match h1[r]? with | some (.lst _) => Res.ok (wkL r) h1 | some (.tup _) => .ok (wkT r) h1 | _ => .stuck) P
  rw [e]; exact p)
theorem wkL_at {h : SH} {r k : Nat} {xs : List SV} {x : SV} (e : h[r]? = some (.lst xs)) (ex : xs[k]? = some x) : wkL r h k = some (some (x, h)) := by
  unfold wkL; rw [e]; simp only [ex]
theorem wkL_end {h : SH} {r : Nat} {xs : List SV} (e : h[r]? = some (.lst xs)) : wkL r h xs.length = some none := by
  unfold wkL; rw [e]; simp
theorem wkRng_at {h : SH} {lo : Int} {n k : Nat} (hk : k < n) : wkRng lo n h k = some (some (.int (lo + k), h)) := by
  unfold wkRng; rw [if_pos hk]
theorem wkRng_end {h : SH} {lo : Int} {n : Nat} : wkRng lo n h n = some none := by
  unfold wkRng; rw [if_neg (Nat.lt_irrefl _)]
/-- a list comprehension -/
theorem Is.lcM {g : GM} {wk : Wk} {t : BM} {e : EM} {is : List Nat} {D : Nat} {I : Nat → List SV → SH → Prop} {len : Nat}
    (hn : ∀ k acc h, k < len → h[D]? = some (.lst acc) → I k acc h → ∃ x h1 s1, wk h k = some (some (x, h1)) ∧ g x (wipeS ss is) h1 = some s1 ∧ Is (t s1 h1) fun b h2 =>
      if b = true then Is (e s1 h2) (fun y h3 => h3[D]? = some (.lst acc) ∧ acc.length < big ∧ I (k + 1) (acc ++ [y]) (h3.set D (.lst (acc ++ [y])))) else h2[D]? = some (.lst acc) ∧ I (k + 1) acc h2)
    (he : ∀ acc h, h[D]? = some (.lst acc) → I len acc h → wk h len = some none ∧ P (.ref D) h) :
    ∀ (n i : Nat) (acc : List SV) (h : SH), i ≤ len → len - i < n → h[D]? = some (.lst acc) → I i acc h → Is (lcM g wk t e is D ss n i h) P
  | 0, _, _, _, _, hl, _, _ => absurd hl (by omega)
  | n + 1, i, acc, h, hi, hl, hd, inv => by
    unfold Fw.lcM
    by_cases q : i = len
    · subst q
      obtain ⟨e1, e2⟩ := he acc h hd inv
      rw [e1]; exact e2
    · obtain ⟨x, h1, s1, e1, e2, e3⟩ := hn i acc h (by omega) hd inv
      rw [e1]
      simp only [e2]
      obtain ⟨b, h2, e4, e5⟩ := e3.out
      rw [e4]
      cases b with
      | false =>
        simp only [Bool.false_eq_true, if_false] at e5 ⊢
        exact Is.lcM hn he n (i + 1) acc h2 (by omega) (by omega) e5.1 e5.2
      | true =>
        simp only [if_true] at e5 ⊢
        obtain ⟨y, h3, e6, e7, e8, e9⟩ := e5.out
        rw [e6]
        simp only [e7, if_pos e8]
        exact Is.lcM hn he n (i + 1) (acc ++ [y]) (h3.set D (.lst (acc ++ [y]))) (by omega) (by omega) (set_at e7) e9
theorem Is.lc {m : IM} {g : GM} {t : BM} {e : EM} {is : List Nat} (x : Is (m ss h) fun wk h0 => ∃ (len : Nat) (I : Nat → List SV → SH → Prop), len < many ∧ I 0 [] (h0 ++ [.lst []]) ∧
      (∀ k acc h, k < len → h[h0.length]? = some (.lst acc) → I k acc h → ∃ x h1 s1, wk h k = some (some (x, h1)) ∧ g x (wipeS ss is) h1 = some s1 ∧ Is (t s1 h1) fun b h2 =>
        if b = true then Is (e s1 h2) (fun y h3 => h3[h0.length]? = some (.lst acc) ∧ acc.length < big ∧ I (k + 1) (acc ++ [y]) (h3.set h0.length (.lst (acc ++ [y])))) else h2[h0.length]? = some (.lst acc) ∧ I (k + 1) acc h2) ∧
      (∀ acc h, h[h0.length]? = some (.lst acc) → I len acc h → wk h len = some none ∧ P (.ref h0.length) h)) : Is (mLc m g t e is ss h) P := by
  unfold mLc
  cases q : m ss h with
  | ok wk h0 =>
    rw [q] at x
    obtain ⟨len, I, hl, i0, hn, he⟩ := x
    exact Is.lcM hn he many 0 [] (h0 ++ [.lst []]) (Nat.zero_le _) (by omega) (new_at _ _) i0
  | stuck => rw [q] at x; exact x
  | ex c xs h1 => rw [q] at x; exact x
end
end Fw
namespace Fw
open PySem PySem.Spec L2
/-! the drawing of numbers that every law begins with: the defs' meanings, and what they answer -/
theorem mul_is {i j : Int} {h : SH} {P : SV → SH → Prop} (k : okMul i j = true) (p : P (.int (i * j)) h) : ∃ v h3, opMul (.int i) (.int j) h = some (v, h3) ∧ P v h3 := ⟨_, _, by show (if okMul i j = true then _ else _) = _; rw [if_pos k], p⟩
theorem mod_is {i j : Int} {h : SH} {P : SV → SH → Prop} (k : 0 < j) (p : P (.int (i % j)) h) : ∃ v h3, opMod (.int i) (.int j) h = some (v, h3) ∧ P v h3 := ⟨_, _, by show (if 0 < j then _ else _) = _; rw [if_pos k], p⟩
theorem fdiv_is {i j : Int} {h : SH} {P : SV → SH → Prop} (k : 0 < j ∧ j.natAbs.log2 < 9000) (p : P (.int (i / j)) h) : ∃ v h3, opFdiv (.int i) (.int j) h = some (v, h3) ∧ P v h3 := ⟨_, _, by show (if 0 < j ∧ j.natAbs.log2 < 9000 then _ else _) = _; rw [if_pos k], p⟩
theorem okMul_r {i j : Int} (h1 : -18446744073709551616 < j) (h2 : j < 18446744073709551616) : okMul i j = true := decide_eq_true (.inr ⟨h1, h2⟩)
theorem okMul_l {i j : Int} (h1 : -18446744073709551616 < i) (h2 : i < 18446744073709551616) : okMul i j = true := decide_eq_true (.inl ⟨h1, h2⟩)
def hashM : SM := mSeq (mSet 2 (mO2 opMod (mOA (un1 opInt) (aCons (mO2 opAdd (mO2 opAdd (mO2 opAdd (mO2 opMul (mVar 0) (mC (.int 1103515245))) (mO2 opMul (mO2 opMul (mC (.int 7919)) (mVar 1)) (mVar 1))) (mVar 1)) (mC (.int 1))) aNil)) (mC (.int 2147483647))))
  (mSeq (mSet 2 (mO2 opMod (mOA (un1 opInt) (aCons (mO2 opAdd (mO2 opMul (mVar 2) (mVar 2)) (mC (.int 69621))) aNil)) (mC (.int 2147483629)))) (mRet (mO2 opMod (mOA (un1 opInt) (aCons (mO2 opMul (mVar 2) (mC (.int 48271))) aNil)) (mC (.int 2147483587)))))
theorem hash_is {a c : Int} {h : SH} {P : SV → SH → Prop} (c1 : -18446744073709551616 < c) (c2 : c < 18446744073709551616) (p : ∀ r : Int, 0 ≤ r → r < 2147483587 → P (.int r) h) : Is (mFn 2 3 hashM [.int a, .int c] h) P := by
  refine Is.fn rfl ?_
  unfold hashM
  repeat (first | with_reducible refine Is.o2 ?_ | with_reducible refine Is.o1 ?_ | with_reducible refine Is.oa ?_ | with_reducible refine Is.acons ?_ | with_reducible refine Is.anil ?_ | with_reducible refine Is.c ?_ | with_reducible refine Is.var (by with_unfolding_all rfl) ?_ | with_reducible refine Is.call ?_ | with_reducible refine Is.bm ?_ | with_reducible refine Ist.seq ?_ | with_reducible refine Ist.set ?_ | with_reducible refine Ist.ret ?_ | with_reducible refine Ist.ite ?_ | with_reducible refine Ist.st ?_ | with_reducible refine Ist.nil ?_)
  refine mul_is (okMul_r (by decide) (by decide)) ?_
  repeat (first | with_reducible refine Is.o2 ?_ | with_reducible refine Is.o1 ?_ | with_reducible refine Is.oa ?_ | with_reducible refine Is.acons ?_ | with_reducible refine Is.anil ?_ | with_reducible refine Is.c ?_ | with_reducible refine Is.var (by with_unfolding_all rfl) ?_ | with_reducible refine Is.call ?_ | with_reducible refine Is.bm ?_ | with_reducible refine Ist.seq ?_ | with_reducible refine Ist.set ?_ | with_reducible refine Ist.ret ?_ | with_reducible refine Ist.ite ?_ | with_reducible refine Ist.st ?_ | with_reducible refine Ist.nil ?_)
  refine mul_is (okMul_l (by decide) (by decide)) ?_
  repeat (first | with_reducible refine Is.o2 ?_ | with_reducible refine Is.o1 ?_ | with_reducible refine Is.oa ?_ | with_reducible refine Is.acons ?_ | with_reducible refine Is.anil ?_ | with_reducible refine Is.c ?_ | with_reducible refine Is.var (by with_unfolding_all rfl) ?_ | with_reducible refine Is.call ?_ | with_reducible refine Is.bm ?_ | with_reducible refine Ist.seq ?_ | with_reducible refine Ist.set ?_ | with_reducible refine Ist.ret ?_ | with_reducible refine Ist.ite ?_ | with_reducible refine Ist.st ?_ | with_reducible refine Ist.nil ?_)
  refine mul_is (okMul_r c1 c2) ?_
  refine ⟨_, _, rfl, ?_⟩
  repeat (first | with_reducible refine Is.o2 ?_ | with_reducible refine Is.o1 ?_ | with_reducible refine Is.oa ?_ | with_reducible refine Is.acons ?_ | with_reducible refine Is.anil ?_ | with_reducible refine Is.c ?_ | with_reducible refine Is.var (by with_unfolding_all rfl) ?_ | with_reducible refine Is.call ?_ | with_reducible refine Is.bm ?_ | with_reducible refine Ist.seq ?_ | with_reducible refine Ist.set ?_ | with_reducible refine Ist.ret ?_ | with_reducible refine Ist.ite ?_ | with_reducible refine Ist.st ?_ | with_reducible refine Ist.nil ?_)
  refine ⟨_, _, rfl, ?_⟩
  repeat (first | with_reducible refine Is.o2 ?_ | with_reducible refine Is.o1 ?_ | with_reducible refine Is.oa ?_ | with_reducible refine Is.acons ?_ | with_reducible refine Is.anil ?_ | with_reducible refine Is.c ?_ | with_reducible refine Is.var (by with_unfolding_all rfl) ?_ | with_reducible refine Is.call ?_ | with_reducible refine Is.bm ?_ | with_reducible refine Ist.seq ?_ | with_reducible refine Ist.set ?_ | with_reducible refine Ist.ret ?_ | with_reducible refine Ist.ite ?_ | with_reducible refine Ist.st ?_ | with_reducible refine Ist.nil ?_)
  refine ⟨_, _, rfl, ?_⟩
  repeat (first | with_reducible refine Is.o2 ?_ | with_reducible refine Is.o1 ?_ | with_reducible refine Is.oa ?_ | with_reducible refine Is.acons ?_ | with_reducible refine Is.anil ?_ | with_reducible refine Is.c ?_ | with_reducible refine Is.var (by with_unfolding_all rfl) ?_ | with_reducible refine Is.call ?_ | with_reducible refine Is.bm ?_ | with_reducible refine Ist.seq ?_ | with_reducible refine Ist.set ?_ | with_reducible refine Ist.ret ?_ | with_reducible refine Ist.ite ?_ | with_reducible refine Ist.st ?_ | with_reducible refine Ist.nil ?_)
  refine ⟨_, _, rfl, ?_⟩
  repeat (first | with_reducible refine Is.o2 ?_ | with_reducible refine Is.o1 ?_ | with_reducible refine Is.oa ?_ | with_reducible refine Is.acons ?_ | with_reducible refine Is.anil ?_ | with_reducible refine Is.c ?_ | with_reducible refine Is.var (by with_unfolding_all rfl) ?_ | with_reducible refine Is.call ?_ | with_reducible refine Is.bm ?_ | with_reducible refine Ist.seq ?_ | with_reducible refine Ist.set ?_ | with_reducible refine Ist.ret ?_ | with_reducible refine Ist.ite ?_ | with_reducible refine Ist.st ?_ | with_reducible refine Ist.nil ?_)
  refine mod_is (by decide) ?_
  repeat (first | with_reducible refine Is.o2 ?_ | with_reducible refine Is.o1 ?_ | with_reducible refine Is.oa ?_ | with_reducible refine Is.acons ?_ | with_reducible refine Is.anil ?_ | with_reducible refine Is.c ?_ | with_reducible refine Is.var (by with_unfolding_all rfl) ?_ | with_reducible refine Is.call ?_ | with_reducible refine Is.bm ?_ | with_reducible refine Ist.seq ?_ | with_reducible refine Ist.set ?_ | with_reducible refine Ist.ret ?_ | with_reducible refine Ist.ite ?_ | with_reducible refine Ist.st ?_ | with_reducible refine Ist.nil ?_)
  refine mul_is (okMul_r ?_ ?_) ?_
  · omega
  · omega
  repeat (first | with_reducible refine Is.o2 ?_ | with_reducible refine Is.o1 ?_ | with_reducible refine Is.oa ?_ | with_reducible refine Is.acons ?_ | with_reducible refine Is.anil ?_ | with_reducible refine Is.c ?_ | with_reducible refine Is.var (by with_unfolding_all rfl) ?_ | with_reducible refine Is.call ?_ | with_reducible refine Is.bm ?_ | with_reducible refine Ist.seq ?_ | with_reducible refine Ist.set ?_ | with_reducible refine Ist.ret ?_ | with_reducible refine Ist.ite ?_ | with_reducible refine Ist.st ?_ | with_reducible refine Ist.nil ?_)
  refine ⟨_, _, rfl, ?_⟩
  repeat (first | with_reducible refine Is.o2 ?_ | with_reducible refine Is.o1 ?_ | with_reducible refine Is.oa ?_ | with_reducible refine Is.acons ?_ | with_reducible refine Is.anil ?_ | with_reducible refine Is.c ?_ | with_reducible refine Is.var (by with_unfolding_all rfl) ?_ | with_reducible refine Is.call ?_ | with_reducible refine Is.bm ?_ | with_reducible refine Ist.seq ?_ | with_reducible refine Ist.set ?_ | with_reducible refine Ist.ret ?_ | with_reducible refine Ist.ite ?_ | with_reducible refine Ist.st ?_ | with_reducible refine Ist.nil ?_)
  refine ⟨_, _, rfl, ?_⟩
  repeat (first | with_reducible refine Is.o2 ?_ | with_reducible refine Is.o1 ?_ | with_reducible refine Is.oa ?_ | with_reducible refine Is.acons ?_ | with_reducible refine Is.anil ?_ | with_reducible refine Is.c ?_ | with_reducible refine Is.var (by with_unfolding_all rfl) ?_ | with_reducible refine Is.call ?_ | with_reducible refine Is.bm ?_ | with_reducible refine Ist.seq ?_ | with_reducible refine Ist.set ?_ | with_reducible refine Ist.ret ?_ | with_reducible refine Ist.ite ?_ | with_reducible refine Ist.st ?_ | with_reducible refine Ist.nil ?_)
  refine mod_is (by decide) ?_
  repeat (first | with_reducible refine Is.o2 ?_ | with_reducible refine Is.o1 ?_ | with_reducible refine Is.oa ?_ | with_reducible refine Is.acons ?_ | with_reducible refine Is.anil ?_ | with_reducible refine Is.c ?_ | with_reducible refine Is.var (by with_unfolding_all rfl) ?_ | with_reducible refine Is.call ?_ | with_reducible refine Is.bm ?_ | with_reducible refine Ist.seq ?_ | with_reducible refine Ist.set ?_ | with_reducible refine Ist.ret ?_ | with_reducible refine Ist.ite ?_ | with_reducible refine Ist.st ?_ | with_reducible refine Ist.nil ?_)
  refine mul_is (okMul_r (by decide) (by decide)) ?_
  repeat (first | with_reducible refine Is.o2 ?_ | with_reducible refine Is.o1 ?_ | with_reducible refine Is.oa ?_ | with_reducible refine Is.acons ?_ | with_reducible refine Is.anil ?_ | with_reducible refine Is.c ?_ | with_reducible refine Is.var (by with_unfolding_all rfl) ?_ | with_reducible refine Is.call ?_ | with_reducible refine Is.bm ?_ | with_reducible refine Ist.seq ?_ | with_reducible refine Ist.set ?_ | with_reducible refine Ist.ret ?_ | with_reducible refine Ist.ite ?_ | with_reducible refine Ist.st ?_ | with_reducible refine Ist.nil ?_)
  refine ⟨_, _, rfl, ?_⟩
  repeat (first | with_reducible refine Is.o2 ?_ | with_reducible refine Is.o1 ?_ | with_reducible refine Is.oa ?_ | with_reducible refine Is.acons ?_ | with_reducible refine Is.anil ?_ | with_reducible refine Is.c ?_ | with_reducible refine Is.var (by with_unfolding_all rfl) ?_ | with_reducible refine Is.call ?_ | with_reducible refine Is.bm ?_ | with_reducible refine Ist.seq ?_ | with_reducible refine Ist.set ?_ | with_reducible refine Ist.ret ?_ | with_reducible refine Ist.ite ?_ | with_reducible refine Ist.st ?_ | with_reducible refine Ist.nil ?_)
  refine mod_is (by decide) ?_
  exact p _ (by omega) (by omega)
def cellM : SM := mSeq (mIfS (mB (mO2 opLt (mVar 1) (mOA (un1 opLen) (aCons (mVar 0) aNil)))) (mRet (mO2 opIx (mVar 0) (mVar 1))) mNil) (mRet (mC (.int 0)))
theorem cell_is {ns : List Int} {i : Nat} {h : SH} {P : SV → SH → Prop} (p : P (.int (ns.getD i 0)) h) : Is (mFn 2 2 cellM [.scr ns, .int i] h) P := by
  refine Is.fn rfl ?_
  unfold cellM
  repeat (first | with_reducible refine Is.o2 ?_ | with_reducible refine Is.o1 ?_ | with_reducible refine Is.oa ?_ | with_reducible refine Is.acons ?_ | with_reducible refine Is.anil ?_ | with_reducible refine Is.c ?_ | with_reducible refine Is.var (by with_unfolding_all rfl) ?_ | with_reducible refine Is.call ?_ | with_reducible refine Is.bm ?_ | with_reducible refine Ist.seq ?_ | with_reducible refine Ist.set ?_ | with_reducible refine Ist.ret ?_ | with_reducible refine Ist.ite ?_ | with_reducible refine Ist.st ?_ | with_reducible refine Ist.nil ?_)
  refine ⟨_, _, rfl, ?_⟩
  refine ⟨_, _, rfl, ?_⟩
  refine ⟨_, rfl, ?_⟩
  by_cases hl : i < ns.length
  · rw [if_pos (by simpa using (by omega : (i : Int) < (ns.length : Int)))]
    repeat (first | with_reducible refine Is.o2 ?_ | with_reducible refine Is.o1 ?_ | with_reducible refine Is.oa ?_ | with_reducible refine Is.acons ?_ | with_reducible refine Is.anil ?_ | with_reducible refine Is.c ?_ | with_reducible refine Is.var (by with_unfolding_all rfl) ?_ | with_reducible refine Is.call ?_ | with_reducible refine Is.bm ?_ | with_reducible refine Ist.seq ?_ | with_reducible refine Ist.set ?_ | with_reducible refine Ist.ret ?_ | with_reducible refine Ist.ite ?_ | with_reducible refine Ist.st ?_ | with_reducible refine Ist.nil ?_)
    refine ⟨.int ns[i], h, ?_, ?_⟩
    · show (match L2.atI ns (i : Int) with | some n => some (SV.int n, h) | none => none) = _
      have e : L2.atI ns (i : Int) = some ns[i] := by
        unfold L2.atI L2.ixN
        first
          | (rw [if_pos (by omega), if_pos (by omega)]; simp [hl])
          | (simp [hl])
      rw [e]
    · rw [List.getD_eq_getElem?_getD, List.getElem?_eq_getElem hl] at p
      exact p
  · rw [if_neg (by simpa using (by omega : (ns.length : Int) ≤ (i : Int)))]
    repeat (first | with_reducible refine Is.o2 ?_ | with_reducible refine Is.o1 ?_ | with_reducible refine Is.oa ?_ | with_reducible refine Is.acons ?_ | with_reducible refine Is.anil ?_ | with_reducible refine Is.c ?_ | with_reducible refine Is.var (by with_unfolding_all rfl) ?_ | with_reducible refine Is.call ?_ | with_reducible refine Is.bm ?_ | with_reducible refine Ist.seq ?_ | with_reducible refine Ist.set ?_ | with_reducible refine Ist.ret ?_ | with_reducible refine Ist.ite ?_ | with_reducible refine Ist.st ?_ | with_reducible refine Ist.nil ?_)
    rw [List.getD_eq_getElem?_getD, List.getElem?_eq_none (by omega)] at p
    exact p
end Fw
namespace Fw
open PySem PySem.Spec L2
theorem ix_is {g : Nat} {xs : List SV} {k : Int} {x : SV} {h : SH} {P : SV → SH → Prop} (e : h[g]? = some (.lst xs)) (ex : L2.atI xs k = some x) (p : P x h) : ∃ v h3, opIx (.ref g) (.int k) h = some (v, h3) ∧ P v h3 := by
  refine ⟨x, h, ?_, p⟩
  unfold opIx
  simp only [e, ex]
theorem st_is {g : Nat} {xs : List SV} {k : Int} {j : Nat} {v : SV} {h : SH} {Q : SH → Prop} (e : h[g]? = some (.lst xs)) (ej : L2.ixN xs.length k = some j) (p : Q (h.set g (.lst (xs.set j v)))) : ∃ h4, opSt (.ref g) (.int k) v h = some h4 ∧ Q h4 := by
  refine ⟨_, ?_, p⟩
  unfold opSt
  simp only [e, ej]
theorem pow_is {i j : Int} {h : SH} {P : SV → SH → Prop} (k : 0 ≤ j ∧ (Builtin.Int.intBits i : Int) * j ≤ 134217728) (p : P (.int (i ^ j.toNat)) h) : ∃ v h3, opPow (.int i) (.int j) h = some (v, h3) ∧ P v h3 := ⟨_, _, by show (if 0 ≤ j ∧ (Builtin.Int.intBits i : Int) * j ≤ 134217728 then _ else _) = _; rw [if_pos k], p⟩
theorem lst_is {xs : List SV} {h : SH} {P : SV → SH → Prop} (k : xs.length ≤ big) (p : P (.ref h.length) (h ++ [.lst xs])) : ∃ v h3, opLst xs h = some (v, h3) ∧ P v h3 := ⟨_, _, by unfold opLst; rw [if_pos k]; rfl, p⟩
def genM : SM := mSeq (mSet 2 (mCall (mFn 2 2 cellM) (aCons (mVar 0) (aCons (mVar 1) aNil)))) (mRet (mOA opLst (aCons (mO2 opMod (mOA (un1 opInt) (aCons (mOA (bin2 opMax) (aCons (mO2 opSub (mVar 2) (mO2 opPow (mC (.int 10)) (mC (.int 18)))) (aCons (mC (.int 0)) aNil))) aNil)) (mO2 opPow (mO2 opPow (mC (.int 10)) (mC (.int 60))) (mC (.int 10))))
  (aCons (mO2 opMod (mOA (un1 opInt) (aCons (mVar 2) aNil)) (mC (.int 2147483647))) (aCons (mO2 opMul (mC (.int 1000)) (mVar 1)) aNil)))))
theorem gen_is {ns : List Int} {i : Nat} {h : SH} {P : SV → SH → Prop} (p : ∀ a b : Int, 0 ≤ a → 0 ≤ b → b < 2147483647 → P (.ref h.length) (h ++ [.lst [.int a, .int b, .int (1000 * (i : Int))]])) : Is (mFn 2 3 genM [.scr ns, .int i] h) P := by
  refine Is.fn rfl ?_
  unfold genM
  repeat (first | with_reducible refine Is.o2 ?_ | with_reducible refine Is.o1 ?_ | with_reducible refine Is.oa ?_ | with_reducible refine Is.acons ?_ | with_reducible refine Is.anil ?_ | with_reducible refine Is.c ?_ | with_reducible refine Is.var (by with_unfolding_all rfl) ?_ | with_reducible refine Is.call ?_ | with_reducible refine Is.bm ?_ | with_reducible refine Ist.seq ?_ | with_reducible refine Ist.set ?_ | with_reducible refine Ist.ret ?_ | with_reducible refine Ist.ite ?_ | with_reducible refine Ist.st ?_ | with_reducible refine Ist.nil ?_)
  refine cell_is ?_
  repeat (first | with_reducible refine Is.o2 ?_ | with_reducible refine Is.o1 ?_ | with_reducible refine Is.oa ?_ | with_reducible refine Is.acons ?_ | with_reducible refine Is.anil ?_ | with_reducible refine Is.c ?_ | with_reducible refine Is.var (by with_unfolding_all rfl) ?_ | with_reducible refine Is.call ?_ | with_reducible refine Is.bm ?_ | with_reducible refine Ist.seq ?_ | with_reducible refine Ist.set ?_ | with_reducible refine Ist.ret ?_ | with_reducible refine Ist.ite ?_ | with_reducible refine Ist.st ?_ | with_reducible refine Ist.nil ?_)
  refine pow_is (by decide +kernel) ?_
  refine ⟨_, _, rfl, ?_⟩
  repeat (first | with_reducible refine Is.o2 ?_ | with_reducible refine Is.o1 ?_ | with_reducible refine Is.oa ?_ | with_reducible refine Is.acons ?_ | with_reducible refine Is.anil ?_ | with_reducible refine Is.c ?_ | with_reducible refine Is.var (by with_unfolding_all rfl) ?_ | with_reducible refine Is.call ?_ | with_reducible refine Is.bm ?_ | with_reducible refine Ist.seq ?_ | with_reducible refine Ist.set ?_ | with_reducible refine Ist.ret ?_ | with_reducible refine Ist.ite ?_ | with_reducible refine Ist.st ?_ | with_reducible refine Ist.nil ?_)
  refine ⟨_, _, rfl, ?_⟩
  repeat (first | with_reducible refine Is.o2 ?_ | with_reducible refine Is.o1 ?_ | with_reducible refine Is.oa ?_ | with_reducible refine Is.acons ?_ | with_reducible refine Is.anil ?_ | with_reducible refine Is.c ?_ | with_reducible refine Is.var (by with_unfolding_all rfl) ?_ | with_reducible refine Is.call ?_ | with_reducible refine Is.bm ?_ | with_reducible refine Ist.seq ?_ | with_reducible refine Ist.set ?_ | with_reducible refine Ist.ret ?_ | with_reducible refine Ist.ite ?_ | with_reducible refine Ist.st ?_ | with_reducible refine Ist.nil ?_)
  refine ⟨_, _, rfl, ?_⟩
  repeat (first | with_reducible refine Is.o2 ?_ | with_reducible refine Is.o1 ?_ | with_reducible refine Is.oa ?_ | with_reducible refine Is.acons ?_ | with_reducible refine Is.anil ?_ | with_reducible refine Is.c ?_ | with_reducible refine Is.var (by with_unfolding_all rfl) ?_ | with_reducible refine Is.call ?_ | with_reducible refine Is.bm ?_ | with_reducible refine Ist.seq ?_ | with_reducible refine Ist.set ?_ | with_reducible refine Ist.ret ?_ | with_reducible refine Ist.ite ?_ | with_reducible refine Ist.st ?_ | with_reducible refine Ist.nil ?_)
  refine pow_is (by decide +kernel) ?_
  repeat (first | with_reducible refine Is.o2 ?_ | with_reducible refine Is.o1 ?_ | with_reducible refine Is.oa ?_ | with_reducible refine Is.acons ?_ | with_reducible refine Is.anil ?_ | with_reducible refine Is.c ?_ | with_reducible refine Is.var (by with_unfolding_all rfl) ?_ | with_reducible refine Is.call ?_ | with_reducible refine Is.bm ?_ | with_reducible refine Ist.seq ?_ | with_reducible refine Ist.set ?_ | with_reducible refine Ist.ret ?_ | with_reducible refine Ist.ite ?_ | with_reducible refine Ist.st ?_ | with_reducible refine Ist.nil ?_)
  refine pow_is (by decide +kernel) ?_
  refine mod_is (by decide +kernel) ?_
  repeat (first | with_reducible refine Is.o2 ?_ | with_reducible refine Is.o1 ?_ | with_reducible refine Is.oa ?_ | with_reducible refine Is.acons ?_ | with_reducible refine Is.anil ?_ | with_reducible refine Is.c ?_ | with_reducible refine Is.var (by with_unfolding_all rfl) ?_ | with_reducible refine Is.call ?_ | with_reducible refine Is.bm ?_ | with_reducible refine Ist.seq ?_ | with_reducible refine Ist.set ?_ | with_reducible refine Ist.ret ?_ | with_reducible refine Ist.ite ?_ | with_reducible refine Ist.st ?_ | with_reducible refine Ist.nil ?_)
  refine ⟨_, _, rfl, ?_⟩
  repeat (first | with_reducible refine Is.o2 ?_ | with_reducible refine Is.o1 ?_ | with_reducible refine Is.oa ?_ | with_reducible refine Is.acons ?_ | with_reducible refine Is.anil ?_ | with_reducible refine Is.c ?_ | with_reducible refine Is.var (by with_unfolding_all rfl) ?_ | with_reducible refine Is.call ?_ | with_reducible refine Is.bm ?_ | with_reducible refine Ist.seq ?_ | with_reducible refine Ist.set ?_ | with_reducible refine Ist.ret ?_ | with_reducible refine Ist.ite ?_ | with_reducible refine Ist.st ?_ | with_reducible refine Ist.nil ?_)
  refine mod_is (by decide) ?_
  repeat (first | with_reducible refine Is.o2 ?_ | with_reducible refine Is.o1 ?_ | with_reducible refine Is.oa ?_ | with_reducible refine Is.acons ?_ | with_reducible refine Is.anil ?_ | with_reducible refine Is.c ?_ | with_reducible refine Is.var (by with_unfolding_all rfl) ?_ | with_reducible refine Is.call ?_ | with_reducible refine Is.bm ?_ | with_reducible refine Ist.seq ?_ | with_reducible refine Ist.set ?_ | with_reducible refine Ist.ret ?_ | with_reducible refine Ist.ite ?_ | with_reducible refine Ist.st ?_ | with_reducible refine Ist.nil ?_)
  refine mul_is (okMul_l (by decide) (by decide)) ?_
  repeat (first | with_reducible refine Is.o2 ?_ | with_reducible refine Is.o1 ?_ | with_reducible refine Is.oa ?_ | with_reducible refine Is.acons ?_ | with_reducible refine Is.anil ?_ | with_reducible refine Is.c ?_ | with_reducible refine Is.var (by with_unfolding_all rfl) ?_ | with_reducible refine Is.call ?_ | with_reducible refine Is.bm ?_ | with_reducible refine Ist.seq ?_ | with_reducible refine Ist.set ?_ | with_reducible refine Ist.ret ?_ | with_reducible refine Ist.ite ?_ | with_reducible refine Ist.st ?_ | with_reducible refine Ist.nil ?_)
  refine lst_is (by show 3 ≤ 16777216; decide) ?_
  refine p _ _ ?_ (by omega) (by omega)
  exact Int.emod_nonneg _ (by decide +kernel)
def randM : SM := mSeq (mIfS (mB (mO2 opGt (mO2 opIx (mVar 0) (mC (.int 0))) (mC (.int 0)))) (mSeq (mSet 2 (mO2 opMod (mOA (un1 opInt) (aCons (mO2 opIx (mVar 0) (mC (.int 0))) aNil)) (mVar 1))) (mSeq (mSt (mO2 opFdiv (mO2 opIx (mVar 0) (mC (.int 0))) (mVar 1)) (mVar 0) (mC (.int 0))) (mRet (mVar 2)))) mNil)
  (mSeq (mSet 2 (mC (.int 0))) (mSeq (mFor (mRng1 (aCons (mO2 opAdd (mC (.int 1)) (mO2 opFdiv (mO1 opBits (mVar 1)) (mC (.int 30)))) aNil)) (gVar 3) (mSeq (mSt (mO2 opAdd (mO2 opIx (mVar 0) (mC (.int 2))) (mC (.int 1))) (mVar 0) (mC (.int 2)))
    (mSet 2 (mO2 opAdd (mO2 opMul (mVar 2) (mC (.int 2147483587))) (mCall (mFn 2 3 hashM) (aCons (mO2 opIx (mVar 0) (mC (.int 1))) (aCons (mO2 opIx (mVar 0) (mC (.int 2))) aNil))))))) (mRet (mO2 opMod (mOA (un1 opInt) (aCons (mVar 2) aNil)) (mVar 1)))))
/-- a number drawn: 0 ≤ r < n; the generator's list stays where it is, its counter grows by a few -/
theorem rand_is {g : Nat} {a b c n : Int} {h : SH} {P : SV → SH → Prop} (hg : h[g]? = some (.lst [.int a, .int b, .int c])) (hn : 0 < n) (hl : n.natAbs.log2 < 9000) (hbits : Builtin.Int.intBits n < 100000) (ha : 0 ≤ a) (hc0 : 0 ≤ c) (hc : c < 1152921504606846976)
    (p : ∀ r a' c' : Int, 0 ≤ r → r < n → 0 ≤ a' → c ≤ c' → c' ≤ c + 4000 → P (.int r) (h.set g (.lst [.int a', .int b, .int c']))) : Is (mFn 2 4 randM [.ref g, .int n] h) P := by
  refine Is.fn rfl ?_
  unfold randM
  repeat (first | with_reducible refine Is.o2 ?_ | with_reducible refine Is.o1 ?_ | with_reducible refine Is.oa ?_ | with_reducible refine Is.acons ?_ | with_reducible refine Is.anil ?_ | with_reducible refine Is.c ?_ | with_reducible refine Is.var (by with_unfolding_all rfl) ?_ | with_reducible refine Is.call ?_ | with_reducible refine Is.bm ?_ | with_reducible refine Ist.seq ?_ | with_reducible refine Ist.set ?_ | with_reducible refine Ist.ret ?_ | with_reducible refine Ist.ite ?_ | with_reducible refine Ist.st ?_ | with_reducible refine Ist.nil ?_)
  refine ix_is hg rfl ?_
  repeat (first | with_reducible refine Is.o2 ?_ | with_reducible refine Is.o1 ?_ | with_reducible refine Is.oa ?_ | with_reducible refine Is.acons ?_ | with_reducible refine Is.anil ?_ | with_reducible refine Is.c ?_ | with_reducible refine Is.var (by with_unfolding_all rfl) ?_ | with_reducible refine Is.call ?_ | with_reducible refine Is.bm ?_ | with_reducible refine Ist.seq ?_ | with_reducible refine Ist.set ?_ | with_reducible refine Ist.ret ?_ | with_reducible refine Ist.ite ?_ | with_reducible refine Ist.st ?_ | with_reducible refine Ist.nil ?_)
  refine ⟨_, _, rfl, ?_⟩
  refine ⟨_, rfl, ?_⟩
  by_cases h0 : 0 < a
  · rw [if_pos (decide_eq_true h0)]
    repeat (first | with_reducible refine Is.o2 ?_ | with_reducible refine Is.o1 ?_ | with_reducible refine Is.oa ?_ | with_reducible refine Is.acons ?_ | with_reducible refine Is.anil ?_ | with_reducible refine Is.c ?_ | with_reducible refine Is.var (by with_unfolding_all rfl) ?_ | with_reducible refine Is.call ?_ | with_reducible refine Is.bm ?_ | with_reducible refine Ist.seq ?_ | with_reducible refine Ist.set ?_ | with_reducible refine Ist.ret ?_ | with_reducible refine Ist.ite ?_ | with_reducible refine Ist.st ?_ | with_reducible refine Ist.nil ?_)
    refine ix_is hg rfl ?_
    repeat (first | with_reducible refine Is.o2 ?_ | with_reducible refine Is.o1 ?_ | with_reducible refine Is.oa ?_ | with_reducible refine Is.acons ?_ | with_reducible refine Is.anil ?_ | with_reducible refine Is.c ?_ | with_reducible refine Is.var (by with_unfolding_all rfl) ?_ | with_reducible refine Is.call ?_ | with_reducible refine Is.bm ?_ | with_reducible refine Ist.seq ?_ | with_reducible refine Ist.set ?_ | with_reducible refine Ist.ret ?_ | with_reducible refine Ist.ite ?_ | with_reducible refine Ist.st ?_ | with_reducible refine Ist.nil ?_)
    refine ⟨_, _, rfl, ?_⟩
    repeat (first | with_reducible refine Is.o2 ?_ | with_reducible refine Is.o1 ?_ | with_reducible refine Is.oa ?_ | with_reducible refine Is.acons ?_ | with_reducible refine Is.anil ?_ | with_reducible refine Is.c ?_ | with_reducible refine Is.var (by with_unfolding_all rfl) ?_ | with_reducible refine Is.call ?_ | with_reducible refine Is.bm ?_ | with_reducible refine Ist.seq ?_ | with_reducible refine Ist.set ?_ | with_reducible refine Ist.ret ?_ | with_reducible refine Ist.ite ?_ | with_reducible refine Ist.st ?_ | with_reducible refine Ist.nil ?_)
    refine mod_is hn ?_
    repeat (first | with_reducible refine Is.o2 ?_ | with_reducible refine Is.o1 ?_ | with_reducible refine Is.oa ?_ | with_reducible refine Is.acons ?_ | with_reducible refine Is.anil ?_ | with_reducible refine Is.c ?_ | with_reducible refine Is.var (by with_unfolding_all rfl) ?_ | with_reducible refine Is.call ?_ | with_reducible refine Is.bm ?_ | with_reducible refine Ist.seq ?_ | with_reducible refine Ist.set ?_ | with_reducible refine Ist.ret ?_ | with_reducible refine Ist.ite ?_ | with_reducible refine Ist.st ?_ | with_reducible refine Ist.nil ?_)
    refine ix_is hg rfl ?_
    repeat (first | with_reducible refine Is.o2 ?_ | with_reducible refine Is.o1 ?_ | with_reducible refine Is.oa ?_ | with_reducible refine Is.acons ?_ | with_reducible refine Is.anil ?_ | with_reducible refine Is.c ?_ | with_reducible refine Is.var (by with_unfolding_all rfl) ?_ | with_reducible refine Is.call ?_ | with_reducible refine Is.bm ?_ | with_reducible refine Ist.seq ?_ | with_reducible refine Ist.set ?_ | with_reducible refine Ist.ret ?_ | with_reducible refine Ist.ite ?_ | with_reducible refine Ist.st ?_ | with_reducible refine Ist.nil ?_)
    refine fdiv_is ⟨hn, hl⟩ ?_
    repeat (first | with_reducible refine Is.o2 ?_ | with_reducible refine Is.o1 ?_ | with_reducible refine Is.oa ?_ | with_reducible refine Is.acons ?_ | with_reducible refine Is.anil ?_ | with_reducible refine Is.c ?_ | with_reducible refine Is.var (by with_unfolding_all rfl) ?_ | with_reducible refine Is.call ?_ | with_reducible refine Is.bm ?_ | with_reducible refine Ist.seq ?_ | with_reducible refine Ist.set ?_ | with_reducible refine Ist.ret ?_ | with_reducible refine Ist.ite ?_ | with_reducible refine Ist.st ?_ | with_reducible refine Ist.nil ?_)
    refine st_is hg (j := 0) rfl ?_
    repeat (first | with_reducible refine Is.o2 ?_ | with_reducible refine Is.o1 ?_ | with_reducible refine Is.oa ?_ | with_reducible refine Is.acons ?_ | with_reducible refine Is.anil ?_ | with_reducible refine Is.c ?_ | with_reducible refine Is.var (by with_unfolding_all rfl) ?_ | with_reducible refine Is.call ?_ | with_reducible refine Is.bm ?_ | with_reducible refine Ist.seq ?_ | with_reducible refine Ist.set ?_ | with_reducible refine Ist.ret ?_ | with_reducible refine Ist.ite ?_ | with_reducible refine Ist.st ?_ | with_reducible refine Ist.nil ?_)
    exact p _ _ _ (Int.emod_nonneg _ (by omega)) (Int.emod_lt_of_pos _ hn) (Int.ediv_nonneg ha (by omega)) (Int.le_refl _) (by omega)
  · rw [if_neg (by simpa using h0)]
    repeat (first | with_reducible refine Is.o2 ?_ | with_reducible refine Is.o1 ?_ | with_reducible refine Is.oa ?_ | with_reducible refine Is.acons ?_ | with_reducible refine Is.anil ?_ | with_reducible refine Is.c ?_ | with_reducible refine Is.var (by with_unfolding_all rfl) ?_ | with_reducible refine Is.call ?_ | with_reducible refine Is.bm ?_ | with_reducible refine Ist.seq ?_ | with_reducible refine Ist.set ?_ | with_reducible refine Ist.ret ?_ | with_reducible refine Ist.ite ?_ | with_reducible refine Ist.st ?_ | with_reducible refine Ist.nil ?_)
    with_reducible refine Ist.for ?_
    with_reducible refine Is.rng1 ?_
    refine Is.acons (Is.o2 (Is.c (Is.o2 (Is.o1 (Is.var rfl ?_)))))
    refine ⟨.int (Builtin.Int.intBits n : Nat), _, rfl, ?_⟩
    refine Is.c ?_
    refine fdiv_is (by decide) ?_
    refine ⟨.int (1 + (Builtin.Int.intBits n : Int) / 30), _, rfl, ?_⟩
    refine Is.anil ?_
    have hb : (1 + (Builtin.Int.intBits n : Int) / 30) < 4000 := by omega
    have hb0 : 0 ≤ (1 + (Builtin.Int.intBits n : Int) / 30) := by omega
    refine ⟨_, rfl, decide_eq_true (by omega), (1 + (Builtin.Int.intBits n : Int) / 30).toNat, fun k ss hh => ∃ (d : Int) (v : Option SV), ss = [some (.ref g), some (.int n), some (.int d), v] ∧ hh = h.set g (.lst [.int a, .int b, .int (c + (k : Int))]), by unfold many; omega, ⟨0, none, rfl, ?_⟩, ?_, ?_⟩
    · rw [show c + ((0 : Nat) : Int) = c from by omega]
      apply List.ext_getElem?
      intro j
      by_cases hj : g = j
      · subst hj; rw [set_at hg, hg]
      · rw [set_ne hj]
    · rintro k _ _ hk ⟨d, v, rfl, rfl⟩
      refine ⟨_, _, _, wkRng_at hk, rfl, ?_⟩
      have e1 := set_at (o := .lst [.int a, .int b, .int (c + (k : Int))]) hg
      refine Ist.seq (Ist.st ?_)
      repeat (first | with_reducible refine Is.o2 ?_ | with_reducible refine Is.o1 ?_ | with_reducible refine Is.oa ?_ | with_reducible refine Is.acons ?_ | with_reducible refine Is.anil ?_ | with_reducible refine Is.c ?_ | with_reducible refine Is.var (by with_unfolding_all rfl) ?_ | with_reducible refine Is.call ?_ | with_reducible refine Is.bm ?_ | with_reducible refine Ist.seq ?_ | with_reducible refine Ist.set ?_ | with_reducible refine Ist.ret ?_ | with_reducible refine Ist.ite ?_ | with_reducible refine Ist.st ?_ | with_reducible refine Ist.nil ?_)
      refine ix_is e1 rfl ?_
      repeat (first | with_reducible refine Is.o2 ?_ | with_reducible refine Is.o1 ?_ | with_reducible refine Is.oa ?_ | with_reducible refine Is.acons ?_ | with_reducible refine Is.anil ?_ | with_reducible refine Is.c ?_ | with_reducible refine Is.var (by with_unfolding_all rfl) ?_ | with_reducible refine Is.call ?_ | with_reducible refine Is.bm ?_ | with_reducible refine Ist.seq ?_ | with_reducible refine Ist.set ?_ | with_reducible refine Ist.ret ?_ | with_reducible refine Ist.ite ?_ | with_reducible refine Ist.st ?_ | with_reducible refine Ist.nil ?_)
      refine ⟨_, _, rfl, ?_⟩
      repeat (first | with_reducible refine Is.o2 ?_ | with_reducible refine Is.o1 ?_ | with_reducible refine Is.oa ?_ | with_reducible refine Is.acons ?_ | with_reducible refine Is.anil ?_ | with_reducible refine Is.c ?_ | with_reducible refine Is.var (by with_unfolding_all rfl) ?_ | with_reducible refine Is.call ?_ | with_reducible refine Is.bm ?_ | with_reducible refine Ist.seq ?_ | with_reducible refine Ist.set ?_ | with_reducible refine Ist.ret ?_ | with_reducible refine Ist.ite ?_ | with_reducible refine Ist.st ?_ | with_reducible refine Ist.nil ?_)
      refine st_is e1 (j := 2) rfl ?_
      have e2 := set_at (o := .lst (([.int a, .int b, .int (c + (k : Int))] : List SV).set 2 (.int (c + (k : Int) + 1)))) e1
      refine Ist.set ?_
      repeat (first | with_reducible refine Is.o2 ?_ | with_reducible refine Is.o1 ?_ | with_reducible refine Is.oa ?_ | with_reducible refine Is.acons ?_ | with_reducible refine Is.anil ?_ | with_reducible refine Is.c ?_ | with_reducible refine Is.var (by with_unfolding_all rfl) ?_ | with_reducible refine Is.call ?_ | with_reducible refine Is.bm ?_ | with_reducible refine Ist.seq ?_ | with_reducible refine Ist.set ?_ | with_reducible refine Ist.ret ?_ | with_reducible refine Ist.ite ?_ | with_reducible refine Ist.st ?_ | with_reducible refine Ist.nil ?_)
      refine mul_is (okMul_r (by decide) (by decide)) ?_
      repeat (first | with_reducible refine Is.o2 ?_ | with_reducible refine Is.o1 ?_ | with_reducible refine Is.oa ?_ | with_reducible refine Is.acons ?_ | with_reducible refine Is.anil ?_ | with_reducible refine Is.c ?_ | with_reducible refine Is.var (by with_unfolding_all rfl) ?_ | with_reducible refine Is.call ?_ | with_reducible refine Is.bm ?_ | with_reducible refine Ist.seq ?_ | with_reducible refine Ist.set ?_ | with_reducible refine Ist.ret ?_ | with_reducible refine Ist.ite ?_ | with_reducible refine Ist.st ?_ | with_reducible refine Ist.nil ?_)
      refine ix_is e2 rfl ?_
      repeat (first | with_reducible refine Is.o2 ?_ | with_reducible refine Is.o1 ?_ | with_reducible refine Is.oa ?_ | with_reducible refine Is.acons ?_ | with_reducible refine Is.anil ?_ | with_reducible refine Is.c ?_ | with_reducible refine Is.var (by with_unfolding_all rfl) ?_ | with_reducible refine Is.call ?_ | with_reducible refine Is.bm ?_ | with_reducible refine Ist.seq ?_ | with_reducible refine Ist.set ?_ | with_reducible refine Ist.ret ?_ | with_reducible refine Ist.ite ?_ | with_reducible refine Ist.st ?_ | with_reducible refine Ist.nil ?_)
      refine ix_is e2 rfl ?_
      repeat (first | with_reducible refine Is.o2 ?_ | with_reducible refine Is.o1 ?_ | with_reducible refine Is.oa ?_ | with_reducible refine Is.acons ?_ | with_reducible refine Is.anil ?_ | with_reducible refine Is.c ?_ | with_reducible refine Is.var (by with_unfolding_all rfl) ?_ | with_reducible refine Is.call ?_ | with_reducible refine Is.bm ?_ | with_reducible refine Ist.seq ?_ | with_reducible refine Ist.set ?_ | with_reducible refine Ist.ret ?_ | with_reducible refine Ist.ite ?_ | with_reducible refine Ist.st ?_ | with_reducible refine Ist.nil ?_)
      refine hash_is (by omega) (by omega) fun r r0 r1 => ?_
      refine ⟨_, _, rfl, ?_⟩
      refine ⟨_, _, rfl, ?_⟩
      rw [List.set_set]
      show h.set g (.lst [.int a, .int b, .int (c + (k : Int) + 1)]) = _
      rw [show c + (k : Int) + 1 = c + ((k + 1 : Nat) : Int) from by omega]
    · rintro _ _ ⟨d, v, rfl, rfl⟩
      refine ⟨wkRng_end, ?_⟩
      repeat (first | with_reducible refine Is.o2 ?_ | with_reducible refine Is.o1 ?_ | with_reducible refine Is.oa ?_ | with_reducible refine Is.acons ?_ | with_reducible refine Is.anil ?_ | with_reducible refine Is.c ?_ | with_reducible refine Is.var (by with_unfolding_all rfl) ?_ | with_reducible refine Is.call ?_ | with_reducible refine Is.bm ?_ | with_reducible refine Ist.seq ?_ | with_reducible refine Ist.set ?_ | with_reducible refine Ist.ret ?_ | with_reducible refine Ist.ite ?_ | with_reducible refine Ist.st ?_ | with_reducible refine Ist.nil ?_)
      refine ⟨_, _, rfl, ?_⟩
      repeat (first | with_reducible refine Is.o2 ?_ | with_reducible refine Is.o1 ?_ | with_reducible refine Is.oa ?_ | with_reducible refine Is.acons ?_ | with_reducible refine Is.anil ?_ | with_reducible refine Is.c ?_ | with_reducible refine Is.var (by with_unfolding_all rfl) ?_ | with_reducible refine Is.call ?_ | with_reducible refine Is.bm ?_ | with_reducible refine Ist.seq ?_ | with_reducible refine Ist.set ?_ | with_reducible refine Ist.ret ?_ | with_reducible refine Ist.ite ?_ | with_reducible refine Ist.st ?_ | with_reducible refine Ist.nil ?_)
      refine mod_is hn ?_
      exact p _ _ _ (Int.emod_nonneg _ (by omega)) (Int.emod_lt_of_pos _ hn) ha (by omega) (by omega)
end Fw
namespace Gn
open PySem PySem.Spec PyProof.Rows L2 Fw
def top (i : Nat) : Stmt := PySem.Challenge.pw_floorwalks_k16_rows_measured.main.body.getD i (.Pass ⟨0, 0, 0, 0⟩)
def is_InvalidNumber : Tag → Option Bool
  | .exo 0 => some false
  | .exo 1 => some true
  | .exo 2 => some false
  | .exo 3 => some false
  | .exo 4 => some false
  | .exo 5 => some false
  | .exo 6 => some false
  | _ => none
def is_InvalidProgram : Tag → Option Bool
  | .exo 0 => some false
  | .exo 1 => some false
  | .exo 2 => some false
  | .exo 3 => some false
  | .exo 4 => some true
  | .exo 5 => some false
  | .exo 6 => some false
  | _ => none
def is_InvalidRow : Tag → Option Bool
  | .exo 0 => some false
  | .exo 1 => some false
  | .exo 2 => some false
  | .exo 3 => some false
  | .exo 4 => some false
  | .exo 5 => some true
  | .exo 6 => some false
  | _ => none
def is_Program : Tag → Option Bool
  | .non => some false
  | .bl => some false
  | .int => some false
  | .str => some false
  | .lst => some false
  | .tup => some false
  | .dct => some false
  | .ins 8 => some false
  | .ins 9 => some true
  | _ => none
def is_UnknownName : Tag → Option Bool
  | .exo 0 => some false
  | .exo 1 => some false
  | .exo 2 => some false
  | .exo 3 => some false
  | .exo 4 => some false
  | .exo 5 => some false
  | .exo 6 => some true
  | _ => none
def is_bool : Tag → Option Bool
  | .non => some false
  | .bl => some true
  | .int => some false
  | .str => some false
  | .lst => some false
  | .tup => some false
  | .dct => some false
  | _ => none
def is_int : Tag → Option Bool
  | .non => some false
  | .bl => some true
  | .int => some true
  | .str => some false
  | .lst => some false
  | .tup => some false
  | .dct => some false
  | _ => none
def is_list : Tag → Option Bool
  | .non => some false
  | .bl => some false
  | .int => some false
  | .str => some false
  | .lst => some true
  | .tup => some false
  | .dct => some false
  | _ => none
def is_str : Tag → Option Bool
  | .non => some false
  | .bl => some false
  | .int => some false
  | .str => some true
  | .lst => some false
  | .tup => some false
  | .dct => some false
  | _ => none
def is_tuple : Tag → Option Bool
  | .non => some false
  | .bl => some false
  | .int => some false
  | .str => some false
  | .lst => some false
  | .tup => some true
  | .dct => some false
  | _ => none
def x__at : List (Option Nat) := [none, none, none, none, none, none, none, none, some 0, none]
def x__common : List (Option Nat) := [none, none, none, none, none, none, none, none, some 3, none]
def x__moves : List (Option Nat) := [none, none, none, none, none, none, none, none, none, some 1]
def x__places : List (Option Nat) := [none, none, none, none, none, none, none, none, none, some 0]
def x__tables : List (Option Nat) := [none, none, none, none, none, none, none, none, some 2, none]
def x__walks : List (Option Nat) := [none, none, none, none, none, none, none, none, none, some 2]
def x__ways : List (Option Nat) := [none, none, none, none, none, none, none, none, some 1, none]
def x_name : List (Option Nat) := [none, none, none, none, none, none, some 0, none, none, none]
def x_value : List (Option Nat) := [none, some 0, some 0, some 0, some 0, some 0, none, none, none, none]
def sub_WalkError : Nat → Option Bool
  | 0 => some true
  | 1 => some true
  | 2 => some true
  | 3 => some true
  | 4 => some true
  | 5 => some true
  | 6 => some true
  | _ => none
def c_LONGEST_NAME : EM := mC (.int 8)
def c_MOST_CHANGE : EM := mC (.int 4)
def c_MOST_LEAST : EM := mC (.int 8)
def c_MOST_MOVES : EM := mC (.int 10)
def c_MOST_PLACES : EM := mC (.int 4)
abbrev cn_WalkError : Nat := 0
abbrev cn_InvalidNumber : Nat := 1
abbrev cn_InvalidList : Nat := 2
abbrev cn_InvalidItem : Nat := 3
abbrev cn_InvalidProgram : Nat := 4
abbrev cn_InvalidRow : Nat := 5
abbrev cn_UnknownName : Nat := 6
abbrev cn_Table : Nat := 7
abbrev cn_Walks : Nat := 8
abbrev cn_Program : Nat := 9
structure Tx (P : Program) (w : World) (K : PySem.W.Frag) (mg : Str → Option Value) (base : Heap) (en : En) (CC : Nat → Addr) : Prop where
  hK : K = en.K
  sm : ∃ o, base.get? sysModules = some o
  b_all : mg "all" = none
  b_bool : mg "bool" = none
  b_enumerate : mg "enumerate" = none
  b_int : mg "int" = none
  b_isinstance : mg "isinstance" = none
  b_len : mg "len" = none
  b_list : mg "list" = none
  b_max : mg "max" = none
  b_min : mg "min" = none
  b_range : mg "range" = none
  b_repr : mg "repr" = none
  b_str : mg "str" = none
  b_tuple : mg "tuple" = none
  c_LONGEST_NAME : ∃ t, mg "LONGEST_NAME" = some (.int 8 t)
  c_MOST_CHANGE : ∃ t, mg "MOST_CHANGE" = some (.int 4 t)
  c_MOST_LEAST : ∃ t, mg "MOST_LEAST" = some (.int 8 t)
  c_MOST_MOVES : ∃ t, mg "MOST_MOVES" = some (.int 10 t)
  c_MOST_PLACES : ∃ t, mg "MOST_PLACES" = some (.int 4 t)
  m_gcd : mg "gcd" = some (.builtin "math.gcd")
  m_lcm : mg "lcm" = some (.builtin "math.lcm")
  g_InvalidNumber : mg "InvalidNumber" = some (.ref (CC 1))
  g_InvalidProgram : mg "InvalidProgram" = some (.ref (CC 4))
  g_InvalidRow : mg "InvalidRow" = some (.ref (CC 5))
  g_Program : mg "Program" = some (.ref (CC 9))
  g_UnknownName : mg "UnknownName" = some (.ref (CC 6))
  g_WalkError : mg "WalkError" = some (.ref (CC 0))
  g_Walks : mg "Walks" = some (.ref (CC 8))
  e1 : ErrAt P w K mg en 1 1 "InvalidNumber"
  e2 : ErrAt P w K mg en 2 1 "InvalidList"
  e3 : ErrAt P w K mg en 3 1 "InvalidItem"
  e4 : ErrAt P w K mg en 4 1 "InvalidProgram"
  e5 : ErrAt P w K mg en 5 1 "InvalidRow"
  e6 : ErrAt P w K mg en 6 1 "UnknownName"
  is_InvalidNumber : IsiOk en (.ref (CC 1)) is_InvalidNumber
  is_InvalidProgram : IsiOk en (.ref (CC 4)) is_InvalidProgram
  is_InvalidRow : IsiOk en (.ref (CC 5)) is_InvalidRow
  is_Program : IsiOk en (.ref (CC 9)) is_Program
  is_UnknownName : IsiOk en (.ref (CC 6)) is_UnknownName
  is_bool : IsiOk en (.type "bool") is_bool
  is_int : IsiOk en (.type "int") is_int
  is_list : IsiOk en (.type "list") is_list
  is_str : IsiOk en (.type "str") is_str
  is_tuple : IsiOk en (.type "tuple") is_tuple
  x__at : FldOk en "_at" x__at
  x__common : FldOk en "_common" x__common
  x__moves : FldOk en "_moves" x__moves
  x__places : FldOk en "_places" x__places
  x__tables : FldOk en "_tables" x__tables
  x__walks : FldOk en "_walks" x__walks
  x__ways : FldOk en "_ways" x__ways
  x_name : ExfOk en "name" x_name
  x_value : ExfOk en "value" x_value
  sub_WalkError : SubOk en (.ref (CC 0)) sub_WalkError
section
variable {P : Program} {w : World} {K : PySem.W.Frag} {mg : Str → Option Value} {base : Heap} {en : En} {CC : Nat → Addr}
/-! _law_cell -/
abbrev s63 : Stmt := top 63
def m63 : SM := (mSeq (mIfS (mB (mO2 opLt (mVar 1) (mOA (un1 opLen) (aCons (mVar 0) aNil)))) (mRet (mO2 opIx (mVar 0) (mVar 1))) mNil) (mRet (mC (.int 0))))
def f63 : FM := mFn 2 2 m63
abbrev mn__law_cell : SM := m63
abbrev fn__law_cell : FM := f63
theorem sc63 : FnScope ["_law_script", "_law_index"] ["_law_script", "_law_index"] (defScope s63) := ⟨rfl, rfl, rfl, by decide +kernel, rfl, by decide +kernel, by decide +kernel⟩
theorem ok63 (T : Tx P w K mg base en CC) {f : Addr} {fd : FuncData} (F : L2.Fun K "_law_cell" "_law_cell" s63 f fd)  : FnG P w K mg base 1 f fd ["_law_script", "_law_index"] (spM en 2 f63) := by
  obtain ⟨oc, od, kV, doc, pm, an, cdv, ct, osl, rfl, lk, hcd⟩ := F.ex
  exact fnG_of lk hcd sc63 T.hK T.sm fun A outer s H E G => (PSs.cons (PS.if (PT.cmp op_ltM (PE.var 1) (PE.callB (call_lenM G.K) rfl T.b_len rfl (PA.cons (PE.var 0) PA.nil)) (nomark _)) (PSs.one (PS.ret (PE.ix G.K G.u1 (PE.var 0) (PE.var 1) (fun _ _ => rfl)))) PSs.nil) (PSs.one (PS.ret PE.int)))
theorem at63 (T : Tx P w K mg base en CC) {f : Addr} {fd : FuncData} (F : L2.Fun K "_law_cell" "_law_cell" s63 f fd) (hm : mg "_law_cell" = some (.ref f))  : DefAt P w K mg base en 1 "_law_cell" 2 f63 :=
  DefAt.mk' hm F (ok63 T F ) (F.binds fun _ _ _ _ _ _ us hl => match us, hl with | [_, _], _ => rfl)
/-! _law_generator -/
abbrev s65 : Stmt := top 65
def m65 : SM := (mSeq (mSet 2 (mCall f63 (aCons (mVar 0) (aCons (mVar 1) aNil)))) (mRet (mOA opLst (aCons (mO2 opMod (mOA (un1 opInt) (aCons (mOA (bin2 opMax) (aCons (mO2 opSub (mVar 2) (mO2 opPow (mC (.int 10)) (mC (.int 18)))) (aCons (mC (.int 0)) aNil))) aNil)) (mO2 opPow (mO2 opPow (mC (.int 10)) (mC (.int 60))) (mC (.int 10)))) (aCons (mO2 opMod (mOA (un1 opInt) (aCons (mVar 2) aNil)) (mC (.int 2147483647))) (aCons (mO2 opMul (mC (.int 1000)) (mVar 1)) aNil))))))
def f65 : FM := mFn 2 3 m65
abbrev mn__law_generator : SM := m65
abbrev fn__law_generator : FM := f65
theorem sc65 : FnScope ["_law_script", "_law_index", "_law_seed"] ["_law_script", "_law_index"] (defScope s65) := ⟨rfl, rfl, rfl, by decide +kernel, rfl, by decide +kernel, by decide +kernel⟩
theorem ok65 (T : Tx P w K mg base en CC) {f : Addr} {fd : FuncData} (F : L2.Fun K "_law_generator" "_law_generator" s65 f fd) (D63 : DefAt P w K mg base en 1 "_law_cell" 2 f63) : FnG P w K mg base 2 f fd ["_law_script", "_law_index"] (spM en 2 f65) := by
  obtain ⟨oc, od, kV, doc, pm, an, cdv, ct, osl, rfl, lk, hcd⟩ := F.ex
  exact fnG_of lk hcd sc65 T.hK T.sm fun A outer s H E G => (PSs.cons (PS.set (i := 2) sc65.nd rfl (by first | exact .inl rfl | exact .inr rfl) (PE.call D63 G (by decide) rfl (PA.cons (PE.var 0) (PA.cons (PE.var 1) PA.nil)))) (PSs.one (PS.ret (PE.lst (PA.cons (PE.o2 op_modM (PE.callTy call_intM rfl T.b_int rfl (PA.cons (PE.callB (call_maxM G.calm) rfl T.b_max rfl (PA.cons (PE.o2 op_subM (PE.var 2) (PE.o2 op_powM PE.int PE.int)) (PA.cons PE.int PA.nil))) PA.nil)) (PE.o2 op_powM (PE.o2 op_powM PE.int PE.int) PE.int)) (PA.cons (PE.o2 op_modM (PE.callTy call_intM rfl T.b_int rfl (PA.cons (PE.var 2) PA.nil)) PE.int) (PA.cons (PE.o2 op_mulM PE.int (PE.var 1)) PA.nil)))))))
theorem at65 (T : Tx P w K mg base en CC) {f : Addr} {fd : FuncData} (F : L2.Fun K "_law_generator" "_law_generator" s65 f fd) (hm : mg "_law_generator" = some (.ref f)) (D63 : DefAt P w K mg base en 1 "_law_cell" 2 f63) : DefAt P w K mg base en 2 "_law_generator" 2 f65 :=
  DefAt.mk' hm F (ok65 T F D63) (F.binds fun _ _ _ _ _ _ us hl => match us, hl with | [_, _], _ => rfl)
/-! _law_hash -/
abbrev s64 : Stmt := top 64
def m64 : SM := (mSeq (mSet 2 (mO2 opMod (mOA (un1 opInt) (aCons (mO2 opAdd (mO2 opAdd (mO2 opAdd (mO2 opMul (mVar 0) (mC (.int 1103515245))) (mO2 opMul (mO2 opMul (mC (.int 7919)) (mVar 1)) (mVar 1))) (mVar 1)) (mC (.int 1))) aNil)) (mC (.int 2147483647)))) (mSeq (mSet 2 (mO2 opMod (mOA (un1 opInt) (aCons (mO2 opAdd (mO2 opMul (mVar 2) (mVar 2)) (mC (.int 69621))) aNil)) (mC (.int 2147483629)))) (mRet (mO2 opMod (mOA (un1 opInt) (aCons (mO2 opMul (mVar 2) (mC (.int 48271))) aNil)) (mC (.int 2147483587))))))
def f64 : FM := mFn 2 3 m64
abbrev mn__law_hash : SM := m64
abbrev fn__law_hash : FM := f64
theorem sc64 : FnScope ["_law_seed", "_law_index", "_law_mixed"] ["_law_seed", "_law_index"] (defScope s64) := ⟨rfl, rfl, rfl, by decide +kernel, rfl, by decide +kernel, by decide +kernel⟩
theorem ok64 (T : Tx P w K mg base en CC) {f : Addr} {fd : FuncData} (F : L2.Fun K "_law_hash" "_law_hash" s64 f fd)  : FnG P w K mg base 1 f fd ["_law_seed", "_law_index"] (spM en 2 f64) := by
  obtain ⟨oc, od, kV, doc, pm, an, cdv, ct, osl, rfl, lk, hcd⟩ := F.ex
  exact fnG_of lk hcd sc64 T.hK T.sm fun A outer s H E G => (PSs.cons (PS.set (i := 2) sc64.nd rfl (by first | exact .inl rfl | exact .inr rfl) (PE.o2 op_modM (PE.callTy call_intM rfl T.b_int rfl (PA.cons (PE.o2 op_addM (PE.o2 op_addM (PE.o2 op_addM (PE.o2 op_mulM (PE.var 0) PE.int) (PE.o2 op_mulM (PE.o2 op_mulM PE.int (PE.var 1)) (PE.var 1))) (PE.var 1)) PE.int) PA.nil)) PE.int)) (PSs.cons (PS.set (i := 2) sc64.nd rfl (by first | exact .inl rfl | exact .inr rfl) (PE.o2 op_modM (PE.callTy call_intM rfl T.b_int rfl (PA.cons (PE.o2 op_addM (PE.o2 op_mulM (PE.var 2) (PE.var 2)) PE.int) PA.nil)) PE.int)) (PSs.one (PS.ret (PE.o2 op_modM (PE.callTy call_intM rfl T.b_int rfl (PA.cons (PE.o2 op_mulM (PE.var 2) PE.int) PA.nil)) PE.int)))))
theorem at64 (T : Tx P w K mg base en CC) {f : Addr} {fd : FuncData} (F : L2.Fun K "_law_hash" "_law_hash" s64 f fd) (hm : mg "_law_hash" = some (.ref f))  : DefAt P w K mg base en 1 "_law_hash" 2 f64 :=
  DefAt.mk' hm F (ok64 T F ) (F.binds fun _ _ _ _ _ _ us hl => match us, hl with | [_, _], _ => rfl)
/-! _law_random -/
abbrev s66 : Stmt := top 66
def m66 : SM := (mSeq (mIfS (mB (mO2 opGt (mO2 opIx (mVar 0) (mC (.int 0))) (mC (.int 0)))) (mSeq (mSet 2 (mO2 opMod (mOA (un1 opInt) (aCons (mO2 opIx (mVar 0) (mC (.int 0))) aNil)) (mVar 1))) (mSeq (mSt (mO2 opFdiv (mO2 opIx (mVar 0) (mC (.int 0))) (mVar 1)) (mVar 0) (mC (.int 0))) (mRet (mVar 2)))) mNil) (mSeq (mSet 2 (mC (.int 0))) (mSeq (mFor (mRng1 (aCons (mO2 opAdd (mC (.int 1)) (mO2 opFdiv (mO1 opBits (mVar 1)) (mC (.int 30)))) aNil)) (gVar 3) (mSeq (mSt (mO2 opAdd (mO2 opIx (mVar 0) (mC (.int 2))) (mC (.int 1))) (mVar 0) (mC (.int 2))) (mSet 2 (mO2 opAdd (mO2 opMul (mVar 2) (mC (.int 2147483587))) (mCall f64 (aCons (mO2 opIx (mVar 0) (mC (.int 1))) (aCons (mO2 opIx (mVar 0) (mC (.int 2))) aNil))))))) (mRet (mO2 opMod (mOA (un1 opInt) (aCons (mVar 2) aNil)) (mVar 1))))))
def f66 : FM := mFn 2 4 m66
abbrev mn__law_random : SM := m66
abbrev fn__law_random : FM := f66
theorem sc66 : FnScope ["_law_generator_here", "_law_bound", "_law_drawn", "_law_turn"] ["_law_generator_here", "_law_bound"] (defScope s66) := ⟨rfl, rfl, rfl, by decide +kernel, rfl, by decide +kernel, by decide +kernel⟩
theorem ok66 (T : Tx P w K mg base en CC) {f : Addr} {fd : FuncData} (F : L2.Fun K "_law_random" "_law_random" s66 f fd) (D64 : DefAt P w K mg base en 1 "_law_hash" 2 f64) : FnG P w K mg base 2 f fd ["_law_generator_here", "_law_bound"] (spM en 2 f66) := by
  obtain ⟨oc, od, kV, doc, pm, an, cdv, ct, osl, rfl, lk, hcd⟩ := F.ex
  exact fnG_of lk hcd sc66 T.hK T.sm fun A outer s H E G => (PSs.cons (PS.if (PT.cmp op_gtM (PE.ix G.K G.u1 (PE.var 0) PE.int (fun _ _ => rfl)) PE.int (nomark _)) (PSs.cons (PS.set (i := 2) sc66.nd rfl (by first | exact .inl rfl | exact .inr rfl) (PE.o2 op_modM (PE.callTy call_intM rfl T.b_int rfl (PA.cons (PE.ix G.K G.u1 (PE.var 0) PE.int (fun _ _ => rfl)) PA.nil)) (PE.var 1))) (PSs.cons (PS.st G.u1 (PE.o2 op_fdivM (PE.ix G.K G.u1 (PE.var 0) PE.int (fun _ _ => rfl)) (PE.var 1)) (PE.var 0) PE.int) (PSs.one (PS.ret (PE.var 2))))) PSs.nil) (PSs.cons (PS.set (i := 2) sc66.nd rfl (by first | exact .inl rfl | exact .inr rfl) PE.int) (PSs.cons (PS.for G.pass G.calm (PI.rng1 rfl T.b_range (PA.cons (PE.o2 op_addM PE.int (PE.o2 op_fdivM (PE.bits (PE.var 1)) PE.int)) PA.nil)) (PG.var (i := 3) sc66.nd rfl (by first | exact .inl rfl | exact .inr rfl)) (PSs.cons (PS.st G.u1 (PE.o2 op_addM (PE.ix G.K G.u1 (PE.var 0) PE.int (fun _ _ => rfl)) PE.int) (PE.var 0) PE.int) (PSs.one (PS.set (i := 2) sc66.nd rfl (by first | exact .inl rfl | exact .inr rfl) (PE.o2 op_addM (PE.o2 op_mulM (PE.var 2) PE.int) (PE.call D64 G (by decide) rfl (PA.cons (PE.ix G.K G.u1 (PE.var 0) PE.int (fun _ _ => rfl)) (PA.cons (PE.ix G.K G.u1 (PE.var 0) PE.int (fun _ _ => rfl)) PA.nil)))))))) (PSs.one (PS.ret (PE.o2 op_modM (PE.callTy call_intM rfl T.b_int rfl (PA.cons (PE.var 2) PA.nil)) (PE.var 1)))))))
theorem at66 (T : Tx P w K mg base en CC) {f : Addr} {fd : FuncData} (F : L2.Fun K "_law_random" "_law_random" s66 f fd) (hm : mg "_law_random" = some (.ref f)) (D64 : DefAt P w K mg base en 1 "_law_hash" 2 f64) : DefAt P w K mg base en 2 "_law_random" 2 f66 :=
  DefAt.mk' hm F (ok66 T F D64) (F.binds fun _ _ _ _ _ _ us hl => match us, hl with | [_, _], _ => rfl)
/-! _law_move -/
abbrev s67 : Stmt := top 67
def m67 : SM := (mSeq (mSet 3 (mO2 opSub (mCall f66 (aCons (mVar 0) (aCons (mO2 opAdd (mO2 opMul (mC (.int 2)) (mVar 2)) (mC (.int 1))) aNil))) (mVar 2))) (mSeq (mSet 4 (mOA (bin2 opMax) (aCons (mC (.int 0)) (aCons (mO2 opSub (mC (.int 0)) (mVar 3)) aNil)))) (mSeq (mSet 5 (mO2 opAdd (mVar 4) (mO2 opIx (mOA opLst (aCons (mC (.int 0)) (aCons (mC (.int 0)) (aCons (mC (.int 0)) (aCons (mC (.int 1)) (aCons (mC (.int 2)) (aCons (mC (.int 4)) aNil))))))) (mCall f66 (aCons (mVar 0) (aCons (mC (.int 6)) aNil)))))) (mSeq (mIfS (bOr (mB (mO2 opGt (mO2 opAdd (mVar 5) (mVar 3)) (mC (.int 8)))) (mB (mO2 opGt (mVar 5) (mC (.int 8))))) (mSet 5 (mVar 4)) mNil) (mSeq (mPar 6 7 (aCons (mO2 opIx (mVar 1) (mCall f66 (aCons (mVar 0) (aCons (mOA (un1 opLen) (aCons (mVar 1) aNil)) aNil)))) (aCons (mO2 opIx (mVar 1) (mCall f66 (aCons (mVar 0) (aCons (mOA (un1 opLen) (aCons (mVar 1) aNil)) aNil)))) aNil))) (mRet (mOA opTup (aCons (mVar 6) (aCons (mVar 5) (aCons (mVar 3) (aCons (mVar 7) aNil)))))))))))
def f67 : FM := mFn 3 8 m67
abbrev mn__law_move : SM := m67
abbrev fn__law_move : FM := f67
theorem sc67 : FnScope ["_law_generator_here", "_law_places", "_law_most", "_law_change", "_law_low", "_law_least", "_law_place", "_law_other"] ["_law_generator_here", "_law_places", "_law_most"] (defScope s67) := ⟨rfl, rfl, rfl, by decide +kernel, rfl, by decide +kernel, by decide +kernel⟩
theorem ok67 (T : Tx P w K mg base en CC) {f : Addr} {fd : FuncData} (F : L2.Fun K "_law_move" "_law_move" s67 f fd) (D66 : DefAt P w K mg base en 2 "_law_random" 2 f66) : FnG P w K mg base 3 f fd ["_law_generator_here", "_law_places", "_law_most"] (spM en 3 f67) := by
  obtain ⟨oc, od, kV, doc, pm, an, cdv, ct, osl, rfl, lk, hcd⟩ := F.ex
  exact fnG_of lk hcd sc67 T.hK T.sm fun A outer s H E G => (PSs.cons (PS.set (i := 3) sc67.nd rfl (by first | exact .inl rfl | exact .inr rfl) (PE.o2 op_subM (PE.call D66 G (by decide) rfl (PA.cons (PE.var 0) (PA.cons (PE.o2 op_addM (PE.o2 op_mulM PE.int (PE.var 2)) PE.int) PA.nil))) (PE.var 2))) (PSs.cons (PS.set (i := 4) sc67.nd rfl (by first | exact .inl rfl | exact .inr rfl) (PE.callB (call_maxM G.calm) rfl T.b_max rfl (PA.cons PE.int (PA.cons (PE.o2 op_subM PE.int (PE.var 3)) PA.nil)))) (PSs.cons (PS.set (i := 5) sc67.nd rfl (by first | exact .inl rfl | exact .inr rfl) (PE.o2 op_addM (PE.var 4) (PE.ix G.K G.u1 (PE.lst (PA.cons PE.int (PA.cons PE.int (PA.cons PE.int (PA.cons PE.int (PA.cons PE.int (PA.cons PE.int PA.nil))))))) (PE.call D66 G (by decide) rfl (PA.cons (PE.var 0) (PA.cons PE.int PA.nil))) (fun _ _ => rfl)))) (PSs.cons (PS.if (PW.pt (PW.or (PT.cmp op_gtM (PE.o2 op_addM (PE.var 5) (PE.var 3)) PE.int (nomark _)) (PW.or1 (PT.cmp op_gtM (PE.var 5) PE.int (nomark _))))) (PSs.one (PS.set (i := 5) sc67.nd rfl (by first | exact .inl rfl | exact .inr rfl) (PE.var 4))) PSs.nil) (PSs.cons (PS.par (i := 6) (j := 7) G.calm sc67.nd rfl rfl (by decide) rfl rfl (PA.cons (PE.ix G.K G.u1 (PE.var 1) (PE.call D66 G (by decide) rfl (PA.cons (PE.var 0) (PA.cons (PE.callB (call_lenM G.K) rfl T.b_len rfl (PA.cons (PE.var 1) PA.nil)) PA.nil))) (fun _ _ => rfl)) (PA.cons (PE.ix G.K G.u1 (PE.var 1) (PE.call D66 G (by decide) rfl (PA.cons (PE.var 0) (PA.cons (PE.callB (call_lenM G.K) rfl T.b_len rfl (PA.cons (PE.var 1) PA.nil)) PA.nil))) (fun _ _ => rfl)) PA.nil)) (by rfl)) (PSs.one (PS.ret (PE.tup (PA.cons (PE.var 6) (PA.cons (PE.var 5) (PA.cons (PE.var 3) (PA.cons (PE.var 7) PA.nil))))))))))))
theorem at67 (T : Tx P w K mg base en CC) {f : Addr} {fd : FuncData} (F : L2.Fun K "_law_move" "_law_move" s67 f fd) (hm : mg "_law_move" = some (.ref f)) (D66 : DefAt P w K mg base en 2 "_law_random" 2 f66) : DefAt P w K mg base en 3 "_law_move" 3 f67 :=
  DefAt.mk' hm F (ok67 T F D66) (F.binds fun _ _ _ _ _ _ us hl => match us, hl with | [_, _, _], _ => rfl)
/-! _law_parts -/
abbrev s68 : Stmt := top 68
def m68 : SM := (mSeq (mSet 4 (mCut (mOA opLst (aCons (mC (.str "up")) (aCons (mC (.str "down")) (aCons (mC (.str "mid")) (aCons (mC (.str "low")) aNil))))) pNone (pSome (mO2 opAdd (mC (.int 1)) (mCall f66 (aCons (mVar 0) (aCons (mVar 1) aNil))))))) (mSeq (mSet 5 (mOA opLst aNil)) (mSeq (mFor (mRng1 (aCons (mCall f66 (aCons (mVar 0) (aCons (mO2 opAdd (mVar 2) (mC (.int 1))) aNil))) aNil)) (gVar 6) (mDrop (mBm opAppend (mVar 5) (aCons (mCall f67 (aCons (mVar 0) (aCons (mVar 4) (aCons (mVar 3) aNil)))) aNil)))) (mRet (mOA opLst (aCons (mVar 4) (aCons (mVar 5) aNil)))))))
def f68 : FM := mFn 4 7 m68
abbrev mn__law_parts : SM := m68
abbrev fn__law_parts : FM := f68
theorem sc68 : FnScope ["_law_generator_here", "_law_many", "_law_moves", "_law_most", "_law_places", "_law_found", "_law_turn"] ["_law_generator_here", "_law_many", "_law_moves", "_law_most"] (defScope s68) := ⟨rfl, rfl, rfl, by decide +kernel, rfl, by decide +kernel, by decide +kernel⟩
theorem ok68 (T : Tx P w K mg base en CC) {f : Addr} {fd : FuncData} (F : L2.Fun K "_law_parts" "_law_parts" s68 f fd) (D66 : DefAt P w K mg base en 2 "_law_random" 2 f66) (D67 : DefAt P w K mg base en 3 "_law_move" 3 f67) : FnG P w K mg base 4 f fd ["_law_generator_here", "_law_many", "_law_moves", "_law_most"] (spM en 4 f68) := by
  obtain ⟨oc, od, kV, doc, pm, an, cdv, ct, osl, rfl, lk, hcd⟩ := F.ex
  exact fnG_of lk hcd sc68 T.hK T.sm fun A outer s H E G => (PSs.cons (PS.set (i := 4) sc68.nd rfl (by first | exact .inl rfl | exact .inr rfl) (PE.cut (PE.lst (PA.cons PE.str (PA.cons PE.str (PA.cons PE.str (PA.cons PE.str PA.nil))))) PO.non (PO.som (PE.o2 op_addM PE.int (PE.call D66 G (by decide) rfl (PA.cons (PE.var 0) (PA.cons (PE.var 1) PA.nil))))))) (PSs.cons (PS.set (i := 5) sc68.nd rfl (by first | exact .inl rfl | exact .inr rfl) (PE.lst PA.nil)) (PSs.cons (PS.for G.pass G.calm (PI.rng1 rfl T.b_range (PA.cons (PE.call D66 G (by decide) rfl (PA.cons (PE.var 0) (PA.cons (PE.o2 op_addM (PE.var 2) PE.int) PA.nil))) PA.nil)) (PG.var (i := 6) sc68.nd rfl (by first | exact .inl rfl | exact .inr rfl)) (PSs.one (PS.expr (PE.append (PE.var 5) (PA.cons (PE.call D67 G (by decide) rfl (PA.cons (PE.var 0) (PA.cons (PE.var 4) (PA.cons (PE.var 3) PA.nil)))) PA.nil))))) (PSs.one (PS.ret (PE.lst (PA.cons (PE.var 4) (PA.cons (PE.var 5) PA.nil))))))))
theorem at68 (T : Tx P w K mg base en CC) {f : Addr} {fd : FuncData} (F : L2.Fun K "_law_parts" "_law_parts" s68 f fd) (hm : mg "_law_parts" = some (.ref f)) (D66 : DefAt P w K mg base en 2 "_law_random" 2 f66) (D67 : DefAt P w K mg base en 3 "_law_move" 3 f67) : DefAt P w K mg base en 4 "_law_parts" 4 f68 :=
  DefAt.mk' hm F (ok68 T F D66 D67) (F.binds fun _ _ _ _ _ _ us hl => match us, hl with | [_, _, _, _], _ => rfl)
/-! is_name -/
abbrev s14 : Stmt := top 14
def m14 : SM := (mSeq (mIfS (bOr (bNot (mB (mO1 (opIsi is_str) (mVar 0)))) (bNot (mB (mChain opLe opLe (mC (.int 1)) (mOA (un1 opLen) (aCons (mVar 0) aNil)) (mC (.int 8)))))) (mRet (mC (.bl false))) mNil) (mRet (mOA (un1 opAll) (aCons (mLc (mWalk (mVar 0)) (gVar 1) bYes (mChain opLe opLe (mC (.str "a")) (mVar 1) (mC (.str "z"))) [1]) aNil))))
def f14 : FM := mFn 1 2 m14
abbrev mn_is_name : SM := m14
abbrev fn_is_name : FM := f14
theorem sc14 : FnScope ["value", "sign"] ["value"] (defScope s14) := ⟨rfl, rfl, rfl, by decide +kernel, rfl, by decide +kernel, by decide +kernel⟩
theorem ok14 (T : Tx P w K mg base en CC) {f : Addr} {fd : FuncData} (F : L2.Fun K "is_name" "is_name" s14 f fd)  : FnG P w K mg base 1 f fd ["value"] (spM en 1 f14) := by
  obtain ⟨oc, od, kV, doc, pm, an, cdv, ct, osl, rfl, lk, hcd⟩ := F.ex
  exact fnG_of lk hcd sc14 T.hK T.sm fun A outer s H E G => (PSs.cons (PS.if (PW.pt (PW.or (PT.not (PT.val (PE.isi G.K (.ty _) T.is_str rfl T.b_isinstance (PE.var 0) (pe_bltn rfl T.b_str rfl rfl)))) (PW.or1 (PT.not (PT.chain op_leM op_leM PE.int (PE.callB (call_lenM G.K) rfl T.b_len rfl (PA.cons (PE.var 0) PA.nil)) (PE.gint T.c_LONGEST_NAME rfl)))))) (PSs.one (PS.ret PE.bl)) PSs.nil) (PSs.one (PS.ret (PE.callB (call_allM G.calm) rfl T.b_all rfl (PA.cons (PE.lcG G sc14.nd (PI.walk G.K (PE.var 0)) (own := [("sign", 1)]) ⟨rfl, by decide +kernel, of_decide_eq_true (by kernel_rfl), of_decide_eq_true (by kernel_rfl), of_decide_eq_true (by kernel_rfl)⟩ (fun s3 H3 C3 cl3 fp3 G => (PG.var (i := 1) sc14.nd rfl (by first | exact .inl rfl | exact .inr rfl))) (fun s3 H3 C3 cl3 fp3 G => PTs.nil) (fun s3 H3 C3 cl3 fp3 G => (PE.chain op_leM op_leM PE.str (PE.var 1) PE.str))) PA.nil)))))
theorem at14 (T : Tx P w K mg base en CC) {f : Addr} {fd : FuncData} (F : L2.Fun K "is_name" "is_name" s14 f fd) (hm : mg "is_name" = some (.ref f))  : DefAt P w K mg base en 1 "is_name" 1 f14 :=
  DefAt.mk' hm F (ok14 T F ) (F.binds fun _ _ _ _ _ _ us hl => match us, hl with | [_], _ => rfl)
/-! _check_places -/
abbrev s42 : Stmt := top 42
def m42 : SM := (mSeq (mIfS (bOr (bNot (mB (mO1 (opIsi is_list) (mVar 0)))) (bNot (mB (mChain opLe opLe (mC (.int 1)) (mOA (un1 opLen) (aCons (mVar 0) aNil)) (mC (.int 4)))))) (mRaise 2 1 (aCons (mVar 0) aNil)) mNil) (mFor (mEnum (aCons (mVar 0) aNil)) (gTupM 2 (gsCons (gVar 1) (gsCons (gVar 2) gsNil))) (mIfS (bOr (bNot (mTru (mCall f14 (aCons (mVar 2) aNil)))) (mB (mO2 (opIn false) (mVar 2) (mCut (mVar 0) pNone (pSome (mVar 1)))))) (mRaise 3 1 (aCons (mVar 2) aNil)) mNil)))
def f42 : FM := mFn 1 3 m42
abbrev mn__check_places : SM := m42
abbrev fn__check_places : FM := f42
theorem sc42 : FnScope ["places", "at", "place"] ["places"] (defScope s42) := ⟨rfl, rfl, rfl, by decide +kernel, rfl, by decide +kernel, by decide +kernel⟩
theorem ok42 (T : Tx P w K mg base en CC) {f : Addr} {fd : FuncData} (F : L2.Fun K "_check_places" "_check_places" s42 f fd) (D14 : DefAt P w K mg base en 1 "is_name" 1 f14) : FnG P w K mg base 2 f fd ["places"] (spM en 1 f42) := by
  obtain ⟨oc, od, kV, doc, pm, an, cdv, ct, osl, rfl, lk, hcd⟩ := F.ex
  exact fnG_of lk hcd sc42 T.hK T.sm fun A outer s H E G => (PSs.cons (PS.if (PW.pt (PW.or (PT.not (PT.val (PE.isi G.K (.ty _) T.is_list rfl T.b_isinstance (PE.var 0) (pe_bltn rfl T.b_list rfl rfl)))) (PW.or1 (PT.not (PT.chain op_leM op_leM PE.int (PE.callB (call_lenM G.K) rfl T.b_len rfl (PA.cons (PE.var 0) PA.nil)) (PE.gint T.c_MOST_PLACES rfl)))))) (PSs.one (PS.raise T.e2 G rfl (PA.cons (PE.var 0) PA.nil))) PSs.nil) (PSs.one (PS.for G.pass G.calm (PI.enm rfl T.b_enumerate (PA.cons (PE.var 0) PA.nil)) (PG.tup G.calm (PGs.cons (PG.var (i := 1) sc42.nd rfl (by first | exact .inl rfl | exact .inr rfl)) (PGs.cons (PG.var (i := 2) sc42.nd rfl (by first | exact .inl rfl | exact .inr rfl)) PGs.nil))) (PSs.one (PS.if (PW.pt (PW.or (PT.not (PT.tru G.K (PE.call D14 G (by decide) rfl (PA.cons (PE.var 2) PA.nil)))) (PW.or1 (PT.cmp (op_inM G.u1) (PE.var 2) (PE.cut (PE.var 0) PO.non (PO.som (PE.var 1))) (by with_unfolding_all rfl))))) (PSs.one (PS.raise T.e3 G rfl (PA.cons (PE.var 2) PA.nil))) PSs.nil)))))
theorem at42 (T : Tx P w K mg base en CC) {f : Addr} {fd : FuncData} (F : L2.Fun K "_check_places" "_check_places" s42 f fd) (hm : mg "_check_places" = some (.ref f)) (D14 : DefAt P w K mg base en 1 "is_name" 1 f14) : DefAt P w K mg base en 2 "_check_places" 1 f42 :=
  DefAt.mk' hm F (ok42 T F D14) (F.binds fun _ _ _ _ _ _ us hl => match us, hl with | [_], _ => rfl)
/-! is_among -/
abbrev s41 : Stmt := top 41
def m41 : SM := (mRet (mAnd (mO1 (opIsi is_str) (mVar 0)) (mO2 (opIn false) (mVar 0) (mVar 1))))
def f41 : FM := mFn 2 2 m41
abbrev mn_is_among : SM := m41
abbrev fn_is_among : FM := f41
theorem sc41 : FnScope ["value", "places"] ["value", "places"] (defScope s41) := ⟨rfl, rfl, rfl, by decide +kernel, rfl, by decide +kernel, by decide +kernel⟩
theorem ok41 (T : Tx P w K mg base en CC) {f : Addr} {fd : FuncData} (F : L2.Fun K "is_among" "is_among" s41 f fd)  : FnG P w K mg base 1 f fd ["value", "places"] (spM en 2 f41) := by
  obtain ⟨oc, od, kV, doc, pm, an, cdv, ct, osl, rfl, lk, hcd⟩ := F.ex
  exact fnG_of lk hcd sc41 T.hK T.sm fun A outer s H E G => (PSs.one (PS.ret (PE.and (PE.isi G.K (.ty _) T.is_str rfl T.b_isinstance (PE.var 0) (pe_bltn rfl T.b_str rfl rfl)) (PE.and1 (PE.cmp (op_inM G.u1) (PE.var 0) (PE.var 1) (by with_unfolding_all rfl))))))
theorem at41 (T : Tx P w K mg base en CC) {f : Addr} {fd : FuncData} (F : L2.Fun K "is_among" "is_among" s41 f fd) (hm : mg "is_among" = some (.ref f))  : DefAt P w K mg base en 1 "is_among" 2 f41 :=
  DefAt.mk' hm F (ok41 T F ) (F.binds fun _ _ _ _ _ _ us hl => match us, hl with | [_, _], _ => rfl)
/-! is_whole -/
abbrev s12 : Stmt := top 12
def m12 : SM := (mRet (mAnd (mO1 (opIsi is_int) (mVar 0)) (mNot (mO1 (opIsi is_bool) (mVar 0)))))
def f12 : FM := mFn 1 1 m12
abbrev mn_is_whole : SM := m12
abbrev fn_is_whole : FM := f12
theorem sc12 : FnScope ["value"] ["value"] (defScope s12) := ⟨rfl, rfl, rfl, by decide +kernel, rfl, by decide +kernel, by decide +kernel⟩
theorem ok12 (T : Tx P w K mg base en CC) {f : Addr} {fd : FuncData} (F : L2.Fun K "is_whole" "is_whole" s12 f fd)  : FnG P w K mg base 1 f fd ["value"] (spM en 1 f12) := by
  obtain ⟨oc, od, kV, doc, pm, an, cdv, ct, osl, rfl, lk, hcd⟩ := F.ex
  exact fnG_of lk hcd sc12 T.hK T.sm fun A outer s H E G => (PSs.one (PS.ret (PE.and (PE.isi G.K (.ty _) T.is_int rfl T.b_isinstance (PE.var 0) (pe_bltn rfl T.b_int rfl rfl)) (PE.and1 (PE.not (PE.isi G.K (.ty _) T.is_bool rfl T.b_isinstance (PE.var 0) (pe_bltn rfl T.b_bool rfl rfl)))))))
theorem at12 (T : Tx P w K mg base en CC) {f : Addr} {fd : FuncData} (F : L2.Fun K "is_whole" "is_whole" s12 f fd) (hm : mg "is_whole" = some (.ref f))  : DefAt P w K mg base en 1 "is_whole" 1 f12 :=
  DefAt.mk' hm F (ok12 T F ) (F.binds fun _ _ _ _ _ _ us hl => match us, hl with | [_], _ => rfl)
/-! is_between -/
abbrev s13 : Stmt := top 13
def m13 : SM := (mRet (mAnd (mCall f12 (aCons (mVar 0) aNil)) (mChain opLe opLe (mVar 1) (mVar 0) (mVar 2))))
def f13 : FM := mFn 3 3 m13
abbrev mn_is_between : SM := m13
abbrev fn_is_between : FM := f13
theorem sc13 : FnScope ["value", "low", "high"] ["value", "low", "high"] (defScope s13) := ⟨rfl, rfl, rfl, by decide +kernel, rfl, by decide +kernel, by decide +kernel⟩
theorem ok13 (T : Tx P w K mg base en CC) {f : Addr} {fd : FuncData} (F : L2.Fun K "is_between" "is_between" s13 f fd) (D12 : DefAt P w K mg base en 1 "is_whole" 1 f12) : FnG P w K mg base 2 f fd ["value", "low", "high"] (spM en 3 f13) := by
  obtain ⟨oc, od, kV, doc, pm, an, cdv, ct, osl, rfl, lk, hcd⟩ := F.ex
  exact fnG_of lk hcd sc13 T.hK T.sm fun A outer s H E G => (PSs.one (PS.ret (PE.and (PE.call D12 G (by decide) rfl (PA.cons (PE.var 0) PA.nil)) (PE.and1 (PE.chain op_leM op_leM (PE.var 1) (PE.var 0) (PE.var 2))))))
theorem at13 (T : Tx P w K mg base en CC) {f : Addr} {fd : FuncData} (F : L2.Fun K "is_between" "is_between" s13 f fd) (hm : mg "is_between" = some (.ref f)) (D12 : DefAt P w K mg base en 1 "is_whole" 1 f12) : DefAt P w K mg base en 2 "is_between" 3 f13 :=
  DefAt.mk' hm F (ok13 T F D12) (F.binds fun _ _ _ _ _ _ us hl => match us, hl with | [_, _, _], _ => rfl)
/-! is_move -/
abbrev s40 : Stmt := top 40
def m40 : SM := (mSeq (mIfS (bOr (bNot (mB (mO1 (opIsi is_tuple) (mVar 0)))) (mB (mO2 (eqD true) (mOA (un1 opLen) (aCons (mVar 0) aNil)) (mC (.int 4))))) (mRet (mC (.bl false))) mNil) (mSeq (mAsg (gTupM 4 (gsCons (gVar 2) (gsCons (gVar 3) (gsCons (gVar 4) (gsCons (gVar 5) gsNil))))) (mVar 0)) (mSeq (mIfS (bOr (bNot (mTru (mCall f41 (aCons (mVar 2) (aCons (mVar 1) aNil))))) (bNot (mTru (mCall f41 (aCons (mVar 5) (aCons (mVar 1) aNil)))))) (mRet (mC (.bl false))) mNil) (mSeq (mIfS (bOr (bNot (mTru (mCall f13 (aCons (mVar 3) (aCons (mC (.int 0)) (aCons (mC (.int 8)) aNil)))))) (bNot (mTru (mCall f13 (aCons (mVar 4) (aCons (mO1 opNeg (mC (.int 4))) (aCons (mC (.int 4)) aNil))))))) (mRet (mC (.bl false))) mNil) (mRet (mChain opLe opLe (mC (.int 0)) (mO2 opAdd (mVar 3) (mVar 4)) (mC (.int 8))))))))
def f40 : FM := mFn 2 6 m40
abbrev mn_is_move : SM := m40
abbrev fn_is_move : FM := f40
theorem sc40 : FnScope ["value", "places", "place", "least", "change", "other"] ["value", "places"] (defScope s40) := ⟨rfl, rfl, rfl, by decide +kernel, rfl, by decide +kernel, by decide +kernel⟩
theorem ok40 (T : Tx P w K mg base en CC) {f : Addr} {fd : FuncData} (F : L2.Fun K "is_move" "is_move" s40 f fd) (D41 : DefAt P w K mg base en 1 "is_among" 2 f41) (D13 : DefAt P w K mg base en 2 "is_between" 3 f13) : FnG P w K mg base 3 f fd ["value", "places"] (spM en 2 f40) := by
  obtain ⟨oc, od, kV, doc, pm, an, cdv, ct, osl, rfl, lk, hcd⟩ := F.ex
  exact fnG_of lk hcd sc40 T.hK T.sm fun A outer s H E G => (PSs.cons (PS.if (PW.pt (PW.or (PT.not (PT.val (PE.isi G.K (.ty _) T.is_tuple rfl T.b_isinstance (PE.var 0) (pe_bltn rfl T.b_tuple rfl rfl)))) (PW.or1 (PT.cmp (op_neM G.sm G.u64) (PE.callB (call_lenM G.K) rfl T.b_len rfl (PA.cons (PE.var 0) PA.nil)) PE.int (nomark _))))) (PSs.one (PS.ret PE.bl)) PSs.nil) (PSs.cons (PS.asg (PE.var 0) (PG.tup G.calm (PGs.cons (PG.var (i := 2) sc40.nd rfl (by first | exact .inl rfl | exact .inr rfl)) (PGs.cons (PG.var (i := 3) sc40.nd rfl (by first | exact .inl rfl | exact .inr rfl)) (PGs.cons (PG.var (i := 4) sc40.nd rfl (by first | exact .inl rfl | exact .inr rfl)) (PGs.cons (PG.var (i := 5) sc40.nd rfl (by first | exact .inl rfl | exact .inr rfl)) PGs.nil)))))) (PSs.cons (PS.if (PW.pt (PW.or (PT.not (PT.tru G.K (PE.call D41 G (by decide) rfl (PA.cons (PE.var 2) (PA.cons (PE.var 1) PA.nil))))) (PW.or1 (PT.not (PT.tru G.K (PE.call D41 G (by decide) rfl (PA.cons (PE.var 5) (PA.cons (PE.var 1) PA.nil)))))))) (PSs.one (PS.ret PE.bl)) PSs.nil) (PSs.cons (PS.if (PW.pt (PW.or (PT.not (PT.tru G.K (PE.call D13 G (by decide) rfl (PA.cons (PE.var 3) (PA.cons PE.int (PA.cons (PE.gint T.c_MOST_LEAST rfl) PA.nil)))))) (PW.or1 (PT.not (PT.tru G.K (PE.call D13 G (by decide) rfl (PA.cons (PE.var 4) (PA.cons (PE.un op_negM (PE.gint T.c_MOST_CHANGE rfl)) (PA.cons (PE.gint T.c_MOST_CHANGE rfl) PA.nil))))))))) (PSs.one (PS.ret PE.bl)) PSs.nil) (PSs.one (PS.ret (PE.chain op_leM op_leM PE.int (PE.o2 op_addM (PE.var 3) (PE.var 4)) (PE.gint T.c_MOST_LEAST rfl))))))))
theorem at40 (T : Tx P w K mg base en CC) {f : Addr} {fd : FuncData} (F : L2.Fun K "is_move" "is_move" s40 f fd) (hm : mg "is_move" = some (.ref f)) (D41 : DefAt P w K mg base en 1 "is_among" 2 f41) (D13 : DefAt P w K mg base en 2 "is_between" 3 f13) : DefAt P w K mg base en 3 "is_move" 2 f40 :=
  DefAt.mk' hm F (ok40 T F D41 D13) (F.binds fun _ _ _ _ _ _ us hl => match us, hl with | [_, _], _ => rfl)
/-! _check_moves -/
abbrev s43 : Stmt := top 43
def m43 : SM := (mSeq (mIfS (bOr (bNot (mB (mO1 (opIsi is_list) (mVar 0)))) (mB (mO2 opGt (mOA (un1 opLen) (aCons (mVar 0) aNil)) (mC (.int 10))))) (mRaise 2 1 (aCons (mVar 0) aNil)) mNil) (mFor (mWalk (mVar 0)) (gVar 2) (mIfS (bNot (mTru (mCall f40 (aCons (mVar 2) (aCons (mVar 1) aNil))))) (mRaise 3 1 (aCons (mVar 2) aNil)) mNil)))
def f43 : FM := mFn 2 3 m43
abbrev mn__check_moves : SM := m43
abbrev fn__check_moves : FM := f43
theorem sc43 : FnScope ["moves", "places", "move"] ["moves", "places"] (defScope s43) := ⟨rfl, rfl, rfl, by decide +kernel, rfl, by decide +kernel, by decide +kernel⟩
theorem ok43 (T : Tx P w K mg base en CC) {f : Addr} {fd : FuncData} (F : L2.Fun K "_check_moves" "_check_moves" s43 f fd) (D40 : DefAt P w K mg base en 3 "is_move" 2 f40) : FnG P w K mg base 4 f fd ["moves", "places"] (spM en 2 f43) := by
  obtain ⟨oc, od, kV, doc, pm, an, cdv, ct, osl, rfl, lk, hcd⟩ := F.ex
  exact fnG_of lk hcd sc43 T.hK T.sm fun A outer s H E G => (PSs.cons (PS.if (PW.pt (PW.or (PT.not (PT.val (PE.isi G.K (.ty _) T.is_list rfl T.b_isinstance (PE.var 0) (pe_bltn rfl T.b_list rfl rfl)))) (PW.or1 (PT.cmp op_gtM (PE.callB (call_lenM G.K) rfl T.b_len rfl (PA.cons (PE.var 0) PA.nil)) (PE.gint T.c_MOST_MOVES rfl) (nomark _))))) (PSs.one (PS.raise T.e2 G rfl (PA.cons (PE.var 0) PA.nil))) PSs.nil) (PSs.one (PS.for G.pass G.calm (PI.walk G.K (PE.var 0)) (PG.var (i := 2) sc43.nd rfl (by first | exact .inl rfl | exact .inr rfl)) (PSs.one (PS.if (PT.not (PT.tru G.K (PE.call D40 G (by decide) rfl (PA.cons (PE.var 2) (PA.cons (PE.var 1) PA.nil))))) (PSs.one (PS.raise T.e3 G rfl (PA.cons (PE.var 2) PA.nil))) PSs.nil)))))
theorem at43 (T : Tx P w K mg base en CC) {f : Addr} {fd : FuncData} (F : L2.Fun K "_check_moves" "_check_moves" s43 f fd) (hm : mg "_check_moves" = some (.ref f)) (D40 : DefAt P w K mg base en 3 "is_move" 2 f40) : DefAt P w K mg base en 4 "_check_moves" 2 f43 :=
  DefAt.mk' hm F (ok43 T F D40) (F.binds fun _ _ _ _ _ _ us hl => match us, hl with | [_, _], _ => rfl)
/-! _changes_from -/
abbrev s18 : Stmt := top 18
def m18 : SM := (mSeq (mSet 2 (mDict (dCons (mVar 1) (mC (.int 0)) dNil))) (mSeq (mSet 3 (mOA opLst (aCons (mVar 1) aNil))) (mSeq (mWhile (mTru (mVar 3)) (mSeq (mSet 4 (mBm opPop (mVar 3) aNil)) (mFor (mWalk (mVar 0)) (gTupM 4 (gsCons (gVar 5) (gsCons (gVar 6) (gsCons (gVar 7) (gsCons (gVar 8) gsNil))))) (mIfS (bAnd (mB (mO2 (eqD false) (mVar 5) (mVar 4))) (mB (mO2 (opIn true) (mVar 8) (mVar 2)))) (mSeq (mSt (mO2 opAdd (mO2 opIx (mVar 2) (mVar 4)) (mVar 7)) (mVar 2) (mVar 8)) (mDrop (mBm opAppend (mVar 3) (aCons (mVar 8) aNil)))) mNil)))) (mRet (mVar 2)))))
def f18 : FM := mFn 2 9 m18
abbrev mn__changes_from : SM := m18
abbrev fn__changes_from : FM := f18
theorem sc18 : FnScope ["moves", "start", "changes", "waiting", "at", "place", "_", "change", "other"] ["moves", "start"] (defScope s18) := ⟨rfl, rfl, rfl, by decide +kernel, rfl, by decide +kernel, by decide +kernel⟩
theorem ok18 (T : Tx P w K mg base en CC) {f : Addr} {fd : FuncData} (F : L2.Fun K "_changes_from" "_changes_from" s18 f fd)  : FnG P w K mg base 1 f fd ["moves", "start"] (spM en 2 f18) := by
  obtain ⟨oc, od, kV, doc, pm, an, cdv, ct, osl, rfl, lk, hcd⟩ := F.ex
  exact fnG_of lk hcd sc18 T.hK T.sm fun A outer s H E G => (PSs.cons (PS.set (i := 2) sc18.nd rfl (by first | exact .inl rfl | exact .inr rfl) (PE.dict (PD.cons (PE.var 1) PE.int PD.nil))) (PSs.cons (PS.set (i := 3) sc18.nd rfl (by first | exact .inl rfl | exact .inr rfl) (PE.lst (PA.cons (PE.var 1) PA.nil))) (PSs.cons (PS.while G.pass (PT.tru G.K (PE.var 3)) (PSs.cons (PS.set (i := 4) sc18.nd rfl (by first | exact .inl rfl | exact .inr rfl) (PE.pop0 (PE.var 3))) (PSs.one (PS.for G.pass G.calm (PI.walk G.K (PE.var 0)) (PG.tup G.calm (PGs.cons (PG.var (i := 5) sc18.nd rfl (by first | exact .inl rfl | exact .inr rfl)) (PGs.cons (PG.var (i := 6) sc18.nd rfl (by first | exact .inl rfl | exact .inr rfl)) (PGs.cons (PG.var (i := 7) sc18.nd rfl (by first | exact .inl rfl | exact .inr rfl)) (PGs.cons (PG.var (i := 8) sc18.nd rfl (by first | exact .inl rfl | exact .inr rfl)) PGs.nil))))) (PSs.one (PS.if (PW.pt (PW.and (PT.cmp (op_eqM G.sm G.u64) (PE.var 5) (PE.var 4) (nomark _)) (PW.and1 (PT.cmp (op_notInM G.u1) (PE.var 8) (PE.var 2) (by with_unfolding_all rfl))))) (PSs.cons (PS.st G.u1 (PE.o2 op_addM (PE.ix G.K G.u1 (PE.var 2) (PE.var 4) (fun _ _ => rfl)) (PE.var 7)) (PE.var 2) (PE.var 8)) (PSs.one (PS.expr (PE.append (PE.var 3) (PA.cons (PE.var 8) PA.nil))))) PSs.nil)))))) (PSs.one (PS.ret (PE.var 2))))))
theorem at18 (T : Tx P w K mg base en CC) {f : Addr} {fd : FuncData} (F : L2.Fun K "_changes_from" "_changes_from" s18 f fd) (hm : mg "_changes_from" = some (.ref f))  : DefAt P w K mg base en 1 "_changes_from" 2 f18 :=
  DefAt.mk' hm F (ok18 T F ) (F.binds fun _ _ _ _ _ _ us hl => match us, hl with | [_, _], _ => rfl)
/-! _step_at -/
abbrev s17 : Stmt := top 17
def m17 : SM := (mSeq (mSet 2 (mCall f18 (aCons (mVar 0) (aCons (mVar 1) aNil)))) (mSeq (mSet 3 (mC (.int 0))) (mSeq (mFor (mWalk (mVar 0)) (gTupM 4 (gsCons (gVar 4) (gsCons (gVar 5) (gsCons (gVar 6) (gsCons (gVar 7) gsNil))))) (mIfS (bAnd (mB (mO2 (opIn false) (mVar 4) (mVar 2))) (mB (mO2 (opIn false) (mVar 1) (mCall f18 (aCons (mVar 0) (aCons (mVar 7) aNil)))))) (mSet 3 (mOA (bin2 opGcd) (aCons (mVar 3) (aCons (mO2 opSub (mO2 opAdd (mO2 opIx (mVar 2) (mVar 4)) (mVar 6)) (mO2 opIx (mVar 2) (mVar 7))) aNil)))) mNil)) (mRet (mVar 3)))))
def f17 : FM := mFn 2 8 m17
abbrev mn__step_at : SM := m17
abbrev fn__step_at : FM := f17
theorem sc17 : FnScope ["moves", "start", "changes", "step", "place", "_", "change", "other"] ["moves", "start"] (defScope s17) := ⟨rfl, rfl, rfl, by decide +kernel, rfl, by decide +kernel, by decide +kernel⟩
theorem ok17 (T : Tx P w K mg base en CC) {f : Addr} {fd : FuncData} (F : L2.Fun K "_step_at" "_step_at" s17 f fd) (D18 : DefAt P w K mg base en 1 "_changes_from" 2 f18) : FnG P w K mg base 2 f fd ["moves", "start"] (spM en 2 f17) := by
  obtain ⟨oc, od, kV, doc, pm, an, cdv, ct, osl, rfl, lk, hcd⟩ := F.ex
  exact fnG_of lk hcd sc17 T.hK T.sm fun A outer s H E G => (PSs.cons (PS.set (i := 2) sc17.nd rfl (by first | exact .inl rfl | exact .inr rfl) (PE.call D18 G (by decide) rfl (PA.cons (PE.var 0) (PA.cons (PE.var 1) PA.nil)))) (PSs.cons (PS.set (i := 3) sc17.nd rfl (by first | exact .inl rfl | exact .inr rfl) PE.int) (PSs.cons (PS.for G.pass G.calm (PI.walk G.K (PE.var 0)) (PG.tup G.calm (PGs.cons (PG.var (i := 4) sc17.nd rfl (by first | exact .inl rfl | exact .inr rfl)) (PGs.cons (PG.var (i := 5) sc17.nd rfl (by first | exact .inl rfl | exact .inr rfl)) (PGs.cons (PG.var (i := 6) sc17.nd rfl (by first | exact .inl rfl | exact .inr rfl)) (PGs.cons (PG.var (i := 7) sc17.nd rfl (by first | exact .inl rfl | exact .inr rfl)) PGs.nil))))) (PSs.one (PS.if (PW.pt (PW.and (PT.cmp (op_inM G.u1) (PE.var 4) (PE.var 2) (by with_unfolding_all rfl)) (PW.and1 (PT.cmp (op_inM G.u1) (PE.var 1) (PE.call D18 G (by decide) rfl (PA.cons (PE.var 0) (PA.cons (PE.var 7) PA.nil))) (by with_unfolding_all rfl))))) (PSs.one (PS.set (i := 3) sc17.nd rfl (by first | exact .inl rfl | exact .inr rfl) (PE.bfn call_gcdM rfl T.m_gcd (PA.cons (PE.var 3) (PA.cons (PE.o2 op_subM (PE.o2 op_addM (PE.ix G.K G.u1 (PE.var 2) (PE.var 4) (fun _ _ => rfl)) (PE.var 6)) (PE.ix G.K G.u1 (PE.var 2) (PE.var 7) (fun _ _ => rfl))) PA.nil))))) PSs.nil))) (PSs.one (PS.ret (PE.var 3))))))
theorem at17 (T : Tx P w K mg base en CC) {f : Addr} {fd : FuncData} (F : L2.Fun K "_step_at" "_step_at" s17 f fd) (hm : mg "_step_at" = some (.ref f)) (D18 : DefAt P w K mg base en 1 "_changes_from" 2 f18) : DefAt P w K mg base en 2 "_step_at" 2 f17 :=
  DefAt.mk' hm F (ok17 T F D18) (F.binds fun _ _ _ _ _ _ us hl => match us, hl with | [_, _], _ => rfl)
/-! common_step -/
abbrev s16 : Stmt := top 16
def m16 : SM := (mSeq (mSet 2 (mC (.int 1))) (mSeq (mFor (mRng1 (aCons (mVar 1) aNil)) (gVar 3) (mSeq (mSet 4 (mCall f17 (aCons (mVar 0) (aCons (mVar 3) aNil)))) (mIfS (mB (mO2 opGt (mVar 4) (mC (.int 0)))) (mSet 2 (mOA (bin2 opLcm) (aCons (mVar 2) (aCons (mVar 4) aNil)))) mNil))) (mRet (mVar 2))))
def f16 : FM := mFn 2 5 m16
abbrev mn_common_step : SM := m16
abbrev fn_common_step : FM := f16
theorem sc16 : FnScope ["moves", "many", "common", "start", "step"] ["moves", "many"] (defScope s16) := ⟨rfl, rfl, rfl, by decide +kernel, rfl, by decide +kernel, by decide +kernel⟩
theorem ok16 (T : Tx P w K mg base en CC) {f : Addr} {fd : FuncData} (F : L2.Fun K "common_step" "common_step" s16 f fd) (D17 : DefAt P w K mg base en 2 "_step_at" 2 f17) : FnG P w K mg base 3 f fd ["moves", "many"] (spM en 2 f16) := by
  obtain ⟨oc, od, kV, doc, pm, an, cdv, ct, osl, rfl, lk, hcd⟩ := F.ex
  exact fnG_of lk hcd sc16 T.hK T.sm fun A outer s H E G => (PSs.cons (PS.set (i := 2) sc16.nd rfl (by first | exact .inl rfl | exact .inr rfl) PE.int) (PSs.cons (PS.for G.pass G.calm (PI.rng1 rfl T.b_range (PA.cons (PE.var 1) PA.nil)) (PG.var (i := 3) sc16.nd rfl (by first | exact .inl rfl | exact .inr rfl)) (PSs.cons (PS.set (i := 4) sc16.nd rfl (by first | exact .inl rfl | exact .inr rfl) (PE.call D17 G (by decide) rfl (PA.cons (PE.var 0) (PA.cons (PE.var 3) PA.nil)))) (PSs.one (PS.if (PT.cmp op_gtM (PE.var 4) PE.int (nomark _)) (PSs.one (PS.set (i := 2) sc16.nd rfl (by first | exact .inl rfl | exact .inr rfl) (PE.bfn call_lcmM rfl T.m_lcm (PA.cons (PE.var 2) (PA.cons (PE.var 4) PA.nil))))) PSs.nil)))) (PSs.one (PS.ret (PE.var 2)))))
theorem at16 (T : Tx P w K mg base en CC) {f : Addr} {fd : FuncData} (F : L2.Fun K "common_step" "common_step" s16 f fd) (hm : mg "common_step" = some (.ref f)) (D17 : DefAt P w K mg base en 2 "_step_at" 2 f17) : DefAt P w K mg base en 3 "common_step" 2 f16 :=
  DefAt.mk' hm F (ok16 T F D17) (F.binds fun _ _ _ _ _ _ us hl => match us, hl with | [_, _], _ => rfl)
/-! ('Walks', '__init__') -/
abbrev s_Walks___init__ : Stmt := inClass (top 31) 0
def m_Walks___init__ : SM := (mSeq (mFst x__at (mDc (mEnum (aCons (mVar 1) aNil)) (gTupM 2 (gsCons (gVar 5) (gsCons (gVar 6) gsNil))) bYes (mVar 6) (mVar 5) [5, 6]) (mVar 0)) (mSeq (mSet 3 (mLc (mWalk (mVar 2)) (gTupM 4 (gsCons (gVar 6) (gsCons (gVar 7) (gsCons (gVar 8) (gsCons (gVar 9) gsNil))))) bYes (mOA opTup (aCons (mO2 opIx (mO1 (opFld x__at) (mVar 0)) (mVar 6)) (aCons (mVar 7) (aCons (mVar 8) (aCons (mO2 opIx (mO1 (opFld x__at) (mVar 0)) (mVar 9)) aNil))))) [6, 7, 8, 9])) (mSeq (mSet 4 (mLc (mWalk (mVar 3)) (gTupM 4 (gsCons (gVar 6) (gsCons (gVar 7) (gsCons (gVar 8) (gsCons (gVar 9) gsNil))))) bYes (mOA opTup (aCons (mVar 9) (aCons (mO2 opAdd (mVar 7) (mVar 8)) (aCons (mO1 opNeg (mVar 8)) (aCons (mVar 6) aNil))))) [6, 7, 8, 9])) (mSeq (mFst x__ways (mOA opTup (aCons (mVar 3) (aCons (mVar 4) aNil))) (mVar 0)) (mSeq (mFst x__tables mDict0 (mVar 0)) (mFst x__common (mCall f16 (aCons (mVar 3) (aCons (mOA (un1 opLen) (aCons (mVar 1) aNil)) aNil))) (mVar 0)))))))
def f_Walks___init__ : FM := mFn 3 10 m_Walks___init__
theorem sc_Walks___init__ : FnScope ["self", "places", "moves", "onward", "turned", "at", "place", "least", "change", "other"] ["self", "places", "moves"] (defScope s_Walks___init__) := ⟨rfl, rfl, rfl, by decide +kernel, rfl, by decide +kernel, by decide +kernel⟩
theorem ok_Walks___init__ (T : Tx P w K mg base en CC) {f : Addr} {fd : FuncData} (F : L2.Fun K "__init__" "Walks.__init__" s_Walks___init__ f fd) (D16 : DefAt P w K mg base en 3 "common_step" 2 f16) : FnG P w K mg base 4 f fd ["self", "places", "moves"] (spM en 3 f_Walks___init__) := by
  obtain ⟨oc, od, kV, doc, pm, an, cdv, ct, osl, rfl, lk, hcd⟩ := F.ex
  exact fnG_of lk hcd sc_Walks___init__ T.hK T.sm fun A outer s H E G => (PSs.cons (PS.fst G.K T.x__at (PE.var 0) (PE.dcG G sc_Walks___init__.nd (PI.enm rfl T.b_enumerate (PA.cons (PE.var 1) PA.nil)) (own := [("at", 5), ("place", 6)]) ⟨rfl, by decide +kernel, of_decide_eq_true (by kernel_rfl), of_decide_eq_true (by kernel_rfl), of_decide_eq_true (by kernel_rfl)⟩ (fun s3 H3 C3 cl3 fp3 G => (PG.tup G.calm (PGs.cons (PG.var (i := 5) sc_Walks___init__.nd rfl (by first | exact .inl rfl | exact .inr rfl)) (PGs.cons (PG.var (i := 6) sc_Walks___init__.nd rfl (by first | exact .inl rfl | exact .inr rfl)) PGs.nil)))) (fun s3 H3 C3 cl3 fp3 G => PTs.nil) (fun s3 H3 C3 cl3 fp3 G => (PE.var 6)) (fun s3 H3 C3 cl3 fp3 G => (PE.var 5)))) (PSs.cons (PS.setLcG (i := 3) G sc_Walks___init__.nd rfl rfl (by first | rfl | decide) (PI.walk G.K (PE.var 2)) (own := [("place", 6), ("least", 7), ("change", 8), ("other", 9)]) ⟨rfl, by decide +kernel, of_decide_eq_true (by kernel_rfl), of_decide_eq_true (by kernel_rfl), of_decide_eq_true (by kernel_rfl)⟩ (fun s3 H3 C3 cl3 fp3 G => (PG.tup G.calm (PGs.cons (PG.var (i := 6) sc_Walks___init__.nd rfl (by first | exact .inl rfl | exact .inr rfl)) (PGs.cons (PG.var (i := 7) sc_Walks___init__.nd rfl (by first | exact .inl rfl | exact .inr rfl)) (PGs.cons (PG.var (i := 8) sc_Walks___init__.nd rfl (by first | exact .inl rfl | exact .inr rfl)) (PGs.cons (PG.var (i := 9) sc_Walks___init__.nd rfl (by first | exact .inl rfl | exact .inr rfl)) PGs.nil)))))) (fun s3 H3 C3 cl3 fp3 G => PTs.nil) (fun s3 H3 C3 cl3 fp3 G => (PE.tup (PA.cons (PE.ix G.K G.u1 (PE.fld G.K T.x__at (PE.var 0)) (PE.var 6) (fun _ _ => rfl)) (PA.cons (PE.var 7) (PA.cons (PE.var 8) (PA.cons (PE.ix G.K G.u1 (PE.fld G.K T.x__at (PE.var 0)) (PE.var 9) (fun _ _ => rfl)) PA.nil))))))) (PSs.cons (PS.setLcG (i := 4) G sc_Walks___init__.nd rfl rfl (by first | rfl | decide) (PI.walk G.K (PE.var 3)) (own := [("place", 6), ("least", 7), ("change", 8), ("other", 9)]) ⟨rfl, by decide +kernel, of_decide_eq_true (by kernel_rfl), of_decide_eq_true (by kernel_rfl), of_decide_eq_true (by kernel_rfl)⟩ (fun s3 H3 C3 cl3 fp3 G => (PG.tup G.calm (PGs.cons (PG.var (i := 6) sc_Walks___init__.nd rfl (by first | exact .inl rfl | exact .inr rfl)) (PGs.cons (PG.var (i := 7) sc_Walks___init__.nd rfl (by first | exact .inl rfl | exact .inr rfl)) (PGs.cons (PG.var (i := 8) sc_Walks___init__.nd rfl (by first | exact .inl rfl | exact .inr rfl)) (PGs.cons (PG.var (i := 9) sc_Walks___init__.nd rfl (by first | exact .inl rfl | exact .inr rfl)) PGs.nil)))))) (fun s3 H3 C3 cl3 fp3 G => PTs.nil) (fun s3 H3 C3 cl3 fp3 G => (PE.tup (PA.cons (PE.var 9) (PA.cons (PE.o2 op_addM (PE.var 7) (PE.var 8)) (PA.cons (PE.un op_negM (PE.var 8)) (PA.cons (PE.var 6) PA.nil))))))) (PSs.cons (PS.fst G.K T.x__ways (PE.var 0) (PE.tup (PA.cons (PE.var 3) (PA.cons (PE.var 4) PA.nil)))) (PSs.cons (PS.fst G.K T.x__tables (PE.var 0) PE.dict0) (PSs.one (PS.fst G.K T.x__common (PE.var 0) (PE.call D16 G (by decide) rfl (PA.cons (PE.var 3) (PA.cons (PE.callB (call_lenM G.K) rfl T.b_len rfl (PA.cons (PE.var 1) PA.nil)) PA.nil))))))))))
theorem at_Walks___init__ (T : Tx P w K mg base en CC) {f C : Addr} {fd : FuncData} (F : L2.Fun K "__init__" "Walks.__init__" s_Walks___init__ f fd) (cf : ClsF en 8 C ["_at", "_ways", "_tables", "_common"]) (hm : mg "Walks" = some (.ref C)) (mk : Mk K C f) (D16 : DefAt P w K mg base en 3 "common_step" 2 f16) : MakeAt P w K mg base en 4 "Walks" 8 3 f_Walks___init__ :=
  ⟨⟨f, fd, _, C, _, cf, hm, mk, ok_Walks___init__ T F D16, (F.binds fun _ _ _ _ _ _ us hl => match us, hl with | [_, _, _], _ => rfl)⟩, fun vs h e => mFn_len e⟩
/-! ('Program', '__init__') -/
abbrev s_Program___init__ : Stmt := inClass (top 39) 0
def m_Program___init__ : SM := (mSeq (mDrop (mCall f42 (aCons (mVar 1) aNil))) (mSeq (mDrop (mCall f43 (aCons (mVar 2) (aCons (mVar 1) aNil)))) (mSeq (mFst x__places (mOA (un1 opList) (aCons (mVar 1) aNil)) (mVar 0)) (mSeq (mFst x__moves (mOA (un1 opList) (aCons (mVar 2) aNil)) (mVar 0)) (mFst x__walks (mMake 8 f_Walks___init__ (aCons (mO1 (opFld x__places) (mVar 0)) (aCons (mO1 (opFld x__moves) (mVar 0)) aNil))) (mVar 0))))))
def f_Program___init__ : FM := mFn 3 3 m_Program___init__
theorem sc_Program___init__ : FnScope ["self", "places", "moves"] ["self", "places", "moves"] (defScope s_Program___init__) := ⟨rfl, rfl, rfl, by decide +kernel, rfl, by decide +kernel, by decide +kernel⟩
theorem ok_Program___init__ (T : Tx P w K mg base en CC) {f : Addr} {fd : FuncData} (F : L2.Fun K "__init__" "Program.__init__" s_Program___init__ f fd) (D42 : DefAt P w K mg base en 2 "_check_places" 1 f42) (D43 : DefAt P w K mg base en 4 "_check_moves" 2 f43) (D_Walks : MakeAt P w K mg base en 4 "Walks" 8 3 f_Walks___init__) : FnG P w K mg base 6 f fd ["self", "places", "moves"] (spM en 3 f_Program___init__) := by
  obtain ⟨oc, od, kV, doc, pm, an, cdv, ct, osl, rfl, lk, hcd⟩ := F.ex
  exact fnG_of lk hcd sc_Program___init__ T.hK T.sm fun A outer s H E G => (PSs.cons (PS.expr (PE.call D42 G (by decide) rfl (PA.cons (PE.var 1) PA.nil))) (PSs.cons (PS.expr (PE.call D43 G (by decide) rfl (PA.cons (PE.var 2) (PA.cons (PE.var 1) PA.nil)))) (PSs.cons (PS.fst G.K T.x__places (PE.var 0) (PE.callTy call_listM rfl T.b_list rfl (PA.cons (PE.var 1) PA.nil))) (PSs.cons (PS.fst G.K T.x__moves (PE.var 0) (PE.callTy call_listM rfl T.b_list rfl (PA.cons (PE.var 2) PA.nil))) (PSs.one (PS.fst G.K T.x__walks (PE.var 0) (PE.make D_Walks G (by decide) rfl (PA.cons (PE.fld G.K T.x__places (PE.var 0)) (PA.cons (PE.fld G.K T.x__moves (PE.var 0)) PA.nil)))))))))
theorem at_Program___init__ (T : Tx P w K mg base en CC) {f C : Addr} {fd : FuncData} (F : L2.Fun K "__init__" "Program.__init__" s_Program___init__ f fd) (cf : ClsF en 9 C ["_places", "_moves", "_walks"]) (hm : mg "Program" = some (.ref C)) (mk : Mk K C f) (D42 : DefAt P w K mg base en 2 "_check_places" 1 f42) (D43 : DefAt P w K mg base en 4 "_check_moves" 2 f43) (D_Walks : MakeAt P w K mg base en 4 "Walks" 8 3 f_Walks___init__) : MakeAt P w K mg base en 6 "Program" 9 3 f_Program___init__ :=
  ⟨⟨f, fd, _, C, _, cf, hm, mk, ok_Program___init__ T F D42 D43 D_Walks, (F.binds fun _ _ _ _ _ _ us hl => match us, hl with | [_, _, _], _ => rfl)⟩, fun vs h e => mFn_len e⟩
/-! _law_program -/
abbrev s69 : Stmt := top 69
def m69 : SM := (mRet (mMake 9 f_Program___init__ (aCons (mOA (un1 opList) (aCons (mO2 opIx (mVar 0) (mC (.int 0))) aNil)) (aCons (mOA (un1 opList) (aCons (mO2 opIx (mVar 0) (mC (.int 1))) aNil)) aNil))))
def f69 : FM := mFn 1 1 m69
abbrev mn__law_program : SM := m69
abbrev fn__law_program : FM := f69
theorem sc69 : FnScope ["_law_parts_here"] ["_law_parts_here"] (defScope s69) := ⟨rfl, rfl, rfl, by decide +kernel, rfl, by decide +kernel, by decide +kernel⟩
theorem ok69 (T : Tx P w K mg base en CC) {f : Addr} {fd : FuncData} (F : L2.Fun K "_law_program" "_law_program" s69 f fd) (D_Program : MakeAt P w K mg base en 6 "Program" 9 3 f_Program___init__) : FnG P w K mg base 8 f fd ["_law_parts_here"] (spM en 1 f69) := by
  obtain ⟨oc, od, kV, doc, pm, an, cdv, ct, osl, rfl, lk, hcd⟩ := F.ex
  exact fnG_of lk hcd sc69 T.hK T.sm fun A outer s H E G => (PSs.one (PS.ret (PE.make D_Program G (by decide) rfl (PA.cons (PE.callTy call_listM rfl T.b_list rfl (PA.cons (PE.ix G.K G.u1 (PE.var 0) PE.int (fun _ _ => rfl)) PA.nil)) (PA.cons (PE.callTy call_listM rfl T.b_list rfl (PA.cons (PE.ix G.K G.u1 (PE.var 0) PE.int (fun _ _ => rfl)) PA.nil)) PA.nil)))))
theorem at69 (T : Tx P w K mg base en CC) {f : Addr} {fd : FuncData} (F : L2.Fun K "_law_program" "_law_program" s69 f fd) (hm : mg "_law_program" = some (.ref f)) (D_Program : MakeAt P w K mg base en 6 "Program" 9 3 f_Program___init__) : DefAt P w K mg base en 8 "_law_program" 1 f69 :=
  DefAt.mk' hm F (ok69 T F D_Program) (F.binds fun _ _ _ _ _ _ us hl => match us, hl with | [_], _ => rfl)
/-! _law_row_drawn -/
abbrev s74 : Stmt := top 74
def m74 : SM := (mSeq (mPar 5 6 (aCons (mOA opLst aNil) (aCons (mVar 2) aNil))) (mSeq (mFor (mRng1 (aCons (mCall f66 (aCons (mVar 0) (aCons (mO2 opAdd (mVar 3) (mC (.int 1))) aNil))) aNil)) (gVar 4) (mSeq (mAsg (gTupM 2 (gsCons (gVar 8) (gsCons (gVar 9) gsNil))) (mOA opTup (aCons (mOA opLst aNil) (aCons (mVar 6) aNil)))) (mSeq (mFor (mRng1 (aCons (mO2 opAdd (mC (.int 1)) (mCall f66 (aCons (mVar 0) (aCons (mC (.int 4)) aNil)))) aNil)) (gVar 7) (mSeq (mSet 10 (mLc (mRng1 (aCons (mOA (un1 opLen) (aCons (mO2 opIx (mVar 1) (mC (.int 1))) aNil)) aNil)) (gVar 12) (mB (mO2 (eqD false) (mO2 opIx (mO2 opIx (mO2 opIx (mVar 1) (mC (.int 1))) (mVar 12)) (mC (.int 0))) (mVar 9))) (mVar 12) [12])) (mIfS (mB (mO2 (eqD true) (mVar 10) (mOA opLst aNil))) (mSeq (mDrop (mBm opAppend (mVar 8) (aCons (mO2 opIx (mVar 10) (mCall f66 (aCons (mVar 0) (aCons (mOA (un1 opLen) (aCons (mVar 10) aNil)) aNil)))) aNil))) (mSet 9 (mO2 opIx (mO2 opIx (mO2 opIx (mVar 1) (mC (.int 1))) (mO2 opIx (mVar 8) (mO1 opNeg (mC (.int 1))))) (mC (.int 3))))) mNil))) (mIfS (mB (mO2 (eqD true) (mVar 8) (mOA opLst aNil))) (mSeq (mSet 11 (mIf (mB (mO2 (eqD false) (mVar 9) (mVar 6))) (mO2 opIx (mOA opLst (aCons (mC (.int 1)) (aCons (mC (.int 2)) (aCons (mC (.int 3)) (aCons (mO2 opPow (mC (.int 10)) (mC (.int 30))) aNil))))) (mCall f66 (aCons (mVar 0) (aCons (mC (.int 4)) aNil)))) (mC (.int 1)))) (mSeq (mDrop (mBm opAppend (mVar 5) (aCons (mOA opTup (aCons (mVar 11) (aCons (mVar 8) aNil))) aNil))) (mSet 6 (mVar 9)))) mNil)))) (mRet (mVar 5))))
def f74 : FM := mFn 4 13 m74
abbrev mn__law_row_drawn : SM := m74
abbrev fn__law_row_drawn : FM := f74
theorem sc74 : FnScope ["_law_generator_here", "_law_parts_here", "_law_place", "_law_most", "_law_turn", "_law_found", "_law_at", "_law_step", "_law_numbers", "_law_here", "_law_some", "_law_times", "_law_number"] ["_law_generator_here", "_law_parts_here", "_law_place", "_law_most"] (defScope s74) := ⟨rfl, rfl, rfl, by decide +kernel, rfl, by decide +kernel, by decide +kernel⟩
theorem ok74 (T : Tx P w K mg base en CC) {f : Addr} {fd : FuncData} (F : L2.Fun K "_law_row_drawn" "_law_row_drawn" s74 f fd) (D66 : DefAt P w K mg base en 2 "_law_random" 2 f66) : FnG P w K mg base 3 f fd ["_law_generator_here", "_law_parts_here", "_law_place", "_law_most"] (spM en 4 f74) := by
  obtain ⟨oc, od, kV, doc, pm, an, cdv, ct, osl, rfl, lk, hcd⟩ := F.ex
  exact fnG_of lk hcd sc74 T.hK T.sm fun A outer s H E G => (PSs.cons (PS.par (i := 5) (j := 6) G.calm sc74.nd rfl rfl (by decide) rfl rfl (PA.cons (PE.lst PA.nil) (PA.cons (PE.var 2) PA.nil)) (by rfl)) (PSs.cons (PS.for G.pass G.calm (PI.rng1 rfl T.b_range (PA.cons (PE.call D66 G (by decide) rfl (PA.cons (PE.var 0) (PA.cons (PE.o2 op_addM (PE.var 3) PE.int) PA.nil))) PA.nil)) (PG.var (i := 4) sc74.nd rfl (by first | exact .inl rfl | exact .inr rfl)) (PSs.cons (PS.asg (PE.tup (PA.cons (PE.lst PA.nil) (PA.cons (PE.var 6) PA.nil))) (PG.tup G.calm (PGs.cons (PG.var (i := 8) sc74.nd rfl (by first | exact .inl rfl | exact .inr rfl)) (PGs.cons (PG.var (i := 9) sc74.nd rfl (by first | exact .inl rfl | exact .inr rfl)) PGs.nil)))) (PSs.cons (PS.for G.pass G.calm (PI.rng1 rfl T.b_range (PA.cons (PE.o2 op_addM PE.int (PE.call D66 G (by decide) rfl (PA.cons (PE.var 0) (PA.cons PE.int PA.nil)))) PA.nil)) (PG.var (i := 7) sc74.nd rfl (by first | exact .inl rfl | exact .inr rfl)) (PSs.cons (PS.setLcG (i := 10) G sc74.nd rfl rfl (by first | rfl | decide) (PI.rng1 rfl T.b_range (PA.cons (PE.callB (call_lenM G.K) rfl T.b_len rfl (PA.cons (PE.ix G.K G.u1 (PE.var 1) PE.int (fun _ _ => rfl)) PA.nil)) PA.nil)) (own := [("_law_number", 12)]) ⟨rfl, by decide +kernel, of_decide_eq_true (by kernel_rfl), of_decide_eq_true (by kernel_rfl), of_decide_eq_true (by kernel_rfl)⟩ (fun s3 H3 C3 cl3 fp3 G => (PG.var (i := 12) sc74.nd rfl (by first | exact .inl rfl | exact .inr rfl))) (fun s3 H3 C3 cl3 fp3 G => (PTs.one (PT.cmp (op_eqM G.sm G.u64) (PE.ix G.K G.u1 (PE.ix G.K G.u1 (PE.ix G.K G.u1 (PE.var 1) PE.int (fun _ _ => rfl)) (PE.var 12) (fun _ _ => rfl)) PE.int (fun _ _ => rfl)) (PE.var 9) (nomark _)))) (fun s3 H3 C3 cl3 fp3 G => (PE.var 12))) (PSs.one (PS.if (PT.cmp (op_neM G.sm G.u64) (PE.var 10) (PE.lst PA.nil) (nomark _)) (PSs.cons (PS.expr (PE.append (PE.var 8) (PA.cons (PE.ix G.K G.u1 (PE.var 10) (PE.call D66 G (by decide) rfl (PA.cons (PE.var 0) (PA.cons (PE.callB (call_lenM G.K) rfl T.b_len rfl (PA.cons (PE.var 10) PA.nil)) PA.nil))) (fun _ _ => rfl)) PA.nil))) (PSs.one (PS.set (i := 9) sc74.nd rfl (by first | exact .inl rfl | exact .inr rfl) (PE.ix G.K G.u1 (PE.ix G.K G.u1 (PE.ix G.K G.u1 (PE.var 1) PE.int (fun _ _ => rfl)) (PE.ix G.K G.u1 (PE.var 8) (PE.un op_negM PE.int) (fun _ _ => rfl)) (fun _ _ => rfl)) PE.int (fun _ _ => rfl))))) PSs.nil)))) (PSs.one (PS.if (PT.cmp (op_neM G.sm G.u64) (PE.var 8) (PE.lst PA.nil) (nomark _)) (PSs.cons (PS.set (i := 11) sc74.nd rfl (by first | exact .inl rfl | exact .inr rfl) (PE.ifx (PT.cmp (op_eqM G.sm G.u64) (PE.var 9) (PE.var 6) (nomark _)) (PE.ix G.K G.u1 (PE.lst (PA.cons PE.int (PA.cons PE.int (PA.cons PE.int (PA.cons (PE.o2 op_powM PE.int PE.int) PA.nil))))) (PE.call D66 G (by decide) rfl (PA.cons (PE.var 0) (PA.cons PE.int PA.nil))) (fun _ _ => rfl)) PE.int)) (PSs.cons (PS.expr (PE.append (PE.var 5) (PA.cons (PE.tup (PA.cons (PE.var 11) (PA.cons (PE.var 8) PA.nil))) PA.nil))) (PSs.one (PS.set (i := 6) sc74.nd rfl (by first | exact .inl rfl | exact .inr rfl) (PE.var 9))))) PSs.nil))))) (PSs.one (PS.ret (PE.var 5)))))
theorem at74 (T : Tx P w K mg base en CC) {f : Addr} {fd : FuncData} (F : L2.Fun K "_law_row_drawn" "_law_row_drawn" s74 f fd) (hm : mg "_law_row_drawn" = some (.ref f)) (D66 : DefAt P w K mg base en 2 "_law_random" 2 f66) : DefAt P w K mg base en 3 "_law_row_drawn" 4 f74 :=
  DefAt.mk' hm F (ok74 T F D66) (F.binds fun _ _ _ _ _ _ us hl => match us, hl with | [_, _, _, _], _ => rfl)
/-! _law_behind -/
abbrev s70 : Stmt := top 70
def m70 : SM := (mRet (mOA opTup (aCons (mOA (bin2 opMax) (aCons (mO2 opIx (mVar 0) (mC (.int 0))) (aCons (mO2 opSub (mO2 opIx (mVar 1) (mC (.int 0))) (mO2 opIx (mVar 0) (mC (.int 1)))) aNil))) (aCons (mO2 opAdd (mO2 opIx (mVar 0) (mC (.int 1))) (mO2 opIx (mVar 1) (mC (.int 1)))) aNil))))
def f70 : FM := mFn 2 2 m70
abbrev mn__law_behind : SM := m70
abbrev fn__law_behind : FM := f70
theorem sc70 : FnScope ["_law_one", "_law_other"] ["_law_one", "_law_other"] (defScope s70) := ⟨rfl, rfl, rfl, by decide +kernel, rfl, by decide +kernel, by decide +kernel⟩
theorem ok70 (T : Tx P w K mg base en CC) {f : Addr} {fd : FuncData} (F : L2.Fun K "_law_behind" "_law_behind" s70 f fd)  : FnG P w K mg base 1 f fd ["_law_one", "_law_other"] (spM en 2 f70) := by
  obtain ⟨oc, od, kV, doc, pm, an, cdv, ct, osl, rfl, lk, hcd⟩ := F.ex
  exact fnG_of lk hcd sc70 T.hK T.sm fun A outer s H E G => (PSs.one (PS.ret (PE.tup (PA.cons (PE.callB (call_maxM G.calm) rfl T.b_max rfl (PA.cons (PE.ix G.K G.u1 (PE.var 0) PE.int (fun _ _ => rfl)) (PA.cons (PE.o2 op_subM (PE.ix G.K G.u1 (PE.var 1) PE.int (fun _ _ => rfl)) (PE.ix G.K G.u1 (PE.var 0) PE.int (fun _ _ => rfl))) PA.nil))) (PA.cons (PE.o2 op_addM (PE.ix G.K G.u1 (PE.var 0) PE.int (fun _ _ => rfl)) (PE.ix G.K G.u1 (PE.var 1) PE.int (fun _ _ => rfl))) PA.nil)))))
theorem at70 (T : Tx P w K mg base en CC) {f : Addr} {fd : FuncData} (F : L2.Fun K "_law_behind" "_law_behind" s70 f fd) (hm : mg "_law_behind" = some (.ref f))  : DefAt P w K mg base en 1 "_law_behind" 2 f70 :=
  DefAt.mk' hm F (ok70 T F ) (F.binds fun _ _ _ _ _ _ us hl => match us, hl with | [_, _], _ => rfl)
/-! _law_measured -/
abbrev s71 : Stmt := top 71
def m71 : SM := (mSeq (mSet 2 (mOA opTup (aCons (mC (.int 0)) (aCons (mC (.int 0)) aNil)))) (mSeq (mFor (mWalk (mVar 1)) (gTupM 2 (gsCons (gVar 3) (gsCons (gVar 4) gsNil))) (mSeq (mSet 5 (mOA opTup (aCons (mC (.int 0)) (aCons (mC (.int 0)) aNil)))) (mSeq (mFor (mWalk (mVar 4)) (gVar 6) (mSet 5 (mCall f70 (aCons (mVar 5) (aCons (mCut (mO2 opIx (mO2 opIx (mVar 0) (mC (.int 1))) (mVar 6)) (pSome (mC (.int 1))) (pSome (mC (.int 3)))) aNil))))) (mSeq (mAsg (gTupM 2 (gsCons (gVar 8) (gsCons (gVar 9) gsNil))) (mVar 5)) (mSeq (mSet 7 (mIf (mB (mO2 opLt (mVar 9) (mC (.int 0)))) (mO2 opSub (mVar 8) (mO2 opMul (mO2 opSub (mVar 3) (mC (.int 1))) (mVar 9))) (mVar 8))) (mSet 2 (mCall f70 (aCons (mVar 2) (aCons (mOA opTup (aCons (mVar 7) (aCons (mO2 opMul (mVar 3) (mVar 9)) aNil))) aNil))))))))) (mRet (mVar 2))))
def f71 : FM := mFn 2 10 m71
abbrev mn__law_measured : SM := m71
abbrev fn__law_measured : FM := f71
theorem sc71 : FnScope ["_law_parts_here", "_law_row", "_law_whole", "_law_times", "_law_numbers", "_law_part", "_law_number", "_law_far", "_law_need", "_law_change"] ["_law_parts_here", "_law_row"] (defScope s71) := ⟨rfl, rfl, rfl, by decide +kernel, rfl, by decide +kernel, by decide +kernel⟩
theorem ok71 (T : Tx P w K mg base en CC) {f : Addr} {fd : FuncData} (F : L2.Fun K "_law_measured" "_law_measured" s71 f fd) (D70 : DefAt P w K mg base en 1 "_law_behind" 2 f70) : FnG P w K mg base 2 f fd ["_law_parts_here", "_law_row"] (spM en 2 f71) := by
  obtain ⟨oc, od, kV, doc, pm, an, cdv, ct, osl, rfl, lk, hcd⟩ := F.ex
  exact fnG_of lk hcd sc71 T.hK T.sm fun A outer s H E G => (PSs.cons (PS.set (i := 2) sc71.nd rfl (by first | exact .inl rfl | exact .inr rfl) (PE.tup (PA.cons PE.int (PA.cons PE.int PA.nil)))) (PSs.cons (PS.for G.pass G.calm (PI.walk G.K (PE.var 1)) (PG.tup G.calm (PGs.cons (PG.var (i := 3) sc71.nd rfl (by first | exact .inl rfl | exact .inr rfl)) (PGs.cons (PG.var (i := 4) sc71.nd rfl (by first | exact .inl rfl | exact .inr rfl)) PGs.nil))) (PSs.cons (PS.set (i := 5) sc71.nd rfl (by first | exact .inl rfl | exact .inr rfl) (PE.tup (PA.cons PE.int (PA.cons PE.int PA.nil)))) (PSs.cons (PS.for G.pass G.calm (PI.walk G.K (PE.var 4)) (PG.var (i := 6) sc71.nd rfl (by first | exact .inl rfl | exact .inr rfl)) (PSs.one (PS.set (i := 5) sc71.nd rfl (by first | exact .inl rfl | exact .inr rfl) (PE.call D70 G (by decide) rfl (PA.cons (PE.var 5) (PA.cons (PE.cut (PE.ix G.K G.u1 (PE.ix G.K G.u1 (PE.var 0) PE.int (fun _ _ => rfl)) (PE.var 6) (fun _ _ => rfl)) (PO.som PE.int) (PO.som PE.int)) PA.nil)))))) (PSs.cons (PS.asg (PE.var 5) (PG.tup G.calm (PGs.cons (PG.var (i := 8) sc71.nd rfl (by first | exact .inl rfl | exact .inr rfl)) (PGs.cons (PG.var (i := 9) sc71.nd rfl (by first | exact .inl rfl | exact .inr rfl)) PGs.nil)))) (PSs.cons (PS.set (i := 7) sc71.nd rfl (by first | exact .inl rfl | exact .inr rfl) (PE.ifx (PT.cmp op_ltM (PE.var 9) PE.int (nomark _)) (PE.o2 op_subM (PE.var 8) (PE.o2 op_mulM (PE.o2 op_subM (PE.var 3) PE.int) (PE.var 9))) (PE.var 8))) (PSs.one (PS.set (i := 2) sc71.nd rfl (by first | exact .inl rfl | exact .inr rfl) (PE.call D70 G (by decide) rfl (PA.cons (PE.var 2) (PA.cons (PE.tup (PA.cons (PE.var 7) (PA.cons (PE.o2 op_mulM (PE.var 3) (PE.var 9)) PA.nil))) PA.nil)))))))))) (PSs.one (PS.ret (PE.var 2)))))
theorem at71 (T : Tx P w K mg base en CC) {f : Addr} {fd : FuncData} (F : L2.Fun K "_law_measured" "_law_measured" s71 f fd) (hm : mg "_law_measured" = some (.ref f)) (D70 : DefAt P w K mg base en 1 "_law_behind" 2 f70) : DefAt P w K mg base en 2 "_law_measured" 2 f71 :=
  DefAt.mk' hm F (ok71 T F D70) (F.binds fun _ _ _ _ _ _ us hl => match us, hl with | [_, _], _ => rfl)
/-! check_program -/
abbrev s45 : Stmt := top 45
def m45 : SM := (mIfS (bNot (mB (mO1 (opIsi is_Program) (mVar 0)))) (mRaise 4 1 (aCons (mVar 0) aNil)) mNil)
def f45 : FM := mFn 1 1 m45
abbrev mn_check_program : SM := m45
abbrev fn_check_program : FM := f45
theorem sc45 : FnScope ["program"] ["program"] (defScope s45) := ⟨rfl, rfl, rfl, by decide +kernel, rfl, by decide +kernel, by decide +kernel⟩
theorem ok45 (T : Tx P w K mg base en CC) {f : Addr} {fd : FuncData} (F : L2.Fun K "check_program" "check_program" s45 f fd)  : FnG P w K mg base 1 f fd ["program"] (spM en 1 f45) := by
  obtain ⟨oc, od, kV, doc, pm, an, cdv, ct, osl, rfl, lk, hcd⟩ := F.ex
  exact fnG_of lk hcd sc45 T.hK T.sm fun A outer s H E G => (PSs.one (PS.if (PT.not (PT.val (PE.isi G.K (.own _) T.is_Program rfl T.b_isinstance (PE.var 0) (pe_glob rfl T.g_Program rfl)))) (PSs.one (PS.raise T.e4 G rfl (PA.cons (PE.var 0) PA.nil))) PSs.nil))
theorem at45 (T : Tx P w K mg base en CC) {f : Addr} {fd : FuncData} (F : L2.Fun K "check_program" "check_program" s45 f fd) (hm : mg "check_program" = some (.ref f))  : DefAt P w K mg base en 1 "check_program" 1 f45 :=
  DefAt.mk' hm F (ok45 T F ) (F.binds fun _ _ _ _ _ _ us hl => match us, hl with | [_], _ => rfl)
/-! ('Program', 'moves') -/
abbrev s_Program_moves : Stmt := inClass (top 39) 2
def m_Program_moves : SM := (mRet (mOA (un1 opList) (aCons (mO1 (opFld x__moves) (mVar 0)) aNil)))
def f_Program_moves : FM := mFn 1 1 m_Program_moves
theorem sc_Program_moves : FnScope ["self"] ["self"] (defScope s_Program_moves) := ⟨rfl, rfl, rfl, by decide +kernel, rfl, by decide +kernel, by decide +kernel⟩
theorem ok_Program_moves (T : Tx P w K mg base en CC) {f : Addr} {fd : FuncData} (F : L2.Fun K "moves" "Program.moves" s_Program_moves f fd)  : FnG P w K mg base 1 f fd ["self"] (spM en 1 f_Program_moves) := by
  obtain ⟨oc, od, kV, doc, pm, an, cdv, ct, osl, rfl, lk, hcd⟩ := F.ex
  exact fnG_of lk hcd sc_Program_moves T.hK T.sm fun A outer s H E G => (PSs.one (PS.ret (PE.callTy call_listM rfl T.b_list rfl (PA.cons (PE.fld G.K T.x__moves (PE.var 0)) PA.nil))))
theorem at_Program_moves (T : Tx P w K mg base en CC) {f C : Addr} {fd : FuncData} (F : L2.Fun K "moves" "Program.moves" s_Program_moves f fd) (cf : ClsF en 9 C ["_places", "_moves", "_walks"]) (hm : Meth K C "moves" f)  : MethAt P w K mg base en 1 9 "moves" 1 f_Program_moves :=
  ⟨⟨f, fd, _, C, _, cf, by decide +kernel, hm, ok_Program_moves T F , (F.binds fun _ _ _ _ _ _ us hl => match us, hl with | [_], _ => rfl)⟩, fun vs h e => mFn_len e⟩
/-! _is_part -/
abbrev s56 : Stmt := top 56
def m56 : SM := (mSeq (mIfS (bOr (bNot (mB (mO1 (opIsi is_tuple) (mVar 0)))) (mB (mO2 (eqD true) (mOA (un1 opLen) (aCons (mVar 0) aNil)) (mC (.int 2))))) (mRet (mC (.bl false))) mNil) (mSeq (mAsg (gTupM 2 (gsCons (gVar 2) (gsCons (gVar 3) gsNil))) (mVar 0)) (mSeq (mIfS (bOr (bNot (mTru (mCall f12 (aCons (mVar 2) aNil)))) (bOr (mB (mO2 opLt (mVar 2) (mC (.int 1)))) (bOr (bNot (mB (mO1 (opIsi is_list) (mVar 3)))) (bNot (mTru (mVar 3)))))) (mRet (mC (.bl false))) mNil) (mRet (mOA (un1 opAll) (aCons (mLc (mWalk (mVar 3)) (gVar 4) bYes (mCall f13 (aCons (mVar 4) (aCons (mC (.int 0)) (aCons (mO2 opSub (mVar 1) (mC (.int 1))) aNil)))) [4]) aNil))))))
def f56 : FM := mFn 2 5 m56
abbrev mn__is_part : SM := m56
abbrev fn__is_part : FM := f56
theorem sc56 : FnScope ["item", "many", "times", "numbers", "number"] ["item", "many"] (defScope s56) := ⟨rfl, rfl, rfl, by decide +kernel, rfl, by decide +kernel, by decide +kernel⟩
theorem ok56 (T : Tx P w K mg base en CC) {f : Addr} {fd : FuncData} (F : L2.Fun K "_is_part" "_is_part" s56 f fd) (D12 : DefAt P w K mg base en 1 "is_whole" 1 f12) (D13 : DefAt P w K mg base en 2 "is_between" 3 f13) : FnG P w K mg base 3 f fd ["item", "many"] (spM en 2 f56) := by
  obtain ⟨oc, od, kV, doc, pm, an, cdv, ct, osl, rfl, lk, hcd⟩ := F.ex
  exact fnG_of lk hcd sc56 T.hK T.sm fun A outer s H E G => (PSs.cons (PS.if (PW.pt (PW.or (PT.not (PT.val (PE.isi G.K (.ty _) T.is_tuple rfl T.b_isinstance (PE.var 0) (pe_bltn rfl T.b_tuple rfl rfl)))) (PW.or1 (PT.cmp (op_neM G.sm G.u64) (PE.callB (call_lenM G.K) rfl T.b_len rfl (PA.cons (PE.var 0) PA.nil)) PE.int (nomark _))))) (PSs.one (PS.ret PE.bl)) PSs.nil) (PSs.cons (PS.asg (PE.var 0) (PG.tup G.calm (PGs.cons (PG.var (i := 2) sc56.nd rfl (by first | exact .inl rfl | exact .inr rfl)) (PGs.cons (PG.var (i := 3) sc56.nd rfl (by first | exact .inl rfl | exact .inr rfl)) PGs.nil)))) (PSs.cons (PS.if (PW.pt (PW.or (PT.not (PT.tru G.K (PE.call D12 G (by decide) rfl (PA.cons (PE.var 2) PA.nil)))) (PW.or (PT.cmp op_ltM (PE.var 2) PE.int (nomark _)) (PW.or (PT.not (PT.val (PE.isi G.K (.ty _) T.is_list rfl T.b_isinstance (PE.var 3) (pe_bltn rfl T.b_list rfl rfl)))) (PW.or1 (PT.not (PT.tru G.K (PE.var 3)))))))) (PSs.one (PS.ret PE.bl)) PSs.nil) (PSs.one (PS.ret (PE.callB (call_allM G.calm) rfl T.b_all rfl (PA.cons (PE.lcG G sc56.nd (PI.walk G.K (PE.var 3)) (own := [("number", 4)]) ⟨rfl, by decide +kernel, of_decide_eq_true (by kernel_rfl), of_decide_eq_true (by kernel_rfl), of_decide_eq_true (by kernel_rfl)⟩ (fun s3 H3 C3 cl3 fp3 G => (PG.var (i := 4) sc56.nd rfl (by first | exact .inl rfl | exact .inr rfl))) (fun s3 H3 C3 cl3 fp3 G => PTs.nil) (fun s3 H3 C3 cl3 fp3 G => (PE.call D13 G (by decide) rfl (PA.cons (PE.var 4) (PA.cons PE.int (PA.cons (PE.o2 op_subM (PE.var 1) PE.int) PA.nil)))))) PA.nil)))))))
theorem at56 (T : Tx P w K mg base en CC) {f : Addr} {fd : FuncData} (F : L2.Fun K "_is_part" "_is_part" s56 f fd) (hm : mg "_is_part" = some (.ref f)) (D12 : DefAt P w K mg base en 1 "is_whole" 1 f12) (D13 : DefAt P w K mg base en 2 "is_between" 3 f13) : DefAt P w K mg base en 3 "_is_part" 2 f56 :=
  DefAt.mk' hm F (ok56 T F D12 D13) (F.binds fun _ _ _ _ _ _ us hl => match us, hl with | [_, _], _ => rfl)
/-! _hangs_together -/
abbrev s57 : Stmt := top 57
def m57 : SM := (mSeq (mSet 2 (mC .non)) (mSeq (mFor (mWalk (mVar 1)) (gTupM 2 (gsCons (gVar 3) (gsCons (gVar 4) gsNil))) (mSeq (mIfS (bAnd (mB (mO2 opGt (mVar 3) (mC (.int 1)))) (mB (mO2 (eqD true) (mO2 opIx (mO2 opIx (mVar 0) (mO2 opIx (mVar 4) (mO1 opNeg (mC (.int 1))))) (mC (.int 3))) (mO2 opIx (mO2 opIx (mVar 0) (mO2 opIx (mVar 4) (mC (.int 0)))) (mC (.int 0)))))) (mRet (mC (.bl false))) mNil) (mFor (mWalk (mVar 4)) (gVar 5) (mSeq (mIfS (bAnd (mB (mO2 opNotN (mVar 2) (mC .non))) (mB (mO2 (eqD true) (mVar 2) (mO2 opIx (mO2 opIx (mVar 0) (mVar 5)) (mC (.int 0)))))) (mRet (mC (.bl false))) mNil) (mSet 2 (mO2 opIx (mO2 opIx (mVar 0) (mVar 5)) (mC (.int 3)))))))) (mRet (mC (.bl true)))))
def f57 : FM := mFn 2 6 m57
abbrev mn__hangs_together : SM := m57
abbrev fn__hangs_together : FM := f57
theorem sc57 : FnScope ["moves", "row", "ahead", "times", "numbers", "number"] ["moves", "row"] (defScope s57) := ⟨rfl, rfl, rfl, by decide +kernel, rfl, by decide +kernel, by decide +kernel⟩
theorem ok57 (T : Tx P w K mg base en CC) {f : Addr} {fd : FuncData} (F : L2.Fun K "_hangs_together" "_hangs_together" s57 f fd)  : FnG P w K mg base 1 f fd ["moves", "row"] (spM en 2 f57) := by
  obtain ⟨oc, od, kV, doc, pm, an, cdv, ct, osl, rfl, lk, hcd⟩ := F.ex
  exact fnG_of lk hcd sc57 T.hK T.sm fun A outer s H E G => (PSs.cons (PS.set (i := 2) sc57.nd rfl (by first | exact .inl rfl | exact .inr rfl) PE.non) (PSs.cons (PS.for G.pass G.calm (PI.walk G.K (PE.var 1)) (PG.tup G.calm (PGs.cons (PG.var (i := 3) sc57.nd rfl (by first | exact .inl rfl | exact .inr rfl)) (PGs.cons (PG.var (i := 4) sc57.nd rfl (by first | exact .inl rfl | exact .inr rfl)) PGs.nil))) (PSs.cons (PS.if (PW.pt (PW.and (PT.cmp op_gtM (PE.var 3) PE.int (nomark _)) (PW.and1 (PT.cmp (op_neM G.sm G.u64) (PE.ix G.K G.u1 (PE.ix G.K G.u1 (PE.var 0) (PE.ix G.K G.u1 (PE.var 4) (PE.un op_negM PE.int) (fun _ _ => rfl)) (fun _ _ => rfl)) PE.int (fun _ _ => rfl)) (PE.ix G.K G.u1 (PE.ix G.K G.u1 (PE.var 0) (PE.ix G.K G.u1 (PE.var 4) PE.int (fun _ _ => rfl)) (fun _ _ => rfl)) PE.int (fun _ _ => rfl)) (nomark _))))) (PSs.one (PS.ret PE.bl)) PSs.nil) (PSs.one (PS.for G.pass G.calm (PI.walk G.K (PE.var 4)) (PG.var (i := 5) sc57.nd rfl (by first | exact .inl rfl | exact .inr rfl)) (PSs.cons (PS.if (PW.pt (PW.and (PT.cmp op_notNM (PE.var 2) PE.non (nomark _)) (PW.and1 (PT.cmp (op_neM G.sm G.u64) (PE.var 2) (PE.ix G.K G.u1 (PE.ix G.K G.u1 (PE.var 0) (PE.var 5) (fun _ _ => rfl)) PE.int (fun _ _ => rfl)) (nomark _))))) (PSs.one (PS.ret PE.bl)) PSs.nil) (PSs.one (PS.set (i := 2) sc57.nd rfl (by first | exact .inl rfl | exact .inr rfl) (PE.ix G.K G.u1 (PE.ix G.K G.u1 (PE.var 0) (PE.var 5) (fun _ _ => rfl)) PE.int (fun _ _ => rfl))))))))) (PSs.one (PS.ret PE.bl))))
theorem at57 (T : Tx P w K mg base en CC) {f : Addr} {fd : FuncData} (F : L2.Fun K "_hangs_together" "_hangs_together" s57 f fd) (hm : mg "_hangs_together" = some (.ref f))  : DefAt P w K mg base en 1 "_hangs_together" 2 f57 :=
  DefAt.mk' hm F (ok57 T F ) (F.binds fun _ _ _ _ _ _ us hl => match us, hl with | [_, _], _ => rfl)
/-! _is_pressed -/
abbrev s55 : Stmt := top 55
def m55 : SM := (mSeq (mSet 2 (mMeth 9 f_Program_moves (mVar 0) aNil)) (mSeq (mIfS (bOr (bNot (mB (mO1 (opIsi is_list) (mVar 1)))) (bNot (mB (mOA (un1 opAll) (aCons (mLc (mWalk (mVar 1)) (gVar 3) bYes (mCall f56 (aCons (mVar 3) (aCons (mOA (un1 opLen) (aCons (mVar 2) aNil)) aNil))) [3]) aNil))))) (mRet (mC (.bl false))) mNil) (mRet (mCall f57 (aCons (mVar 2) (aCons (mVar 1) aNil))))))
def f55 : FM := mFn 2 4 m55
abbrev mn__is_pressed : SM := m55
abbrev fn__is_pressed : FM := f55
theorem sc55 : FnScope ["program", "value", "moves", "item"] ["program", "value"] (defScope s55) := ⟨rfl, rfl, rfl, by decide +kernel, rfl, by decide +kernel, by decide +kernel⟩
theorem ok55 (T : Tx P w K mg base en CC) {f : Addr} {fd : FuncData} (F : L2.Fun K "_is_pressed" "_is_pressed" s55 f fd) (D_Program_moves : MethAt P w K mg base en 1 9 "moves" 1 f_Program_moves) (D56 : DefAt P w K mg base en 3 "_is_part" 2 f56) (D57 : DefAt P w K mg base en 1 "_hangs_together" 2 f57) : FnG P w K mg base 4 f fd ["program", "value"] (spM en 2 f55) := by
  obtain ⟨oc, od, kV, doc, pm, an, cdv, ct, osl, rfl, lk, hcd⟩ := F.ex
  exact fnG_of lk hcd sc55 T.hK T.sm fun A outer s H E G => (PSs.cons (PS.set (i := 2) sc55.nd rfl (by first | exact .inl rfl | exact .inr rfl) (PE.meth0 D_Program_moves G (by decide) (PE.var 0))) (PSs.cons (PS.if (PW.pt (PW.or (PT.not (PT.val (PE.isi G.K (.ty _) T.is_list rfl T.b_isinstance (PE.var 1) (pe_bltn rfl T.b_list rfl rfl)))) (PW.or1 (PT.not (PT.val (PE.callB (call_allM G.calm) rfl T.b_all rfl (PA.cons (PE.lcG G sc55.nd (PI.walk G.K (PE.var 1)) (own := [("item", 3)]) ⟨rfl, by decide +kernel, of_decide_eq_true (by kernel_rfl), of_decide_eq_true (by kernel_rfl), of_decide_eq_true (by kernel_rfl)⟩ (fun s3 H3 C3 cl3 fp3 G => (PG.var (i := 3) sc55.nd rfl (by first | exact .inl rfl | exact .inr rfl))) (fun s3 H3 C3 cl3 fp3 G => PTs.nil) (fun s3 H3 C3 cl3 fp3 G => (PE.call D56 G (by decide) rfl (PA.cons (PE.var 3) (PA.cons (PE.callB (call_lenM G.K) rfl T.b_len rfl (PA.cons (PE.var 2) PA.nil)) PA.nil))))) PA.nil))))))) (PSs.one (PS.ret PE.bl)) PSs.nil) (PSs.one (PS.ret (PE.call D57 G (by decide) rfl (PA.cons (PE.var 2) (PA.cons (PE.var 1) PA.nil)))))))
theorem at55 (T : Tx P w K mg base en CC) {f : Addr} {fd : FuncData} (F : L2.Fun K "_is_pressed" "_is_pressed" s55 f fd) (hm : mg "_is_pressed" = some (.ref f)) (D_Program_moves : MethAt P w K mg base en 1 9 "moves" 1 f_Program_moves) (D56 : DefAt P w K mg base en 3 "_is_part" 2 f56) (D57 : DefAt P w K mg base en 1 "_hangs_together" 2 f57) : DefAt P w K mg base en 4 "_is_pressed" 2 f55 :=
  DefAt.mk' hm F (ok55 T F D_Program_moves D56 D57) (F.binds fun _ _ _ _ _ _ us hl => match us, hl with | [_, _], _ => rfl)
/-! _check_row -/
abbrev s54 : Stmt := top 54
def m54 : SM := (mSeq (mDrop (mCall f45 (aCons (mVar 0) aNil))) (mIfS (bNot (mTru (mCall f55 (aCons (mVar 0) (aCons (mVar 1) aNil))))) (mRaise 5 1 (aCons (mVar 1) aNil)) mNil))
def f54 : FM := mFn 2 2 m54
abbrev mn__check_row : SM := m54
abbrev fn__check_row : FM := f54
theorem sc54 : FnScope ["program", "row"] ["program", "row"] (defScope s54) := ⟨rfl, rfl, rfl, by decide +kernel, rfl, by decide +kernel, by decide +kernel⟩
theorem ok54 (T : Tx P w K mg base en CC) {f : Addr} {fd : FuncData} (F : L2.Fun K "_check_row" "_check_row" s54 f fd) (D45 : DefAt P w K mg base en 1 "check_program" 1 f45) (D55 : DefAt P w K mg base en 4 "_is_pressed" 2 f55) : FnG P w K mg base 5 f fd ["program", "row"] (spM en 2 f54) := by
  obtain ⟨oc, od, kV, doc, pm, an, cdv, ct, osl, rfl, lk, hcd⟩ := F.ex
  exact fnG_of lk hcd sc54 T.hK T.sm fun A outer s H E G => (PSs.cons (PS.expr (PE.call D45 G (by decide) rfl (PA.cons (PE.var 0) PA.nil))) (PSs.one (PS.if (PT.not (PT.tru G.K (PE.call D55 G (by decide) rfl (PA.cons (PE.var 0) (PA.cons (PE.var 1) PA.nil))))) (PSs.one (PS.raise T.e5 G rfl (PA.cons (PE.var 1) PA.nil))) PSs.nil)))
theorem at54 (T : Tx P w K mg base en CC) {f : Addr} {fd : FuncData} (F : L2.Fun K "_check_row" "_check_row" s54 f fd) (hm : mg "_check_row" = some (.ref f)) (D45 : DefAt P w K mg base en 1 "check_program" 1 f45) (D55 : DefAt P w K mg base en 4 "_is_pressed" 2 f55) : DefAt P w K mg base en 5 "_check_row" 2 f54 :=
  DefAt.mk' hm F (ok54 T F D45 D55) (F.binds fun _ _ _ _ _ _ us hl => match us, hl with | [_, _], _ => rfl)
/-! _need_and_change_once -/
abbrev s61 : Stmt := top 61
def m61 : SM := (mSeq (mSet 2 (mC (.int 0))) (mSeq (mSet 3 (mC (.int 0))) (mSeq (mFor (mWalk (mVar 1)) (gVar 4) (mSeq (mSet 2 (mOA (bin2 opMax) (aCons (mVar 2) (aCons (mO2 opSub (mO2 opIx (mO2 opIx (mVar 0) (mVar 4)) (mC (.int 1))) (mVar 3)) aNil)))) (mAug 3 opAddI (mO2 opIx (mO2 opIx (mVar 0) (mVar 4)) (mC (.int 2)))))) (mRet (mOA opTup (aCons (mVar 2) (aCons (mVar 3) aNil)))))))
def f61 : FM := mFn 2 5 m61
abbrev mn__need_and_change_once : SM := m61
abbrev fn__need_and_change_once : FM := f61
theorem sc61 : FnScope ["moves", "numbers", "need", "change", "number"] ["moves", "numbers"] (defScope s61) := ⟨rfl, rfl, rfl, by decide +kernel, rfl, by decide +kernel, by decide +kernel⟩
theorem ok61 (T : Tx P w K mg base en CC) {f : Addr} {fd : FuncData} (F : L2.Fun K "_need_and_change_once" "_need_and_change_once" s61 f fd)  : FnG P w K mg base 1 f fd ["moves", "numbers"] (spM en 2 f61) := by
  obtain ⟨oc, od, kV, doc, pm, an, cdv, ct, osl, rfl, lk, hcd⟩ := F.ex
  exact fnG_of lk hcd sc61 T.hK T.sm fun A outer s H E G => (PSs.cons (PS.set (i := 2) sc61.nd rfl (by first | exact .inl rfl | exact .inr rfl) PE.int) (PSs.cons (PS.set (i := 3) sc61.nd rfl (by first | exact .inl rfl | exact .inr rfl) PE.int) (PSs.cons (PS.for G.pass G.calm (PI.walk G.K (PE.var 1)) (PG.var (i := 4) sc61.nd rfl (by first | exact .inl rfl | exact .inr rfl)) (PSs.cons (PS.set (i := 2) sc61.nd rfl (by first | exact .inl rfl | exact .inr rfl) (PE.callB (call_maxM G.calm) rfl T.b_max rfl (PA.cons (PE.var 2) (PA.cons (PE.o2 op_subM (PE.ix G.K G.u1 (PE.ix G.K G.u1 (PE.var 0) (PE.var 4) (fun _ _ => rfl)) PE.int (fun _ _ => rfl)) (PE.var 3)) PA.nil)))) (PSs.one (PS.aug (i := 3) sc61.nd rfl (by first | exact .inl rfl | exact .inr rfl) (PE.ix G.K G.u1 (PE.ix G.K G.u1 (PE.var 0) (PE.var 4) (fun _ _ => rfl)) PE.int (fun _ _ => rfl)) ip_addM)))) (PSs.one (PS.ret (PE.tup (PA.cons (PE.var 2) (PA.cons (PE.var 3) PA.nil))))))))
theorem at61 (T : Tx P w K mg base en CC) {f : Addr} {fd : FuncData} (F : L2.Fun K "_need_and_change_once" "_need_and_change_once" s61 f fd) (hm : mg "_need_and_change_once" = some (.ref f))  : DefAt P w K mg base en 1 "_need_and_change_once" 2 f61 :=
  DefAt.mk' hm F (ok61 T F ) (F.binds fun _ _ _ _ _ _ us hl => match us, hl with | [_, _], _ => rfl)
/-! need_and_change -/
abbrev s60 : Stmt := top 60
def m60 : SM := (mSeq (mSet 2 (mC (.int 0))) (mSeq (mSet 3 (mC (.int 0))) (mSeq (mFor (mWalk (mVar 1)) (gTupM 2 (gsCons (gVar 4) (gsCons (gVar 5) gsNil))) (mSeq (mAsg (gTupM 2 (gsCons (gVar 6) (gsCons (gVar 7) gsNil))) (mCall f61 (aCons (mVar 0) (aCons (mVar 5) aNil)))) (mSeq (mSet 2 (mOA (bin2 opMax) (aCons (mVar 2) (aCons (mO2 opSub (mO2 opAdd (mVar 6) (mO2 opMul (mO2 opSub (mVar 4) (mC (.int 1))) (mOA (bin2 opMax) (aCons (mC (.int 0)) (aCons (mO1 opNeg (mVar 7)) aNil))))) (mVar 3)) aNil)))) (mAug 3 opAddI (mO2 opMul (mVar 4) (mVar 7)))))) (mRet (mOA opTup (aCons (mVar 2) (aCons (mVar 3) aNil)))))))
def f60 : FM := mFn 2 8 m60
abbrev mn_need_and_change : SM := m60
abbrev fn_need_and_change : FM := f60
theorem sc60 : FnScope ["moves", "row", "need", "change", "times", "numbers", "once", "raised"] ["moves", "row"] (defScope s60) := ⟨rfl, rfl, rfl, by decide +kernel, rfl, by decide +kernel, by decide +kernel⟩
theorem ok60 (T : Tx P w K mg base en CC) {f : Addr} {fd : FuncData} (F : L2.Fun K "need_and_change" "need_and_change" s60 f fd) (D61 : DefAt P w K mg base en 1 "_need_and_change_once" 2 f61) : FnG P w K mg base 2 f fd ["moves", "row"] (spM en 2 f60) := by
  obtain ⟨oc, od, kV, doc, pm, an, cdv, ct, osl, rfl, lk, hcd⟩ := F.ex
  exact fnG_of lk hcd sc60 T.hK T.sm fun A outer s H E G => (PSs.cons (PS.set (i := 2) sc60.nd rfl (by first | exact .inl rfl | exact .inr rfl) PE.int) (PSs.cons (PS.set (i := 3) sc60.nd rfl (by first | exact .inl rfl | exact .inr rfl) PE.int) (PSs.cons (PS.for G.pass G.calm (PI.walk G.K (PE.var 1)) (PG.tup G.calm (PGs.cons (PG.var (i := 4) sc60.nd rfl (by first | exact .inl rfl | exact .inr rfl)) (PGs.cons (PG.var (i := 5) sc60.nd rfl (by first | exact .inl rfl | exact .inr rfl)) PGs.nil))) (PSs.cons (PS.asg (PE.call D61 G (by decide) rfl (PA.cons (PE.var 0) (PA.cons (PE.var 5) PA.nil))) (PG.tup G.calm (PGs.cons (PG.var (i := 6) sc60.nd rfl (by first | exact .inl rfl | exact .inr rfl)) (PGs.cons (PG.var (i := 7) sc60.nd rfl (by first | exact .inl rfl | exact .inr rfl)) PGs.nil)))) (PSs.cons (PS.set (i := 2) sc60.nd rfl (by first | exact .inl rfl | exact .inr rfl) (PE.callB (call_maxM G.calm) rfl T.b_max rfl (PA.cons (PE.var 2) (PA.cons (PE.o2 op_subM (PE.o2 op_addM (PE.var 6) (PE.o2 op_mulM (PE.o2 op_subM (PE.var 4) PE.int) (PE.callB (call_maxM G.calm) rfl T.b_max rfl (PA.cons PE.int (PA.cons (PE.un op_negM (PE.var 7)) PA.nil))))) (PE.var 3)) PA.nil)))) (PSs.one (PS.aug (i := 3) sc60.nd rfl (by first | exact .inl rfl | exact .inr rfl) (PE.o2 op_mulM (PE.var 4) (PE.var 7)) ip_addM))))) (PSs.one (PS.ret (PE.tup (PA.cons (PE.var 2) (PA.cons (PE.var 3) PA.nil))))))))
theorem at60 (T : Tx P w K mg base en CC) {f : Addr} {fd : FuncData} (F : L2.Fun K "need_and_change" "need_and_change" s60 f fd) (hm : mg "need_and_change" = some (.ref f)) (D61 : DefAt P w K mg base en 1 "_need_and_change_once" 2 f61) : DefAt P w K mg base en 2 "need_and_change" 2 f60 :=
  DefAt.mk' hm F (ok60 T F D61) (F.binds fun _ _ _ _ _ _ us hl => match us, hl with | [_, _], _ => rfl)
/-! change_of -/
abbrev s50 : Stmt := top 50
def m50 : SM := (mSeq (mDrop (mCall f54 (aCons (mVar 0) (aCons (mVar 1) aNil)))) (mRet (mO2 opIx (mCall f60 (aCons (mMeth 9 f_Program_moves (mVar 0) aNil) (aCons (mVar 1) aNil))) (mC (.int 1)))))
def f50 : FM := mFn 2 2 m50
abbrev mn_change_of : SM := m50
abbrev fn_change_of : FM := f50
theorem sc50 : FnScope ["program", "row"] ["program", "row"] (defScope s50) := ⟨rfl, rfl, rfl, by decide +kernel, rfl, by decide +kernel, by decide +kernel⟩
theorem ok50 (T : Tx P w K mg base en CC) {f : Addr} {fd : FuncData} (F : L2.Fun K "change_of" "change_of" s50 f fd) (D54 : DefAt P w K mg base en 5 "_check_row" 2 f54) (D60 : DefAt P w K mg base en 2 "need_and_change" 2 f60) (D_Program_moves : MethAt P w K mg base en 1 9 "moves" 1 f_Program_moves) : FnG P w K mg base 6 f fd ["program", "row"] (spM en 2 f50) := by
  obtain ⟨oc, od, kV, doc, pm, an, cdv, ct, osl, rfl, lk, hcd⟩ := F.ex
  exact fnG_of lk hcd sc50 T.hK T.sm fun A outer s H E G => (PSs.cons (PS.expr (PE.call D54 G (by decide) rfl (PA.cons (PE.var 0) (PA.cons (PE.var 1) PA.nil)))) (PSs.one (PS.ret (PE.ix G.K G.u1 (PE.call D60 G (by decide) rfl (PA.cons (PE.meth0 D_Program_moves G (by decide) (PE.var 0)) (PA.cons (PE.var 1) PA.nil))) PE.int (fun _ _ => rfl)))))
theorem at50 (T : Tx P w K mg base en CC) {f : Addr} {fd : FuncData} (F : L2.Fun K "change_of" "change_of" s50 f fd) (hm : mg "change_of" = some (.ref f)) (D54 : DefAt P w K mg base en 5 "_check_row" 2 f54) (D60 : DefAt P w K mg base en 2 "need_and_change" 2 f60) (D_Program_moves : MethAt P w K mg base en 1 9 "moves" 1 f_Program_moves) : DefAt P w K mg base en 6 "change_of" 2 f50 :=
  DefAt.mk' hm F (ok50 T F D54 D60 D_Program_moves) (F.binds fun _ _ _ _ _ _ us hl => match us, hl with | [_, _], _ => rfl)
/-! need_of -/
abbrev s51 : Stmt := top 51
def m51 : SM := (mSeq (mDrop (mCall f54 (aCons (mVar 0) (aCons (mVar 1) aNil)))) (mRet (mO2 opIx (mCall f60 (aCons (mMeth 9 f_Program_moves (mVar 0) aNil) (aCons (mVar 1) aNil))) (mC (.int 0)))))
def f51 : FM := mFn 2 2 m51
abbrev mn_need_of : SM := m51
abbrev fn_need_of : FM := f51
theorem sc51 : FnScope ["program", "row"] ["program", "row"] (defScope s51) := ⟨rfl, rfl, rfl, by decide +kernel, rfl, by decide +kernel, by decide +kernel⟩
theorem ok51 (T : Tx P w K mg base en CC) {f : Addr} {fd : FuncData} (F : L2.Fun K "need_of" "need_of" s51 f fd) (D54 : DefAt P w K mg base en 5 "_check_row" 2 f54) (D60 : DefAt P w K mg base en 2 "need_and_change" 2 f60) (D_Program_moves : MethAt P w K mg base en 1 9 "moves" 1 f_Program_moves) : FnG P w K mg base 6 f fd ["program", "row"] (spM en 2 f51) := by
  obtain ⟨oc, od, kV, doc, pm, an, cdv, ct, osl, rfl, lk, hcd⟩ := F.ex
  exact fnG_of lk hcd sc51 T.hK T.sm fun A outer s H E G => (PSs.cons (PS.expr (PE.call D54 G (by decide) rfl (PA.cons (PE.var 0) (PA.cons (PE.var 1) PA.nil)))) (PSs.one (PS.ret (PE.ix G.K G.u1 (PE.call D60 G (by decide) rfl (PA.cons (PE.meth0 D_Program_moves G (by decide) (PE.var 0)) (PA.cons (PE.var 1) PA.nil))) PE.int (fun _ _ => rfl)))))
theorem at51 (T : Tx P w K mg base en CC) {f : Addr} {fd : FuncData} (F : L2.Fun K "need_of" "need_of" s51 f fd) (hm : mg "need_of" = some (.ref f)) (D54 : DefAt P w K mg base en 5 "_check_row" 2 f54) (D60 : DefAt P w K mg base en 2 "need_and_change" 2 f60) (D_Program_moves : MethAt P w K mg base en 1 9 "moves" 1 f_Program_moves) : DefAt P w K mg base en 6 "need_of" 2 f51 :=
  DefAt.mk' hm F (ok51 T F D54 D60 D_Program_moves) (F.binds fun _ _ _ _ _ _ us hl => match us, hl with | [_, _], _ => rfl)
/-! _law_is_whole -/
abbrev s73 : Stmt := top 73
def m73 : SM := (mRet (mAnd (mO1 (opIsi is_int) (mVar 0)) (mNot (mO1 (opIsi is_bool) (mVar 0)))))
def f73 : FM := mFn 1 1 m73
abbrev mn__law_is_whole : SM := m73
abbrev fn__law_is_whole : FM := f73
theorem sc73 : FnScope ["_law_value"] ["_law_value"] (defScope s73) := ⟨rfl, rfl, rfl, by decide +kernel, rfl, by decide +kernel, by decide +kernel⟩
theorem ok73 (T : Tx P w K mg base en CC) {f : Addr} {fd : FuncData} (F : L2.Fun K "_law_is_whole" "_law_is_whole" s73 f fd)  : FnG P w K mg base 1 f fd ["_law_value"] (spM en 1 f73) := by
  obtain ⟨oc, od, kV, doc, pm, an, cdv, ct, osl, rfl, lk, hcd⟩ := F.ex
  exact fnG_of lk hcd sc73 T.hK T.sm fun A outer s H E G => (PSs.one (PS.ret (PE.and (PE.isi G.K (.ty _) T.is_int rfl T.b_isinstance (PE.var 0) (pe_bltn rfl T.b_int rfl rfl)) (PE.and1 (PE.not (PE.isi G.K (.ty _) T.is_bool rfl T.b_isinstance (PE.var 0) (pe_bltn rfl T.b_bool rfl rfl)))))))
theorem at73 (T : Tx P w K mg base en CC) {f : Addr} {fd : FuncData} (F : L2.Fun K "_law_is_whole" "_law_is_whole" s73 f fd) (hm : mg "_law_is_whole" = some (.ref f))  : DefAt P w K mg base en 1 "_law_is_whole" 1 f73 :=
  DefAt.mk' hm F (ok73 T F ) (F.binds fun _ _ _ _ _ _ us hl => match us, hl with | [_], _ => rfl)
/-! _law_last -/
abbrev s72 : Stmt := top 72
def m72 : SM := (mSeq (mSet 3 (mVar 1)) (mSeq (mIfS (bNot (mB (mO1 (opIsi is_list) (mVar 2)))) (mRet (mC .non)) mNil) (mSeq (mFor (mWalk (mVar 2)) (gVar 4) (mSeq (mIfS (bOr (bNot (mB (mO1 (opIsi is_tuple) (mVar 4)))) (bOr (mB (mO2 (eqD true) (mOA (un1 opLen) (aCons (mVar 4) aNil)) (mC (.int 2)))) (bOr (bNot (mTru (mCall f73 (aCons (mO2 opIx (mVar 4) (mC (.int 0))) aNil)))) (mB (mO2 opLt (mO2 opIx (mVar 4) (mC (.int 0))) (mC (.int 1))))))) (mRet (mC .non)) mNil) (mSeq (mIfS (bOr (bNot (mB (mO1 (opIsi is_list) (mO2 opIx (mVar 4) (mC (.int 1)))))) (mB (mO2 (eqD false) (mO2 opIx (mVar 4) (mC (.int 1))) (mOA opLst aNil)))) (mRet (mC .non)) mNil) (mSeq (mSet 5 (mVar 3)) (mSeq (mFor (mWalk (mO2 opIx (mVar 4) (mC (.int 1)))) (gVar 6) (mSeq (mIfS (bOr (bNot (mTru (mCall f73 (aCons (mVar 6) aNil)))) (bOr (bNot (mB (mChain opLe opLt (mC (.int 0)) (mVar 6) (mOA (un1 opLen) (aCons (mO2 opIx (mVar 0) (mC (.int 1))) aNil))))) (mB (mO2 (eqD true) (mO2 opIx (mO2 opIx (mO2 opIx (mVar 0) (mC (.int 1))) (mVar 6)) (mC (.int 0))) (mVar 3))))) (mRet (mC .non)) mNil) (mSet 3 (mO2 opIx (mO2 opIx (mO2 opIx (mVar 0) (mC (.int 1))) (mVar 6)) (mC (.int 3)))))) (mIfS (bAnd (mB (mO2 opGt (mO2 opIx (mVar 4) (mC (.int 0))) (mC (.int 1)))) (mB (mO2 (eqD true) (mVar 3) (mVar 5)))) (mRet (mC .non)) mNil)))))) (mRet (mVar 3)))))
def f72 : FM := mFn 3 7 m72
abbrev mn__law_last : SM := m72
abbrev fn__law_last : FM := f72
theorem sc72 : FnScope ["_law_parts_here", "_law_place", "_law_row", "_law_last_here", "_law_part", "_law_begin", "_law_number"] ["_law_parts_here", "_law_place", "_law_row"] (defScope s72) := ⟨rfl, rfl, rfl, by decide +kernel, rfl, by decide +kernel, by decide +kernel⟩
theorem ok72 (T : Tx P w K mg base en CC) {f : Addr} {fd : FuncData} (F : L2.Fun K "_law_last" "_law_last" s72 f fd) (D73 : DefAt P w K mg base en 1 "_law_is_whole" 1 f73) : FnG P w K mg base 2 f fd ["_law_parts_here", "_law_place", "_law_row"] (spM en 3 f72) := by
  obtain ⟨oc, od, kV, doc, pm, an, cdv, ct, osl, rfl, lk, hcd⟩ := F.ex
  exact fnG_of lk hcd sc72 T.hK T.sm fun A outer s H E G => (PSs.cons (PS.set (i := 3) sc72.nd rfl (by first | exact .inl rfl | exact .inr rfl) (PE.var 1)) (PSs.cons (PS.if (PT.not (PT.val (PE.isi G.K (.ty _) T.is_list rfl T.b_isinstance (PE.var 2) (pe_bltn rfl T.b_list rfl rfl)))) (PSs.one (PS.ret PE.non)) PSs.nil) (PSs.cons (PS.for G.pass G.calm (PI.walk G.K (PE.var 2)) (PG.var (i := 4) sc72.nd rfl (by first | exact .inl rfl | exact .inr rfl)) (PSs.cons (PS.if (PW.pt (PW.or (PT.not (PT.val (PE.isi G.K (.ty _) T.is_tuple rfl T.b_isinstance (PE.var 4) (pe_bltn rfl T.b_tuple rfl rfl)))) (PW.or (PT.cmp (op_neM G.sm G.u64) (PE.callB (call_lenM G.K) rfl T.b_len rfl (PA.cons (PE.var 4) PA.nil)) PE.int (nomark _)) (PW.or (PT.not (PT.tru G.K (PE.call D73 G (by decide) rfl (PA.cons (PE.ix G.K G.u1 (PE.var 4) PE.int (fun _ _ => rfl)) PA.nil)))) (PW.or1 (PT.cmp op_ltM (PE.ix G.K G.u1 (PE.var 4) PE.int (fun _ _ => rfl)) PE.int (nomark _))))))) (PSs.one (PS.ret PE.non)) PSs.nil) (PSs.cons (PS.if (PW.pt (PW.or (PT.not (PT.val (PE.isi G.K (.ty _) T.is_list rfl T.b_isinstance (PE.ix G.K G.u1 (PE.var 4) PE.int (fun _ _ => rfl)) (pe_bltn rfl T.b_list rfl rfl)))) (PW.or1 (PT.cmp (op_eqM G.sm G.u64) (PE.ix G.K G.u1 (PE.var 4) PE.int (fun _ _ => rfl)) (PE.lst PA.nil) (nomark _))))) (PSs.one (PS.ret PE.non)) PSs.nil) (PSs.cons (PS.set (i := 5) sc72.nd rfl (by first | exact .inl rfl | exact .inr rfl) (PE.var 3)) (PSs.cons (PS.for G.pass G.calm (PI.walk G.K (PE.ix G.K G.u1 (PE.var 4) PE.int (fun _ _ => rfl))) (PG.var (i := 6) sc72.nd rfl (by first | exact .inl rfl | exact .inr rfl)) (PSs.cons (PS.if (PW.pt (PW.or (PT.not (PT.tru G.K (PE.call D73 G (by decide) rfl (PA.cons (PE.var 6) PA.nil)))) (PW.or (PT.not (PT.chain op_leM op_ltM PE.int (PE.var 6) (PE.callB (call_lenM G.K) rfl T.b_len rfl (PA.cons (PE.ix G.K G.u1 (PE.var 0) PE.int (fun _ _ => rfl)) PA.nil)))) (PW.or1 (PT.cmp (op_neM G.sm G.u64) (PE.ix G.K G.u1 (PE.ix G.K G.u1 (PE.ix G.K G.u1 (PE.var 0) PE.int (fun _ _ => rfl)) (PE.var 6) (fun _ _ => rfl)) PE.int (fun _ _ => rfl)) (PE.var 3) (nomark _)))))) (PSs.one (PS.ret PE.non)) PSs.nil) (PSs.one (PS.set (i := 3) sc72.nd rfl (by first | exact .inl rfl | exact .inr rfl) (PE.ix G.K G.u1 (PE.ix G.K G.u1 (PE.ix G.K G.u1 (PE.var 0) PE.int (fun _ _ => rfl)) (PE.var 6) (fun _ _ => rfl)) PE.int (fun _ _ => rfl)))))) (PSs.one (PS.if (PW.pt (PW.and (PT.cmp op_gtM (PE.ix G.K G.u1 (PE.var 4) PE.int (fun _ _ => rfl)) PE.int (nomark _)) (PW.and1 (PT.cmp (op_neM G.sm G.u64) (PE.var 3) (PE.var 5) (nomark _))))) (PSs.one (PS.ret PE.non)) PSs.nil))))))) (PSs.one (PS.ret (PE.var 3))))))
theorem at72 (T : Tx P w K mg base en CC) {f : Addr} {fd : FuncData} (F : L2.Fun K "_law_last" "_law_last" s72 f fd) (hm : mg "_law_last" = some (.ref f)) (D73 : DefAt P w K mg base en 1 "_law_is_whole" 1 f73) : DefAt P w K mg base en 2 "_law_last" 3 f72 :=
  DefAt.mk' hm F (ok72 T F D73) (F.binds fun _ _ _ _ _ _ us hl => match us, hl with | [_, _, _], _ => rfl)
/-! ('Program', 'places') -/
abbrev s_Program_places : Stmt := inClass (top 39) 1
def m_Program_places : SM := (mRet (mOA (un1 opList) (aCons (mO1 (opFld x__places) (mVar 0)) aNil)))
def f_Program_places : FM := mFn 1 1 m_Program_places
theorem sc_Program_places : FnScope ["self"] ["self"] (defScope s_Program_places) := ⟨rfl, rfl, rfl, by decide +kernel, rfl, by decide +kernel, by decide +kernel⟩
theorem ok_Program_places (T : Tx P w K mg base en CC) {f : Addr} {fd : FuncData} (F : L2.Fun K "places" "Program.places" s_Program_places f fd)  : FnG P w K mg base 1 f fd ["self"] (spM en 1 f_Program_places) := by
  obtain ⟨oc, od, kV, doc, pm, an, cdv, ct, osl, rfl, lk, hcd⟩ := F.ex
  exact fnG_of lk hcd sc_Program_places T.hK T.sm fun A outer s H E G => (PSs.one (PS.ret (PE.callTy call_listM rfl T.b_list rfl (PA.cons (PE.fld G.K T.x__places (PE.var 0)) PA.nil))))
theorem at_Program_places (T : Tx P w K mg base en CC) {f C : Addr} {fd : FuncData} (F : L2.Fun K "places" "Program.places" s_Program_places f fd) (cf : ClsF en 9 C ["_places", "_moves", "_walks"]) (hm : Meth K C "places" f)  : MethAt P w K mg base en 1 9 "places" 1 f_Program_places :=
  ⟨⟨f, fd, _, C, _, cf, by decide +kernel, hm, ok_Program_places T F , (F.binds fun _ _ _ _ _ _ us hl => match us, hl with | [_], _ => rfl)⟩, fun vs h e => mFn_len e⟩
/-! check_place -/
abbrev s46 : Stmt := top 46
def m46 : SM := (mIfS (bOr (bNot (mB (mO1 (opIsi is_str) (mVar 1)))) (mB (mO2 (opIn true) (mVar 1) (mMeth 9 f_Program_places (mVar 0) aNil)))) (mRaise 6 1 (aCons (mVar 1) aNil)) mNil)
def f46 : FM := mFn 2 2 m46
abbrev mn_check_place : SM := m46
abbrev fn_check_place : FM := f46
theorem sc46 : FnScope ["program", "place"] ["program", "place"] (defScope s46) := ⟨rfl, rfl, rfl, by decide +kernel, rfl, by decide +kernel, by decide +kernel⟩
theorem ok46 (T : Tx P w K mg base en CC) {f : Addr} {fd : FuncData} (F : L2.Fun K "check_place" "check_place" s46 f fd) (D_Program_places : MethAt P w K mg base en 1 9 "places" 1 f_Program_places) : FnG P w K mg base 2 f fd ["program", "place"] (spM en 2 f46) := by
  obtain ⟨oc, od, kV, doc, pm, an, cdv, ct, osl, rfl, lk, hcd⟩ := F.ex
  exact fnG_of lk hcd sc46 T.hK T.sm fun A outer s H E G => (PSs.one (PS.if (PW.pt (PW.or (PT.not (PT.val (PE.isi G.K (.ty _) T.is_str rfl T.b_isinstance (PE.var 1) (pe_bltn rfl T.b_str rfl rfl)))) (PW.or1 (PT.cmp (op_notInM G.u1) (PE.var 1) (PE.meth0 D_Program_places G (by decide) (PE.var 0)) (by with_unfolding_all rfl))))) (PSs.one (PS.raise T.e6 G rfl (PA.cons (PE.var 1) PA.nil))) PSs.nil))
theorem at46 (T : Tx P w K mg base en CC) {f : Addr} {fd : FuncData} (F : L2.Fun K "check_place" "check_place" s46 f fd) (hm : mg "check_place" = some (.ref f)) (D_Program_places : MethAt P w K mg base en 1 9 "places" 1 f_Program_places) : DefAt P w K mg base en 2 "check_place" 2 f46 :=
  DefAt.mk' hm F (ok46 T F D_Program_places) (F.binds fun _ _ _ _ _ _ us hl => match us, hl with | [_, _], _ => rfl)
/-! check_counter -/
abbrev s47 : Stmt := top 47
def m47 : SM := (mIfS (bOr (bNot (mTru (mCall f12 (aCons (mVar 0) aNil)))) (mB (mO2 opLt (mVar 0) (mC (.int 0))))) (mRaise 1 1 (aCons (mVar 0) aNil)) mNil)
def f47 : FM := mFn 1 1 m47
abbrev mn_check_counter : SM := m47
abbrev fn_check_counter : FM := f47
theorem sc47 : FnScope ["value"] ["value"] (defScope s47) := ⟨rfl, rfl, rfl, by decide +kernel, rfl, by decide +kernel, by decide +kernel⟩
theorem ok47 (T : Tx P w K mg base en CC) {f : Addr} {fd : FuncData} (F : L2.Fun K "check_counter" "check_counter" s47 f fd) (D12 : DefAt P w K mg base en 1 "is_whole" 1 f12) : FnG P w K mg base 2 f fd ["value"] (spM en 1 f47) := by
  obtain ⟨oc, od, kV, doc, pm, an, cdv, ct, osl, rfl, lk, hcd⟩ := F.ex
  exact fnG_of lk hcd sc47 T.hK T.sm fun A outer s H E G => (PSs.one (PS.if (PW.pt (PW.or (PT.not (PT.tru G.K (PE.call D12 G (by decide) rfl (PA.cons (PE.var 0) PA.nil)))) (PW.or1 (PT.cmp op_ltM (PE.var 0) PE.int (nomark _))))) (PSs.one (PS.raise T.e1 G rfl (PA.cons (PE.var 0) PA.nil))) PSs.nil))
theorem at47 (T : Tx P w K mg base en CC) {f : Addr} {fd : FuncData} (F : L2.Fun K "check_counter" "check_counter" s47 f fd) (hm : mg "check_counter" = some (.ref f)) (D12 : DefAt P w K mg base en 1 "is_whole" 1 f12) : DefAt P w K mg base en 2 "check_counter" 1 f47 :=
  DefAt.mk' hm F (ok47 T F D12) (F.binds fun _ _ _ _ _ _ us hl => match us, hl with | [_], _ => rfl)
/-! check_start -/
abbrev s48 : Stmt := top 48
def m48 : SM := (mSeq (mDrop (mCall f45 (aCons (mVar 0) aNil))) (mSeq (mDrop (mCall f46 (aCons (mVar 0) (aCons (mVar 1) aNil)))) (mDrop (mCall f47 (aCons (mVar 2) aNil)))))
def f48 : FM := mFn 3 3 m48
abbrev mn_check_start : SM := m48
abbrev fn_check_start : FM := f48
theorem sc48 : FnScope ["program", "place", "counter"] ["program", "place", "counter"] (defScope s48) := ⟨rfl, rfl, rfl, by decide +kernel, rfl, by decide +kernel, by decide +kernel⟩
theorem ok48 (T : Tx P w K mg base en CC) {f : Addr} {fd : FuncData} (F : L2.Fun K "check_start" "check_start" s48 f fd) (D45 : DefAt P w K mg base en 1 "check_program" 1 f45) (D46 : DefAt P w K mg base en 2 "check_place" 2 f46) (D47 : DefAt P w K mg base en 2 "check_counter" 1 f47) : FnG P w K mg base 3 f fd ["program", "place", "counter"] (spM en 3 f48) := by
  obtain ⟨oc, od, kV, doc, pm, an, cdv, ct, osl, rfl, lk, hcd⟩ := F.ex
  exact fnG_of lk hcd sc48 T.hK T.sm fun A outer s H E G => (PSs.cons (PS.expr (PE.call D45 G (by decide) rfl (PA.cons (PE.var 0) PA.nil))) (PSs.cons (PS.expr (PE.call D46 G (by decide) rfl (PA.cons (PE.var 0) (PA.cons (PE.var 1) PA.nil)))) (PSs.one (PS.expr (PE.call D47 G (by decide) rfl (PA.cons (PE.var 2) PA.nil))))))
theorem at48 (T : Tx P w K mg base en CC) {f : Addr} {fd : FuncData} (F : L2.Fun K "check_start" "check_start" s48 f fd) (hm : mg "check_start" = some (.ref f)) (D45 : DefAt P w K mg base en 1 "check_program" 1 f45) (D46 : DefAt P w K mg base en 2 "check_place" 2 f46) (D47 : DefAt P w K mg base en 2 "check_counter" 1 f47) : DefAt P w K mg base en 3 "check_start" 3 f48 :=
  DefAt.mk' hm F (ok48 T F D45 D46 D47) (F.binds fun _ _ _ _ _ _ us hl => match us, hl with | [_, _, _], _ => rfl)
/-! _begins_at -/
abbrev s58 : Stmt := top 58
def m58 : SM := (mRet (mOr (mNotT (mVar 2)) (mO2 (eqD false) (mO2 opIx (mO2 opIx (mMeth 9 f_Program_moves (mVar 0) aNil) (mO2 opIx (mO2 opIx (mO2 opIx (mVar 2) (mC (.int 0))) (mC (.int 1))) (mC (.int 0)))) (mC (.int 0))) (mVar 1))))
def f58 : FM := mFn 3 3 m58
abbrev mn__begins_at : SM := m58
abbrev fn__begins_at : FM := f58
theorem sc58 : FnScope ["program", "place", "row"] ["program", "place", "row"] (defScope s58) := ⟨rfl, rfl, rfl, by decide +kernel, rfl, by decide +kernel, by decide +kernel⟩
theorem ok58 (T : Tx P w K mg base en CC) {f : Addr} {fd : FuncData} (F : L2.Fun K "_begins_at" "_begins_at" s58 f fd) (D_Program_moves : MethAt P w K mg base en 1 9 "moves" 1 f_Program_moves) : FnG P w K mg base 2 f fd ["program", "place", "row"] (spM en 3 f58) := by
  obtain ⟨oc, od, kV, doc, pm, an, cdv, ct, osl, rfl, lk, hcd⟩ := F.ex
  exact fnG_of lk hcd sc58 T.hK T.sm fun A outer s H E G => (PSs.one (PS.ret (PE.or (PE.notT G.K (PE.var 2)) (PE.and1 (PE.cmp (op_eqM G.sm G.u64) (PE.ix G.K G.u1 (PE.ix G.K G.u1 (PE.meth0 D_Program_moves G (by decide) (PE.var 0)) (PE.ix G.K G.u1 (PE.ix G.K G.u1 (PE.ix G.K G.u1 (PE.var 2) PE.int (fun _ _ => rfl)) PE.int (fun _ _ => rfl)) PE.int (fun _ _ => rfl)) (fun _ _ => rfl)) PE.int (fun _ _ => rfl)) (PE.var 1) (nomark _))))))
theorem at58 (T : Tx P w K mg base en CC) {f : Addr} {fd : FuncData} (F : L2.Fun K "_begins_at" "_begins_at" s58 f fd) (hm : mg "_begins_at" = some (.ref f)) (D_Program_moves : MethAt P w K mg base en 1 9 "moves" 1 f_Program_moves) : DefAt P w K mg base en 2 "_begins_at" 3 f58 :=
  DefAt.mk' hm F (ok58 T F D_Program_moves) (F.binds fun _ _ _ _ _ _ us hl => match us, hl with | [_, _, _], _ => rfl)
/-! check_led -/
abbrev s53 : Stmt := top 53
def m53 : SM := (mSeq (mDrop (mCall f48 (aCons (mVar 0) (aCons (mVar 1) (aCons (mVar 2) aNil))))) (mIfS (bOr (bNot (mTru (mCall f55 (aCons (mVar 0) (aCons (mVar 3) aNil))))) (bNot (mTru (mCall f58 (aCons (mVar 0) (aCons (mVar 1) (aCons (mVar 3) aNil))))))) (mRaise 5 1 (aCons (mVar 3) aNil)) mNil))
def f53 : FM := mFn 4 4 m53
abbrev mn_check_led : SM := m53
abbrev fn_check_led : FM := f53
theorem sc53 : FnScope ["program", "place", "counter", "row"] ["program", "place", "counter", "row"] (defScope s53) := ⟨rfl, rfl, rfl, by decide +kernel, rfl, by decide +kernel, by decide +kernel⟩
theorem ok53 (T : Tx P w K mg base en CC) {f : Addr} {fd : FuncData} (F : L2.Fun K "check_led" "check_led" s53 f fd) (D48 : DefAt P w K mg base en 3 "check_start" 3 f48) (D55 : DefAt P w K mg base en 4 "_is_pressed" 2 f55) (D58 : DefAt P w K mg base en 2 "_begins_at" 3 f58) : FnG P w K mg base 5 f fd ["program", "place", "counter", "row"] (spM en 4 f53) := by
  obtain ⟨oc, od, kV, doc, pm, an, cdv, ct, osl, rfl, lk, hcd⟩ := F.ex
  exact fnG_of lk hcd sc53 T.hK T.sm fun A outer s H E G => (PSs.cons (PS.expr (PE.call D48 G (by decide) rfl (PA.cons (PE.var 0) (PA.cons (PE.var 1) (PA.cons (PE.var 2) PA.nil))))) (PSs.one (PS.if (PW.pt (PW.or (PT.not (PT.tru G.K (PE.call D55 G (by decide) rfl (PA.cons (PE.var 0) (PA.cons (PE.var 3) PA.nil))))) (PW.or1 (PT.not (PT.tru G.K (PE.call D58 G (by decide) rfl (PA.cons (PE.var 0) (PA.cons (PE.var 1) (PA.cons (PE.var 3) PA.nil))))))))) (PSs.one (PS.raise T.e5 G rfl (PA.cons (PE.var 3) PA.nil))) PSs.nil)))
theorem at53 (T : Tx P w K mg base en CC) {f : Addr} {fd : FuncData} (F : L2.Fun K "check_led" "check_led" s53 f fd) (hm : mg "check_led" = some (.ref f)) (D48 : DefAt P w K mg base en 3 "check_start" 3 f48) (D55 : DefAt P w K mg base en 4 "_is_pressed" 2 f55) (D58 : DefAt P w K mg base en 2 "_begins_at" 3 f58) : DefAt P w K mg base en 5 "check_led" 4 f53 :=
  DefAt.mk' hm F (ok53 T F D48 D55 D58) (F.binds fun _ _ _ _ _ _ us hl => match us, hl with | [_, _, _, _], _ => rfl)
/-! end_of -/
abbrev s59 : Stmt := top 59
def m59 : SM := (mRet (mIf (mTru (mVar 2)) (mO2 opIx (mO2 opIx (mVar 0) (mO2 opIx (mO2 opIx (mO2 opIx (mVar 2) (mO1 opNeg (mC (.int 1)))) (mC (.int 1))) (mO1 opNeg (mC (.int 1))))) (mC (.int 3))) (mVar 1)))
def f59 : FM := mFn 3 3 m59
abbrev mn_end_of : SM := m59
abbrev fn_end_of : FM := f59
theorem sc59 : FnScope ["moves", "place", "row"] ["moves", "place", "row"] (defScope s59) := ⟨rfl, rfl, rfl, by decide +kernel, rfl, by decide +kernel, by decide +kernel⟩
theorem ok59 (T : Tx P w K mg base en CC) {f : Addr} {fd : FuncData} (F : L2.Fun K "end_of" "end_of" s59 f fd)  : FnG P w K mg base 1 f fd ["moves", "place", "row"] (spM en 3 f59) := by
  obtain ⟨oc, od, kV, doc, pm, an, cdv, ct, osl, rfl, lk, hcd⟩ := F.ex
  exact fnG_of lk hcd sc59 T.hK T.sm fun A outer s H E G => (PSs.one (PS.ret (PE.ifx (PT.tru G.K (PE.var 2)) (PE.ix G.K G.u1 (PE.ix G.K G.u1 (PE.var 0) (PE.ix G.K G.u1 (PE.ix G.K G.u1 (PE.ix G.K G.u1 (PE.var 2) (PE.un op_negM PE.int) (fun _ _ => rfl)) PE.int (fun _ _ => rfl)) (PE.un op_negM PE.int) (fun _ _ => rfl)) (fun _ _ => rfl)) PE.int (fun _ _ => rfl)) (PE.var 1))))
theorem at59 (T : Tx P w K mg base en CC) {f : Addr} {fd : FuncData} (F : L2.Fun K "end_of" "end_of" s59 f fd) (hm : mg "end_of" = some (.ref f))  : DefAt P w K mg base en 1 "end_of" 3 f59 :=
  DefAt.mk' hm F (ok59 T F ) (F.binds fun _ _ _ _ _ _ us hl => match us, hl with | [_, _, _], _ => rfl)
/-! led -/
abbrev s52 : Stmt := top 52
def m52 : SM := (mSeq (mDrop (mCall f53 (aCons (mVar 0) (aCons (mVar 1) (aCons (mVar 2) (aCons (mVar 3) aNil)))))) (mSeq (mSet 4 (mMeth 9 f_Program_moves (mVar 0) aNil)) (mSeq (mAsg (gTupM 2 (gsCons (gVar 5) (gsCons (gVar 6) gsNil))) (mCall f60 (aCons (mVar 4) (aCons (mVar 3) aNil)))) (mSeq (mIfS (mB (mO2 opLt (mVar 2) (mVar 5))) (mRet (mC .non)) mNil) (mRet (mOA opTup (aCons (mCall f59 (aCons (mVar 4) (aCons (mVar 1) (aCons (mVar 3) aNil)))) (aCons (mO2 opAdd (mVar 2) (mVar 6)) aNil))))))))
def f52 : FM := mFn 4 7 m52
abbrev mn_led : SM := m52
abbrev fn_led : FM := f52
theorem sc52 : FnScope ["program", "place", "counter", "row", "moves", "need", "change"] ["program", "place", "counter", "row"] (defScope s52) := ⟨rfl, rfl, rfl, by decide +kernel, rfl, by decide +kernel, by decide +kernel⟩
theorem ok52 (T : Tx P w K mg base en CC) {f : Addr} {fd : FuncData} (F : L2.Fun K "led" "led" s52 f fd) (D53 : DefAt P w K mg base en 5 "check_led" 4 f53) (D_Program_moves : MethAt P w K mg base en 1 9 "moves" 1 f_Program_moves) (D60 : DefAt P w K mg base en 2 "need_and_change" 2 f60) (D59 : DefAt P w K mg base en 1 "end_of" 3 f59) : FnG P w K mg base 6 f fd ["program", "place", "counter", "row"] (spM en 4 f52) := by
  obtain ⟨oc, od, kV, doc, pm, an, cdv, ct, osl, rfl, lk, hcd⟩ := F.ex
  exact fnG_of lk hcd sc52 T.hK T.sm fun A outer s H E G => (PSs.cons (PS.expr (PE.call D53 G (by decide) rfl (PA.cons (PE.var 0) (PA.cons (PE.var 1) (PA.cons (PE.var 2) (PA.cons (PE.var 3) PA.nil)))))) (PSs.cons (PS.set (i := 4) sc52.nd rfl (by first | exact .inl rfl | exact .inr rfl) (PE.meth0 D_Program_moves G (by decide) (PE.var 0))) (PSs.cons (PS.asg (PE.call D60 G (by decide) rfl (PA.cons (PE.var 4) (PA.cons (PE.var 3) PA.nil))) (PG.tup G.calm (PGs.cons (PG.var (i := 5) sc52.nd rfl (by first | exact .inl rfl | exact .inr rfl)) (PGs.cons (PG.var (i := 6) sc52.nd rfl (by first | exact .inl rfl | exact .inr rfl)) PGs.nil)))) (PSs.cons (PS.if (PT.cmp op_ltM (PE.var 2) (PE.var 5) (nomark _)) (PSs.one (PS.ret PE.non)) PSs.nil) (PSs.one (PS.ret (PE.tup (PA.cons (PE.call D59 G (by decide) rfl (PA.cons (PE.var 4) (PA.cons (PE.var 1) (PA.cons (PE.var 3) PA.nil)))) (PA.cons (PE.o2 op_addM (PE.var 2) (PE.var 6)) PA.nil)))))))))
theorem at52 (T : Tx P w K mg base en CC) {f : Addr} {fd : FuncData} (F : L2.Fun K "led" "led" s52 f fd) (hm : mg "led" = some (.ref f)) (D53 : DefAt P w K mg base en 5 "check_led" 4 f53) (D_Program_moves : MethAt P w K mg base en 1 9 "moves" 1 f_Program_moves) (D60 : DefAt P w K mg base en 2 "need_and_change" 2 f60) (D59 : DefAt P w K mg base en 1 "end_of" 3 f59) : DefAt P w K mg base en 6 "led" 4 f52 :=
  DefAt.mk' hm F (ok52 T F D53 D_Program_moves D60 D59) (F.binds fun _ _ _ _ _ _ us hl => match us, hl with | [_, _, _, _], _ => rfl)
/-! _law_walked -/
abbrev s75 : Stmt := top 75
def m75 : SM := (mSeq (mSet 3 (mVar 1)) (mSeq (mFor (mWalk (mVar 2)) (gTupM 2 (gsCons (gVar 4) (gsCons (gVar 5) gsNil))) (mFor (mRng1 (aCons (mVar 4) aNil)) (gVar 6) (mFor (mWalk (mVar 5)) (gVar 7) (mSeq (mAsg (gTupM 4 (gsCons (gVar 8) (gsCons (gVar 9) (gsCons (gVar 10) (gsCons (gVar 11) gsNil))))) (mO2 opIx (mO2 opIx (mVar 0) (mC (.int 1))) (mVar 7))) (mSeq (mIfS (mB (mO2 opLt (mVar 3) (mVar 9))) (mRet (mC .non)) mNil) (mSet 3 (mO2 opAdd (mVar 3) (mVar 10)))))))) (mRet (mVar 3))))
def f75 : FM := mFn 3 12 m75
abbrev mn__law_walked : SM := m75
abbrev fn__law_walked : FM := f75
theorem sc75 : FnScope ["_law_parts_here", "_law_counter", "_law_row", "_law_here", "_law_times", "_law_numbers", "_law_turn", "_law_number", "_law_place", "_law_least", "_law_change", "_law_other"] ["_law_parts_here", "_law_counter", "_law_row"] (defScope s75) := ⟨rfl, rfl, rfl, by decide +kernel, rfl, by decide +kernel, by decide +kernel⟩
theorem ok75 (T : Tx P w K mg base en CC) {f : Addr} {fd : FuncData} (F : L2.Fun K "_law_walked" "_law_walked" s75 f fd)  : FnG P w K mg base 1 f fd ["_law_parts_here", "_law_counter", "_law_row"] (spM en 3 f75) := by
  obtain ⟨oc, od, kV, doc, pm, an, cdv, ct, osl, rfl, lk, hcd⟩ := F.ex
  exact fnG_of lk hcd sc75 T.hK T.sm fun A outer s H E G => (PSs.cons (PS.set (i := 3) sc75.nd rfl (by first | exact .inl rfl | exact .inr rfl) (PE.var 1)) (PSs.cons (PS.for G.pass G.calm (PI.walk G.K (PE.var 2)) (PG.tup G.calm (PGs.cons (PG.var (i := 4) sc75.nd rfl (by first | exact .inl rfl | exact .inr rfl)) (PGs.cons (PG.var (i := 5) sc75.nd rfl (by first | exact .inl rfl | exact .inr rfl)) PGs.nil))) (PSs.one (PS.for G.pass G.calm (PI.rng1 rfl T.b_range (PA.cons (PE.var 4) PA.nil)) (PG.var (i := 6) sc75.nd rfl (by first | exact .inl rfl | exact .inr rfl)) (PSs.one (PS.for G.pass G.calm (PI.walk G.K (PE.var 5)) (PG.var (i := 7) sc75.nd rfl (by first | exact .inl rfl | exact .inr rfl)) (PSs.cons (PS.asg (PE.ix G.K G.u1 (PE.ix G.K G.u1 (PE.var 0) PE.int (fun _ _ => rfl)) (PE.var 7) (fun _ _ => rfl)) (PG.tup G.calm (PGs.cons (PG.var (i := 8) sc75.nd rfl (by first | exact .inl rfl | exact .inr rfl)) (PGs.cons (PG.var (i := 9) sc75.nd rfl (by first | exact .inl rfl | exact .inr rfl)) (PGs.cons (PG.var (i := 10) sc75.nd rfl (by first | exact .inl rfl | exact .inr rfl)) (PGs.cons (PG.var (i := 11) sc75.nd rfl (by first | exact .inl rfl | exact .inr rfl)) PGs.nil)))))) (PSs.cons (PS.if (PT.cmp op_ltM (PE.var 3) (PE.var 9) (nomark _)) (PSs.one (PS.ret PE.non)) PSs.nil) (PSs.one (PS.set (i := 3) sc75.nd rfl (by first | exact .inl rfl | exact .inr rfl) (PE.o2 op_addM (PE.var 3) (PE.var 10))))))))))) (PSs.one (PS.ret (PE.var 3)))))
theorem at75 (T : Tx P w K mg base en CC) {f : Addr} {fd : FuncData} (F : L2.Fun K "_law_walked" "_law_walked" s75 f fd) (hm : mg "_law_walked" = some (.ref f))  : DefAt P w K mg base en 1 "_law_walked" 3 f75 :=
  DefAt.mk' hm F (ok75 T F ) (F.binds fun _ _ _ _ _ _ us hl => match us, hl with | [_, _, _], _ => rfl)
/-! _law_small_right -/
abbrev s76 : Stmt := top 76
def m76 : SM := (mSeq (mAsg (gTupM 2 (gsCons (gVar 5) (gsCons (gVar 6) gsNil))) (mCall f71 (aCons (mVar 1) (aCons (mVar 3) aNil)))) (mSeq (mFor (mRng2 (aCons (mOA (bin2 opMax) (aCons (mC (.int 0)) (aCons (mO2 opSub (mVar 5) (mC (.int 3))) aNil))) (aCons (mO2 opAdd (mVar 5) (mC (.int 3))) aNil))) (gVar 4) (mSeq (mSet 7 (mCall f75 (aCons (mVar 1) (aCons (mVar 4) (aCons (mVar 3) aNil))))) (mSeq (mIfS (bOr (mB (mO2 (eqD true) (mO2 opIsN (mVar 7) (mC .non)) (mO2 opLt (mVar 4) (mVar 5)))) (bAnd (mB (mO2 opNotN (mVar 7) (mC .non))) (mB (mO2 (eqD true) (mVar 7) (mO2 opAdd (mVar 4) (mVar 6)))))) (mRet (mC (.bl false))) mNil) (mSeq (mSet 8 (mCall f52 (aCons (mVar 0) (aCons (mVar 2) (aCons (mVar 4) (aCons (mVar 3) aNil)))))) (mIfS (mB (mO2 (eqD true) (mOA (un1 opRepr) (aCons (mVar 8) aNil)) (mOA (un1 opRepr) (aCons (mIf (mB (mO2 opIsN (mVar 7) (mC .non))) (mC .non) (mOA opTup (aCons (mCall f72 (aCons (mVar 1) (aCons (mVar 2) (aCons (mVar 3) aNil)))) (aCons (mVar 7) aNil)))) aNil)))) (mRet (mC (.bl false))) mNil))))) (mRet (mC (.bl true)))))
def f76 : FM := mFn 4 9 m76
abbrev mn__law_small_right : SM := m76
abbrev fn__law_small_right : FM := f76
theorem sc76 : FnScope ["_law_program_here", "_law_parts_here", "_law_place", "_law_row", "_law_counter", "_law_need", "_law_change", "_law_due", "_law_told"] ["_law_program_here", "_law_parts_here", "_law_place", "_law_row"] (defScope s76) := ⟨rfl, rfl, rfl, by decide +kernel, rfl, by decide +kernel, by decide +kernel⟩
theorem ok76 (T : Tx P w K mg base en CC) {f : Addr} {fd : FuncData} (F : L2.Fun K "_law_small_right" "_law_small_right" s76 f fd) (D71 : DefAt P w K mg base en 2 "_law_measured" 2 f71) (D75 : DefAt P w K mg base en 1 "_law_walked" 3 f75) (D52 : DefAt P w K mg base en 6 "led" 4 f52) (D72 : DefAt P w K mg base en 2 "_law_last" 3 f72) : FnG P w K mg base 7 f fd ["_law_program_here", "_law_parts_here", "_law_place", "_law_row"] (spM en 4 f76) := by
  obtain ⟨oc, od, kV, doc, pm, an, cdv, ct, osl, rfl, lk, hcd⟩ := F.ex
  exact fnG_of lk hcd sc76 T.hK T.sm fun A outer s H E G => (PSs.cons (PS.asg (PE.call D71 G (by decide) rfl (PA.cons (PE.var 1) (PA.cons (PE.var 3) PA.nil))) (PG.tup G.calm (PGs.cons (PG.var (i := 5) sc76.nd rfl (by first | exact .inl rfl | exact .inr rfl)) (PGs.cons (PG.var (i := 6) sc76.nd rfl (by first | exact .inl rfl | exact .inr rfl)) PGs.nil)))) (PSs.cons (PS.for G.pass G.calm (PI.rng2 rfl T.b_range (PA.cons (PE.callB (call_maxM G.calm) rfl T.b_max rfl (PA.cons PE.int (PA.cons (PE.o2 op_subM (PE.var 5) PE.int) PA.nil))) (PA.cons (PE.o2 op_addM (PE.var 5) PE.int) PA.nil))) (PG.var (i := 4) sc76.nd rfl (by first | exact .inl rfl | exact .inr rfl)) (PSs.cons (PS.set (i := 7) sc76.nd rfl (by first | exact .inl rfl | exact .inr rfl) (PE.call D75 G (by decide) rfl (PA.cons (PE.var 1) (PA.cons (PE.var 4) (PA.cons (PE.var 3) PA.nil))))) (PSs.cons (PS.if (PW.pt (PW.or (PT.cmp (op_neM G.sm G.u64) (PE.cmp op_isNM (PE.var 7) PE.non (nomark _)) (PE.cmp op_ltM (PE.var 4) (PE.var 5) (nomark _)) (nomark _)) (PW.or1 (PW.pt (PW.and (PT.cmp op_notNM (PE.var 7) PE.non (nomark _)) (PW.and1 (PT.cmp (op_neM G.sm G.u64) (PE.var 7) (PE.o2 op_addM (PE.var 4) (PE.var 6)) (nomark _)))))))) (PSs.one (PS.ret PE.bl)) PSs.nil) (PSs.cons (PS.set (i := 8) sc76.nd rfl (by first | exact .inl rfl | exact .inr rfl) (PE.call D52 G (by decide) rfl (PA.cons (PE.var 0) (PA.cons (PE.var 2) (PA.cons (PE.var 4) (PA.cons (PE.var 3) PA.nil)))))) (PSs.one (PS.if (PT.cmp (op_neM G.sm G.u64) (PE.callB (call_reprM G.sm G.gd G.u66) rfl T.b_repr rfl (PA.cons (PE.var 8) PA.nil)) (PE.callB (call_reprM G.sm G.gd G.u66) rfl T.b_repr rfl (PA.cons (PE.ifx (PT.cmp op_isNM (PE.var 7) PE.non (nomark _)) PE.non (PE.tup (PA.cons (PE.call D72 G (by decide) rfl (PA.cons (PE.var 1) (PA.cons (PE.var 2) (PA.cons (PE.var 3) PA.nil)))) (PA.cons (PE.var 7) PA.nil)))) PA.nil)) (nomark _)) (PSs.one (PS.ret PE.bl)) PSs.nil)))))) (PSs.one (PS.ret PE.bl))))
theorem at76 (T : Tx P w K mg base en CC) {f : Addr} {fd : FuncData} (F : L2.Fun K "_law_small_right" "_law_small_right" s76 f fd) (hm : mg "_law_small_right" = some (.ref f)) (D71 : DefAt P w K mg base en 2 "_law_measured" 2 f71) (D75 : DefAt P w K mg base en 1 "_law_walked" 3 f75) (D52 : DefAt P w K mg base en 6 "led" 4 f52) (D72 : DefAt P w K mg base en 2 "_law_last" 3 f72) : DefAt P w K mg base en 7 "_law_small_right" 4 f76 :=
  DefAt.mk' hm F (ok76 T F D71 D75 D52 D72) (F.binds fun _ _ _ _ _ _ us hl => match us, hl with | [_, _, _, _], _ => rfl)
/-! _law_right -/
abbrev s77 : Stmt := top 77
def m77 : SM := (mSeq (mAsg (gTupM 2 (gsCons (gVar 9) (gsCons (gVar 10) gsNil))) (mCall f71 (aCons (mVar 1) (aCons (mVar 3) aNil)))) (mSeq (mSet 4 (mOA (un1 opRepr) (aCons (mVar 3) aNil))) (mSeq (mFor (mRng1 (aCons (mC (.int 2)) aNil)) (gVar 5) (mSeq (mSet 11 (mOA opLst (aCons (mCall f51 (aCons (mVar 0) (aCons (mVar 3) aNil))) (aCons (mCall f50 (aCons (mVar 0) (aCons (mVar 3) aNil))) aNil)))) (mIfS (bOr (mB (mO2 (eqD true) (mOA (un1 opRepr) (aCons (mVar 11) aNil)) (mOA (un1 opRepr) (aCons (mOA opLst (aCons (mVar 9) (aCons (mVar 10) aNil))) aNil)))) (mB (mO2 (eqD true) (mOA (un1 opRepr) (aCons (mVar 3) aNil)) (mVar 4)))) (mRet (mC (.bl false))) mNil))) (mSeq (mFor (mWalk (mOA opLst (aCons (mVar 9) (aCons (mO2 opAdd (mVar 9) (mC (.int 1))) (aCons (mO2 opAdd (mVar 9) (mO2 opPow (mC (.int 10)) (mC (.int 30)))) (aCons (mO2 opSub (mVar 9) (mC (.int 1))) aNil)))))) (gVar 6) (mSeq (mSet 12 (mIf (mB (mO2 opGe (mVar 6) (mVar 9))) (mOA opTup (aCons (mCall f72 (aCons (mVar 1) (aCons (mVar 2) (aCons (mVar 3) aNil)))) (aCons (mO2 opAdd (mVar 6) (mVar 10)) aNil))) (mC .non))) (mIfS (bAnd (mB (mO2 opGe (mVar 6) (mC (.int 0)))) (mB (mO2 (eqD true) (mOA (un1 opRepr) (aCons (mCall f52 (aCons (mVar 0) (aCons (mVar 2) (aCons (mVar 6) (aCons (mVar 3) aNil))))) aNil)) (mOA (un1 opRepr) (aCons (mVar 12) aNil))))) (mRet (mC (.bl false))) mNil))) (mSeq (mFor (mRng1 (aCons (mO2 opAdd (mOA (un1 opLen) (aCons (mVar 3) aNil)) (mC (.int 1))) aNil)) (gVar 7) (mSeq (mPar 13 14 (aCons (mCall f71 (aCons (mVar 1) (aCons (mCut (mVar 3) pNone (pSome (mVar 7))) aNil))) (aCons (mCall f71 (aCons (mVar 1) (aCons (mCut (mVar 3) (pSome (mVar 7)) pNone) aNil))) aNil))) (mIfS (mB (mO2 (eqD true) (mCall f70 (aCons (mVar 13) (aCons (mVar 14) aNil))) (mOA opTup (aCons (mVar 9) (aCons (mVar 10) aNil))))) (mRet (mC (.bl false))) mNil))) (mSeq (mSet 8 (mLc (mWalk (mVar 3)) (gTupM 2 (gsCons (gVar 15) (gsCons (gVar 16) gsNil))) (mB (mO2 (eqD false) (mVar 15) (mC (.int 1)))) (mOA opTup (aCons (mC (.int 1)) (aCons (mVar 16) aNil))) [15, 16])) (mRet (mOr (mO2 (eqD true) (mVar 8) (mVar 3)) (mCall f76 (aCons (mVar 0) (aCons (mVar 1) (aCons (mVar 2) (aCons (mVar 3) aNil)))))))))))))
def f77 : FM := mFn 4 17 m77
abbrev mn__law_right : SM := m77
abbrev fn__law_right : FM := f77
theorem sc77 : FnScope ["_law_program_here", "_law_parts_here", "_law_place", "_law_row", "_law_before", "_law_turn", "_law_counter", "_law_at", "_law_doubled", "_law_need", "_law_change", "_law_told", "_law_due", "_law_one", "_law_other", "_law_times", "_law_numbers"] ["_law_program_here", "_law_parts_here", "_law_place", "_law_row"] (defScope s77) := ⟨rfl, rfl, rfl, by decide +kernel, rfl, by decide +kernel, by decide +kernel⟩
theorem ok77 (T : Tx P w K mg base en CC) {f : Addr} {fd : FuncData} (F : L2.Fun K "_law_right" "_law_right" s77 f fd) (D71 : DefAt P w K mg base en 2 "_law_measured" 2 f71) (D50 : DefAt P w K mg base en 6 "change_of" 2 f50) (D51 : DefAt P w K mg base en 6 "need_of" 2 f51) (D72 : DefAt P w K mg base en 2 "_law_last" 3 f72) (D52 : DefAt P w K mg base en 6 "led" 4 f52) (D70 : DefAt P w K mg base en 1 "_law_behind" 2 f70) (D76 : DefAt P w K mg base en 7 "_law_small_right" 4 f76) : FnG P w K mg base 8 f fd ["_law_program_here", "_law_parts_here", "_law_place", "_law_row"] (spM en 4 f77) := by
  obtain ⟨oc, od, kV, doc, pm, an, cdv, ct, osl, rfl, lk, hcd⟩ := F.ex
  exact fnG_of lk hcd sc77 T.hK T.sm fun A outer s H E G => (PSs.cons (PS.asg (PE.call D71 G (by decide) rfl (PA.cons (PE.var 1) (PA.cons (PE.var 3) PA.nil))) (PG.tup G.calm (PGs.cons (PG.var (i := 9) sc77.nd rfl (by first | exact .inl rfl | exact .inr rfl)) (PGs.cons (PG.var (i := 10) sc77.nd rfl (by first | exact .inl rfl | exact .inr rfl)) PGs.nil)))) (PSs.cons (PS.set (i := 4) sc77.nd rfl (by first | exact .inl rfl | exact .inr rfl) (PE.callB (call_reprM G.sm G.gd G.u66) rfl T.b_repr rfl (PA.cons (PE.var 3) PA.nil))) (PSs.cons (PS.for G.pass G.calm (PI.rng1 rfl T.b_range (PA.cons PE.int PA.nil)) (PG.var (i := 5) sc77.nd rfl (by first | exact .inl rfl | exact .inr rfl)) (PSs.cons (PS.set (i := 11) sc77.nd rfl (by first | exact .inl rfl | exact .inr rfl) (PE.lst (PA.cons (PE.call D51 G (by decide) rfl (PA.cons (PE.var 0) (PA.cons (PE.var 3) PA.nil))) (PA.cons (PE.call D50 G (by decide) rfl (PA.cons (PE.var 0) (PA.cons (PE.var 3) PA.nil))) PA.nil)))) (PSs.one (PS.if (PW.pt (PW.or (PT.cmp (op_neM G.sm G.u64) (PE.callB (call_reprM G.sm G.gd G.u66) rfl T.b_repr rfl (PA.cons (PE.var 11) PA.nil)) (PE.callB (call_reprM G.sm G.gd G.u66) rfl T.b_repr rfl (PA.cons (PE.lst (PA.cons (PE.var 9) (PA.cons (PE.var 10) PA.nil))) PA.nil)) (nomark _)) (PW.or1 (PT.cmp (op_neM G.sm G.u64) (PE.callB (call_reprM G.sm G.gd G.u66) rfl T.b_repr rfl (PA.cons (PE.var 3) PA.nil)) (PE.var 4) (nomark _))))) (PSs.one (PS.ret PE.bl)) PSs.nil)))) (PSs.cons (PS.for G.pass G.calm (PI.walk G.K (PE.lst (PA.cons (PE.var 9) (PA.cons (PE.o2 op_addM (PE.var 9) PE.int) (PA.cons (PE.o2 op_addM (PE.var 9) (PE.o2 op_powM PE.int PE.int)) (PA.cons (PE.o2 op_subM (PE.var 9) PE.int) PA.nil)))))) (PG.var (i := 6) sc77.nd rfl (by first | exact .inl rfl | exact .inr rfl)) (PSs.cons (PS.set (i := 12) sc77.nd rfl (by first | exact .inl rfl | exact .inr rfl) (PE.ifx (PT.cmp op_geM (PE.var 6) (PE.var 9) (nomark _)) (PE.tup (PA.cons (PE.call D72 G (by decide) rfl (PA.cons (PE.var 1) (PA.cons (PE.var 2) (PA.cons (PE.var 3) PA.nil)))) (PA.cons (PE.o2 op_addM (PE.var 6) (PE.var 10)) PA.nil))) PE.non)) (PSs.one (PS.if (PW.pt (PW.and (PT.cmp op_geM (PE.var 6) PE.int (nomark _)) (PW.and1 (PT.cmp (op_neM G.sm G.u64) (PE.callB (call_reprM G.sm G.gd G.u66) rfl T.b_repr rfl (PA.cons (PE.call D52 G (by decide) rfl (PA.cons (PE.var 0) (PA.cons (PE.var 2) (PA.cons (PE.var 6) (PA.cons (PE.var 3) PA.nil))))) PA.nil)) (PE.callB (call_reprM G.sm G.gd G.u66) rfl T.b_repr rfl (PA.cons (PE.var 12) PA.nil)) (nomark _))))) (PSs.one (PS.ret PE.bl)) PSs.nil)))) (PSs.cons (PS.for G.pass G.calm (PI.rng1 rfl T.b_range (PA.cons (PE.o2 op_addM (PE.callB (call_lenM G.K) rfl T.b_len rfl (PA.cons (PE.var 3) PA.nil)) PE.int) PA.nil)) (PG.var (i := 7) sc77.nd rfl (by first | exact .inl rfl | exact .inr rfl)) (PSs.cons (PS.par (i := 13) (j := 14) G.calm sc77.nd rfl rfl (by decide) rfl rfl (PA.cons (PE.call D71 G (by decide) rfl (PA.cons (PE.var 1) (PA.cons (PE.cut (PE.var 3) PO.non (PO.som (PE.var 7))) PA.nil))) (PA.cons (PE.call D71 G (by decide) rfl (PA.cons (PE.var 1) (PA.cons (PE.cut (PE.var 3) (PO.som (PE.var 7)) PO.non) PA.nil))) PA.nil)) (by rfl)) (PSs.one (PS.if (PT.cmp (op_neM G.sm G.u64) (PE.call D70 G (by decide) rfl (PA.cons (PE.var 13) (PA.cons (PE.var 14) PA.nil))) (PE.tup (PA.cons (PE.var 9) (PA.cons (PE.var 10) PA.nil))) (nomark _)) (PSs.one (PS.ret PE.bl)) PSs.nil)))) (PSs.cons (PS.setLcG (i := 8) G sc77.nd rfl rfl (by first | rfl | decide) (PI.walk G.K (PE.var 3)) (own := [("_law_times", 15), ("_law_numbers", 16)]) ⟨rfl, by decide +kernel, of_decide_eq_true (by kernel_rfl), of_decide_eq_true (by kernel_rfl), of_decide_eq_true (by kernel_rfl)⟩ (fun s3 H3 C3 cl3 fp3 G => (PG.tup G.calm (PGs.cons (PG.var (i := 15) sc77.nd rfl (by first | exact .inl rfl | exact .inr rfl)) (PGs.cons (PG.var (i := 16) sc77.nd rfl (by first | exact .inl rfl | exact .inr rfl)) PGs.nil)))) (fun s3 H3 C3 cl3 fp3 G => (PTs.one (PT.cmp (op_eqM G.sm G.u64) (PE.var 15) PE.int (nomark _)))) (fun s3 H3 C3 cl3 fp3 G => (PE.tup (PA.cons PE.int (PA.cons (PE.var 16) PA.nil))))) (PSs.one (PS.ret (PE.or (PE.cmp (op_neM G.sm G.u64) (PE.var 8) (PE.var 3) (nomark _)) (PE.and1 (PE.call D76 G (by decide) rfl (PA.cons (PE.var 0) (PA.cons (PE.var 1) (PA.cons (PE.var 2) (PA.cons (PE.var 3) PA.nil)))))))))))))))
theorem at77 (T : Tx P w K mg base en CC) {f : Addr} {fd : FuncData} (F : L2.Fun K "_law_right" "_law_right" s77 f fd) (hm : mg "_law_right" = some (.ref f)) (D71 : DefAt P w K mg base en 2 "_law_measured" 2 f71) (D50 : DefAt P w K mg base en 6 "change_of" 2 f50) (D51 : DefAt P w K mg base en 6 "need_of" 2 f51) (D72 : DefAt P w K mg base en 2 "_law_last" 3 f72) (D52 : DefAt P w K mg base en 6 "led" 4 f52) (D70 : DefAt P w K mg base en 1 "_law_behind" 2 f70) (D76 : DefAt P w K mg base en 7 "_law_small_right" 4 f76) : DefAt P w K mg base en 8 "_law_right" 4 f77 :=
  DefAt.mk' hm F (ok77 T F D71 D50 D51 D72 D52 D70 D76) (F.binds fun _ _ _ _ _ _ us hl => match us, hl with | [_, _, _, _], _ => rfl)
/-! _law_caught -/
abbrev s78 : Stmt := top 78
def m78 : SM := (mSeq (mSet 5 (mC .non)) (mSeq (mTry 6 sub_WalkError (mIfS (mB (mO2 (eqD false) (mVar 0) (mC (.int 0)))) (mDrop (mCall f50 (aCons (mVar 1) (aCons (mVar 4) aNil)))) (mIfS (mB (mO2 (eqD false) (mVar 0) (mC (.int 1)))) (mDrop (mCall f51 (aCons (mVar 1) (aCons (mVar 4) aNil)))) (mDrop (mCall f52 (aCons (mVar 1) (aCons (mVar 2) (aCons (mVar 3) (aCons (mVar 4) aNil)))))))) (mSet 5 (mVar 6))) (mSeq (mIfS (mB (mO1 (opIsi is_UnknownName) (mVar 5))) (mRet (mOA opLst (aCons (mC (.int 1)) (aCons (mOA (un1 opRepr) (aCons (mO1 (opExf x_name) (mVar 5)) aNil)) aNil)))) mNil) (mSeq (mSet 7 (mOA opLst (aCons (mO1 (opIsi is_InvalidProgram) (mVar 5)) (aCons (mC (.bl false)) (aCons (mO1 (opIsi is_InvalidNumber) (mVar 5)) aNil))))) (mSeq (mSet 7 (mO2 opAdd (mVar 7) (mOA opLst (aCons (mO1 (opIsi is_InvalidRow) (mVar 5)) (aCons (mC (.bl true)) aNil))))) (mRet (mOA opLst (aCons (mBm opIndex (mVar 7) (aCons (mC (.bl true)) aNil)) (aCons (mIf (mB (mO2 opIsN (mVar 5) (mC .non))) (mC .non) (mOA (un1 opRepr) (aCons (mO1 (opExf x_value) (mVar 5)) aNil))) aNil)))))))))
def f78 : FM := mFn 5 8 m78
abbrev mn__law_caught : SM := m78
abbrev fn__law_caught : FM := f78
theorem sc78 : FnScope ["_law_door", "_law_program_here", "_law_place", "_law_counter", "_law_row", "_law_caught_here", "error", "_law_kinds"] ["_law_door", "_law_program_here", "_law_place", "_law_counter", "_law_row"] (defScope s78) := ⟨rfl, rfl, rfl, by decide +kernel, rfl, by decide +kernel, by decide +kernel⟩
theorem ok78 (T : Tx P w K mg base en CC) {f : Addr} {fd : FuncData} (F : L2.Fun K "_law_caught" "_law_caught" s78 f fd) (D50 : DefAt P w K mg base en 6 "change_of" 2 f50) (D51 : DefAt P w K mg base en 6 "need_of" 2 f51) (D52 : DefAt P w K mg base en 6 "led" 4 f52) : FnG P w K mg base 7 f fd ["_law_door", "_law_program_here", "_law_place", "_law_counter", "_law_row"] (spM en 5 f78) := by
  obtain ⟨oc, od, kV, doc, pm, an, cdv, ct, osl, rfl, lk, hcd⟩ := F.ex
  exact fnG_of lk hcd sc78 T.hK T.sm fun A outer s H E G => (PSs.cons (PS.set (i := 5) sc78.nd rfl (by first | exact .inl rfl | exact .inr rfl) PE.non) (PSs.cons (PS.tryAs (i := 6) G rfl rfl rfl sc78.nd rfl rfl ⟨rfl, by decide, .inl T.g_WalkError⟩ T.sub_WalkError (fun W2 pn2 xe2 G => (PSs.one (PS.if (PT.cmp (op_eqM G.sm G.u64) (PE.var 0) PE.int (nomark _)) (PSs.one (PS.expr (PE.call D50 G (by decide) rfl (PA.cons (PE.var 1) (PA.cons (PE.var 4) PA.nil))))) (PSs.one (PS.if (PT.cmp (op_eqM G.sm G.u64) (PE.var 0) PE.int (nomark _)) (PSs.one (PS.expr (PE.call D51 G (by decide) rfl (PA.cons (PE.var 1) (PA.cons (PE.var 4) PA.nil))))) (PSs.one (PS.expr (PE.call D52 G (by decide) rfl (PA.cons (PE.var 1) (PA.cons (PE.var 2) (PA.cons (PE.var 3) (PA.cons (PE.var 4) PA.nil)))))))))))) (fun a2 pn2 => (PSs.one (PS.set (i := 5) sc78.nd rfl (by first | exact .inl rfl | exact .inr rfl) (PE.var 6))))) (PSs.cons (PS.if (PT.val (PE.isi G.K (.own _) T.is_UnknownName rfl T.b_isinstance (PE.var 5) (pe_glob rfl T.g_UnknownName rfl))) (PSs.one (PS.ret (PE.lst (PA.cons PE.int (PA.cons (PE.callB (call_reprM G.sm G.gd G.u66) rfl T.b_repr rfl (PA.cons (PE.exf G.K T.x_name (PE.var 5)) PA.nil)) PA.nil))))) PSs.nil) (PSs.cons (PS.set (i := 7) sc78.nd rfl (by first | exact .inl rfl | exact .inr rfl) (PE.lst (PA.cons (PE.isi G.K (.own _) T.is_InvalidProgram rfl T.b_isinstance (PE.var 5) (pe_glob rfl T.g_InvalidProgram rfl)) (PA.cons PE.bl (PA.cons (PE.isi G.K (.own _) T.is_InvalidNumber rfl T.b_isinstance (PE.var 5) (pe_glob rfl T.g_InvalidNumber rfl)) PA.nil))))) (PSs.cons (PS.set (i := 7) sc78.nd rfl (by first | exact .inl rfl | exact .inr rfl) (PE.o2 op_addM (PE.var 7) (PE.lst (PA.cons (PE.isi G.K (.own _) T.is_InvalidRow rfl T.b_isinstance (PE.var 5) (pe_glob rfl T.g_InvalidRow rfl)) (PA.cons PE.bl PA.nil))))) (PSs.one (PS.ret (PE.lst (PA.cons (PE.index (PE.var 7) (PA.cons PE.bl PA.nil)) (PA.cons (PE.ifx (PT.cmp op_isNM (PE.var 5) PE.non (nomark _)) PE.non (PE.callB (call_reprM G.sm G.gd G.u66) rfl T.b_repr rfl (PA.cons (PE.exf G.K T.x_value (PE.var 5)) PA.nil))) PA.nil))))))))))
theorem at78 (T : Tx P w K mg base en CC) {f : Addr} {fd : FuncData} (F : L2.Fun K "_law_caught" "_law_caught" s78 f fd) (hm : mg "_law_caught" = some (.ref f)) (D50 : DefAt P w K mg base en 6 "change_of" 2 f50) (D51 : DefAt P w K mg base en 6 "need_of" 2 f51) (D52 : DefAt P w K mg base en 6 "led" 4 f52) : DefAt P w K mg base en 7 "_law_caught" 5 f78 :=
  DefAt.mk' hm F (ok78 T F D50 D51 D52) (F.binds fun _ _ _ _ _ _ us hl => match us, hl with | [_, _, _, _, _], _ => rfl)
/-! _law_refused -/
abbrev s79 : Stmt := top 79
def m79 : SM := (mSeq (mFor (mRng1 (aCons (mC (.int 3)) aNil)) (gVar 2) (mSeq (mFor (mWalk (mOA opLst (aCons (mC .non) (aCons (mC (.int 3)) (aCons (mOA opLst aNil) (aCons (mOA opTup aNil) (aCons mDict0 (aCons (mC (.str "program")) (aCons (mC (.bl true)) aNil))))))))) (gVar 3) (mIfS (mB (mO2 (eqD true) (mCall f78 (aCons (mVar 2) (aCons (mVar 3) (aCons (mC .non) (aCons (mC .non) (aCons (mC .non) aNil)))))) (mOA opLst (aCons (mC (.int 0)) (aCons (mOA (un1 opRepr) (aCons (mVar 3) aNil)) aNil))))) (mRet (mC (.bl false))) mNil)) (mSeq (mSet 5 (mOA opLst (aCons (mC .non) (aCons (mC (.int 3)) (aCons (mOA opTup aNil) (aCons (mC (.str "row")) (aCons mDict0 (aCons (mC (.bl true)) (aCons (mOA opLst (aCons (mC .non) aNil)) (aCons (mOA opLst (aCons (mOA opTup (aCons (mC (.int 1)) (aCons (mOA opLst aNil) aNil))) aNil)) (aCons (mOA opLst (aCons (mOA opTup (aCons (mC (.int 0)) (aCons (mOA opLst (aCons (mC (.int 0)) aNil)) aNil))) aNil)) (aCons (mOA opLst (aCons (mOA opTup (aCons (mC (.int 1)) (aCons (mOA opLst (aCons (mOA (un1 opLen) (aCons (mO2 opIx (mVar 1) (mC (.int 1))) aNil)) aNil)) aNil))) aNil)) (aCons (mOA opLst (aCons (mOA opLst (aCons (mC (.int 1)) (aCons (mOA opLst (aCons (mC (.int 0)) aNil)) aNil))) aNil)) aNil))))))))))))) (mFor (mWalk (mO2 opAdd (mVar 5) (mOA opLst (aCons (mOA opLst (aCons (mOA opTup (aCons (mC (.bl true)) (aCons (mOA opLst (aCons (mC (.int 0)) aNil)) aNil))) aNil)) (aCons (mOA opLst (aCons (mOA opTup (aCons (mC (.int 1)) (aCons (mOA opLst (aCons (mC (.bl true)) aNil)) aNil))) aNil)) (aCons (mOA opLst (aCons (mOA opTup (aCons (mC (.int 1)) (aCons (mOA opLst (aCons (mO1 opNeg (mC (.int 1))) aNil)) aNil))) aNil)) (aCons (mOA opLst (aCons (mOA opTup (aCons (mC (.int 1)) (aCons (mOA opLst (aCons (mC (.int 0)) aNil)) (aCons (mC (.int 0)) aNil)))) aNil)) aNil))))))) (gVar 3) (mIfS (mB (mO2 (eqD true) (mCall f78 (aCons (mVar 2) (aCons (mVar 0) (aCons (mO2 opIx (mO2 opIx (mVar 1) (mC (.int 0))) (mC (.int 0))) (aCons (mC (.int 0)) (aCons (mVar 3) aNil)))))) (mOA opLst (aCons (mC (.int 3)) (aCons (mOA (un1 opRepr) (aCons (mVar 3) aNil)) aNil))))) (mRet (mC (.bl false))) mNil))))) (mSeq (mFor (mWalk (mOA opLst (aCons (mC .non) (aCons (mC (.int 3)) (aCons (mC (.str "")) (aCons (mC (.str "zz")) (aCons (mOA opLst (aCons (mC (.str "up")) aNil)) (aCons (mOA opTup aNil) (aCons mDict0 (aCons (mC (.bl true)) aNil)))))))))) (gVar 3) (mIfS (mB (mO2 (eqD true) (mCall f78 (aCons (mC (.int 2)) (aCons (mVar 0) (aCons (mVar 3) (aCons (mC .non) (aCons (mC .non) aNil)))))) (mOA opLst (aCons (mC (.int 1)) (aCons (mOA (un1 opRepr) (aCons (mVar 3) aNil)) aNil))))) (mRet (mC (.bl false))) mNil)) (mSeq (mFor (mWalk (mOA opLst (aCons (mC .non) (aCons (mO1 opNeg (mC (.int 1))) (aCons (mC (.bl true)) (aCons (mC (.str "1")) (aCons (mOA opLst (aCons (mC (.int 1)) aNil)) (aCons (mOA opTup (aCons (mC (.int 1)) aNil)) (aCons mDict0 (aCons (mO1 opNeg (mO2 opPow (mC (.int 10)) (mC (.int 30)))) aNil)))))))))) (gVar 3) (mIfS (mB (mO2 (eqD true) (mCall f78 (aCons (mC (.int 2)) (aCons (mVar 0) (aCons (mO2 opIx (mO2 opIx (mVar 1) (mC (.int 0))) (mC (.int 0))) (aCons (mVar 3) (aCons (mC .non) aNil)))))) (mOA opLst (aCons (mC (.int 2)) (aCons (mOA (un1 opRepr) (aCons (mVar 3) aNil)) aNil))))) (mRet (mC (.bl false))) mNil)) (mSeq (mSet 4 (mLc (mRng1 (aCons (mOA (un1 opLen) (aCons (mO2 opIx (mVar 1) (mC (.int 1))) aNil)) aNil)) (gVar 6) (mB (mO2 (eqD true) (mO2 opIx (mO2 opIx (mO2 opIx (mVar 1) (mC (.int 1))) (mVar 6)) (mC (.int 0))) (mO2 opIx (mO2 opIx (mVar 1) (mC (.int 0))) (mC (.int 0))))) (mVar 6) [6])) (mSeq (mSet 3 (mOA opLst (aCons (mOA opTup (aCons (mC (.int 1)) (aCons (mCut (mVar 4) pNone (pSome (mC (.int 1)))) aNil))) aNil))) (mSeq (mIfS (mB (mO2 (eqD false) (mVar 4) (mOA opLst aNil))) (mRet (mC (.bl true))) mNil) (mRet (mO2 (eqD false) (mCall f78 (aCons (mC (.int 2)) (aCons (mVar 0) (aCons (mO2 opIx (mO2 opIx (mVar 1) (mC (.int 0))) (mC (.int 0))) (aCons (mC (.int 0)) (aCons (mVar 3) aNil)))))) (mOA opLst (aCons (mC (.int 3)) (aCons (mOA (un1 opRepr) (aCons (mVar 3) aNil)) aNil)))))))))))
def f79 : FM := mFn 2 7 m79
abbrev mn__law_refused : SM := m79
abbrev fn__law_refused : FM := f79
theorem sc79 : FnScope ["_law_program_here", "_law_parts_here", "_law_door", "_law_bad", "_law_away", "_law_bads", "_law_number"] ["_law_program_here", "_law_parts_here"] (defScope s79) := ⟨rfl, rfl, rfl, by decide +kernel, rfl, by decide +kernel, by decide +kernel⟩
theorem ok79 (T : Tx P w K mg base en CC) {f : Addr} {fd : FuncData} (F : L2.Fun K "_law_refused" "_law_refused" s79 f fd) (D78 : DefAt P w K mg base en 7 "_law_caught" 5 f78) : FnG P w K mg base 8 f fd ["_law_program_here", "_law_parts_here"] (spM en 2 f79) := by
  obtain ⟨oc, od, kV, doc, pm, an, cdv, ct, osl, rfl, lk, hcd⟩ := F.ex
  exact fnG_of lk hcd sc79 T.hK T.sm fun A outer s H E G => (PSs.cons (PS.for G.pass G.calm (PI.rng1 rfl T.b_range (PA.cons PE.int PA.nil)) (PG.var (i := 2) sc79.nd rfl (by first | exact .inl rfl | exact .inr rfl)) (PSs.cons (PS.for G.pass G.calm (PI.walk G.K (PE.lst (PA.cons PE.non (PA.cons PE.int (PA.cons (PE.lst PA.nil) (PA.cons (PE.tup PA.nil) (PA.cons PE.dict0 (PA.cons PE.str (PA.cons PE.bl PA.nil))))))))) (PG.var (i := 3) sc79.nd rfl (by first | exact .inl rfl | exact .inr rfl)) (PSs.one (PS.if (PT.cmp (op_neM G.sm G.u64) (PE.call D78 G (by decide) rfl (PA.cons (PE.var 2) (PA.cons (PE.var 3) (PA.cons PE.non (PA.cons PE.non (PA.cons PE.non PA.nil)))))) (PE.lst (PA.cons PE.int (PA.cons (PE.callB (call_reprM G.sm G.gd G.u66) rfl T.b_repr rfl (PA.cons (PE.var 3) PA.nil)) PA.nil))) (nomark _)) (PSs.one (PS.ret PE.bl)) PSs.nil))) (PSs.cons (PS.set (i := 5) sc79.nd rfl (by first | exact .inl rfl | exact .inr rfl) (PE.lst (PA.cons PE.non (PA.cons PE.int (PA.cons (PE.tup PA.nil) (PA.cons PE.str (PA.cons PE.dict0 (PA.cons PE.bl (PA.cons (PE.lst (PA.cons PE.non PA.nil)) (PA.cons (PE.lst (PA.cons (PE.tup (PA.cons PE.int (PA.cons (PE.lst PA.nil) PA.nil))) PA.nil)) (PA.cons (PE.lst (PA.cons (PE.tup (PA.cons PE.int (PA.cons (PE.lst (PA.cons PE.int PA.nil)) PA.nil))) PA.nil)) (PA.cons (PE.lst (PA.cons (PE.tup (PA.cons PE.int (PA.cons (PE.lst (PA.cons (PE.callB (call_lenM G.K) rfl T.b_len rfl (PA.cons (PE.ix G.K G.u1 (PE.var 1) PE.int (fun _ _ => rfl)) PA.nil)) PA.nil)) PA.nil))) PA.nil)) (PA.cons (PE.lst (PA.cons (PE.lst (PA.cons PE.int (PA.cons (PE.lst (PA.cons PE.int PA.nil)) PA.nil))) PA.nil)) PA.nil))))))))))))) (PSs.one (PS.for G.pass G.calm (PI.walk G.K (PE.o2 op_addM (PE.var 5) (PE.lst (PA.cons (PE.lst (PA.cons (PE.tup (PA.cons PE.bl (PA.cons (PE.lst (PA.cons PE.int PA.nil)) PA.nil))) PA.nil)) (PA.cons (PE.lst (PA.cons (PE.tup (PA.cons PE.int (PA.cons (PE.lst (PA.cons PE.bl PA.nil)) PA.nil))) PA.nil)) (PA.cons (PE.lst (PA.cons (PE.tup (PA.cons PE.int (PA.cons (PE.lst (PA.cons (PE.un op_negM PE.int) PA.nil)) PA.nil))) PA.nil)) (PA.cons (PE.lst (PA.cons (PE.tup (PA.cons PE.int (PA.cons (PE.lst (PA.cons PE.int PA.nil)) (PA.cons PE.int PA.nil)))) PA.nil)) PA.nil))))))) (PG.var (i := 3) sc79.nd rfl (by first | exact .inl rfl | exact .inr rfl)) (PSs.one (PS.if (PT.cmp (op_neM G.sm G.u64) (PE.call D78 G (by decide) rfl (PA.cons (PE.var 2) (PA.cons (PE.var 0) (PA.cons (PE.ix G.K G.u1 (PE.ix G.K G.u1 (PE.var 1) PE.int (fun _ _ => rfl)) PE.int (fun _ _ => rfl)) (PA.cons PE.int (PA.cons (PE.var 3) PA.nil)))))) (PE.lst (PA.cons PE.int (PA.cons (PE.callB (call_reprM G.sm G.gd G.u66) rfl T.b_repr rfl (PA.cons (PE.var 3) PA.nil)) PA.nil))) (nomark _)) (PSs.one (PS.ret PE.bl)) PSs.nil))))))) (PSs.cons (PS.for G.pass G.calm (PI.walk G.K (PE.lst (PA.cons PE.non (PA.cons PE.int (PA.cons PE.str (PA.cons PE.str (PA.cons (PE.lst (PA.cons PE.str PA.nil)) (PA.cons (PE.tup PA.nil) (PA.cons PE.dict0 (PA.cons PE.bl PA.nil)))))))))) (PG.var (i := 3) sc79.nd rfl (by first | exact .inl rfl | exact .inr rfl)) (PSs.one (PS.if (PT.cmp (op_neM G.sm G.u64) (PE.call D78 G (by decide) rfl (PA.cons PE.int (PA.cons (PE.var 0) (PA.cons (PE.var 3) (PA.cons PE.non (PA.cons PE.non PA.nil)))))) (PE.lst (PA.cons PE.int (PA.cons (PE.callB (call_reprM G.sm G.gd G.u66) rfl T.b_repr rfl (PA.cons (PE.var 3) PA.nil)) PA.nil))) (nomark _)) (PSs.one (PS.ret PE.bl)) PSs.nil))) (PSs.cons (PS.for G.pass G.calm (PI.walk G.K (PE.lst (PA.cons PE.non (PA.cons (PE.un op_negM PE.int) (PA.cons PE.bl (PA.cons PE.str (PA.cons (PE.lst (PA.cons PE.int PA.nil)) (PA.cons (PE.tup (PA.cons PE.int PA.nil)) (PA.cons PE.dict0 (PA.cons (PE.un op_negM (PE.o2 op_powM PE.int PE.int)) PA.nil)))))))))) (PG.var (i := 3) sc79.nd rfl (by first | exact .inl rfl | exact .inr rfl)) (PSs.one (PS.if (PT.cmp (op_neM G.sm G.u64) (PE.call D78 G (by decide) rfl (PA.cons PE.int (PA.cons (PE.var 0) (PA.cons (PE.ix G.K G.u1 (PE.ix G.K G.u1 (PE.var 1) PE.int (fun _ _ => rfl)) PE.int (fun _ _ => rfl)) (PA.cons (PE.var 3) (PA.cons PE.non PA.nil)))))) (PE.lst (PA.cons PE.int (PA.cons (PE.callB (call_reprM G.sm G.gd G.u66) rfl T.b_repr rfl (PA.cons (PE.var 3) PA.nil)) PA.nil))) (nomark _)) (PSs.one (PS.ret PE.bl)) PSs.nil))) (PSs.cons (PS.setLcG (i := 4) G sc79.nd rfl rfl (by first | rfl | decide) (PI.rng1 rfl T.b_range (PA.cons (PE.callB (call_lenM G.K) rfl T.b_len rfl (PA.cons (PE.ix G.K G.u1 (PE.var 1) PE.int (fun _ _ => rfl)) PA.nil)) PA.nil)) (own := [("_law_number", 6)]) ⟨rfl, by decide +kernel, of_decide_eq_true (by kernel_rfl), of_decide_eq_true (by kernel_rfl), of_decide_eq_true (by kernel_rfl)⟩ (fun s3 H3 C3 cl3 fp3 G => (PG.var (i := 6) sc79.nd rfl (by first | exact .inl rfl | exact .inr rfl))) (fun s3 H3 C3 cl3 fp3 G => (PTs.one (PT.cmp (op_neM G.sm G.u64) (PE.ix G.K G.u1 (PE.ix G.K G.u1 (PE.ix G.K G.u1 (PE.var 1) PE.int (fun _ _ => rfl)) (PE.var 6) (fun _ _ => rfl)) PE.int (fun _ _ => rfl)) (PE.ix G.K G.u1 (PE.ix G.K G.u1 (PE.var 1) PE.int (fun _ _ => rfl)) PE.int (fun _ _ => rfl)) (nomark _)))) (fun s3 H3 C3 cl3 fp3 G => (PE.var 6))) (PSs.cons (PS.set (i := 3) sc79.nd rfl (by first | exact .inl rfl | exact .inr rfl) (PE.lst (PA.cons (PE.tup (PA.cons PE.int (PA.cons (PE.cut (PE.var 4) PO.non (PO.som PE.int)) PA.nil))) PA.nil))) (PSs.cons (PS.if (PT.cmp (op_eqM G.sm G.u64) (PE.var 4) (PE.lst PA.nil) (nomark _)) (PSs.one (PS.ret PE.bl)) PSs.nil) (PSs.one (PS.ret (PE.cmp (op_eqM G.sm G.u64) (PE.call D78 G (by decide) rfl (PA.cons PE.int (PA.cons (PE.var 0) (PA.cons (PE.ix G.K G.u1 (PE.ix G.K G.u1 (PE.var 1) PE.int (fun _ _ => rfl)) PE.int (fun _ _ => rfl)) (PA.cons PE.int (PA.cons (PE.var 3) PA.nil)))))) (PE.lst (PA.cons PE.int (PA.cons (PE.callB (call_reprM G.sm G.gd G.u66) rfl T.b_repr rfl (PA.cons (PE.var 3) PA.nil)) PA.nil))) (nomark _))))))))))
theorem at79 (T : Tx P w K mg base en CC) {f : Addr} {fd : FuncData} (F : L2.Fun K "_law_refused" "_law_refused" s79 f fd) (hm : mg "_law_refused" = some (.ref f)) (D78 : DefAt P w K mg base en 7 "_law_caught" 5 f78) : DefAt P w K mg base en 8 "_law_refused" 2 f79 :=
  DefAt.mk' hm F (ok79 T F D78) (F.binds fun _ _ _ _ _ _ us hl => match us, hl with | [_, _], _ => rfl)
/-! law -/
abbrev s80 : Stmt := top 80
def m80 : SM := (mSeq (mFor (mRng1 (aCons (mC (.int 5)) aNil)) (gVar 1) (mSeq (mSet 2 (mCall f65 (aCons (mVar 0) (aCons (mVar 1) aNil)))) (mSeq (mSet 3 (mCall f68 (aCons (mVar 2) (aCons (mC (.int 4)) (aCons (mC (.int 10)) (aCons (mC (.int 4)) aNil)))))) (mSeq (mSet 4 (mCall f69 (aCons (mVar 3) aNil))) (mSeq (mFor (mRng1 (aCons (mC (.int 6)) aNil)) (gVar 5) (mSeq (mSet 6 (mO2 opIx (mO2 opIx (mVar 3) (mC (.int 0))) (mCall f66 (aCons (mVar 2) (aCons (mOA (un1 opLen) (aCons (mO2 opIx (mVar 3) (mC (.int 0))) aNil)) aNil))))) (mSeq (mSet 7 (mCall f74 (aCons (mVar 2) (aCons (mVar 3) (aCons (mVar 6) (aCons (mC (.int 4)) aNil)))))) (mSeq (mIfS (bNot (mTru (mCall f77 (aCons (mVar 4) (aCons (mVar 3) (aCons (mVar 6) (aCons (mVar 7) aNil))))))) (mRet (mC (.bl false))) mNil) (mSeq (mSet 8 (mLc (mWalk (mVar 7)) (gTupM 2 (gsCons (gVar 9) (gsCons (gVar 10) gsNil))) bYes (mOA opTup (aCons (mOA (bin2 opMin) (aCons (mVar 9) (aCons (mC (.int 3)) aNil))) (aCons (mVar 10) aNil))) [9, 10])) (mIfS (bNot (mTru (mCall f76 (aCons (mVar 4) (aCons (mVar 3) (aCons (mVar 6) (aCons (mVar 8) aNil))))))) (mRet (mC (.bl false))) mNil)))))) (mIfS (bNot (mTru (mCall f79 (aCons (mVar 4) (aCons (mVar 3) aNil))))) (mRet (mC (.bl false))) mNil)))))) (mRet (mC (.bl true))))
def f80 : FM := mFn 1 11 m80
abbrev mn_law : SM := m80
abbrev fn_law : FM := f80
theorem sc80 : FnScope ["_law_script", "_law_index", "_law_generator_here", "_law_parts_here", "_law_program_here", "_law_turn", "_law_place", "_law_row", "_law_short", "_law_times", "_law_numbers"] ["_law_script"] (defScope s80) := ⟨rfl, rfl, rfl, by decide +kernel, rfl, by decide +kernel, by decide +kernel⟩
theorem ok80 (T : Tx P w K mg base en CC) {f : Addr} {fd : FuncData} (F : L2.Fun K "law" "law" s80 f fd) (D65 : DefAt P w K mg base en 2 "_law_generator" 2 f65) (D68 : DefAt P w K mg base en 4 "_law_parts" 4 f68) (D69 : DefAt P w K mg base en 8 "_law_program" 1 f69) (D66 : DefAt P w K mg base en 2 "_law_random" 2 f66) (D74 : DefAt P w K mg base en 3 "_law_row_drawn" 4 f74) (D77 : DefAt P w K mg base en 8 "_law_right" 4 f77) (D76 : DefAt P w K mg base en 7 "_law_small_right" 4 f76) (D79 : DefAt P w K mg base en 8 "_law_refused" 2 f79) : FnG P w K mg base 9 f fd ["_law_script"] (spM en 1 f80) := by
  obtain ⟨oc, od, kV, doc, pm, an, cdv, ct, osl, rfl, lk, hcd⟩ := F.ex
  exact fnG_of lk hcd sc80 T.hK T.sm fun A outer s H E G => (PSs.cons (PS.for G.pass G.calm (PI.rng1 rfl T.b_range (PA.cons PE.int PA.nil)) (PG.var (i := 1) sc80.nd rfl (by first | exact .inl rfl | exact .inr rfl)) (PSs.cons (PS.set (i := 2) sc80.nd rfl (by first | exact .inl rfl | exact .inr rfl) (PE.call D65 G (by decide) rfl (PA.cons (PE.var 0) (PA.cons (PE.var 1) PA.nil)))) (PSs.cons (PS.set (i := 3) sc80.nd rfl (by first | exact .inl rfl | exact .inr rfl) (PE.call D68 G (by decide) rfl (PA.cons (PE.var 2) (PA.cons PE.int (PA.cons PE.int (PA.cons PE.int PA.nil)))))) (PSs.cons (PS.set (i := 4) sc80.nd rfl (by first | exact .inl rfl | exact .inr rfl) (PE.call D69 G (by decide) rfl (PA.cons (PE.var 3) PA.nil))) (PSs.cons (PS.for G.pass G.calm (PI.rng1 rfl T.b_range (PA.cons PE.int PA.nil)) (PG.var (i := 5) sc80.nd rfl (by first | exact .inl rfl | exact .inr rfl)) (PSs.cons (PS.set (i := 6) sc80.nd rfl (by first | exact .inl rfl | exact .inr rfl) (PE.ix G.K G.u1 (PE.ix G.K G.u1 (PE.var 3) PE.int (fun _ _ => rfl)) (PE.call D66 G (by decide) rfl (PA.cons (PE.var 2) (PA.cons (PE.callB (call_lenM G.K) rfl T.b_len rfl (PA.cons (PE.ix G.K G.u1 (PE.var 3) PE.int (fun _ _ => rfl)) PA.nil)) PA.nil))) (fun _ _ => rfl))) (PSs.cons (PS.set (i := 7) sc80.nd rfl (by first | exact .inl rfl | exact .inr rfl) (PE.call D74 G (by decide) rfl (PA.cons (PE.var 2) (PA.cons (PE.var 3) (PA.cons (PE.var 6) (PA.cons PE.int PA.nil)))))) (PSs.cons (PS.if (PT.not (PT.tru G.K (PE.call D77 G (by decide) rfl (PA.cons (PE.var 4) (PA.cons (PE.var 3) (PA.cons (PE.var 6) (PA.cons (PE.var 7) PA.nil))))))) (PSs.one (PS.ret PE.bl)) PSs.nil) (PSs.cons (PS.setLcG (i := 8) G sc80.nd rfl rfl (by first | rfl | decide) (PI.walk G.K (PE.var 7)) (own := [("_law_times", 9), ("_law_numbers", 10)]) ⟨rfl, by decide +kernel, of_decide_eq_true (by kernel_rfl), of_decide_eq_true (by kernel_rfl), of_decide_eq_true (by kernel_rfl)⟩ (fun s3 H3 C3 cl3 fp3 G => (PG.tup G.calm (PGs.cons (PG.var (i := 9) sc80.nd rfl (by first | exact .inl rfl | exact .inr rfl)) (PGs.cons (PG.var (i := 10) sc80.nd rfl (by first | exact .inl rfl | exact .inr rfl)) PGs.nil)))) (fun s3 H3 C3 cl3 fp3 G => PTs.nil) (fun s3 H3 C3 cl3 fp3 G => (PE.tup (PA.cons (PE.callB (call_minM G.calm) rfl T.b_min rfl (PA.cons (PE.var 9) (PA.cons PE.int PA.nil))) (PA.cons (PE.var 10) PA.nil))))) (PSs.one (PS.if (PT.not (PT.tru G.K (PE.call D76 G (by decide) rfl (PA.cons (PE.var 4) (PA.cons (PE.var 3) (PA.cons (PE.var 6) (PA.cons (PE.var 8) PA.nil))))))) (PSs.one (PS.ret PE.bl)) PSs.nil))))))) (PSs.one (PS.if (PT.not (PT.tru G.K (PE.call D79 G (by decide) rfl (PA.cons (PE.var 4) (PA.cons (PE.var 3) PA.nil))))) (PSs.one (PS.ret PE.bl)) PSs.nil))))))) (PSs.one (PS.ret PE.bl)))
end
abbrev sI1 : Stmt := inClass (top 4) 0
abbrev sI2 : Stmt := inClass (top 5) 0
abbrev sI3 : Stmt := inClass (top 6) 0
abbrev sI4 : Stmt := inClass (top 7) 0
abbrev sI5 : Stmt := inClass (top 8) 0
abbrev sI6 : Stmt := inClass (top 9) 0
theorem all_mk {P : Program} {w : World} {K : PySem.W.Frag} {h : Heap} {mg : Str → Option Value} {fa : Addr} (X : K.In h) (G : h.Ns mainGlobals mg) (hfa : mg "law" = some (.ref fa))
    {C0 : Addr}
    {C1 : Addr}
    {nm1 q1 : Str} {N1 fI1 cda1 cc1 T1 : Addr} {bs1 bm1 sub1 : List Value} {sn1 : List Str} {ab1 : Bool} {col1 : Option Bool} {dd1 od1 an1 cdd1 cld1 td1 : Option Addr} {u01 u11 u21 u31 u51 : Option Value} {oc1 kV1 doc1 pm1 ct1 ccl1 cl1 tc1 : Value} {osl1 ccs1 csl1 tsl1 : Array (Option Value)} {vs1 : Array Value} {file1 : Str} {tf1 : Tok} {n1 : Nat}
    {C2 : Addr}
    {nm2 q2 : Str} {N2 fI2 cda2 cc2 T2 : Addr} {bs2 bm2 sub2 : List Value} {sn2 : List Str} {ab2 : Bool} {col2 : Option Bool} {dd2 od2 an2 cdd2 cld2 td2 : Option Addr} {u02 u12 u22 u32 u52 : Option Value} {oc2 kV2 doc2 pm2 ct2 ccl2 cl2 tc2 : Value} {osl2 ccs2 csl2 tsl2 : Array (Option Value)} {vs2 : Array Value} {file2 : Str} {tf2 : Tok} {n2 : Nat}
    {C3 : Addr}
    {nm3 q3 : Str} {N3 fI3 cda3 cc3 T3 : Addr} {bs3 bm3 sub3 : List Value} {sn3 : List Str} {ab3 : Bool} {col3 : Option Bool} {dd3 od3 an3 cdd3 cld3 td3 : Option Addr} {u03 u13 u23 u33 u53 : Option Value} {oc3 kV3 doc3 pm3 ct3 ccl3 cl3 tc3 : Value} {osl3 ccs3 csl3 tsl3 : Array (Option Value)} {vs3 : Array Value} {file3 : Str} {tf3 : Tok} {n3 : Nat}
    {C4 : Addr}
    {nm4 q4 : Str} {N4 fI4 cda4 cc4 T4 : Addr} {bs4 bm4 sub4 : List Value} {sn4 : List Str} {ab4 : Bool} {col4 : Option Bool} {dd4 od4 an4 cdd4 cld4 td4 : Option Addr} {u04 u14 u24 u34 u54 : Option Value} {oc4 kV4 doc4 pm4 ct4 ccl4 cl4 tc4 : Value} {osl4 ccs4 csl4 tsl4 : Array (Option Value)} {vs4 : Array Value} {file4 : Str} {tf4 : Tok} {n4 : Nat}
    {C5 : Addr}
    {nm5 q5 : Str} {N5 fI5 cda5 cc5 T5 : Addr} {bs5 bm5 sub5 : List Value} {sn5 : List Str} {ab5 : Bool} {col5 : Option Bool} {dd5 od5 an5 cdd5 cld5 td5 : Option Addr} {u05 u15 u25 u35 u55 : Option Value} {oc5 kV5 doc5 pm5 ct5 ccl5 cl5 tc5 : Value} {osl5 ccs5 csl5 tsl5 : Array (Option Value)} {vs5 : Array Value} {file5 : Str} {tf5 : Tok} {n5 : Nat}
    {C6 : Addr}
    {nm6 q6 : Str} {N6 fI6 cda6 cc6 T6 : Addr} {bs6 bm6 sub6 : List Value} {sn6 : List Str} {ab6 : Bool} {col6 : Option Bool} {dd6 od6 an6 cdd6 cld6 td6 : Option Addr} {u06 u16 u26 u36 u56 : Option Value} {oc6 kV6 doc6 pm6 ct6 ccl6 cl6 tc6 : Value} {osl6 ccs6 csl6 tsl6 : Array (Option Value)} {vs6 : Array Value} {file6 : Str} {tf6 : Tok} {n6 : Nat}
    {C8 : Addr}
    {C9 : Addr}
    {t_LONGEST_NAME : Tok}
    {t_MOST_CHANGE : Tok}
    {t_MOST_LEAST : Tok}
    {t_MOST_MOVES : Tok}
    {t_MOST_PLACES : Tok}
    {fa63 : Addr} {od63d an63d : Option Addr} {sl63d : Array (Option Value)} {oc63d kV63d dc63d pm63d cd63d ct63d : Value}
    {fa65 : Addr} {od65d an65d : Option Addr} {sl65d : Array (Option Value)} {oc65d kV65d dc65d pm65d cd65d ct65d : Value}
    {fa64 : Addr} {od64d an64d : Option Addr} {sl64d : Array (Option Value)} {oc64d kV64d dc64d pm64d cd64d ct64d : Value}
    {fa66 : Addr} {od66d an66d : Option Addr} {sl66d : Array (Option Value)} {oc66d kV66d dc66d pm66d cd66d ct66d : Value}
    {fa67 : Addr} {od67d an67d : Option Addr} {sl67d : Array (Option Value)} {oc67d kV67d dc67d pm67d cd67d ct67d : Value}
    {fa68 : Addr} {od68d an68d : Option Addr} {sl68d : Array (Option Value)} {oc68d kV68d dc68d pm68d cd68d ct68d : Value}
    {fa14 : Addr} {od14d an14d : Option Addr} {sl14d : Array (Option Value)} {oc14d kV14d dc14d pm14d cd14d ct14d : Value}
    {fa42 : Addr} {od42d an42d : Option Addr} {sl42d : Array (Option Value)} {oc42d kV42d dc42d pm42d cd42d ct42d : Value}
    {fa41 : Addr} {od41d an41d : Option Addr} {sl41d : Array (Option Value)} {oc41d kV41d dc41d pm41d cd41d ct41d : Value}
    {fa12 : Addr} {od12d an12d : Option Addr} {sl12d : Array (Option Value)} {oc12d kV12d dc12d pm12d cd12d ct12d : Value}
    {fa13 : Addr} {od13d an13d : Option Addr} {sl13d : Array (Option Value)} {oc13d kV13d dc13d pm13d cd13d ct13d : Value}
    {fa40 : Addr} {od40d an40d : Option Addr} {sl40d : Array (Option Value)} {oc40d kV40d dc40d pm40d cd40d ct40d : Value}
    {fa43 : Addr} {od43d an43d : Option Addr} {sl43d : Array (Option Value)} {oc43d kV43d dc43d pm43d cd43d ct43d : Value}
    {fa18 : Addr} {od18d an18d : Option Addr} {sl18d : Array (Option Value)} {oc18d kV18d dc18d pm18d cd18d ct18d : Value}
    {fa17 : Addr} {od17d an17d : Option Addr} {sl17d : Array (Option Value)} {oc17d kV17d dc17d pm17d cd17d ct17d : Value}
    {fa16 : Addr} {od16d an16d : Option Addr} {sl16d : Array (Option Value)} {oc16d kV16d dc16d pm16d cd16d ct16d : Value}
    {fa_Walks___init__ : Addr} {od_Walks___init__d an_Walks___init__d : Option Addr} {sl_Walks___init__d : Array (Option Value)} {oc_Walks___init__d kV_Walks___init__d dc_Walks___init__d pm_Walks___init__d cd_Walks___init__d ct_Walks___init__d : Value}
    {fa_Program___init__ : Addr} {od_Program___init__d an_Program___init__d : Option Addr} {sl_Program___init__d : Array (Option Value)} {oc_Program___init__d kV_Program___init__d dc_Program___init__d pm_Program___init__d cd_Program___init__d ct_Program___init__d : Value}
    {fa69 : Addr} {od69d an69d : Option Addr} {sl69d : Array (Option Value)} {oc69d kV69d dc69d pm69d cd69d ct69d : Value}
    {fa74 : Addr} {od74d an74d : Option Addr} {sl74d : Array (Option Value)} {oc74d kV74d dc74d pm74d cd74d ct74d : Value}
    {fa70 : Addr} {od70d an70d : Option Addr} {sl70d : Array (Option Value)} {oc70d kV70d dc70d pm70d cd70d ct70d : Value}
    {fa71 : Addr} {od71d an71d : Option Addr} {sl71d : Array (Option Value)} {oc71d kV71d dc71d pm71d cd71d ct71d : Value}
    {fa45 : Addr} {od45d an45d : Option Addr} {sl45d : Array (Option Value)} {oc45d kV45d dc45d pm45d cd45d ct45d : Value}
    {fa_Program_moves : Addr} {od_Program_movesd an_Program_movesd : Option Addr} {sl_Program_movesd : Array (Option Value)} {oc_Program_movesd kV_Program_movesd dc_Program_movesd pm_Program_movesd cd_Program_movesd ct_Program_movesd : Value}
    {fa56 : Addr} {od56d an56d : Option Addr} {sl56d : Array (Option Value)} {oc56d kV56d dc56d pm56d cd56d ct56d : Value}
    {fa57 : Addr} {od57d an57d : Option Addr} {sl57d : Array (Option Value)} {oc57d kV57d dc57d pm57d cd57d ct57d : Value}
    {fa55 : Addr} {od55d an55d : Option Addr} {sl55d : Array (Option Value)} {oc55d kV55d dc55d pm55d cd55d ct55d : Value}
    {fa54 : Addr} {od54d an54d : Option Addr} {sl54d : Array (Option Value)} {oc54d kV54d dc54d pm54d cd54d ct54d : Value}
    {fa61 : Addr} {od61d an61d : Option Addr} {sl61d : Array (Option Value)} {oc61d kV61d dc61d pm61d cd61d ct61d : Value}
    {fa60 : Addr} {od60d an60d : Option Addr} {sl60d : Array (Option Value)} {oc60d kV60d dc60d pm60d cd60d ct60d : Value}
    {fa50 : Addr} {od50d an50d : Option Addr} {sl50d : Array (Option Value)} {oc50d kV50d dc50d pm50d cd50d ct50d : Value}
    {fa51 : Addr} {od51d an51d : Option Addr} {sl51d : Array (Option Value)} {oc51d kV51d dc51d pm51d cd51d ct51d : Value}
    {fa73 : Addr} {od73d an73d : Option Addr} {sl73d : Array (Option Value)} {oc73d kV73d dc73d pm73d cd73d ct73d : Value}
    {fa72 : Addr} {od72d an72d : Option Addr} {sl72d : Array (Option Value)} {oc72d kV72d dc72d pm72d cd72d ct72d : Value}
    {fa_Program_places : Addr} {od_Program_placesd an_Program_placesd : Option Addr} {sl_Program_placesd : Array (Option Value)} {oc_Program_placesd kV_Program_placesd dc_Program_placesd pm_Program_placesd cd_Program_placesd ct_Program_placesd : Value}
    {fa46 : Addr} {od46d an46d : Option Addr} {sl46d : Array (Option Value)} {oc46d kV46d dc46d pm46d cd46d ct46d : Value}
    {fa47 : Addr} {od47d an47d : Option Addr} {sl47d : Array (Option Value)} {oc47d kV47d dc47d pm47d cd47d ct47d : Value}
    {fa48 : Addr} {od48d an48d : Option Addr} {sl48d : Array (Option Value)} {oc48d kV48d dc48d pm48d cd48d ct48d : Value}
    {fa58 : Addr} {od58d an58d : Option Addr} {sl58d : Array (Option Value)} {oc58d kV58d dc58d pm58d cd58d ct58d : Value}
    {fa53 : Addr} {od53d an53d : Option Addr} {sl53d : Array (Option Value)} {oc53d kV53d dc53d pm53d cd53d ct53d : Value}
    {fa59 : Addr} {od59d an59d : Option Addr} {sl59d : Array (Option Value)} {oc59d kV59d dc59d pm59d cd59d ct59d : Value}
    {fa52 : Addr} {od52d an52d : Option Addr} {sl52d : Array (Option Value)} {oc52d kV52d dc52d pm52d cd52d ct52d : Value}
    {fa75 : Addr} {od75d an75d : Option Addr} {sl75d : Array (Option Value)} {oc75d kV75d dc75d pm75d cd75d ct75d : Value}
    {fa76 : Addr} {od76d an76d : Option Addr} {sl76d : Array (Option Value)} {oc76d kV76d dc76d pm76d cd76d ct76d : Value}
    {fa77 : Addr} {od77d an77d : Option Addr} {sl77d : Array (Option Value)} {oc77d kV77d dc77d pm77d cd77d ct77d : Value}
    {fa78 : Addr} {od78d an78d : Option Addr} {sl78d : Array (Option Value)} {oc78d kV78d dc78d pm78d cd78d ct78d : Value}
    {fa79 : Addr} {od79d an79d : Option Addr} {sl79d : Array (Option Value)} {oc79d kV79d dc79d pm79d cd79d ct79d : Value}
    {fa80 : Addr} {od80d an80d : Option Addr} {sl80d : Array (Option Value)} {oc80d kV80d dc80d pm80d cd80d ct80d : Value}
    (aC0 : PySem.W.nsIn K mainGlobals "WalkError" = some (some (.ref C0)))
    (ga0 : PySem.W.findIn K (.ref C0) "__getattribute__" = some (some (.builtin "BaseException.__getattribute__")))
    (gg0 : PySem.W.findIn K (.ref C0) "__getattr__" = some none)
    (kC0 : PySem.W.keepIn K (.ref C0) = true)
    (ex0 : PySem.W.subIn K (.ref C0) (.type "BaseException") = some true)
    (ty0 : PySem.W.typeIn K (.ref C0) = some (.type "type"))
    (hd0 : PySem.W.hasDictIn K C0 = true)
    (ic0 : PySem.W.isClsIn K C0 = true)
    (ha0 : PySem.W.findIn K (.ref C0) "__class__" = some (some (.builtin "object.__class__")))
    (mo0 : PySem.W.mroIn K C0 (.type "object") = some true)
    (aC1 : PySem.W.nsIn K mainGlobals "InvalidNumber" = some (some (.ref C1)))
    (ga1 : PySem.W.findIn K (.ref C1) "__getattribute__" = some (some (.builtin "BaseException.__getattribute__")))
    (gg1 : PySem.W.findIn K (.ref C1) "__getattr__" = some none)
    (kC1 : PySem.W.keepIn K (.ref C1) = true)
    (ex1 : PySem.W.subIn K (.ref C1) (.type "BaseException") = some true)
    (ty1 : PySem.W.typeIn K (.ref C1) = some (.type "type"))
    (hd1 : PySem.W.hasDictIn K C1 = true)
    (ic1 : PySem.W.isClsIn K C1 = true)
    (ha1 : PySem.W.findIn K (.ref C1) "__class__" = some (some (.builtin "object.__class__")))
    (mo1 : PySem.W.mroIn K C1 (.type "object") = some true)
    (xL1 : K.lookup C1 = some (excClassObj nm1 q1 C1 N1 bs1 bm1 true sn1 sub1 ab1 col1 dd1 u01 u11 u21 u31 u51 "ValueError.__new__"))
    (rv1 : PySem.HandSPX.refsVE bm1 = true)
    (al1 : PySem.W.ks_superIn K C1 C1 "__init__" = some (some (.builtin "ValueError.__init__")))
    (sa1 : PySem.W.findIn K (.ref C1) "__setattr__" = some (some (.builtin "object.__setattr__")))
    (no1 : PySem.W.findIn K (.ref C1) "value" = some none)
    (iC1 : PySem.W.findIn K (.ref C1) "__init__" = some (some (.ref fI1)))
    (tF1 : PySem.W.typeIn K (.ref fI1) = some (.type "function"))
    (ve1 : PySem.W.subIn K (.ref C1) (.type "ValueError") = some true)
    (mr1 : PySem.W.mroIn K C1 (.ref C1) = some true)
    (lF1 : K.lookup fI1 = some ⟨oc1, od1, .func (PySem.W.fnX "__init__" "InvalidNumber.__init__" (defArgs sI1) (defBody sI1) (defScope sI1) [("__class__", cc1)] (.ref T1) kV1 doc1 pm1 an1 (.ref cda1) ct1), osl1⟩)
    (cF1 : PySem.W.codeIn K (.ref cda1) "InvalidNumber.__init__" = true)
    (lD1 : K.lookup cda1 = some ⟨ccl1, cdd1, .fields vs1, ccs1⟩)
    (hv1 : vs1[2]? = some (.str file1 tf1))
    (hf1 : (P.main.file == file1) = true)
    (lcc1 : K.lookup cc1 = some ⟨cl1, cld1, .cell (some (.ref C1)), csl1⟩)
    (lT1 : K.lookup T1 = some ⟨tc1, td1, .seq #[.none] n1, tsl1⟩)
    (aC2 : PySem.W.nsIn K mainGlobals "InvalidList" = some (some (.ref C2)))
    (ga2 : PySem.W.findIn K (.ref C2) "__getattribute__" = some (some (.builtin "BaseException.__getattribute__")))
    (gg2 : PySem.W.findIn K (.ref C2) "__getattr__" = some none)
    (kC2 : PySem.W.keepIn K (.ref C2) = true)
    (ex2 : PySem.W.subIn K (.ref C2) (.type "BaseException") = some true)
    (ty2 : PySem.W.typeIn K (.ref C2) = some (.type "type"))
    (hd2 : PySem.W.hasDictIn K C2 = true)
    (ic2 : PySem.W.isClsIn K C2 = true)
    (ha2 : PySem.W.findIn K (.ref C2) "__class__" = some (some (.builtin "object.__class__")))
    (mo2 : PySem.W.mroIn K C2 (.type "object") = some true)
    (xL2 : K.lookup C2 = some (excClassObj nm2 q2 C2 N2 bs2 bm2 true sn2 sub2 ab2 col2 dd2 u02 u12 u22 u32 u52 "ValueError.__new__"))
    (rv2 : PySem.HandSPX.refsVE bm2 = true)
    (al2 : PySem.W.ks_superIn K C2 C2 "__init__" = some (some (.builtin "ValueError.__init__")))
    (sa2 : PySem.W.findIn K (.ref C2) "__setattr__" = some (some (.builtin "object.__setattr__")))
    (no2 : PySem.W.findIn K (.ref C2) "value" = some none)
    (iC2 : PySem.W.findIn K (.ref C2) "__init__" = some (some (.ref fI2)))
    (tF2 : PySem.W.typeIn K (.ref fI2) = some (.type "function"))
    (ve2 : PySem.W.subIn K (.ref C2) (.type "ValueError") = some true)
    (mr2 : PySem.W.mroIn K C2 (.ref C2) = some true)
    (lF2 : K.lookup fI2 = some ⟨oc2, od2, .func (PySem.W.fnX "__init__" "InvalidList.__init__" (defArgs sI2) (defBody sI2) (defScope sI2) [("__class__", cc2)] (.ref T2) kV2 doc2 pm2 an2 (.ref cda2) ct2), osl2⟩)
    (cF2 : PySem.W.codeIn K (.ref cda2) "InvalidList.__init__" = true)
    (lD2 : K.lookup cda2 = some ⟨ccl2, cdd2, .fields vs2, ccs2⟩)
    (hv2 : vs2[2]? = some (.str file2 tf2))
    (hf2 : (P.main.file == file2) = true)
    (lcc2 : K.lookup cc2 = some ⟨cl2, cld2, .cell (some (.ref C2)), csl2⟩)
    (lT2 : K.lookup T2 = some ⟨tc2, td2, .seq #[.none] n2, tsl2⟩)
    (aC3 : PySem.W.nsIn K mainGlobals "InvalidItem" = some (some (.ref C3)))
    (ga3 : PySem.W.findIn K (.ref C3) "__getattribute__" = some (some (.builtin "BaseException.__getattribute__")))
    (gg3 : PySem.W.findIn K (.ref C3) "__getattr__" = some none)
    (kC3 : PySem.W.keepIn K (.ref C3) = true)
    (ex3 : PySem.W.subIn K (.ref C3) (.type "BaseException") = some true)
    (ty3 : PySem.W.typeIn K (.ref C3) = some (.type "type"))
    (hd3 : PySem.W.hasDictIn K C3 = true)
    (ic3 : PySem.W.isClsIn K C3 = true)
    (ha3 : PySem.W.findIn K (.ref C3) "__class__" = some (some (.builtin "object.__class__")))
    (mo3 : PySem.W.mroIn K C3 (.type "object") = some true)
    (xL3 : K.lookup C3 = some (excClassObj nm3 q3 C3 N3 bs3 bm3 true sn3 sub3 ab3 col3 dd3 u03 u13 u23 u33 u53 "ValueError.__new__"))
    (rv3 : PySem.HandSPX.refsVE bm3 = true)
    (al3 : PySem.W.ks_superIn K C3 C3 "__init__" = some (some (.builtin "ValueError.__init__")))
    (sa3 : PySem.W.findIn K (.ref C3) "__setattr__" = some (some (.builtin "object.__setattr__")))
    (no3 : PySem.W.findIn K (.ref C3) "value" = some none)
    (iC3 : PySem.W.findIn K (.ref C3) "__init__" = some (some (.ref fI3)))
    (tF3 : PySem.W.typeIn K (.ref fI3) = some (.type "function"))
    (ve3 : PySem.W.subIn K (.ref C3) (.type "ValueError") = some true)
    (mr3 : PySem.W.mroIn K C3 (.ref C3) = some true)
    (lF3 : K.lookup fI3 = some ⟨oc3, od3, .func (PySem.W.fnX "__init__" "InvalidItem.__init__" (defArgs sI3) (defBody sI3) (defScope sI3) [("__class__", cc3)] (.ref T3) kV3 doc3 pm3 an3 (.ref cda3) ct3), osl3⟩)
    (cF3 : PySem.W.codeIn K (.ref cda3) "InvalidItem.__init__" = true)
    (lD3 : K.lookup cda3 = some ⟨ccl3, cdd3, .fields vs3, ccs3⟩)
    (hv3 : vs3[2]? = some (.str file3 tf3))
    (hf3 : (P.main.file == file3) = true)
    (lcc3 : K.lookup cc3 = some ⟨cl3, cld3, .cell (some (.ref C3)), csl3⟩)
    (lT3 : K.lookup T3 = some ⟨tc3, td3, .seq #[.none] n3, tsl3⟩)
    (aC4 : PySem.W.nsIn K mainGlobals "InvalidProgram" = some (some (.ref C4)))
    (ga4 : PySem.W.findIn K (.ref C4) "__getattribute__" = some (some (.builtin "BaseException.__getattribute__")))
    (gg4 : PySem.W.findIn K (.ref C4) "__getattr__" = some none)
    (kC4 : PySem.W.keepIn K (.ref C4) = true)
    (ex4 : PySem.W.subIn K (.ref C4) (.type "BaseException") = some true)
    (ty4 : PySem.W.typeIn K (.ref C4) = some (.type "type"))
    (hd4 : PySem.W.hasDictIn K C4 = true)
    (ic4 : PySem.W.isClsIn K C4 = true)
    (ha4 : PySem.W.findIn K (.ref C4) "__class__" = some (some (.builtin "object.__class__")))
    (mo4 : PySem.W.mroIn K C4 (.type "object") = some true)
    (xL4 : K.lookup C4 = some (excClassObj nm4 q4 C4 N4 bs4 bm4 true sn4 sub4 ab4 col4 dd4 u04 u14 u24 u34 u54 "ValueError.__new__"))
    (rv4 : PySem.HandSPX.refsVE bm4 = true)
    (al4 : PySem.W.ks_superIn K C4 C4 "__init__" = some (some (.builtin "ValueError.__init__")))
    (sa4 : PySem.W.findIn K (.ref C4) "__setattr__" = some (some (.builtin "object.__setattr__")))
    (no4 : PySem.W.findIn K (.ref C4) "value" = some none)
    (iC4 : PySem.W.findIn K (.ref C4) "__init__" = some (some (.ref fI4)))
    (tF4 : PySem.W.typeIn K (.ref fI4) = some (.type "function"))
    (ve4 : PySem.W.subIn K (.ref C4) (.type "ValueError") = some true)
    (mr4 : PySem.W.mroIn K C4 (.ref C4) = some true)
    (lF4 : K.lookup fI4 = some ⟨oc4, od4, .func (PySem.W.fnX "__init__" "InvalidProgram.__init__" (defArgs sI4) (defBody sI4) (defScope sI4) [("__class__", cc4)] (.ref T4) kV4 doc4 pm4 an4 (.ref cda4) ct4), osl4⟩)
    (cF4 : PySem.W.codeIn K (.ref cda4) "InvalidProgram.__init__" = true)
    (lD4 : K.lookup cda4 = some ⟨ccl4, cdd4, .fields vs4, ccs4⟩)
    (hv4 : vs4[2]? = some (.str file4 tf4))
    (hf4 : (P.main.file == file4) = true)
    (lcc4 : K.lookup cc4 = some ⟨cl4, cld4, .cell (some (.ref C4)), csl4⟩)
    (lT4 : K.lookup T4 = some ⟨tc4, td4, .seq #[.none] n4, tsl4⟩)
    (aC5 : PySem.W.nsIn K mainGlobals "InvalidRow" = some (some (.ref C5)))
    (ga5 : PySem.W.findIn K (.ref C5) "__getattribute__" = some (some (.builtin "BaseException.__getattribute__")))
    (gg5 : PySem.W.findIn K (.ref C5) "__getattr__" = some none)
    (kC5 : PySem.W.keepIn K (.ref C5) = true)
    (ex5 : PySem.W.subIn K (.ref C5) (.type "BaseException") = some true)
    (ty5 : PySem.W.typeIn K (.ref C5) = some (.type "type"))
    (hd5 : PySem.W.hasDictIn K C5 = true)
    (ic5 : PySem.W.isClsIn K C5 = true)
    (ha5 : PySem.W.findIn K (.ref C5) "__class__" = some (some (.builtin "object.__class__")))
    (mo5 : PySem.W.mroIn K C5 (.type "object") = some true)
    (xL5 : K.lookup C5 = some (excClassObj nm5 q5 C5 N5 bs5 bm5 true sn5 sub5 ab5 col5 dd5 u05 u15 u25 u35 u55 "ValueError.__new__"))
    (rv5 : PySem.HandSPX.refsVE bm5 = true)
    (al5 : PySem.W.ks_superIn K C5 C5 "__init__" = some (some (.builtin "ValueError.__init__")))
    (sa5 : PySem.W.findIn K (.ref C5) "__setattr__" = some (some (.builtin "object.__setattr__")))
    (no5 : PySem.W.findIn K (.ref C5) "value" = some none)
    (iC5 : PySem.W.findIn K (.ref C5) "__init__" = some (some (.ref fI5)))
    (tF5 : PySem.W.typeIn K (.ref fI5) = some (.type "function"))
    (ve5 : PySem.W.subIn K (.ref C5) (.type "ValueError") = some true)
    (mr5 : PySem.W.mroIn K C5 (.ref C5) = some true)
    (lF5 : K.lookup fI5 = some ⟨oc5, od5, .func (PySem.W.fnX "__init__" "InvalidRow.__init__" (defArgs sI5) (defBody sI5) (defScope sI5) [("__class__", cc5)] (.ref T5) kV5 doc5 pm5 an5 (.ref cda5) ct5), osl5⟩)
    (cF5 : PySem.W.codeIn K (.ref cda5) "InvalidRow.__init__" = true)
    (lD5 : K.lookup cda5 = some ⟨ccl5, cdd5, .fields vs5, ccs5⟩)
    (hv5 : vs5[2]? = some (.str file5 tf5))
    (hf5 : (P.main.file == file5) = true)
    (lcc5 : K.lookup cc5 = some ⟨cl5, cld5, .cell (some (.ref C5)), csl5⟩)
    (lT5 : K.lookup T5 = some ⟨tc5, td5, .seq #[.none] n5, tsl5⟩)
    (aC6 : PySem.W.nsIn K mainGlobals "UnknownName" = some (some (.ref C6)))
    (ga6 : PySem.W.findIn K (.ref C6) "__getattribute__" = some (some (.builtin "BaseException.__getattribute__")))
    (gg6 : PySem.W.findIn K (.ref C6) "__getattr__" = some none)
    (kC6 : PySem.W.keepIn K (.ref C6) = true)
    (ex6 : PySem.W.subIn K (.ref C6) (.type "BaseException") = some true)
    (ty6 : PySem.W.typeIn K (.ref C6) = some (.type "type"))
    (hd6 : PySem.W.hasDictIn K C6 = true)
    (ic6 : PySem.W.isClsIn K C6 = true)
    (ha6 : PySem.W.findIn K (.ref C6) "__class__" = some (some (.builtin "object.__class__")))
    (mo6 : PySem.W.mroIn K C6 (.type "object") = some true)
    (xL6 : K.lookup C6 = some (excClassObj nm6 q6 C6 N6 bs6 bm6 true sn6 sub6 ab6 col6 dd6 u06 u16 u26 u36 u56 "ValueError.__new__"))
    (rv6 : PySem.HandSPX.refsVE bm6 = true)
    (al6 : PySem.W.ks_superIn K C6 C6 "__init__" = some (some (.builtin "ValueError.__init__")))
    (sa6 : PySem.W.findIn K (.ref C6) "__setattr__" = some (some (.builtin "object.__setattr__")))
    (no6 : PySem.W.findIn K (.ref C6) "name" = some none)
    (iC6 : PySem.W.findIn K (.ref C6) "__init__" = some (some (.ref fI6)))
    (tF6 : PySem.W.typeIn K (.ref fI6) = some (.type "function"))
    (ve6 : PySem.W.subIn K (.ref C6) (.type "ValueError") = some true)
    (mr6 : PySem.W.mroIn K C6 (.ref C6) = some true)
    (lF6 : K.lookup fI6 = some ⟨oc6, od6, .func (PySem.W.fnX "__init__" "UnknownName.__init__" (defArgs sI6) (defBody sI6) (defScope sI6) [("__class__", cc6)] (.ref T6) kV6 doc6 pm6 an6 (.ref cda6) ct6), osl6⟩)
    (cF6 : PySem.W.codeIn K (.ref cda6) "UnknownName.__init__" = true)
    (lD6 : K.lookup cda6 = some ⟨ccl6, cdd6, .fields vs6, ccs6⟩)
    (hv6 : vs6[2]? = some (.str file6 tf6))
    (hf6 : (P.main.file == file6) = true)
    (lcc6 : K.lookup cc6 = some ⟨cl6, cld6, .cell (some (.ref C6)), csl6⟩)
    (lT6 : K.lookup T6 = some ⟨tc6, td6, .seq #[.none] n6, tsl6⟩)
    (aC8 : PySem.W.nsIn K mainGlobals "Walks" = some (some (.ref C8)))
    (pg8 : PySem.W.plainGet K C8 Str.empty = true)
    (hd8 : PySem.W.hasDictIn K C8 = true)
    (po8 : PySem.W.plainOver K C8 = true)
    (sa8 : PySem.W.findIn K (.ref C8) "__setattr__" = some (some (.builtin "object.__setattr__")))
    (mk8 : PySem.W.makesIn K C8 = true)
    (kc8 : PySem.W.keepIn K (.ref C8) = true)
    (ha8 : PySem.W.findIn K (.ref C8) "__class__" = some (some (.builtin "object.__class__")))
    (mo8 : PySem.W.mroIn K C8 (.type "object") = some true)
    (no8_0 : PySem.W.findIn K (.ref C8) "_at" = some none)
    (no8_1 : PySem.W.findIn K (.ref C8) "_ways" = some none)
    (no8_2 : PySem.W.findIn K (.ref C8) "_tables" = some none)
    (no8_3 : PySem.W.findIn K (.ref C8) "_common" = some none)
    (aC9 : PySem.W.nsIn K mainGlobals "Program" = some (some (.ref C9)))
    (pg9 : PySem.W.plainGet K C9 Str.empty = true)
    (hd9 : PySem.W.hasDictIn K C9 = true)
    (po9 : PySem.W.plainOver K C9 = true)
    (sa9 : PySem.W.findIn K (.ref C9) "__setattr__" = some (some (.builtin "object.__setattr__")))
    (mk9 : PySem.W.makesIn K C9 = true)
    (kc9 : PySem.W.keepIn K (.ref C9) = true)
    (ha9 : PySem.W.findIn K (.ref C9) "__class__" = some (some (.builtin "object.__class__")))
    (mo9 : PySem.W.mroIn K C9 (.type "object") = some true)
    (no9_0 : PySem.W.findIn K (.ref C9) "_places" = some none)
    (no9_1 : PySem.W.findIn K (.ref C9) "_moves" = some none)
    (no9_2 : PySem.W.findIn K (.ref C9) "_walks" = some none)
    (opq : PySem.W.nsIn K cStatics "thirdparty.any" = some none)
    (sup : PySem.W.nsIn K mainGlobals "super" = some none)
    (hn : PySem.W.specialIn K (.builtin "object.__class__") "__get__" = some (some (.builtin "getset_descriptor.__get__")))
    (ht : PySem.W.takesIn K (.builtin "object.__class__") = some true)
    (htop : (P.main.scope.names.lookup ("super" : Str)).isSome = false)
    (m_gcd : PySem.W.nsIn K mainGlobals "gcd" = some (some (.builtin "math.gcd")))
    (m_lcm : PySem.W.nsIn K mainGlobals "lcm" = some (some (.builtin "math.lcm")))
    (b_all : PySem.W.nsIn K mainGlobals "all" = some none)
    (b_bool : PySem.W.nsIn K mainGlobals "bool" = some none)
    (b_enumerate : PySem.W.nsIn K mainGlobals "enumerate" = some none)
    (b_int : PySem.W.nsIn K mainGlobals "int" = some none)
    (b_isinstance : PySem.W.nsIn K mainGlobals "isinstance" = some none)
    (b_len : PySem.W.nsIn K mainGlobals "len" = some none)
    (b_list : PySem.W.nsIn K mainGlobals "list" = some none)
    (b_max : PySem.W.nsIn K mainGlobals "max" = some none)
    (b_min : PySem.W.nsIn K mainGlobals "min" = some none)
    (b_range : PySem.W.nsIn K mainGlobals "range" = some none)
    (b_repr : PySem.W.nsIn K mainGlobals "repr" = some none)
    (b_str : PySem.W.nsIn K mainGlobals "str" = some none)
    (b_tuple : PySem.W.nsIn K mainGlobals "tuple" = some none)
    (k_LONGEST_NAME : PySem.W.nsIn K mainGlobals "LONGEST_NAME" = some (some (.int 8 t_LONGEST_NAME)))
    (k_MOST_CHANGE : PySem.W.nsIn K mainGlobals "MOST_CHANGE" = some (some (.int 4 t_MOST_CHANGE)))
    (k_MOST_LEAST : PySem.W.nsIn K mainGlobals "MOST_LEAST" = some (some (.int 8 t_MOST_LEAST)))
    (k_MOST_MOVES : PySem.W.nsIn K mainGlobals "MOST_MOVES" = some (some (.int 10 t_MOST_MOVES)))
    (k_MOST_PLACES : PySem.W.nsIn K mainGlobals "MOST_PLACES" = some (some (.int 4 t_MOST_PLACES)))
    (o0_InvalidNumber : PySem.W.kitOne K (.ref C0) (.ref C1) = some false)
    (o1_InvalidNumber : PySem.W.kitOne K (.ref C1) (.ref C1) = some true)
    (o2_InvalidNumber : PySem.W.kitOne K (.ref C2) (.ref C1) = some false)
    (o3_InvalidNumber : PySem.W.kitOne K (.ref C3) (.ref C1) = some false)
    (o4_InvalidNumber : PySem.W.kitOne K (.ref C4) (.ref C1) = some false)
    (o5_InvalidNumber : PySem.W.kitOne K (.ref C5) (.ref C1) = some false)
    (o6_InvalidNumber : PySem.W.kitOne K (.ref C6) (.ref C1) = some false)
    (o0_InvalidProgram : PySem.W.kitOne K (.ref C0) (.ref C4) = some false)
    (o1_InvalidProgram : PySem.W.kitOne K (.ref C1) (.ref C4) = some false)
    (o2_InvalidProgram : PySem.W.kitOne K (.ref C2) (.ref C4) = some false)
    (o3_InvalidProgram : PySem.W.kitOne K (.ref C3) (.ref C4) = some false)
    (o4_InvalidProgram : PySem.W.kitOne K (.ref C4) (.ref C4) = some true)
    (o5_InvalidProgram : PySem.W.kitOne K (.ref C5) (.ref C4) = some false)
    (o6_InvalidProgram : PySem.W.kitOne K (.ref C6) (.ref C4) = some false)
    (o0_InvalidRow : PySem.W.kitOne K (.ref C0) (.ref C5) = some false)
    (o1_InvalidRow : PySem.W.kitOne K (.ref C1) (.ref C5) = some false)
    (o2_InvalidRow : PySem.W.kitOne K (.ref C2) (.ref C5) = some false)
    (o3_InvalidRow : PySem.W.kitOne K (.ref C3) (.ref C5) = some false)
    (o4_InvalidRow : PySem.W.kitOne K (.ref C4) (.ref C5) = some false)
    (o5_InvalidRow : PySem.W.kitOne K (.ref C5) (.ref C5) = some true)
    (o6_InvalidRow : PySem.W.kitOne K (.ref C6) (.ref C5) = some false)
    (o0_UnknownName : PySem.W.kitOne K (.ref C0) (.ref C6) = some false)
    (o1_UnknownName : PySem.W.kitOne K (.ref C1) (.ref C6) = some false)
    (o2_UnknownName : PySem.W.kitOne K (.ref C2) (.ref C6) = some false)
    (o3_UnknownName : PySem.W.kitOne K (.ref C3) (.ref C6) = some false)
    (o4_UnknownName : PySem.W.kitOne K (.ref C4) (.ref C6) = some false)
    (o5_UnknownName : PySem.W.kitOne K (.ref C5) (.ref C6) = some false)
    (o6_UnknownName : PySem.W.kitOne K (.ref C6) (.ref C6) = some true)
    (on_non_Program : PySem.W.kitOne K (.type "NoneType") (.ref C9) = some false)
    (on_bl_Program : PySem.W.kitOne K (.type "bool") (.ref C9) = some false)
    (on_int_Program : PySem.W.kitOne K (.type "int") (.ref C9) = some false)
    (on_str_Program : PySem.W.kitOne K (.type "str") (.ref C9) = some false)
    (on_lst_Program : PySem.W.kitOne K (.type "list") (.ref C9) = some false)
    (on_tup_Program : PySem.W.kitOne K (.type "tuple") (.ref C9) = some false)
    (on_dct_Program : PySem.W.kitOne K (.type "dict") (.ref C9) = some false)
    (os8_Program : PySem.W.kitOne K (.ref C8) (.ref C9) = some false)
    (os9_Program : PySem.W.kitOne K (.ref C9) (.ref C9) = some true)
    (u0_WalkError : PySem.W.subIn K (.ref C0) (.ref C0) = some true)
    (u1_WalkError : PySem.W.subIn K (.ref C1) (.ref C0) = some true)
    (u2_WalkError : PySem.W.subIn K (.ref C2) (.ref C0) = some true)
    (u3_WalkError : PySem.W.subIn K (.ref C3) (.ref C0) = some true)
    (u4_WalkError : PySem.W.subIn K (.ref C4) (.ref C0) = some true)
    (u5_WalkError : PySem.W.subIn K (.ref C5) (.ref C0) = some true)
    (u6_WalkError : PySem.W.subIn K (.ref C6) (.ref C0) = some true)
    (a63d : PySem.W.nsIn K mainGlobals "_law_cell" = some (some (.ref fa63)))
    (l63d : K.lookup fa63 = some ⟨oc63d, od63d, .func (PySem.W.fnOf "_law_cell" "_law_cell" (defArgs s63) (defBody s63) (defScope s63) .none kV63d dc63d pm63d an63d cd63d ct63d), sl63d⟩)
    (c63d : PySem.W.codeIn K cd63d "_law_cell" = true)
    (k63d : PySem.W.keepIn K (.ref fa63) = true)
    (a65d : PySem.W.nsIn K mainGlobals "_law_generator" = some (some (.ref fa65)))
    (l65d : K.lookup fa65 = some ⟨oc65d, od65d, .func (PySem.W.fnOf "_law_generator" "_law_generator" (defArgs s65) (defBody s65) (defScope s65) .none kV65d dc65d pm65d an65d cd65d ct65d), sl65d⟩)
    (c65d : PySem.W.codeIn K cd65d "_law_generator" = true)
    (k65d : PySem.W.keepIn K (.ref fa65) = true)
    (a64d : PySem.W.nsIn K mainGlobals "_law_hash" = some (some (.ref fa64)))
    (l64d : K.lookup fa64 = some ⟨oc64d, od64d, .func (PySem.W.fnOf "_law_hash" "_law_hash" (defArgs s64) (defBody s64) (defScope s64) .none kV64d dc64d pm64d an64d cd64d ct64d), sl64d⟩)
    (c64d : PySem.W.codeIn K cd64d "_law_hash" = true)
    (k64d : PySem.W.keepIn K (.ref fa64) = true)
    (a66d : PySem.W.nsIn K mainGlobals "_law_random" = some (some (.ref fa66)))
    (l66d : K.lookup fa66 = some ⟨oc66d, od66d, .func (PySem.W.fnOf "_law_random" "_law_random" (defArgs s66) (defBody s66) (defScope s66) .none kV66d dc66d pm66d an66d cd66d ct66d), sl66d⟩)
    (c66d : PySem.W.codeIn K cd66d "_law_random" = true)
    (k66d : PySem.W.keepIn K (.ref fa66) = true)
    (a67d : PySem.W.nsIn K mainGlobals "_law_move" = some (some (.ref fa67)))
    (l67d : K.lookup fa67 = some ⟨oc67d, od67d, .func (PySem.W.fnOf "_law_move" "_law_move" (defArgs s67) (defBody s67) (defScope s67) .none kV67d dc67d pm67d an67d cd67d ct67d), sl67d⟩)
    (c67d : PySem.W.codeIn K cd67d "_law_move" = true)
    (k67d : PySem.W.keepIn K (.ref fa67) = true)
    (a68d : PySem.W.nsIn K mainGlobals "_law_parts" = some (some (.ref fa68)))
    (l68d : K.lookup fa68 = some ⟨oc68d, od68d, .func (PySem.W.fnOf "_law_parts" "_law_parts" (defArgs s68) (defBody s68) (defScope s68) .none kV68d dc68d pm68d an68d cd68d ct68d), sl68d⟩)
    (c68d : PySem.W.codeIn K cd68d "_law_parts" = true)
    (k68d : PySem.W.keepIn K (.ref fa68) = true)
    (a14d : PySem.W.nsIn K mainGlobals "is_name" = some (some (.ref fa14)))
    (l14d : K.lookup fa14 = some ⟨oc14d, od14d, .func (PySem.W.fnOf "is_name" "is_name" (defArgs s14) (defBody s14) (defScope s14) .none kV14d dc14d pm14d an14d cd14d ct14d), sl14d⟩)
    (c14d : PySem.W.codeIn K cd14d "is_name" = true)
    (k14d : PySem.W.keepIn K (.ref fa14) = true)
    (a42d : PySem.W.nsIn K mainGlobals "_check_places" = some (some (.ref fa42)))
    (l42d : K.lookup fa42 = some ⟨oc42d, od42d, .func (PySem.W.fnOf "_check_places" "_check_places" (defArgs s42) (defBody s42) (defScope s42) .none kV42d dc42d pm42d an42d cd42d ct42d), sl42d⟩)
    (c42d : PySem.W.codeIn K cd42d "_check_places" = true)
    (k42d : PySem.W.keepIn K (.ref fa42) = true)
    (a41d : PySem.W.nsIn K mainGlobals "is_among" = some (some (.ref fa41)))
    (l41d : K.lookup fa41 = some ⟨oc41d, od41d, .func (PySem.W.fnOf "is_among" "is_among" (defArgs s41) (defBody s41) (defScope s41) .none kV41d dc41d pm41d an41d cd41d ct41d), sl41d⟩)
    (c41d : PySem.W.codeIn K cd41d "is_among" = true)
    (k41d : PySem.W.keepIn K (.ref fa41) = true)
    (a12d : PySem.W.nsIn K mainGlobals "is_whole" = some (some (.ref fa12)))
    (l12d : K.lookup fa12 = some ⟨oc12d, od12d, .func (PySem.W.fnOf "is_whole" "is_whole" (defArgs s12) (defBody s12) (defScope s12) .none kV12d dc12d pm12d an12d cd12d ct12d), sl12d⟩)
    (c12d : PySem.W.codeIn K cd12d "is_whole" = true)
    (k12d : PySem.W.keepIn K (.ref fa12) = true)
    (a13d : PySem.W.nsIn K mainGlobals "is_between" = some (some (.ref fa13)))
    (l13d : K.lookup fa13 = some ⟨oc13d, od13d, .func (PySem.W.fnOf "is_between" "is_between" (defArgs s13) (defBody s13) (defScope s13) .none kV13d dc13d pm13d an13d cd13d ct13d), sl13d⟩)
    (c13d : PySem.W.codeIn K cd13d "is_between" = true)
    (k13d : PySem.W.keepIn K (.ref fa13) = true)
    (a40d : PySem.W.nsIn K mainGlobals "is_move" = some (some (.ref fa40)))
    (l40d : K.lookup fa40 = some ⟨oc40d, od40d, .func (PySem.W.fnOf "is_move" "is_move" (defArgs s40) (defBody s40) (defScope s40) .none kV40d dc40d pm40d an40d cd40d ct40d), sl40d⟩)
    (c40d : PySem.W.codeIn K cd40d "is_move" = true)
    (k40d : PySem.W.keepIn K (.ref fa40) = true)
    (a43d : PySem.W.nsIn K mainGlobals "_check_moves" = some (some (.ref fa43)))
    (l43d : K.lookup fa43 = some ⟨oc43d, od43d, .func (PySem.W.fnOf "_check_moves" "_check_moves" (defArgs s43) (defBody s43) (defScope s43) .none kV43d dc43d pm43d an43d cd43d ct43d), sl43d⟩)
    (c43d : PySem.W.codeIn K cd43d "_check_moves" = true)
    (k43d : PySem.W.keepIn K (.ref fa43) = true)
    (a18d : PySem.W.nsIn K mainGlobals "_changes_from" = some (some (.ref fa18)))
    (l18d : K.lookup fa18 = some ⟨oc18d, od18d, .func (PySem.W.fnOf "_changes_from" "_changes_from" (defArgs s18) (defBody s18) (defScope s18) .none kV18d dc18d pm18d an18d cd18d ct18d), sl18d⟩)
    (c18d : PySem.W.codeIn K cd18d "_changes_from" = true)
    (k18d : PySem.W.keepIn K (.ref fa18) = true)
    (a17d : PySem.W.nsIn K mainGlobals "_step_at" = some (some (.ref fa17)))
    (l17d : K.lookup fa17 = some ⟨oc17d, od17d, .func (PySem.W.fnOf "_step_at" "_step_at" (defArgs s17) (defBody s17) (defScope s17) .none kV17d dc17d pm17d an17d cd17d ct17d), sl17d⟩)
    (c17d : PySem.W.codeIn K cd17d "_step_at" = true)
    (k17d : PySem.W.keepIn K (.ref fa17) = true)
    (a16d : PySem.W.nsIn K mainGlobals "common_step" = some (some (.ref fa16)))
    (l16d : K.lookup fa16 = some ⟨oc16d, od16d, .func (PySem.W.fnOf "common_step" "common_step" (defArgs s16) (defBody s16) (defScope s16) .none kV16d dc16d pm16d an16d cd16d ct16d), sl16d⟩)
    (c16d : PySem.W.codeIn K cd16d "common_step" = true)
    (k16d : PySem.W.keepIn K (.ref fa16) = true)
    (a_Walks___init__d : PySem.W.findIn K (.ref C8) "__init__" = some (some (.ref fa_Walks___init__)))
    (i_Walks___init__d : PySem.W.isFn K (.ref fa_Walks___init__) = true)
    (l_Walks___init__d : K.lookup fa_Walks___init__ = some ⟨oc_Walks___init__d, od_Walks___init__d, .func (PySem.W.fnOf "__init__" "Walks.__init__" (defArgs s_Walks___init__) (defBody s_Walks___init__) (defScope s_Walks___init__) .none kV_Walks___init__d dc_Walks___init__d pm_Walks___init__d an_Walks___init__d cd_Walks___init__d ct_Walks___init__d), sl_Walks___init__d⟩)
    (c_Walks___init__d : PySem.W.codeIn K cd_Walks___init__d "Walks.__init__" = true)
    (k_Walks___init__d : PySem.W.keepIn K (.ref fa_Walks___init__) = true)
    (a_Program___init__d : PySem.W.findIn K (.ref C9) "__init__" = some (some (.ref fa_Program___init__)))
    (i_Program___init__d : PySem.W.isFn K (.ref fa_Program___init__) = true)
    (l_Program___init__d : K.lookup fa_Program___init__ = some ⟨oc_Program___init__d, od_Program___init__d, .func (PySem.W.fnOf "__init__" "Program.__init__" (defArgs s_Program___init__) (defBody s_Program___init__) (defScope s_Program___init__) .none kV_Program___init__d dc_Program___init__d pm_Program___init__d an_Program___init__d cd_Program___init__d ct_Program___init__d), sl_Program___init__d⟩)
    (c_Program___init__d : PySem.W.codeIn K cd_Program___init__d "Program.__init__" = true)
    (k_Program___init__d : PySem.W.keepIn K (.ref fa_Program___init__) = true)
    (a69d : PySem.W.nsIn K mainGlobals "_law_program" = some (some (.ref fa69)))
    (l69d : K.lookup fa69 = some ⟨oc69d, od69d, .func (PySem.W.fnOf "_law_program" "_law_program" (defArgs s69) (defBody s69) (defScope s69) .none kV69d dc69d pm69d an69d cd69d ct69d), sl69d⟩)
    (c69d : PySem.W.codeIn K cd69d "_law_program" = true)
    (k69d : PySem.W.keepIn K (.ref fa69) = true)
    (a74d : PySem.W.nsIn K mainGlobals "_law_row_drawn" = some (some (.ref fa74)))
    (l74d : K.lookup fa74 = some ⟨oc74d, od74d, .func (PySem.W.fnOf "_law_row_drawn" "_law_row_drawn" (defArgs s74) (defBody s74) (defScope s74) .none kV74d dc74d pm74d an74d cd74d ct74d), sl74d⟩)
    (c74d : PySem.W.codeIn K cd74d "_law_row_drawn" = true)
    (k74d : PySem.W.keepIn K (.ref fa74) = true)
    (a70d : PySem.W.nsIn K mainGlobals "_law_behind" = some (some (.ref fa70)))
    (l70d : K.lookup fa70 = some ⟨oc70d, od70d, .func (PySem.W.fnOf "_law_behind" "_law_behind" (defArgs s70) (defBody s70) (defScope s70) .none kV70d dc70d pm70d an70d cd70d ct70d), sl70d⟩)
    (c70d : PySem.W.codeIn K cd70d "_law_behind" = true)
    (k70d : PySem.W.keepIn K (.ref fa70) = true)
    (a71d : PySem.W.nsIn K mainGlobals "_law_measured" = some (some (.ref fa71)))
    (l71d : K.lookup fa71 = some ⟨oc71d, od71d, .func (PySem.W.fnOf "_law_measured" "_law_measured" (defArgs s71) (defBody s71) (defScope s71) .none kV71d dc71d pm71d an71d cd71d ct71d), sl71d⟩)
    (c71d : PySem.W.codeIn K cd71d "_law_measured" = true)
    (k71d : PySem.W.keepIn K (.ref fa71) = true)
    (a45d : PySem.W.nsIn K mainGlobals "check_program" = some (some (.ref fa45)))
    (l45d : K.lookup fa45 = some ⟨oc45d, od45d, .func (PySem.W.fnOf "check_program" "check_program" (defArgs s45) (defBody s45) (defScope s45) .none kV45d dc45d pm45d an45d cd45d ct45d), sl45d⟩)
    (c45d : PySem.W.codeIn K cd45d "check_program" = true)
    (k45d : PySem.W.keepIn K (.ref fa45) = true)
    (a_Program_movesd : PySem.W.findIn K (.ref C9) "moves" = some (some (.ref fa_Program_moves)))
    (i_Program_movesd : PySem.W.isFn K (.ref fa_Program_moves) = true)
    (l_Program_movesd : K.lookup fa_Program_moves = some ⟨oc_Program_movesd, od_Program_movesd, .func (PySem.W.fnOf "moves" "Program.moves" (defArgs s_Program_moves) (defBody s_Program_moves) (defScope s_Program_moves) .none kV_Program_movesd dc_Program_movesd pm_Program_movesd an_Program_movesd cd_Program_movesd ct_Program_movesd), sl_Program_movesd⟩)
    (c_Program_movesd : PySem.W.codeIn K cd_Program_movesd "Program.moves" = true)
    (k_Program_movesd : PySem.W.keepIn K (.ref fa_Program_moves) = true)
    (a56d : PySem.W.nsIn K mainGlobals "_is_part" = some (some (.ref fa56)))
    (l56d : K.lookup fa56 = some ⟨oc56d, od56d, .func (PySem.W.fnOf "_is_part" "_is_part" (defArgs s56) (defBody s56) (defScope s56) .none kV56d dc56d pm56d an56d cd56d ct56d), sl56d⟩)
    (c56d : PySem.W.codeIn K cd56d "_is_part" = true)
    (k56d : PySem.W.keepIn K (.ref fa56) = true)
    (a57d : PySem.W.nsIn K mainGlobals "_hangs_together" = some (some (.ref fa57)))
    (l57d : K.lookup fa57 = some ⟨oc57d, od57d, .func (PySem.W.fnOf "_hangs_together" "_hangs_together" (defArgs s57) (defBody s57) (defScope s57) .none kV57d dc57d pm57d an57d cd57d ct57d), sl57d⟩)
    (c57d : PySem.W.codeIn K cd57d "_hangs_together" = true)
    (k57d : PySem.W.keepIn K (.ref fa57) = true)
    (a55d : PySem.W.nsIn K mainGlobals "_is_pressed" = some (some (.ref fa55)))
    (l55d : K.lookup fa55 = some ⟨oc55d, od55d, .func (PySem.W.fnOf "_is_pressed" "_is_pressed" (defArgs s55) (defBody s55) (defScope s55) .none kV55d dc55d pm55d an55d cd55d ct55d), sl55d⟩)
    (c55d : PySem.W.codeIn K cd55d "_is_pressed" = true)
    (k55d : PySem.W.keepIn K (.ref fa55) = true)
    (a54d : PySem.W.nsIn K mainGlobals "_check_row" = some (some (.ref fa54)))
    (l54d : K.lookup fa54 = some ⟨oc54d, od54d, .func (PySem.W.fnOf "_check_row" "_check_row" (defArgs s54) (defBody s54) (defScope s54) .none kV54d dc54d pm54d an54d cd54d ct54d), sl54d⟩)
    (c54d : PySem.W.codeIn K cd54d "_check_row" = true)
    (k54d : PySem.W.keepIn K (.ref fa54) = true)
    (a61d : PySem.W.nsIn K mainGlobals "_need_and_change_once" = some (some (.ref fa61)))
    (l61d : K.lookup fa61 = some ⟨oc61d, od61d, .func (PySem.W.fnOf "_need_and_change_once" "_need_and_change_once" (defArgs s61) (defBody s61) (defScope s61) .none kV61d dc61d pm61d an61d cd61d ct61d), sl61d⟩)
    (c61d : PySem.W.codeIn K cd61d "_need_and_change_once" = true)
    (k61d : PySem.W.keepIn K (.ref fa61) = true)
    (a60d : PySem.W.nsIn K mainGlobals "need_and_change" = some (some (.ref fa60)))
    (l60d : K.lookup fa60 = some ⟨oc60d, od60d, .func (PySem.W.fnOf "need_and_change" "need_and_change" (defArgs s60) (defBody s60) (defScope s60) .none kV60d dc60d pm60d an60d cd60d ct60d), sl60d⟩)
    (c60d : PySem.W.codeIn K cd60d "need_and_change" = true)
    (k60d : PySem.W.keepIn K (.ref fa60) = true)
    (a50d : PySem.W.nsIn K mainGlobals "change_of" = some (some (.ref fa50)))
    (l50d : K.lookup fa50 = some ⟨oc50d, od50d, .func (PySem.W.fnOf "change_of" "change_of" (defArgs s50) (defBody s50) (defScope s50) .none kV50d dc50d pm50d an50d cd50d ct50d), sl50d⟩)
    (c50d : PySem.W.codeIn K cd50d "change_of" = true)
    (k50d : PySem.W.keepIn K (.ref fa50) = true)
    (a51d : PySem.W.nsIn K mainGlobals "need_of" = some (some (.ref fa51)))
    (l51d : K.lookup fa51 = some ⟨oc51d, od51d, .func (PySem.W.fnOf "need_of" "need_of" (defArgs s51) (defBody s51) (defScope s51) .none kV51d dc51d pm51d an51d cd51d ct51d), sl51d⟩)
    (c51d : PySem.W.codeIn K cd51d "need_of" = true)
    (k51d : PySem.W.keepIn K (.ref fa51) = true)
    (a73d : PySem.W.nsIn K mainGlobals "_law_is_whole" = some (some (.ref fa73)))
    (l73d : K.lookup fa73 = some ⟨oc73d, od73d, .func (PySem.W.fnOf "_law_is_whole" "_law_is_whole" (defArgs s73) (defBody s73) (defScope s73) .none kV73d dc73d pm73d an73d cd73d ct73d), sl73d⟩)
    (c73d : PySem.W.codeIn K cd73d "_law_is_whole" = true)
    (k73d : PySem.W.keepIn K (.ref fa73) = true)
    (a72d : PySem.W.nsIn K mainGlobals "_law_last" = some (some (.ref fa72)))
    (l72d : K.lookup fa72 = some ⟨oc72d, od72d, .func (PySem.W.fnOf "_law_last" "_law_last" (defArgs s72) (defBody s72) (defScope s72) .none kV72d dc72d pm72d an72d cd72d ct72d), sl72d⟩)
    (c72d : PySem.W.codeIn K cd72d "_law_last" = true)
    (k72d : PySem.W.keepIn K (.ref fa72) = true)
    (a_Program_placesd : PySem.W.findIn K (.ref C9) "places" = some (some (.ref fa_Program_places)))
    (i_Program_placesd : PySem.W.isFn K (.ref fa_Program_places) = true)
    (l_Program_placesd : K.lookup fa_Program_places = some ⟨oc_Program_placesd, od_Program_placesd, .func (PySem.W.fnOf "places" "Program.places" (defArgs s_Program_places) (defBody s_Program_places) (defScope s_Program_places) .none kV_Program_placesd dc_Program_placesd pm_Program_placesd an_Program_placesd cd_Program_placesd ct_Program_placesd), sl_Program_placesd⟩)
    (c_Program_placesd : PySem.W.codeIn K cd_Program_placesd "Program.places" = true)
    (k_Program_placesd : PySem.W.keepIn K (.ref fa_Program_places) = true)
    (a46d : PySem.W.nsIn K mainGlobals "check_place" = some (some (.ref fa46)))
    (l46d : K.lookup fa46 = some ⟨oc46d, od46d, .func (PySem.W.fnOf "check_place" "check_place" (defArgs s46) (defBody s46) (defScope s46) .none kV46d dc46d pm46d an46d cd46d ct46d), sl46d⟩)
    (c46d : PySem.W.codeIn K cd46d "check_place" = true)
    (k46d : PySem.W.keepIn K (.ref fa46) = true)
    (a47d : PySem.W.nsIn K mainGlobals "check_counter" = some (some (.ref fa47)))
    (l47d : K.lookup fa47 = some ⟨oc47d, od47d, .func (PySem.W.fnOf "check_counter" "check_counter" (defArgs s47) (defBody s47) (defScope s47) .none kV47d dc47d pm47d an47d cd47d ct47d), sl47d⟩)
    (c47d : PySem.W.codeIn K cd47d "check_counter" = true)
    (k47d : PySem.W.keepIn K (.ref fa47) = true)
    (a48d : PySem.W.nsIn K mainGlobals "check_start" = some (some (.ref fa48)))
    (l48d : K.lookup fa48 = some ⟨oc48d, od48d, .func (PySem.W.fnOf "check_start" "check_start" (defArgs s48) (defBody s48) (defScope s48) .none kV48d dc48d pm48d an48d cd48d ct48d), sl48d⟩)
    (c48d : PySem.W.codeIn K cd48d "check_start" = true)
    (k48d : PySem.W.keepIn K (.ref fa48) = true)
    (a58d : PySem.W.nsIn K mainGlobals "_begins_at" = some (some (.ref fa58)))
    (l58d : K.lookup fa58 = some ⟨oc58d, od58d, .func (PySem.W.fnOf "_begins_at" "_begins_at" (defArgs s58) (defBody s58) (defScope s58) .none kV58d dc58d pm58d an58d cd58d ct58d), sl58d⟩)
    (c58d : PySem.W.codeIn K cd58d "_begins_at" = true)
    (k58d : PySem.W.keepIn K (.ref fa58) = true)
    (a53d : PySem.W.nsIn K mainGlobals "check_led" = some (some (.ref fa53)))
    (l53d : K.lookup fa53 = some ⟨oc53d, od53d, .func (PySem.W.fnOf "check_led" "check_led" (defArgs s53) (defBody s53) (defScope s53) .none kV53d dc53d pm53d an53d cd53d ct53d), sl53d⟩)
    (c53d : PySem.W.codeIn K cd53d "check_led" = true)
    (k53d : PySem.W.keepIn K (.ref fa53) = true)
    (a59d : PySem.W.nsIn K mainGlobals "end_of" = some (some (.ref fa59)))
    (l59d : K.lookup fa59 = some ⟨oc59d, od59d, .func (PySem.W.fnOf "end_of" "end_of" (defArgs s59) (defBody s59) (defScope s59) .none kV59d dc59d pm59d an59d cd59d ct59d), sl59d⟩)
    (c59d : PySem.W.codeIn K cd59d "end_of" = true)
    (k59d : PySem.W.keepIn K (.ref fa59) = true)
    (a52d : PySem.W.nsIn K mainGlobals "led" = some (some (.ref fa52)))
    (l52d : K.lookup fa52 = some ⟨oc52d, od52d, .func (PySem.W.fnOf "led" "led" (defArgs s52) (defBody s52) (defScope s52) .none kV52d dc52d pm52d an52d cd52d ct52d), sl52d⟩)
    (c52d : PySem.W.codeIn K cd52d "led" = true)
    (k52d : PySem.W.keepIn K (.ref fa52) = true)
    (a75d : PySem.W.nsIn K mainGlobals "_law_walked" = some (some (.ref fa75)))
    (l75d : K.lookup fa75 = some ⟨oc75d, od75d, .func (PySem.W.fnOf "_law_walked" "_law_walked" (defArgs s75) (defBody s75) (defScope s75) .none kV75d dc75d pm75d an75d cd75d ct75d), sl75d⟩)
    (c75d : PySem.W.codeIn K cd75d "_law_walked" = true)
    (k75d : PySem.W.keepIn K (.ref fa75) = true)
    (a76d : PySem.W.nsIn K mainGlobals "_law_small_right" = some (some (.ref fa76)))
    (l76d : K.lookup fa76 = some ⟨oc76d, od76d, .func (PySem.W.fnOf "_law_small_right" "_law_small_right" (defArgs s76) (defBody s76) (defScope s76) .none kV76d dc76d pm76d an76d cd76d ct76d), sl76d⟩)
    (c76d : PySem.W.codeIn K cd76d "_law_small_right" = true)
    (k76d : PySem.W.keepIn K (.ref fa76) = true)
    (a77d : PySem.W.nsIn K mainGlobals "_law_right" = some (some (.ref fa77)))
    (l77d : K.lookup fa77 = some ⟨oc77d, od77d, .func (PySem.W.fnOf "_law_right" "_law_right" (defArgs s77) (defBody s77) (defScope s77) .none kV77d dc77d pm77d an77d cd77d ct77d), sl77d⟩)
    (c77d : PySem.W.codeIn K cd77d "_law_right" = true)
    (k77d : PySem.W.keepIn K (.ref fa77) = true)
    (a78d : PySem.W.nsIn K mainGlobals "_law_caught" = some (some (.ref fa78)))
    (l78d : K.lookup fa78 = some ⟨oc78d, od78d, .func (PySem.W.fnOf "_law_caught" "_law_caught" (defArgs s78) (defBody s78) (defScope s78) .none kV78d dc78d pm78d an78d cd78d ct78d), sl78d⟩)
    (c78d : PySem.W.codeIn K cd78d "_law_caught" = true)
    (k78d : PySem.W.keepIn K (.ref fa78) = true)
    (a79d : PySem.W.nsIn K mainGlobals "_law_refused" = some (some (.ref fa79)))
    (l79d : K.lookup fa79 = some ⟨oc79d, od79d, .func (PySem.W.fnOf "_law_refused" "_law_refused" (defArgs s79) (defBody s79) (defScope s79) .none kV79d dc79d pm79d an79d cd79d ct79d), sl79d⟩)
    (c79d : PySem.W.codeIn K cd79d "_law_refused" = true)
    (k79d : PySem.W.keepIn K (.ref fa79) = true)
    (a80d : PySem.W.nsIn K mainGlobals "law" = some (some (.ref fa80)))
    (l80d : K.lookup fa80 = some ⟨oc80d, od80d, .func (PySem.W.fnOf "law" "law" (defArgs s80) (defBody s80) (defScope s80) .none kV80d dc80d pm80d an80d cd80d ct80d), sl80d⟩)
    (c80d : PySem.W.codeIn K cd80d "law" = true)
    (k80d : PySem.W.keepIn K (.ref fa80) = true)
    : ∃ (fd : FuncData) (cl : List (Addr × List Str)), (∀ (s : Shared) (u : Value), BindsTo s fd ⟨[u], []⟩ [("_law_script", u)]) ∧
        ∀ (base : Heap) (a0 : Addr) (ns : List Int), K.In base → base.Ns mainGlobals mg → (∃ o, base.get? sysModules = some o) → FnG P w K mg base 9 fa fd ["_law_script"] (spM ⟨cl, K, a0, ns, []⟩ 1 f80) := by
  have e := hfa.symm.trans (PySem.W.mg_of X G a80d)
  cases e
  refine ⟨PySem.W.fnOf "law" "law" (defArgs s80) (defBody s80) (defScope s80) .none kV80d dc80d pm80d an80d cd80d ct80d, [(C0, []), (C1, ["value"]), (C2, ["value"]), (C3, ["value"]), (C4, ["value"]), (C5, ["value"]), (C6, ["name"]), (0, ["_moves", "_needs", "_last"]), (C8, ["_at", "_ways", "_tables", "_common"]), (C9, ["_places", "_moves", "_walks"])], fun s u => .of_eq rfl, fun base a0 ns KB GB sm => ?_⟩
  have hs := PySem.W.mg_none_of X G sup
  have xi0 : ExcIs K C0 := ⟨by first | exact (any_isSome ic0) | (simpa [PySem.W.isClsIn] using ic0), ga0, gg0, ex0, ha0, hn, ht, mo0, hd0⟩
  have xi1 : ExcIs K C1 := ⟨by first | exact (any_isSome ic1) | (simpa [PySem.W.isClsIn] using ic1), ga1, gg1, ex1, ha1, hn, ht, mo1, hd1⟩
  have et1 : Er.ErrTxt P K "value" C1 fI1 :=
    { cls := ⟨nm1, q1, N1, bs1, bm1, sn1, sub1, ab1, col1, dd1, u01, u11, u21, u31, u51, xL1, rv1, Er.along_of xL1 al1⟩, sa := sa1, ga := ga1, gg := gg1, noN := no1, iC := iC1, tC := tF1, kC := kC1, exC := ex1, veC := ve1, tyC := ty1, hdC := hd1, mrC := mr1, opq := opq, htop := htop, fgood := by decide +kernel,
      fn := ⟨"InvalidNumber.__init__", _, oc1, ccl1, cl1, od1, cdd1, cld1, kV1, doc1, pm1, .ref T1, an1, cda1, cc1, ct1, osl1, ccs1, csl1, vs1, file1, tf1, _, _, _, _, _, _, _, _, _, _, _, _, _, _, _, lF1, cF1, lD1, hv1, hf1, lcc1, by decide, rfl⟩,
      b0 := fun oc od fd osl e => (by
        rw [lF1] at e; cases e
        refine ⟨fun s us X hl => ?_, fun s us X hl => ?_⟩
        · obtain ⟨a, b, rfl⟩ := two_of hl; exact PySem.W.binds_K X rfl lT1 rfl rfl rfl
        · obtain ⟨a, rfl⟩ := one_of hl; exact PySem.W.binds_K X rfl lT1 rfl rfl rfl),
      bK := fun oc od fd osl e s x v X => (by
        rw [lF1] at e; cases e
        exact PySem.W.binds_K X rfl lT1 rfl rfl rfl) }
  have xi2 : ExcIs K C2 := ⟨by first | exact (any_isSome ic2) | (simpa [PySem.W.isClsIn] using ic2), ga2, gg2, ex2, ha2, hn, ht, mo2, hd2⟩
  have et2 : Er.ErrTxt P K "value" C2 fI2 :=
    { cls := ⟨nm2, q2, N2, bs2, bm2, sn2, sub2, ab2, col2, dd2, u02, u12, u22, u32, u52, xL2, rv2, Er.along_of xL2 al2⟩, sa := sa2, ga := ga2, gg := gg2, noN := no2, iC := iC2, tC := tF2, kC := kC2, exC := ex2, veC := ve2, tyC := ty2, hdC := hd2, mrC := mr2, opq := opq, htop := htop, fgood := by decide +kernel,
      fn := ⟨"InvalidList.__init__", _, oc2, ccl2, cl2, od2, cdd2, cld2, kV2, doc2, pm2, .ref T2, an2, cda2, cc2, ct2, osl2, ccs2, csl2, vs2, file2, tf2, _, _, _, _, _, _, _, _, _, _, _, _, _, _, _, lF2, cF2, lD2, hv2, hf2, lcc2, by decide, rfl⟩,
      b0 := fun oc od fd osl e => (by
        rw [lF2] at e; cases e
        refine ⟨fun s us X hl => ?_, fun s us X hl => ?_⟩
        · obtain ⟨a, b, rfl⟩ := two_of hl; exact PySem.W.binds_K X rfl lT2 rfl rfl rfl
        · obtain ⟨a, rfl⟩ := one_of hl; exact PySem.W.binds_K X rfl lT2 rfl rfl rfl),
      bK := fun oc od fd osl e s x v X => (by
        rw [lF2] at e; cases e
        exact PySem.W.binds_K X rfl lT2 rfl rfl rfl) }
  have xi3 : ExcIs K C3 := ⟨by first | exact (any_isSome ic3) | (simpa [PySem.W.isClsIn] using ic3), ga3, gg3, ex3, ha3, hn, ht, mo3, hd3⟩
  have et3 : Er.ErrTxt P K "value" C3 fI3 :=
    { cls := ⟨nm3, q3, N3, bs3, bm3, sn3, sub3, ab3, col3, dd3, u03, u13, u23, u33, u53, xL3, rv3, Er.along_of xL3 al3⟩, sa := sa3, ga := ga3, gg := gg3, noN := no3, iC := iC3, tC := tF3, kC := kC3, exC := ex3, veC := ve3, tyC := ty3, hdC := hd3, mrC := mr3, opq := opq, htop := htop, fgood := by decide +kernel,
      fn := ⟨"InvalidItem.__init__", _, oc3, ccl3, cl3, od3, cdd3, cld3, kV3, doc3, pm3, .ref T3, an3, cda3, cc3, ct3, osl3, ccs3, csl3, vs3, file3, tf3, _, _, _, _, _, _, _, _, _, _, _, _, _, _, _, lF3, cF3, lD3, hv3, hf3, lcc3, by decide, rfl⟩,
      b0 := fun oc od fd osl e => (by
        rw [lF3] at e; cases e
        refine ⟨fun s us X hl => ?_, fun s us X hl => ?_⟩
        · obtain ⟨a, b, rfl⟩ := two_of hl; exact PySem.W.binds_K X rfl lT3 rfl rfl rfl
        · obtain ⟨a, rfl⟩ := one_of hl; exact PySem.W.binds_K X rfl lT3 rfl rfl rfl),
      bK := fun oc od fd osl e s x v X => (by
        rw [lF3] at e; cases e
        exact PySem.W.binds_K X rfl lT3 rfl rfl rfl) }
  have xi4 : ExcIs K C4 := ⟨by first | exact (any_isSome ic4) | (simpa [PySem.W.isClsIn] using ic4), ga4, gg4, ex4, ha4, hn, ht, mo4, hd4⟩
  have et4 : Er.ErrTxt P K "value" C4 fI4 :=
    { cls := ⟨nm4, q4, N4, bs4, bm4, sn4, sub4, ab4, col4, dd4, u04, u14, u24, u34, u54, xL4, rv4, Er.along_of xL4 al4⟩, sa := sa4, ga := ga4, gg := gg4, noN := no4, iC := iC4, tC := tF4, kC := kC4, exC := ex4, veC := ve4, tyC := ty4, hdC := hd4, mrC := mr4, opq := opq, htop := htop, fgood := by decide +kernel,
      fn := ⟨"InvalidProgram.__init__", _, oc4, ccl4, cl4, od4, cdd4, cld4, kV4, doc4, pm4, .ref T4, an4, cda4, cc4, ct4, osl4, ccs4, csl4, vs4, file4, tf4, _, _, _, _, _, _, _, _, _, _, _, _, _, _, _, lF4, cF4, lD4, hv4, hf4, lcc4, by decide, rfl⟩,
      b0 := fun oc od fd osl e => (by
        rw [lF4] at e; cases e
        refine ⟨fun s us X hl => ?_, fun s us X hl => ?_⟩
        · obtain ⟨a, b, rfl⟩ := two_of hl; exact PySem.W.binds_K X rfl lT4 rfl rfl rfl
        · obtain ⟨a, rfl⟩ := one_of hl; exact PySem.W.binds_K X rfl lT4 rfl rfl rfl),
      bK := fun oc od fd osl e s x v X => (by
        rw [lF4] at e; cases e
        exact PySem.W.binds_K X rfl lT4 rfl rfl rfl) }
  have xi5 : ExcIs K C5 := ⟨by first | exact (any_isSome ic5) | (simpa [PySem.W.isClsIn] using ic5), ga5, gg5, ex5, ha5, hn, ht, mo5, hd5⟩
  have et5 : Er.ErrTxt P K "value" C5 fI5 :=
    { cls := ⟨nm5, q5, N5, bs5, bm5, sn5, sub5, ab5, col5, dd5, u05, u15, u25, u35, u55, xL5, rv5, Er.along_of xL5 al5⟩, sa := sa5, ga := ga5, gg := gg5, noN := no5, iC := iC5, tC := tF5, kC := kC5, exC := ex5, veC := ve5, tyC := ty5, hdC := hd5, mrC := mr5, opq := opq, htop := htop, fgood := by decide +kernel,
      fn := ⟨"InvalidRow.__init__", _, oc5, ccl5, cl5, od5, cdd5, cld5, kV5, doc5, pm5, .ref T5, an5, cda5, cc5, ct5, osl5, ccs5, csl5, vs5, file5, tf5, _, _, _, _, _, _, _, _, _, _, _, _, _, _, _, lF5, cF5, lD5, hv5, hf5, lcc5, by decide, rfl⟩,
      b0 := fun oc od fd osl e => (by
        rw [lF5] at e; cases e
        refine ⟨fun s us X hl => ?_, fun s us X hl => ?_⟩
        · obtain ⟨a, b, rfl⟩ := two_of hl; exact PySem.W.binds_K X rfl lT5 rfl rfl rfl
        · obtain ⟨a, rfl⟩ := one_of hl; exact PySem.W.binds_K X rfl lT5 rfl rfl rfl),
      bK := fun oc od fd osl e s x v X => (by
        rw [lF5] at e; cases e
        exact PySem.W.binds_K X rfl lT5 rfl rfl rfl) }
  have xi6 : ExcIs K C6 := ⟨by first | exact (any_isSome ic6) | (simpa [PySem.W.isClsIn] using ic6), ga6, gg6, ex6, ha6, hn, ht, mo6, hd6⟩
  have et6 : Er.ErrTxt P K "name" C6 fI6 :=
    { cls := ⟨nm6, q6, N6, bs6, bm6, sn6, sub6, ab6, col6, dd6, u06, u16, u26, u36, u56, xL6, rv6, Er.along_of xL6 al6⟩, sa := sa6, ga := ga6, gg := gg6, noN := no6, iC := iC6, tC := tF6, kC := kC6, exC := ex6, veC := ve6, tyC := ty6, hdC := hd6, mrC := mr6, opq := opq, htop := htop, fgood := by decide +kernel,
      fn := ⟨"UnknownName.__init__", _, oc6, ccl6, cl6, od6, cdd6, cld6, kV6, doc6, pm6, .ref T6, an6, cda6, cc6, ct6, osl6, ccs6, csl6, vs6, file6, tf6, _, _, _, _, _, _, _, _, _, _, _, _, _, _, _, lF6, cF6, lD6, hv6, hf6, lcc6, by decide, rfl⟩,
      b0 := fun oc od fd osl e => (by
        rw [lF6] at e; cases e
        refine ⟨fun s us X hl => ?_, fun s us X hl => ?_⟩
        · obtain ⟨a, b, rfl⟩ := two_of hl; exact PySem.W.binds_K X rfl lT6 rfl rfl rfl
        · obtain ⟨a, rfl⟩ := one_of hl; exact PySem.W.binds_K X rfl lT6 rfl rfl rfl),
      bK := fun oc od fd osl e s x v X => (by
        rw [lF6] at e; cases e
        exact PySem.W.binds_K X rfl lT6 rfl rfl rfl) }
  have cf8 : ClsF ⟨[(C0, []), (C1, ["value"]), (C2, ["value"]), (C3, ["value"]), (C4, ["value"]), (C5, ["value"]), (C6, ["name"]), (0, ["_moves", "_needs", "_last"]), (C8, ["_at", "_ways", "_tables", "_common"]), (C9, ["_places", "_moves", "_walks"])], K, a0, ns, []⟩ 8 C8 ["_at", "_ways", "_tables", "_common"] := ⟨rfl, ⟨pg8, hd8, po8, sa8⟩, List.forall_mem_cons.2 ⟨no8_0, List.forall_mem_cons.2 ⟨no8_1, List.forall_mem_cons.2 ⟨no8_2, List.forall_mem_cons.2 ⟨no8_3, fun _ h => nomatch h⟩⟩⟩⟩, by decide +kernel, by decide⟩
  have ii8 : InsIs K C8 := ⟨⟨pg8, hd8, po8, sa8⟩, ha8, hn, ht, mo8⟩
  have cf9 : ClsF ⟨[(C0, []), (C1, ["value"]), (C2, ["value"]), (C3, ["value"]), (C4, ["value"]), (C5, ["value"]), (C6, ["name"]), (0, ["_moves", "_needs", "_last"]), (C8, ["_at", "_ways", "_tables", "_common"]), (C9, ["_places", "_moves", "_walks"])], K, a0, ns, []⟩ 9 C9 ["_places", "_moves", "_walks"] := ⟨rfl, ⟨pg9, hd9, po9, sa9⟩, List.forall_mem_cons.2 ⟨no9_0, List.forall_mem_cons.2 ⟨no9_1, List.forall_mem_cons.2 ⟨no9_2, fun _ h => nomatch h⟩⟩⟩, by decide +kernel, by decide⟩
  have ii9 : InsIs K C9 := ⟨⟨pg9, hd9, po9, sa9⟩, ha9, hn, ht, mo9⟩
  have T : Tx P w K mg base ⟨[(C0, []), (C1, ["value"]), (C2, ["value"]), (C3, ["value"]), (C4, ["value"]), (C5, ["value"]), (C6, ["name"]), (0, ["_moves", "_needs", "_last"]), (C8, ["_at", "_ways", "_tables", "_common"]), (C9, ["_places", "_moves", "_walks"])], K, a0, ns, []⟩ (fun i => ([C0, C1, C2, C3, C4, C5, C6, 0, C8, C9] : List Addr).getD i 0) :=
    { hK := rfl,
      sm := sm,
      b_all := PySem.W.mg_none_of X G b_all,
      b_bool := PySem.W.mg_none_of X G b_bool,
      b_enumerate := PySem.W.mg_none_of X G b_enumerate,
      b_int := PySem.W.mg_none_of X G b_int,
      b_isinstance := PySem.W.mg_none_of X G b_isinstance,
      b_len := PySem.W.mg_none_of X G b_len,
      b_list := PySem.W.mg_none_of X G b_list,
      b_max := PySem.W.mg_none_of X G b_max,
      b_min := PySem.W.mg_none_of X G b_min,
      b_range := PySem.W.mg_none_of X G b_range,
      b_repr := PySem.W.mg_none_of X G b_repr,
      b_str := PySem.W.mg_none_of X G b_str,
      b_tuple := PySem.W.mg_none_of X G b_tuple,
      m_gcd := PySem.W.mg_of X G m_gcd,
      m_lcm := PySem.W.mg_of X G m_lcm,
      c_LONGEST_NAME := ⟨_, PySem.W.mg_of X G k_LONGEST_NAME⟩,
      c_MOST_CHANGE := ⟨_, PySem.W.mg_of X G k_MOST_CHANGE⟩,
      c_MOST_LEAST := ⟨_, PySem.W.mg_of X G k_MOST_LEAST⟩,
      c_MOST_MOVES := ⟨_, PySem.W.mg_of X G k_MOST_MOVES⟩,
      c_MOST_PLACES := ⟨_, PySem.W.mg_of X G k_MOST_PLACES⟩,
      g_InvalidNumber := PySem.W.mg_of X G aC1,
      g_InvalidProgram := PySem.W.mg_of X G aC4,
      g_InvalidRow := PySem.W.mg_of X G aC5,
      g_Program := PySem.W.mg_of X G aC9,
      g_UnknownName := PySem.W.mg_of X G aC6,
      g_WalkError := PySem.W.mg_of X G aC0,
      g_Walks := PySem.W.mg_of X G aC8,
      e1 := ⟨by decide, C1, ["value"], rfl, rfl, PySem.W.mg_of X G aC1, kC1, Er.err_made et1 hs, ex1, ty1⟩,
      e2 := ⟨by decide, C2, ["value"], rfl, rfl, PySem.W.mg_of X G aC2, kC2, Er.err_made et2 hs, ex2, ty2⟩,
      e3 := ⟨by decide, C3, ["value"], rfl, rfl, PySem.W.mg_of X G aC3, kC3, Er.err_made et3 hs, ex3, ty3⟩,
      e4 := ⟨by decide, C4, ["value"], rfl, rfl, PySem.W.mg_of X G aC4, kC4, Er.err_made et4 hs, ex4, ty4⟩,
      e5 := ⟨by decide, C5, ["value"], rfl, rfl, PySem.W.mg_of X G aC5, kC5, Er.err_made et5 hs, ex5, ty5⟩,
      e6 := ⟨by decide, C6, ["name"], rfl, rfl, PySem.W.mg_of X G aC6, kC6, Er.err_made et6 hs, ex6, ty6⟩,
      is_InvalidNumber := fun t b h => (by
          cases t with
          | exo c =>
            match c, h with
            | 0, h => cases h; exact ⟨_, rfl, ⟨C0, _, rfl, xi0⟩, o0_InvalidNumber⟩
            | 1, h => cases h; exact ⟨_, rfl, ⟨C1, _, rfl, xi1⟩, o1_InvalidNumber⟩
            | 2, h => cases h; exact ⟨_, rfl, ⟨C2, _, rfl, xi2⟩, o2_InvalidNumber⟩
            | 3, h => cases h; exact ⟨_, rfl, ⟨C3, _, rfl, xi3⟩, o3_InvalidNumber⟩
            | 4, h => cases h; exact ⟨_, rfl, ⟨C4, _, rfl, xi4⟩, o4_InvalidNumber⟩
            | 5, h => cases h; exact ⟨_, rfl, ⟨C5, _, rfl, xi5⟩, o5_InvalidNumber⟩
            | 6, h => cases h; exact ⟨_, rfl, ⟨C6, _, rfl, xi6⟩, o6_InvalidNumber⟩
            | n + 7, h => cases h
          | _ => cases h),
      is_InvalidProgram := fun t b h => (by
          cases t with
          | exo c =>
            match c, h with
            | 0, h => cases h; exact ⟨_, rfl, ⟨C0, _, rfl, xi0⟩, o0_InvalidProgram⟩
            | 1, h => cases h; exact ⟨_, rfl, ⟨C1, _, rfl, xi1⟩, o1_InvalidProgram⟩
            | 2, h => cases h; exact ⟨_, rfl, ⟨C2, _, rfl, xi2⟩, o2_InvalidProgram⟩
            | 3, h => cases h; exact ⟨_, rfl, ⟨C3, _, rfl, xi3⟩, o3_InvalidProgram⟩
            | 4, h => cases h; exact ⟨_, rfl, ⟨C4, _, rfl, xi4⟩, o4_InvalidProgram⟩
            | 5, h => cases h; exact ⟨_, rfl, ⟨C5, _, rfl, xi5⟩, o5_InvalidProgram⟩
            | 6, h => cases h; exact ⟨_, rfl, ⟨C6, _, rfl, xi6⟩, o6_InvalidProgram⟩
            | n + 7, h => cases h
          | _ => cases h),
      is_InvalidRow := fun t b h => (by
          cases t with
          | exo c =>
            match c, h with
            | 0, h => cases h; exact ⟨_, rfl, ⟨C0, _, rfl, xi0⟩, o0_InvalidRow⟩
            | 1, h => cases h; exact ⟨_, rfl, ⟨C1, _, rfl, xi1⟩, o1_InvalidRow⟩
            | 2, h => cases h; exact ⟨_, rfl, ⟨C2, _, rfl, xi2⟩, o2_InvalidRow⟩
            | 3, h => cases h; exact ⟨_, rfl, ⟨C3, _, rfl, xi3⟩, o3_InvalidRow⟩
            | 4, h => cases h; exact ⟨_, rfl, ⟨C4, _, rfl, xi4⟩, o4_InvalidRow⟩
            | 5, h => cases h; exact ⟨_, rfl, ⟨C5, _, rfl, xi5⟩, o5_InvalidRow⟩
            | 6, h => cases h; exact ⟨_, rfl, ⟨C6, _, rfl, xi6⟩, o6_InvalidRow⟩
            | n + 7, h => cases h
          | _ => cases h),
      is_Program := fun t b h => (by
          cases t with
          | non => cases h; exact ⟨_, rfl, trivial, on_non_Program⟩
          | bl => cases h; exact ⟨_, rfl, trivial, on_bl_Program⟩
          | int => cases h; exact ⟨_, rfl, trivial, on_int_Program⟩
          | str => cases h; exact ⟨_, rfl, trivial, on_str_Program⟩
          | lst => cases h; exact ⟨_, rfl, trivial, on_lst_Program⟩
          | tup => cases h; exact ⟨_, rfl, trivial, on_tup_Program⟩
          | dct => cases h; exact ⟨_, rfl, trivial, on_dct_Program⟩
          | ins c =>
            match c, h with
            | 0, h => cases h
            | 1, h => cases h
            | 2, h => cases h
            | 3, h => cases h
            | 4, h => cases h
            | 5, h => cases h
            | 6, h => cases h
            | 7, h => cases h
            | 8, h => cases h; exact ⟨_, rfl, ⟨C8, _, rfl, ii8⟩, os8_Program⟩
            | 9, h => cases h; exact ⟨_, rfl, ⟨C9, _, rfl, ii9⟩, os9_Program⟩
            | n + 10, h => cases h
          | _ => cases h),
      is_UnknownName := fun t b h => (by
          cases t with
          | exo c =>
            match c, h with
            | 0, h => cases h; exact ⟨_, rfl, ⟨C0, _, rfl, xi0⟩, o0_UnknownName⟩
            | 1, h => cases h; exact ⟨_, rfl, ⟨C1, _, rfl, xi1⟩, o1_UnknownName⟩
            | 2, h => cases h; exact ⟨_, rfl, ⟨C2, _, rfl, xi2⟩, o2_UnknownName⟩
            | 3, h => cases h; exact ⟨_, rfl, ⟨C3, _, rfl, xi3⟩, o3_UnknownName⟩
            | 4, h => cases h; exact ⟨_, rfl, ⟨C4, _, rfl, xi4⟩, o4_UnknownName⟩
            | 5, h => cases h; exact ⟨_, rfl, ⟨C5, _, rfl, xi5⟩, o5_UnknownName⟩
            | 6, h => cases h; exact ⟨_, rfl, ⟨C6, _, rfl, xi6⟩, o6_UnknownName⟩
            | n + 7, h => cases h
          | _ => cases h),
      is_bool := fun t b h => (by
          cases t with
          | non => cases h; exact ⟨_, rfl, trivial, kit_ty (by decide +kernel)⟩
          | bl => cases h; exact ⟨_, rfl, trivial, kit_ty (by decide +kernel)⟩
          | int => cases h; exact ⟨_, rfl, trivial, kit_ty (by decide +kernel)⟩
          | str => cases h; exact ⟨_, rfl, trivial, kit_ty (by decide +kernel)⟩
          | lst => cases h; exact ⟨_, rfl, trivial, kit_ty (by decide +kernel)⟩
          | tup => cases h; exact ⟨_, rfl, trivial, kit_ty (by decide +kernel)⟩
          | dct => cases h; exact ⟨_, rfl, trivial, kit_ty (by decide +kernel)⟩
          | _ => cases h),
      is_int := fun t b h => (by
          cases t with
          | non => cases h; exact ⟨_, rfl, trivial, kit_ty (by decide +kernel)⟩
          | bl => cases h; exact ⟨_, rfl, trivial, kit_ty (by decide +kernel)⟩
          | int => cases h; exact ⟨_, rfl, trivial, kit_ty (by decide +kernel)⟩
          | str => cases h; exact ⟨_, rfl, trivial, kit_ty (by decide +kernel)⟩
          | lst => cases h; exact ⟨_, rfl, trivial, kit_ty (by decide +kernel)⟩
          | tup => cases h; exact ⟨_, rfl, trivial, kit_ty (by decide +kernel)⟩
          | dct => cases h; exact ⟨_, rfl, trivial, kit_ty (by decide +kernel)⟩
          | _ => cases h),
      is_list := fun t b h => (by
          cases t with
          | non => cases h; exact ⟨_, rfl, trivial, kit_ty (by decide +kernel)⟩
          | bl => cases h; exact ⟨_, rfl, trivial, kit_ty (by decide +kernel)⟩
          | int => cases h; exact ⟨_, rfl, trivial, kit_ty (by decide +kernel)⟩
          | str => cases h; exact ⟨_, rfl, trivial, kit_ty (by decide +kernel)⟩
          | lst => cases h; exact ⟨_, rfl, trivial, kit_ty (by decide +kernel)⟩
          | tup => cases h; exact ⟨_, rfl, trivial, kit_ty (by decide +kernel)⟩
          | dct => cases h; exact ⟨_, rfl, trivial, kit_ty (by decide +kernel)⟩
          | _ => cases h),
      is_str := fun t b h => (by
          cases t with
          | non => cases h; exact ⟨_, rfl, trivial, kit_ty (by decide +kernel)⟩
          | bl => cases h; exact ⟨_, rfl, trivial, kit_ty (by decide +kernel)⟩
          | int => cases h; exact ⟨_, rfl, trivial, kit_ty (by decide +kernel)⟩
          | str => cases h; exact ⟨_, rfl, trivial, kit_ty (by decide +kernel)⟩
          | lst => cases h; exact ⟨_, rfl, trivial, kit_ty (by decide +kernel)⟩
          | tup => cases h; exact ⟨_, rfl, trivial, kit_ty (by decide +kernel)⟩
          | dct => cases h; exact ⟨_, rfl, trivial, kit_ty (by decide +kernel)⟩
          | _ => cases h),
      is_tuple := fun t b h => (by
          cases t with
          | non => cases h; exact ⟨_, rfl, trivial, kit_ty (by decide +kernel)⟩
          | bl => cases h; exact ⟨_, rfl, trivial, kit_ty (by decide +kernel)⟩
          | int => cases h; exact ⟨_, rfl, trivial, kit_ty (by decide +kernel)⟩
          | str => cases h; exact ⟨_, rfl, trivial, kit_ty (by decide +kernel)⟩
          | lst => cases h; exact ⟨_, rfl, trivial, kit_ty (by decide +kernel)⟩
          | tup => cases h; exact ⟨_, rfl, trivial, kit_ty (by decide +kernel)⟩
          | dct => cases h; exact ⟨_, rfl, trivial, kit_ty (by decide +kernel)⟩
          | _ => cases h),
      sub_WalkError := fun c b h => (by
          match c, h with
          | 0, h => cases h; exact ⟨C0, _, rfl, exm_of ex0 ic0 ty0 u0_WalkError⟩
          | 1, h => cases h; exact ⟨C1, _, rfl, exm_of ex0 ic0 ty0 u1_WalkError⟩
          | 2, h => cases h; exact ⟨C2, _, rfl, exm_of ex0 ic0 ty0 u2_WalkError⟩
          | 3, h => cases h; exact ⟨C3, _, rfl, exm_of ex0 ic0 ty0 u3_WalkError⟩
          | 4, h => cases h; exact ⟨C4, _, rfl, exm_of ex0 ic0 ty0 u4_WalkError⟩
          | 5, h => cases h; exact ⟨C5, _, rfl, exm_of ex0 ic0 ty0 u5_WalkError⟩
          | 6, h => cases h; exact ⟨C6, _, rfl, exm_of ex0 ic0 ty0 u6_WalkError⟩
          | n + 7, h => cases h),
      x__at := fun c k h => (by
          match c, h with
          | 0, h => cases h
          | 1, h => cases h
          | 2, h => cases h
          | 3, h => cases h
          | 4, h => cases h
          | 5, h => cases h
          | 6, h => cases h
          | 7, h => cases h
          | 8, h => cases h; exact ⟨C8, _, cf8, rfl⟩
          | 9, h => cases h
          | n + 10, h => cases h),
      x__common := fun c k h => (by
          match c, h with
          | 0, h => cases h
          | 1, h => cases h
          | 2, h => cases h
          | 3, h => cases h
          | 4, h => cases h
          | 5, h => cases h
          | 6, h => cases h
          | 7, h => cases h
          | 8, h => cases h; exact ⟨C8, _, cf8, rfl⟩
          | 9, h => cases h
          | n + 10, h => cases h),
      x__moves := fun c k h => (by
          match c, h with
          | 0, h => cases h
          | 1, h => cases h
          | 2, h => cases h
          | 3, h => cases h
          | 4, h => cases h
          | 5, h => cases h
          | 6, h => cases h
          | 7, h => cases h
          | 8, h => cases h
          | 9, h => cases h; exact ⟨C9, _, cf9, rfl⟩
          | n + 10, h => cases h),
      x__places := fun c k h => (by
          match c, h with
          | 0, h => cases h
          | 1, h => cases h
          | 2, h => cases h
          | 3, h => cases h
          | 4, h => cases h
          | 5, h => cases h
          | 6, h => cases h
          | 7, h => cases h
          | 8, h => cases h
          | 9, h => cases h; exact ⟨C9, _, cf9, rfl⟩
          | n + 10, h => cases h),
      x__tables := fun c k h => (by
          match c, h with
          | 0, h => cases h
          | 1, h => cases h
          | 2, h => cases h
          | 3, h => cases h
          | 4, h => cases h
          | 5, h => cases h
          | 6, h => cases h
          | 7, h => cases h
          | 8, h => cases h; exact ⟨C8, _, cf8, rfl⟩
          | 9, h => cases h
          | n + 10, h => cases h),
      x__walks := fun c k h => (by
          match c, h with
          | 0, h => cases h
          | 1, h => cases h
          | 2, h => cases h
          | 3, h => cases h
          | 4, h => cases h
          | 5, h => cases h
          | 6, h => cases h
          | 7, h => cases h
          | 8, h => cases h
          | 9, h => cases h; exact ⟨C9, _, cf9, rfl⟩
          | n + 10, h => cases h),
      x__ways := fun c k h => (by
          match c, h with
          | 0, h => cases h
          | 1, h => cases h
          | 2, h => cases h
          | 3, h => cases h
          | 4, h => cases h
          | 5, h => cases h
          | 6, h => cases h
          | 7, h => cases h
          | 8, h => cases h; exact ⟨C8, _, cf8, rfl⟩
          | 9, h => cases h
          | n + 10, h => cases h),
      x_name := fun c k h => (by
          match c, h with
          | 0, h => cases h
          | 1, h => cases h
          | 2, h => cases h
          | 3, h => cases h
          | 4, h => cases h
          | 5, h => cases h
          | 6, h => cases h; exact ⟨C6, _, rfl, xi6, no6, by decide +kernel, rfl⟩
          | 7, h => cases h
          | 8, h => cases h
          | 9, h => cases h
          | n + 10, h => cases h),
      x_value := fun c k h => (by
          match c, h with
          | 0, h => cases h
          | 1, h => cases h; exact ⟨C1, _, rfl, xi1, no1, by decide +kernel, rfl⟩
          | 2, h => cases h; exact ⟨C2, _, rfl, xi2, no2, by decide +kernel, rfl⟩
          | 3, h => cases h; exact ⟨C3, _, rfl, xi3, no3, by decide +kernel, rfl⟩
          | 4, h => cases h; exact ⟨C4, _, rfl, xi4, no4, by decide +kernel, rfl⟩
          | 5, h => cases h; exact ⟨C5, _, rfl, xi5, no5, by decide +kernel, rfl⟩
          | 6, h => cases h
          | 7, h => cases h
          | 8, h => cases h
          | 9, h => cases h
          | n + 10, h => cases h) }
  have F63 := fun_mk (st := s63) l63d c63d k63d
  have D63 := at63 T F63 (PySem.W.mg_of X G a63d) 
  have F65 := fun_mk (st := s65) l65d c65d k65d
  have D65 := at65 T F65 (PySem.W.mg_of X G a65d) D63
  have F64 := fun_mk (st := s64) l64d c64d k64d
  have D64 := at64 T F64 (PySem.W.mg_of X G a64d) 
  have F66 := fun_mk (st := s66) l66d c66d k66d
  have D66 := at66 T F66 (PySem.W.mg_of X G a66d) D64
  have F67 := fun_mk (st := s67) l67d c67d k67d
  have D67 := at67 T F67 (PySem.W.mg_of X G a67d) D66
  have F68 := fun_mk (st := s68) l68d c68d k68d
  have D68 := at68 T F68 (PySem.W.mg_of X G a68d) D66 D67
  have F14 := fun_mk (st := s14) l14d c14d k14d
  have D14 := at14 T F14 (PySem.W.mg_of X G a14d) 
  have F42 := fun_mk (st := s42) l42d c42d k42d
  have D42 := at42 T F42 (PySem.W.mg_of X G a42d) D14
  have F41 := fun_mk (st := s41) l41d c41d k41d
  have D41 := at41 T F41 (PySem.W.mg_of X G a41d) 
  have F12 := fun_mk (st := s12) l12d c12d k12d
  have D12 := at12 T F12 (PySem.W.mg_of X G a12d) 
  have F13 := fun_mk (st := s13) l13d c13d k13d
  have D13 := at13 T F13 (PySem.W.mg_of X G a13d) D12
  have F40 := fun_mk (st := s40) l40d c40d k40d
  have D40 := at40 T F40 (PySem.W.mg_of X G a40d) D41 D13
  have F43 := fun_mk (st := s43) l43d c43d k43d
  have D43 := at43 T F43 (PySem.W.mg_of X G a43d) D40
  have F18 := fun_mk (st := s18) l18d c18d k18d
  have D18 := at18 T F18 (PySem.W.mg_of X G a18d) 
  have F17 := fun_mk (st := s17) l17d c17d k17d
  have D17 := at17 T F17 (PySem.W.mg_of X G a17d) D18
  have F16 := fun_mk (st := s16) l16d c16d k16d
  have D16 := at16 T F16 (PySem.W.mg_of X G a16d) D17
  have F_Walks___init__ := fun_mk (st := s_Walks___init__) l_Walks___init__d c_Walks___init__d k_Walks___init__d
  have D_Walks := at_Walks___init__ T F_Walks___init__ cf8 (PySem.W.mg_of X G aC8) ⟨mk8, a_Walks___init__d, i_Walks___init__d, kc8⟩ D16
  have F_Program___init__ := fun_mk (st := s_Program___init__) l_Program___init__d c_Program___init__d k_Program___init__d
  have D_Program := at_Program___init__ T F_Program___init__ cf9 (PySem.W.mg_of X G aC9) ⟨mk9, a_Program___init__d, i_Program___init__d, kc9⟩ D42 D43 D_Walks
  have F69 := fun_mk (st := s69) l69d c69d k69d
  have D69 := at69 T F69 (PySem.W.mg_of X G a69d) D_Program
  have F74 := fun_mk (st := s74) l74d c74d k74d
  have D74 := at74 T F74 (PySem.W.mg_of X G a74d) D66
  have F70 := fun_mk (st := s70) l70d c70d k70d
  have D70 := at70 T F70 (PySem.W.mg_of X G a70d) 
  have F71 := fun_mk (st := s71) l71d c71d k71d
  have D71 := at71 T F71 (PySem.W.mg_of X G a71d) D70
  have F45 := fun_mk (st := s45) l45d c45d k45d
  have D45 := at45 T F45 (PySem.W.mg_of X G a45d) 
  have F_Program_moves := fun_mk (st := s_Program_moves) l_Program_movesd c_Program_movesd k_Program_movesd
  have D_Program_moves := at_Program_moves T F_Program_moves cf9 ⟨a_Program_movesd, i_Program_movesd, k_Program_movesd⟩ 
  have F56 := fun_mk (st := s56) l56d c56d k56d
  have D56 := at56 T F56 (PySem.W.mg_of X G a56d) D12 D13
  have F57 := fun_mk (st := s57) l57d c57d k57d
  have D57 := at57 T F57 (PySem.W.mg_of X G a57d) 
  have F55 := fun_mk (st := s55) l55d c55d k55d
  have D55 := at55 T F55 (PySem.W.mg_of X G a55d) D_Program_moves D56 D57
  have F54 := fun_mk (st := s54) l54d c54d k54d
  have D54 := at54 T F54 (PySem.W.mg_of X G a54d) D45 D55
  have F61 := fun_mk (st := s61) l61d c61d k61d
  have D61 := at61 T F61 (PySem.W.mg_of X G a61d) 
  have F60 := fun_mk (st := s60) l60d c60d k60d
  have D60 := at60 T F60 (PySem.W.mg_of X G a60d) D61
  have F50 := fun_mk (st := s50) l50d c50d k50d
  have D50 := at50 T F50 (PySem.W.mg_of X G a50d) D54 D60 D_Program_moves
  have F51 := fun_mk (st := s51) l51d c51d k51d
  have D51 := at51 T F51 (PySem.W.mg_of X G a51d) D54 D60 D_Program_moves
  have F73 := fun_mk (st := s73) l73d c73d k73d
  have D73 := at73 T F73 (PySem.W.mg_of X G a73d) 
  have F72 := fun_mk (st := s72) l72d c72d k72d
  have D72 := at72 T F72 (PySem.W.mg_of X G a72d) D73
  have F_Program_places := fun_mk (st := s_Program_places) l_Program_placesd c_Program_placesd k_Program_placesd
  have D_Program_places := at_Program_places T F_Program_places cf9 ⟨a_Program_placesd, i_Program_placesd, k_Program_placesd⟩ 
  have F46 := fun_mk (st := s46) l46d c46d k46d
  have D46 := at46 T F46 (PySem.W.mg_of X G a46d) D_Program_places
  have F47 := fun_mk (st := s47) l47d c47d k47d
  have D47 := at47 T F47 (PySem.W.mg_of X G a47d) D12
  have F48 := fun_mk (st := s48) l48d c48d k48d
  have D48 := at48 T F48 (PySem.W.mg_of X G a48d) D45 D46 D47
  have F58 := fun_mk (st := s58) l58d c58d k58d
  have D58 := at58 T F58 (PySem.W.mg_of X G a58d) D_Program_moves
  have F53 := fun_mk (st := s53) l53d c53d k53d
  have D53 := at53 T F53 (PySem.W.mg_of X G a53d) D48 D55 D58
  have F59 := fun_mk (st := s59) l59d c59d k59d
  have D59 := at59 T F59 (PySem.W.mg_of X G a59d) 
  have F52 := fun_mk (st := s52) l52d c52d k52d
  have D52 := at52 T F52 (PySem.W.mg_of X G a52d) D53 D_Program_moves D60 D59
  have F75 := fun_mk (st := s75) l75d c75d k75d
  have D75 := at75 T F75 (PySem.W.mg_of X G a75d) 
  have F76 := fun_mk (st := s76) l76d c76d k76d
  have D76 := at76 T F76 (PySem.W.mg_of X G a76d) D71 D75 D52 D72
  have F77 := fun_mk (st := s77) l77d c77d k77d
  have D77 := at77 T F77 (PySem.W.mg_of X G a77d) D71 D50 D51 D72 D52 D70 D76
  have F78 := fun_mk (st := s78) l78d c78d k78d
  have D78 := at78 T F78 (PySem.W.mg_of X G a78d) D50 D51 D52
  have F79 := fun_mk (st := s79) l79d c79d k79d
  have D79 := at79 T F79 (PySem.W.mg_of X G a79d) D78
  have F80 := fun_mk (st := s80) l80d c80d k80d
  exact ok80 T F80 D65 D68 D69 D66 D74 D77 D76 D79
end Gn
namespace Fw
open PySem PySem.Spec L2
/-! what an object's data is stays; texts and their lengths -/
theorem dataAll_of {f : SV → Option PyData} : ∀ {xs : List SV} {ds : List PyData}, xs.length = ds.length → (∀ (k : Nat) (x : SV), xs[k]? = some x → ∃ d, ds[k]? = some d ∧ f x = some d) → dataAll f xs = some ds
  | [], [], _, _ => rfl
  | x :: xs, d :: ds, hl, h => by
    obtain ⟨d', e1, e2⟩ := h 0 x rfl
    cases e1
    unfold dataAll
    rw [e2]
    simp only
    rw [dataAll_of (by simpa using hl) fun k y e => h (k + 1) y (by simpa using e)]
  | [], _ :: _, hl, _ => by simp at hl
  | _ :: _, [], hl, _ => by simp at hl
theorem dataAll_mono {f f' : SV → Option PyData} (k : ∀ x d, f x = some d → f' x = some d) : ∀ {xs : List SV} {ds : List PyData}, dataAll f xs = some ds → dataAll f' xs = some ds
  | [], _, e => e
  | x :: xs, ds, e => by
    unfold dataAll at e ⊢
    cases e1 : f x with
    | none => rw [e1] at e; cases e
    | some d =>
      rw [e1] at e
      simp only at e
      rw [k x d e1]
      simp only
      cases e2 : dataAll f xs with
      | none => rw [e2] at e; cases e
      | some ds' =>
        rw [e2] at e
        rw [dataAll_mono k e2]
        exact e
theorem dataOf_le {h h' : SH} (l : Le h h') : ∀ (n : Nat) (v : SV) (d : PyData), dataOf n h v = some d → dataOf n h' v = some d
  | 0, _, _, e => by cases e
  | n + 1, v, d, e => by
    cases v with
    | ref i =>
      unfold dataOf at e ⊢
      dsimp only at e ⊢
      cases e1 : h[i]? with
      | none => simp only [e1] at e; cases e
      | some o =>
        rw [l i o e1]
        simp only [e1] at e
        cases o with
        | lst xs =>
          simp only at e ⊢
          cases e2 : dataAll (dataOf n h) xs with
          | none => rw [e2] at e; cases e
          | some ds => rw [e2] at e; rw [dataAll_mono (dataOf_le l n) e2]; exact e
        | tup xs =>
          simp only at e ⊢
          cases e2 : dataAll (dataOf n h) xs with
          | none => rw [e2] at e; cases e
          | some ds => rw [e2] at e; rw [dataAll_mono (dataOf_le l n) e2]; exact e
        | dK kvs =>
          simp only at e ⊢
          cases e2 : dataAll (dataOf n h) (kvs.map (·.2)) with
          | none => rw [e2] at e; cases e
          | some ds => rw [e2] at e; rw [dataAll_mono (dataOf_le l n) e2]; exact e
        | dT kvs => simp only at e; cases e
        | ins c vs => simp only at e; cases e
        | exo c vs => simp only at e; cases e
        | lk vs => simp only at e; cases e
    | _ => exact e
theorem dataOf_lst {h : SH} {n i : Nat} {xs : List SV} {ds : List PyData} (e : h[i]? = some (.lst xs)) (a : dataAll (dataOf n h) xs = some ds) : dataOf (n + 1) h (.ref i) = some (.list ds) := by
  unfold dataOf; simp only [e, a, Option.map_some]
theorem data_tup {h : SH} {n i : Nat} {xs : List SV} {ds : List PyData} (e : h[i]? = some (.tup xs)) (a : dataAll (dataOf n h) xs = some ds) : dataOf (n + 1) h (.ref i) = some (.tuple ds) := by
  unfold dataOf; simp only [e, a, Option.map_some]
theorem data_dct {h : SH} {n i : Nat} {kvs : List (Key × SV)} {ds : List PyData} (e : h[i]? = some (.dK kvs)) (a : dataAll (dataOf n h) (kvs.map (·.2)) = some ds) : dataOf (n + 1) h (.ref i) = some (.dict ((kvs.map fun p => keyD p.1).zip ds)) := by
  unfold dataOf; simp only [e, a, Option.map_some]
theorem data_two {h : SH} {n : Nat} {x y : SV} {dx dy : PyData} (ex : dataOf n h x = some dx) (ey : dataOf n h y = some dy) : dataAll (dataOf n h) [x, y] = some [dx, dy] := by
  simp only [dataAll, ex, ey]
theorem data_one {h : SH} {n : Nat} {x : SV} {dx : PyData} (ex : dataOf n h x = some dx) : dataAll (dataOf n h) [x] = some [dx] := by
  simp only [dataAll, ex]
/-- a text of at most n signs, each of which is one -/
def Sg (n : Nat) (x : Str) : Prop := x.cps.size ≤ n ∧ ∀ c ∈ x.cps, c < 0x110000
theorem Sg.app {a b : Nat} {x y : Str} (p : Sg a x) (q : Sg b y) : Sg (a + b) (x ++ y) := by
  refine ⟨?_, fun c hc => ?_⟩
  · show (x.cps ++ y.cps).size ≤ a + b
    rw [Array.size_append]
    have := p.1
    have := q.1
    omega
  · have hc' : c ∈ x.cps ++ y.cps := hc
    rcases Array.mem_append.mp hc' with h | h
    · exact p.2 c h
    · exact q.2 c h
theorem Sg.up {a b : Nat} {x : Str} (p : Sg a x) (h : a ≤ b) : Sg b x := ⟨Nat.le_trans p.1 h, p.2⟩
theorem Sg.lit {s : String} {n : Nat} (h : s.toList.length ≤ n) : Sg n (Str.ofString s) := by
  rw [Str.ofString_eq_toList]
  refine ⟨by simpa using h, fun c hc => ?_⟩
  obtain ⟨d, _, rfl⟩ : ∃ d, d ∈ s.toList ∧ Char.toNat d = c := by simpa using hc
  have := d.valid
  have h2 : d.toNat.isValidChar := this
  unfold Nat.isValidChar at h2
  omega
theorem Sg.num {i : Int} (h : i.natAbs < 10 ^ 13) : Sg 20 (Str.ofString (toString i)) := by
  refine Sg.lit ?_
  have k := PyProof.Rows.digits10_le (k := 13) (n := i.natAbs) (by omega) h
  cases i with
  | ofNat m =>
    show (Nat.repr m).toList.length ≤ 20
    have e : (Nat.repr m).toList = Nat.toDigits 10 m := by simp [Nat.repr]
    rw [e]
    have : (Nat.toDigits 10 m).length ≤ 13 := k
    omega
  | negSucc m =>
    show (("-" : String) ++ Nat.repr (m + 1)).toList.length ≤ 20
    have e : (("-" : String) ++ Nat.repr (m + 1)).toList = '-' :: Nat.toDigits 10 (m + 1) := by simp [Nat.repr]
    rw [e]
    have : (Nat.toDigits 10 (m + 1)).length ≤ 13 := k
    simp; omega
theorem Sg.from {b : Nat} : ∀ (ts : List Str) (k a : Nat) (acc : Str), Sg a acc → (∀ t ∈ ts, Sg b t) → Sg (a + ts.length * (b + 2)) (textFrom k acc ts)
  | [], k, a, acc, p, _ => by unfold textFrom; exact p.up (by omega)
  | t :: ts, k, a, acc, p, q => by
    unfold textFrom
    have s2 : Sg 2 (if k > 0 then ", " else "" : String) := by
      by_cases hk : k > 0
      · rw [if_pos hk]; exact Sg.lit (by decide)
      · rw [if_neg hk]; exact Sg.lit (by decide)
    refine (Sg.from ts (k + 1) _ _ ((p.app s2).app (q t List.mem_cons_self)) fun u hu => q u (List.mem_cons_of_mem _ hu)).up ?_
    simp only [List.length_cons, Nat.add_mul]
    omega
theorem Sg.list {b : Nat} {ts : List Str} (q : ∀ t ∈ ts, Sg b t) : Sg (2 + ts.length * (b + 2)) (listText ts) := by
  unfold listText
  exact ((Sg.from ts 0 1 _ (Sg.lit (by decide)) q).app (Sg.lit (n := 1) (by decide))).up (by omega)
theorem Sg.join {b : Nat} : ∀ {ts : List Str}, (∀ t ∈ ts, Sg b t) → Sg (ts.length * (b + 2)) (Str.join ", " ts)
  | [], _ => ⟨by show 0 ≤ _; omega, fun c hc => by exact absurd hc (by simp [Str.join, Str.empty])⟩
  | [x], q => (q x List.mem_cons_self).up (by simp)
  | x :: y :: r, q => by
    have ih := Sg.join (ts := y :: r) fun t ht => q t (List.mem_cons_of_mem _ ht)
    have e : Str.join ", " (x :: y :: r) = x ++ ", " ++ Str.join ", " (y :: r) := rfl
    rw [e]
    refine (((q x List.mem_cons_self).app (Sg.lit (n := 2) (by decide))).app ih).up ?_
    simp only [List.length_cons, Nat.add_mul]
    omega
theorem Sg.tup {b : Nat} {ts : List Str} (q : ∀ t ∈ ts, Sg b t) : Sg (3 + ts.length * (b + 2)) (tupleText ts) := by
  unfold tupleText
  have e : Sg 2 (if ts.length == 1 then ",)" else ")" : String) := by
    by_cases h : (ts.length == 1) = true
    · rw [if_pos h]; exact Sg.lit (by decide)
    · rw [if_neg h]; exact Sg.lit (by decide)
  exact (((Sg.lit (n := 1) (by decide)).app (Sg.join q)).app e).up (by omega)
/-- data that is shown by a text that is no longer than a text may be -/
structure Tx1 (d : PyData) : Prop where
  sh : d.showable = true
  dp : d.depth ≤ 60
  len : d.shown.length ≤ 16777216
  ok : PyData.strOk d.shown = true
theorem Tx1.of {n : Nat} {d : PyData} (h1 : d.showable = true) (h2 : d.depth ≤ 60) (h3 : Sg n d.shown) (hn : n ≤ 16777216) : Tx1 d :=
  ⟨h1, h2, Nat.le_trans h3.1 hn, by
    unfold PyData.strOk
    rw [Array.all_eq_true_iff_forall_mem]
    exact fun c hc => decide_eq_true (h3.2 c hc)⟩
theorem repr_d {h : SH} {a : SV} {d : PyData} {P : SV → SH → Prop} (e : dataOf 64 h a = some d) (t : Tx1 d) (p : P (.str d.shown) h) : ∃ v h3, un1 opRepr [a] h = some (v, h3) ∧ P v h3 := by
  refine ⟨_, _, ?_, p⟩
  show opRepr a h = _
  unfold opRepr
  rw [e]
  exact if_pos ⟨t.sh, by have := t.dp; omega, t.len⟩
theorem eqD_same {neg : Bool} {a b : SV} {h : SH} {d : PyData} {P : SV → SH → Prop} (ea : dataOf 64 h a = some d) (eb : dataOf 64 h b = some d) (sh : SeqAt.shaped d = true) (p : P (.bl (!neg)) h) : ∃ v h3, eqD neg a b h = some (v, h3) ∧ P v h3 := by
  refine ⟨_, _, ?_, p⟩
  unfold eqD
  rw [ea, eb]
  simp only [sh, Bool.and_self, if_true, SeqAt.eqv_refl d (SeqAt.canLay_of_shaped sh)]
  cases neg <;> rfl
theorem sh_pair {k : Int} {x : Str} (h : PyData.strOk x = true) : SeqAt.shaped (.list [.int k, .str x]) = true := by
  unfold SeqAt.shaped
  simp only [PyData.canLay0, PyData.canLayAll0, PyData.depth, PyData.depthAll, h]
  rfl
theorem is_ok {α : Type} {a : α} {h : SH} {P : α → SH → Prop} (p : P a h) : Is (.ok a h) P := p
end Fw
namespace Fw
open PySem PySem.Spec L2
/-! more runs of meanings: fields, dicts, methods, errors, displays, drawing; from the law of the stretches -/
section
variable {N B C : SS → SH → Prop} {R : SV → SH → Prop} {ss : SS} {h : SH} {P : SV → SH → Prop}
theorem Is.d3 {op : O3} {mo mk md : EM} (x : Is (mo ss h) fun o h1 => isDct h1 o = true ∧ Is (mk ss h1) fun k h2 => Is (md ss h2) fun z h3 => ∃ v h4, op o k z h3 = some (v, h4) ∧ P v h4) : Is (mD3 op mo mk md ss h) P := Is.bind (x.mono fun o h1 ⟨i, y⟩ => by
  rw [if_pos i]
  exact Is.bind (y.mono fun k h2 z => Is.bind (z.mono fun w h3 q => Is.lift q)))
theorem fld_is {ix : List (Option Nat)} {i c k : Nat} {vs : List SV} {v : SV} (e : h[i]? = some (.ins c vs)) (ek : ix[c]? = some (some k)) (ev : vs[k]? = some v) (p : P v h) : ∃ v h2, opFld ix (.ref i) h = some (v, h2) ∧ P v h2 :=
  ⟨v, h, by unfold opFld; simp only [e, ek, ev], p⟩
theorem Ist.fst {ix : List (Option Nat)} {me mo : EM} (x : Is (me ss h) fun v h1 => Is (mo ss h1) fun o h2 => ∃ h3, opFst ix o v h2 = some h3 ∧ N ss h3) : Ist (mFst ix me mo ss h) N R B C := Ist.then (x.mono fun v h1 y => Ist.then (y.mono fun o h2 ⟨h3, e, n⟩ => by rw [e]; exact n))
theorem fst_is {ix : List (Option Nat)} {i c k : Nat} {vs : List SV} {v : SV} {Q : SH → Prop} (e : h[i]? = some (.ins c vs)) (ek : ix[c]? = some (some k)) (ev : k = vs.length) (p : Q (h.set i (.ins c (vs ++ [v])))) : ∃ h3, opFst ix (.ref i) v h = some h3 ∧ Q h3 :=
  ⟨_, by unfold opFst; simp only [e, ek]; rw [if_neg (by omega), if_pos ev], p⟩
theorem Is.bmL {f : SV → OA} {mo : EM} {ma : AM} (x : Is (mo ss h) fun o h1 => isLst h1 o = true ∧ Is (ma ss h1) fun vs h2 => ∃ v h3, f o vs h2 = some (v, h3) ∧ P v h3) : Is (mBm f mo ma ss h) P := Is.bind (x.mono fun o h1 ⟨i, y⟩ => by
  rw [if_pos i]
  exact Is.bind (y.mono fun k h2 z => Is.lift z))
theorem app_is {i : Nat} {xs : List SV} {y : SV} (e : h[i]? = some (.lst xs)) (k : xs.length < big) (p : P .non (h.set i (.lst (xs ++ [y])))) : ∃ v h3, opAppend (.ref i) [y] h = some (v, h3) ∧ P v h3 :=
  ⟨.non, h.set i (.lst (xs ++ [y])), by unfold opAppend; simp only [e, if_pos k], p⟩
theorem Is.ifx {ta : BM} {ma mb : EM} (x : Is (ta ss h) fun b h1 => if b = true then Is (ma ss h1) P else Is (mb ss h1) P) : Is (mIf ta ma mb ss h) P := Is.bind (x.mono fun b h1 y => by
  cases b with
  | true => exact y
  | false => exact y)
theorem Is.dict0 (p : P (.ref h.length) (h ++ [.dK []])) : Is (mDict0 ss h) P := p
theorem Is.make {c : Nat} {f : FM} {ma : AM} (x : Is (ma ss h) fun vs h1 => Is (f (.ref h1.length :: vs) (h1 ++ [.ins c []])) fun v h2 => v = .non ∧ P (.ref h1.length) h2) : Is (mMake c f ma ss h) P := Is.bind (x.mono fun vs h1 y => Is.bind (y.mono fun v h2 ⟨e, p⟩ => by subst e; exact p))
theorem Is.meth {c : Nat} {f : FM} {mo : EM} {ma : AM} (x : Is (mo ss h) fun o h1 => insOf h1 o = some c ∧ Is (ma ss h1) fun vs h2 => Is (f (o :: vs) h2) P) : Is (mMeth c f mo ma ss h) P := Is.bind (x.mono fun o h1 ⟨i, y⟩ => by
  rw [if_pos i]
  exact Is.bind y)
theorem lstB {i : Nat} {xs : List SV} (e : h[i]? = some (.lst xs)) : isLst h (.ref i) = true := by unfold isLst; simp only [e]
theorem dctB {i : Nat} {xs : List (Key × SV)} (e : h[i]? = some (.dK xs)) : isDct h (.ref i) = true := by unfold isDct; simp only [e]
theorem tup_is {xs : List SV} (k : xs.length ≤ big) (p : P (.ref h.length) (h ++ [.tup xs])) : ∃ v h3, opTup xs h = some (v, h3) ∧ P v h3 := ⟨_, _, by unfold opTup; rw [if_pos k]; rfl, p⟩
theorem ok_is {α : Type} {a : α} {Q : α → SH → Prop} (p : Q a h) : Is (.ok a h) Q := p
end
theorem is_eq {α : Type} {r : Res α} {a : α} {h : SH} {P : α → SH → Prop} (e : r = .ok a h) (p : P a h) : Is r P := by rw [e]; exact p
theorem sh_int (i : Int) : SeqAt.shaped (.int i) = true := by
  unfold SeqAt.shaped
  rw [PyData.canLay0, PyData.depth]
  rfl
theorem ev_int (i j : Int) : PyData.eqv (.int i) (.int j) = decide (i = j) := by
  rw [PyData.eqv]
  rfl
def Kp (p : Nat) (h h' : SH) : Prop := ∀ (j : Nat) (o : SO), j ≠ p → h[j]? = some o → h'[j]? = some o
theorem lt_of {h : SH} {j : Nat} {o : SO} (e : h[j]? = some o) : j < h.length := (List.getElem?_eq_some_iff.mp e).1
theorem getS_nil {k : Key} : getS ([] : List (Key × SV)) k = none := rfl
theorem getS_cons {p : Key × SV} {kvs : List (Key × SV)} {k : Key} : getS (p :: kvs) k = if p.1 = k then some p.2 else getS kvs k := by
  unfold getS
  rw [List.find?_cons]
  by_cases e : p.1 = k
  · simp [e]
  · simp [e]
theorem getS_mem {k : Key} {v : SV} : ∀ {kvs : List (Key × SV)}, getS kvs k = some v → (k, v) ∈ kvs
  | [], e => by cases e
  | p :: kvs, e => by
    rw [getS_cons] at e
    by_cases q : p.1 = k
    · rw [if_pos q] at e
      cases e
      rw [← q]
      exact List.mem_cons_self
    · rw [if_neg q] at e
      exact List.mem_cons_of_mem _ (getS_mem e)
theorem getS_app {k k' : Key} {v : SV} : ∀ {kvs : List (Key × SV)}, getS (kvs ++ [(k, v)]) k' = match getS kvs k' with | some x => some x | none => if k = k' then some v else none
  | [] => by rw [List.nil_append, getS_cons]; rfl
  | p :: kvs => by
    rw [List.cons_append, getS_cons, getS_cons]
    by_cases q : p.1 = k'
    · rw [if_pos q, if_pos q]
    · rw [if_neg q, if_neg q]; exact getS_app
theorem any_none {k : Key} : ∀ {kvs : List (Key × SV)}, getS kvs k = none → (kvs.any fun kv => decide (kv.1 = k)) = false
  | [], _ => rfl
  | p :: kvs, e => by
    rw [getS_cons] at e
    by_cases q : p.1 = k
    · rw [if_pos q] at e; cases e
    · rw [if_neg q] at e
      rw [List.any_cons, any_none e, decide_eq_false q]; rfl
theorem put_new {k : Key} {v : SV} {kvs : List (Key × SV)} (e : getS kvs k = none) : putS kvs k v = kvs ++ [(k, v)] := by
  unfold putS
  rw [any_none e]
  rfl
theorem getS_map {k k' : Key} {v : SV} : ∀ {kvs : List (Key × SV)}, (getS (kvs.map fun kv => if kv.1 = k then (kv.1, v) else kv) k').isSome = (getS kvs k').isSome
  | [] => rfl
  | p :: kvs => by
    rw [List.map_cons, getS_cons, getS_cons]
    have e : (if p.1 = k then (p.1, v) else p).1 = p.1 := by split <;> rfl
    rw [e]
    by_cases q : p.1 = k'
    · rw [if_pos q, if_pos q]; rfl
    · rw [if_neg q, if_neg q]; exact getS_map
theorem any_some {k : Key} : ∀ {kvs : List (Key × SV)}, (kvs.any fun kv => decide (kv.1 = k)) = true → (getS kvs k).isSome = true
  | p :: kvs, e => by
    rw [getS_cons]
    by_cases q : p.1 = k
    · rw [if_pos q]; rfl
    · rw [if_neg q]
      rw [List.any_cons, decide_eq_false q, Bool.false_or] at e
      exact any_some e
theorem put_has {k k' : Key} {v : SV} {kvs : List (Key × SV)} : (getS (putS kvs k v) k').isSome = true ↔ k = k' ∨ (getS kvs k').isSome = true := by
  unfold putS
  split
  · rename_i h
    rw [getS_map]
    constructor
    · exact .inr
    · rintro (z | z)
      · rw [← z]; exact any_some h
      · exact z
  · rename_i h
    rw [getS_app]
    cases e : getS kvs k' with
    | some x => simp
    | none =>
      by_cases q : k = k'
      · simp [q]
      · simp [q]
theorem put_len {k : Key} {v : SV} {kvs : List (Key × SV)} : (putS kvs k v).length ≤ kvs.length + 1 := by
  unfold putS
  split
  · simp
  · simp
section
variable {h h0 : SH}
theorem kp_set {p : Nat} {u : SO} : Kp p h (h.set p u) := fun j o n e => by rw [set_ne (Ne.symm n)]; exact e
theorem le_set {p : Nat} {u : SO} (le : Le h0 h) (hp : h0.length ≤ p) : Le h0 (h.set p u) := fun j o e => by
  have := lt_of e
  rw [set_ne (by omega)]
  exact le j o e
end
theorem small_big {n : Nat} (h : n ≤ 1000) : n ≤ big := by unfold big; omega
theorem small_lt {n : Nat} (h : n ≤ 1000) : n < big := by unfold big; omega
theorem g3_is {i j k t : Nat} {a b c : SV} {s : SS} {h : SH} (e : h[t]? = some (.tup [a, b, c])) : gTupM 3 (gsCons (gVar i) (gsCons (gVar j) (gsCons (gVar k) gsNil))) (.ref t) s h = some (((s.set i (some a)).set j (some b)).set k (some c)) := by
  unfold gTupM
  simp only [e]
  rfl
theorem g2_is {i j t : Nat} {a b : SV} {s : SS} {h : SH} (e : h[t]? = some (.tup [a, b])) : gTupM 2 (gsCons (gVar i) (gsCons (gVar j) gsNil)) (.ref t) s h = some ((s.set i (some a)).set j (some b)) := by
  unfold gTupM
  simp only [e]
  rfl
section
variable {N B C : SS → SH → Prop} {R : SV → SH → Prop} {ss : SS} {h : SH}
theorem Ist.items {m : EM} {g : GM} {mb : SM} {i : Nat} {h1 : SH} {kvs : List (Key × SV)} (e : m ss h = .ok (.ref i) h1) (ek : h[i]? = some (.dK kvs))
    (x : Ist (mFor (mIt m) g mb ss (h.set i (.lk kvs))) (fun s h2 => ∃ kv, h2[i]? = some (.lk kv) ∧ N s (h2.set i (.dK kv))) (fun v h2 => ∃ kv, h2[i]? = some (.lk kv) ∧ R v (h2.set i (.dK kv))) (fun s h2 => ∃ kv, h2[i]? = some (.lk kv) ∧ B s (h2.set i (.dK kv))) (fun s h2 => ∃ kv, h2[i]? = some (.lk kv) ∧ C s (h2.set i (.dK kv)))) : Ist (mItems m g mb ss h) N R B C := by
  unfold mItems
  rw [e]
  simp only [ek]
  cases er : mFor (mIt m) g mb ss (h.set i (.lk kvs)) with
  | nx s h2 => rw [er] at x; obtain ⟨kv, z, n⟩ := x; unfold unS; simp only [z]; exact n
  | rt s h2 => rw [er] at x; obtain ⟨kv, z, n⟩ := x; unfold unS; simp only [z]; exact n
  | bk s h2 => rw [er] at x; obtain ⟨kv, z, n⟩ := x; unfold unS; simp only [z]; exact n
  | ct s h2 => rw [er] at x; obtain ⟨kv, z, n⟩ := x; unfold unS; simp only [z]; exact n
  | stuck => rw [er] at x; exact x.elim
  | ex c xs s h2 => rw [er] at x; exact x.elim
theorem Is.it {P : Wk → SH → Prop} {m : EM} (x : Is (m ss h) fun v h1 => ∃ r kvs, v = .ref r ∧ h1[r]? = some (.lk kvs) ∧ P (wkIt r) h1) : Is (mIt m ss h) P := Is.bind (x.mono fun v h1 y => by
  obtain ⟨r, kvs, rfl, e, p⟩ := y
  show Is (match h1[r]? with | some (.lk _) => Res.ok (wkIt r) h1 | _ => .stuck) P
  rw [e]; exact p)
theorem wkIt_at {r k : Nat} {kvs : List (Key × SV)} {kk : Key} {x : SV} (e : h[r]? = some (.lk kvs)) (ex : kvs[k]? = some (kk, x)) : wkIt r h k = some (some (.ref h.length, h ++ [.tup [keyS kk, x]])) := by
  unfold wkIt; simp only [e, ex]
theorem wkIt_end {r : Nat} {kvs : List (Key × SV)} (e : h[r]? = some (.lk kvs)) : wkIt r h kvs.length = some none := by
  unfold wkIt; simp [e]
end
/-- a suite that goes on, or ends in an error -/
def Ise (r : SR) (N : SS → SH → Prop) (E : Nat → List SV → SH → Prop) : Prop := match r with
  | .nx s h => N s h
  | .ex c xs _ h => E c xs h
  | _ => False
section
variable {N : SS → SH → Prop} {E : Nat → List SV → SH → Prop} {ss : SS} {h : SH}
theorem Ise.seq {m1 m2 : SM} (x : Ise (m1 ss h) (fun s h => Ise (m2 s h) N E) E) : Ise (mSeq m1 m2 ss h) N E := by
  unfold mSeq
  cases e : m1 ss h with
  | nx s h => rw [e] at x; exact x
  | ex c xs s h => rw [e] at x; exact x
  | rt v h => rw [e] at x; exact x.elim
  | bk s h => rw [e] at x; exact x.elim
  | ct s h => rw [e] at x; exact x.elim
  | stuck => rw [e] at x; exact x.elim
theorem Ise.ite {t : BM} {m1 m2 : SM} (x : Is (t ss h) fun b h1 => if b = true then Ise (m1 ss h1) N E else Ise (m2 ss h1) N E) : Ise (mIfS t m1 m2 ss h) N E := by
  unfold mIfS
  obtain ⟨b, h1, e, y⟩ := x.out
  rw [e]
  cases b with
  | true => exact y
  | false => exact y
theorem Ise.nil (x : N ss h) : Ise (mNil ss h) N E := x
theorem Ise.raise {c i : Nat} {v : SV} (e : ss[i]? = some (some v)) (x : E c [v] h) : Ise (mRaise c 1 (aCons (mVar i) aNil) ss h) N E := by
  unfold mRaise aCons mVar
  rw [e]
  exact x
theorem Ise.forM {g : GM} {wk : Wk} {body : SM} {I : Nat → SS → SH → Prop} {len : Nat}
    (hn : ∀ k s h, k < len → I k s h → ∃ x h1 s1, wk h k = some (some (x, h1)) ∧ g x s h1 = some s1 ∧ Ise (body s1 h1) (I (k + 1)) E) (he : ∀ s h, I len s h → wk h len = some none ∧ N s h) :
    ∀ (n i : Nat) (s : SS) (h : SH), i ≤ len → len - i < n → I i s h → Ise (Fw.forM g wk body n i s h) N E
  | 0, _, _, _, _, hl, _ => absurd hl (by omega)
  | n + 1, i, s, h, hi, hl, inv => by
    unfold Fw.forM
    by_cases e : i = len
    · subst e
      obtain ⟨e1, e2⟩ := he s h inv
      rw [e1]; exact e2
    · obtain ⟨x, h1, s1, e1, e2, e3⟩ := hn i s h (by omega) inv
      rw [e1]
      simp only [e2]
      cases e4 : body s1 h1 with
      | nx s2 h2 => rw [e4] at e3; exact Ise.forM hn he n (i + 1) s2 h2 (by omega) (by omega) e3
      | ex c xs s2 h2 => rw [e4] at e3; exact e3
      | ct s2 h2 => rw [e4] at e3; exact e3.elim
      | bk s2 h2 => rw [e4] at e3; exact e3.elim
      | rt v h2 => rw [e4] at e3; exact e3.elim
      | stuck => rw [e4] at e3; exact e3.elim
theorem Ise.for {m : IM} {g : GM} {body : SM} (x : Is (m ss h) fun wk h1 => ∃ (len : Nat) (I : Nat → SS → SH → Prop), len < many ∧ I 0 ss h1 ∧
      (∀ k s h, k < len → I k s h → ∃ x h1 s1, wk h k = some (some (x, h1)) ∧ g x s h1 = some s1 ∧ Ise (body s1 h1) (I (k + 1)) E) ∧ (∀ s h, I len s h → wk h len = some none ∧ N s h)) : Ise (mFor m g body ss h) N E := by
  unfold mFor
  obtain ⟨wk, h1, e, len, I, hl, i0, hn, he⟩ := x.out
  rw [e]
  exact Ise.forM hn he many 0 ss h1 (Nat.zero_le _) (by omega) i0
theorem Ise.fn {np n : Nat} {m : SM} {vs : List SV} {c : Nat} {xs : List SV} {h' : SH} (hl : vs.length = np) (x : Ise (m (vs.map some ++ List.replicate (n - vs.length) none) h) (fun _ _ => False) fun c' xs' h2 => c' = c ∧ xs' = xs ∧ h2 = h') : mFn np n m vs h = .ex c xs h' := by
  unfold mFn
  rw [if_pos hl]
  cases e : m (vs.map some ++ List.replicate (n - vs.length) none) h with
  | nx s h => rw [e] at x; exact x.elim
  | ex c xs s h => rw [e] at x; obtain ⟨rfl, rfl, rfl⟩ := x; rfl
  | rt v h => rw [e] at x; exact x.elim
  | bk s h => rw [e] at x; exact x.elim
  | ct s h => rw [e] at x; exact x.elim
  | stuck => rw [e] at x; exact x.elim
end
theorem isi_t {f : Tag → Option Bool} {a : SV} {h : SH} {t : Tag} {b : Bool} {P : SV → SH → Prop} (e : tagOf h a = some t) (ef : f t = some b) (p : P (.bl b) h) : ∃ v h', opIsi f a h = some (v, h') ∧ P v h' :=
  ⟨_, _, by unfold opIsi; simp only [e, ef], p⟩
theorem tag_lst {h : SH} {L : Nat} {xs : List SV} (e : h[L]? = some (.lst xs)) : tagOf h (.ref L) = some .lst := by unfold tagOf; simp only [e]
theorem tru_is {b : Bool} {h : SH} {P : Bool → SH → Prop} (p : P b h) : Is (opTru (.bl b) h) P := p
theorem Ist.tryC {N B C : SS → SH → Prop} {R : SV → SH → Prop} {ss ss1 : SS} {h h1 : SH} {i c : Nat} {xs : List SV} {sub : Nat → Option Bool} {mb ms : SM} (e : mb ss h = .ex c xs ss1 h1) (es : sub c = some true)
    (x : Ist (ms (ss1.set i (some (.ref h1.length))) (h1 ++ [.exo c xs])) (fun s h => N (s.set i none) h) R (fun s h => B (s.set i none) h) (fun s h => C (s.set i none) h)) : Ist (mTry i sub mb ms ss h) N R B C := by
  unfold mTry
  rw [e]
  simp only [es]
  cases er : ms (ss1.set i (some (.ref h1.length))) (h1 ++ [.exo c xs]) with
  | nx s h => rw [er] at x; exact x
  | rt v h => rw [er] at x; exact x
  | bk s h => rw [er] at x; exact x
  | ct s h => rw [er] at x; exact x
  | stuck => rw [er] at x; exact x.elim
  | ex c xs s h => rw [er] at x; exact x.elim
/-- displays whose items all have a property that stays -/
def Sta (Q : SH → SV → Prop) : Prop := ∀ h h' v, Le h h' → Q h v → Q h' v
def IsD (Q : SH → SV → Prop) (a : AM) (ss : SS) (h : SH) (n : Nat) : Prop := Is (a ss h) fun vs h' => Le h h' ∧ vs.length = n ∧ ∀ v ∈ vs, Q h' v
section
variable {Q : SH → SV → Prop} {ss : SS} {h : SH}
theorem IsD.nil : IsD Q aNil ss h 0 := ⟨Le.refl h, rfl, fun _ z => nomatch z⟩
theorem IsD.cons {m : EM} {r : AM} {n : Nat} (st : Sta Q) (x : Is (m ss h) fun v h1 => Le h h1 ∧ Q h1 v) (y : ∀ h1, Le h h1 → IsD Q r ss h1 n) : IsD Q (aCons m r) ss h (n + 1) := by
  refine Is.acons (x.mono fun v h1 ⟨l, q⟩ => (y h1 l).mono fun vs h2 ⟨l2, e, k⟩ => ⟨l.trans l2, by simp [e], fun w hw => ?_⟩)
  rcases List.mem_cons.mp hw with rfl | hw
  · exact st _ _ _ l2 q
  · exact k w hw
theorem IsD.c {v : SV} {r : AM} {n : Nat} (st : Sta Q) (q : Q h v) (y : ∀ h1, Le h h1 → IsD Q r ss h1 n) : IsD Q (aCons (mC v) r) ss h (n + 1) := IsD.cons st ⟨Le.refl h, q⟩ y
/-- the list that a display makes -/
theorem IsD.lst {a : AM} {n : Nat} {P : SV → SH → Prop} (st : Sta Q) (x : IsD Q a ss h n) (hn : n ≤ 1000) (p : ∀ h' j vs, Le h h' → h'[j]? = some (.lst vs) → vs.length = n → (∀ v ∈ vs, Q h' v) → P (.ref j) h') : Is (mOA opLst a ss h) P :=
  Is.oa (x.mono fun vs h1 ⟨l, e, k⟩ => lst_is (small_big (by omega)) (p _ _ vs (l.trans (Le.push _ _)) (new_at _ _) e fun v hv => st _ _ _ (Le.push _ _) (k v hv)))
/-- a loop over such a list -/
theorem loopQ {N B C : SS → SH → Prop} {R : SV → SH → Prop} {m : EM} {body : SM} {i : Nat} {n : Nat} (I : SS → Prop) (st : Sta Q) (hn : n ≤ 1000) (i0 : I ss) (x : Is (m ss h) fun v h1 => ∃ j vs, v = .ref j ∧ Le h h1 ∧ h1[j]? = some (.lst vs) ∧ vs.length = n ∧ ∀ v ∈ vs, Q h1 v)
    (turn : ∀ s h' v, I s → Le h h' → Q h' v → Ist (body (s.set i (some v)) h') (fun s2 h2 => I s2 ∧ Le h' h2) R (fun _ _ => False) (fun _ _ => False)) (n' : ∀ s h', I s → Le h h' → N s h') : Ist (mFor (mWalk m) (gVar i) body ss h) N R B C := by
  refine Ist.for (Is.walkL (x.mono fun v h1 ⟨j, vs, ev, le, e, hl, q⟩ => ⟨j, vs, ev, e, vs.length, fun k s h' => I s ∧ Le h1 h', by unfold many; omega, ⟨i0, Le.refl _⟩, ?_, ?_⟩))
  · rintro k s h' hk ⟨is_, l⟩
    have ek : vs[k]? = some vs[k] := List.getElem?_eq_getElem hk
    refine ⟨_, _, _, wkL_at (l _ _ e) ek, rfl, (turn s h' _ is_ (le.trans l) (st _ _ _ l (q _ (List.getElem_mem hk)))).mono (fun s2 h2 ⟨a, b⟩ => ⟨a, l.trans b⟩) (fun _ _ z => z) (fun _ _ z => z.elim) fun _ _ z => z.elim⟩
  · rintro s h' ⟨is_, l⟩
    exact ⟨wkL_end (l _ _ e), n' s h' is_ (le.trans l)⟩
end
theorem tx_c {d : PyData} (h : (d.showable && decide (d.depth ≤ 60) && decide (d.shown.length ≤ 16777216) && PyData.strOk d.shown) = true) : Tx1 d := by
  simp only [Bool.and_eq_true, decide_eq_true_eq] at h
  exact ⟨h.1.1.1, h.1.1.2, h.1.2, h.2⟩
section
variable {h : SH} {t : Nat} {x y z : SV}
theorem tag_tup {xs : List SV} (e : h[t]? = some (.tup xs)) : tagOf h (.ref t) = some .tup := by unfold tagOf; simp only [e]
theorem tag_dct {xs : List (Key × SV)} (e : h[t]? = some (.dK xs)) : tagOf h (.ref t) = some .dct := by unfold tagOf; simp only [e]
end
theorem num40 {i : Int} (h : i.natAbs < 10 ^ 40) : Sg 50 (Str.ofString (toString i)) := by
  refine Sg.lit ?_
  have k := PyProof.Rows.digits10_le (k := 40) (n := i.natAbs) (by omega) h
  cases i with
  | ofNat m =>
    show (Nat.repr m).toList.length ≤ 50
    have e : (Nat.repr m).toList = Nat.toDigits 10 m := by simp [Nat.repr]
    rw [e]
    have : (Nat.toDigits 10 m).length ≤ 40 := k
    omega
  | negSucc m =>
    show (("-" : String) ++ Nat.repr (m + 1)).toList.length ≤ 50
    have e : (("-" : String) ++ Nat.repr (m + 1)).toList = '-' :: Nat.toDigits 10 (m + 1) := by simp [Nat.repr]
    rw [e]
    have : (Nat.toDigits 10 (m + 1)).length ≤ 40 := k
    simp; omega
theorem log40 {i : Int} (h : i.natAbs < 10 ^ 40) : i.natAbs.log2 < 1920 := by
  by_cases z : i.natAbs = 0
  · rw [z]; decide
  · exact Nat.lt_trans ((Nat.log2_lt (k := 200) z).mpr (Nat.lt_trans h (by decide))) (by decide)
theorem shownAll_len : ∀ ds : List PyData, (PyData.shownAll ds).length = ds.length
  | [] => rfl
  | d :: ds => by simp only [PyData.shownAll, List.length_cons, shownAll_len ds]
theorem add_is {i j : Nat} {xs ys : List SV} {h : SH} {P : SV → SH → Prop} (e1 : h[i]? = some (.lst xs)) (e2 : h[j]? = some (.lst ys)) (k : xs.length + ys.length ≤ big) (p : P (.ref h.length) (h ++ [.lst (xs ++ ys)])) : ∃ v h3, opAdd (.ref i) (.ref j) h = some (v, h3) ∧ P v h3 :=
  ⟨_, _, by unfold opAdd; simp only [e1, e2, if_pos k]; rfl, p⟩
theorem list_is {i : Nat} {xs : List SV} {h : SH} {P : SV → SH → Prop} (e : h[i]? = some (.lst xs)) (p : P (.ref h.length) (h ++ [.lst xs])) : ∃ v h3, un1 opList [.ref i] h = some (v, h3) ∧ P v h3 :=
  ⟨_, _, by show opList (.ref i) h = _; unfold opList; simp only [e]; rfl, p⟩
theorem tuple_is {i : Nat} {xs : List SV} {h : SH} {P : SV → SH → Prop} (e : h[i]? = some (.lst xs)) (p : P (.ref h.length) (h ++ [.tup xs])) : ∃ v h3, un1 opTuple [.ref i] h = some (v, h3) ∧ P v h3 :=
  ⟨_, _, by show opTuple (.ref i) h = _; unfold opTuple; simp only [e]; rfl, p⟩
theorem gs {α : Type} {s : List α} {i j : Nat} {x : α} {v : Option α} (h : s[j]? = v) (n : i ≠ j) : (s.set i x)[j]? = v := by rw [List.getElem?_set_ne n]; exact h
theorem gx {α : Type} {s : List α} {i n : Nat} {x : α} (h : s.length = n) (hi : i < n) : (s.set i x)[i]? = some x := List.getElem?_set_self (by rw [h]; exact hi)
theorem Kp.refl {g : Nat} {h : SH} : Kp g h h := fun _ _ _ e => e
theorem Kp.trans {g : Nat} {a b c : SH} (x : Kp g a b) (y : Kp g b c) : Kp g a c := fun j o n e => y j o n (x j o n e)
theorem Le.kp {g : Nat} {a b : SH} (x : Le a b) : Kp g a b := fun j o _ e => x j o e
/-- the generator's list -/
def GenOk (h : SH) (g : Nat) (B : Int) : Prop := ∃ a b c : Int, h[g]? = some (.lst [.int a, .int b, .int c]) ∧ 0 ≤ a ∧ 0 ≤ c ∧ c ≤ B
theorem GenOk.le {h h' : SH} {g : Nat} {B B' : Int} (x : GenOk h g B) (l : Le h h') (hB : B ≤ B') : GenOk h' g B' := by
  obtain ⟨a, b, c, e, h1, h2, h3⟩ := x
  exact ⟨a, b, c, l _ _ e, h1, h2, by omega⟩
theorem draw {h : SH} {g : Nat} {B n : Int} (G : GenOk h g B) (hB : B ≤ 1000000000000) (hn : 0 < n) (hl : n.natAbs.log2 < 9000) (hb : Builtin.Int.intBits n < 100000) {P : SV → SH → Prop}
    (p : ∀ r h', 0 ≤ r → r < n → Kp g h h' → h'.length = h.length → GenOk h' g (B + 4000) → P (.int r) h') : Is (mFn 2 4 randM [.ref g, .int n] h) P := by
  obtain ⟨a, b, c, e, h1, h2, h3⟩ := G
  refine rand_is e hn hl hb h1 h2 (by omega) fun r a' c' r0 r1 a0 c1 c2 => p r _ r0 r1 kp_set (by simp) ⟨a', b, c', set_at e, a0, by omega, by omega⟩
theorem GenOk.at {h : SH} {g : Nat} {B : Int} (x : GenOk h g B) : ∃ gs, h[g]? = some (.lst gs) := let ⟨a, b, c, e, _⟩ := x; ⟨_, e⟩
theorem eqvAll_nil : ∀ ds : List PyData, PyData.eqvAll ds [] = ds.isEmpty
  | [] => by rw [PyData.eqvAll]; rfl
  | d :: ds => by rw [PyData.eqvAll]; rfl
theorem tx_bool {b : Bool} : Tx1 (.bool b) := by cases b <;> exact tx_c (by decide +kernel)
theorem sh_str {x : Str} (h : PyData.strOk x = true) : SeqAt.shaped (.str x) = true := by
  unfold SeqAt.shaped
  rw [PyData.canLay0, PyData.depth, h]
  rfl
theorem atI_mem {xs : List SV} {r : Int} (h0 : 0 ≤ r) (h1 : r < xs.length) : ∃ x, L2.atI xs r = some x ∧ x ∈ xs := by
  have hr : r.toNat < xs.length := by omega
  refine ⟨xs[r.toNat], ?_, List.getElem_mem hr⟩
  unfold L2.atI L2.ixN
  rw [if_pos (by omega), if_pos (by omega)]
  simp [List.getElem?_eq_getElem hr]
end Fw
namespace Fw
open PySem PySem.Spec L2
theorem Ist.whileM {t : BM} {body : SM} {N B C : SS → SH → Prop} {R : SV → SH → Prop} {I : Nat → SS → SH → Prop}
    (turn : ∀ n s h, I n s h → Is (t s h) fun b h1 => if b = true then Ist (body s h1) (fun s2 h2 => ∃ m, m < n ∧ I m s2 h2) R N (fun s2 h2 => ∃ m, m < n ∧ I m s2 h2) else N s h1) :
    ∀ (f n : Nat) (s : SS) (h : SH), n < f → I n s h → Ist (Fw.whileM t body f s h) N R B C
  | 0, _, _, _, hf, _ => absurd hf (by omega)
  | f + 1, n, s, h, hf, inv => by
    unfold Fw.whileM
    obtain ⟨b, h1, e, y⟩ := (turn n s h inv).out
    rw [e]
    cases b with
    | false => exact y
    | true =>
      have y' : Ist (body s h1) (fun s2 h2 => ∃ m, m < n ∧ I m s2 h2) R N (fun s2 h2 => ∃ m, m < n ∧ I m s2 h2) := y
      cases e4 : body s h1 with
      | nx s2 h2 => rw [e4] at y'; obtain ⟨m, hm, i⟩ := y'; simp only [thenS, if_true, e4]; exact Ist.whileM turn f m s2 h2 (by omega) i
      | ct s2 h2 => rw [e4] at y'; obtain ⟨m, hm, i⟩ := y'; simp only [thenS, if_true, e4]; exact Ist.whileM turn f m s2 h2 (by omega) i
      | bk s2 h2 => rw [e4] at y'; simp only [thenS, if_true, e4]; exact y'
      | rt v h2 => rw [e4] at y'; simp only [thenS, if_true, e4]; exact y'
      | stuck => rw [e4] at y'; exact y'.elim
      | ex c xs s2 h2 => rw [e4] at y'; exact y'.elim
theorem Ist.while {t : BM} {body : SM} {N B C : SS → SH → Prop} {R : SV → SH → Prop} {ss : SS} {h : SH} (I : Nat → SS → SH → Prop) (n : Nat) (hn : n < many) (i0 : I n ss h)
    (turn : ∀ n s h, I n s h → Is (t s h) fun b h1 => if b = true then Ist (body s h1) (fun s2 h2 => ∃ m, m < n ∧ I m s2 h2) R N (fun s2 h2 => ∃ m, m < n ∧ I m s2 h2) else N s h1) : Ist (mWhile t body ss h) N R B C :=
  Ist.whileM turn many n ss h hn i0
theorem g4_is {i j k l t : Nat} {a b c d : SV} {s : SS} {h : SH} (e : h[t]? = some (.tup [a, b, c, d])) : gTupM 4 (gsCons (gVar i) (gsCons (gVar j) (gsCons (gVar k) (gsCons (gVar l) gsNil)))) (.ref t) s h = some ((((s.set i (some a)).set j (some b)).set k (some c)).set l (some d)) := by
  unfold gTupM
  simp only [e]
  rfl
theorem eqI {i j : Int} {h : SH} {P : SV → SH → Prop} (p : P (.bl (decide (i = j))) h) : ∃ v h3, eqD false (.int i) (.int j) h = some (v, h3) ∧ P v h3 := by
  refine ⟨_, _, ?_, p⟩
  unfold eqD
  have e1 : dataOf 64 h (.int i) = some (.int i) := rfl
  have e2 : dataOf 64 h (.int j) = some (.int j) := rfl
  simp only [e1, e2, sh_int, ev_int, Bool.and_self, if_true]
  rfl
theorem inD {d : Nat} {kvs : List (Key × SV)} {v : SV} {kk : Key} {h : SH} {P : SV → SH → Prop} {neg : Bool} (e : h[d]? = some (.dK kvs)) (ek : Fw.keyOf v = some kk) (p : P (.bl (if neg then !(getS kvs kk).isSome else (getS kvs kk).isSome)) h) : ∃ w h3, opIn neg v (.ref d) h = some (w, h3) ∧ P w h3 := by
  refine ⟨_, _, ?_, p⟩
  unfold opIn
  simp only [e, Fw.dictGet, ek, Option.map_some]
theorem ixD {d : Nat} {kvs : List (Key × SV)} {v x : SV} {kk : Key} {h : SH} {P : SV → SH → Prop} (e : h[d]? = some (.dK kvs)) (ek : Fw.keyOf v = some kk) (g : getS kvs kk = some x) (p : P x h) : ∃ w h3, opIx (.ref d) v h = some (w, h3) ∧ P w h3 := by
  refine ⟨_, _, ?_, p⟩
  unfold opIx
  simp only [e, Fw.dictGet, ek, g, Option.map_some]
theorem stD {d : Nat} {kvs : List (Key × SV)} {v x : SV} {kk : Key} {h : SH} {Q : SH → Prop} (e : h[d]? = some (.dK kvs)) (ek : Fw.keyOf v = some kk) (hl : kvs.length < big) (q : Q (h.set d (.dK (putS kvs kk x)))) : ∃ h4, opSt (.ref d) v x h = some h4 ∧ Q h4 := by
  refine ⟨_, ?_, q⟩
  unfold opSt
  simp only [e, ek, if_pos hl]
theorem ixT {t : Nat} {xs : List SV} {k : Int} {x : SV} {h : SH} {P : SV → SH → Prop} (e : h[t]? = some (.tup xs)) (ex : L2.atI xs k = some x) (p : P x h) : ∃ v h3, opIx (.ref t) (.int k) h = some (v, h3) ∧ P v h3 := by
  refine ⟨x, h, ?_, p⟩
  unfold opIx
  simp only [e, ex]
/-! ### the rounds' common step: what is found of a program's moves when it is made -/
def changesM : SM := (mSeq (mSet 2 (mDict (dCons (mVar 1) (mC (.int 0)) dNil))) (mSeq (mSet 3 (mOA opLst (aCons (mVar 1) aNil))) (mSeq (mWhile (mTru (mVar 3)) (mSeq (mSet 4 (mBm opPop (mVar 3) aNil)) (mFor (mWalk (mVar 0)) (gTupM 4 (gsCons (gVar 5) (gsCons (gVar 6) (gsCons (gVar 7) (gsCons (gVar 8) gsNil))))) (mIfS (bAnd (mB (mO2 (eqD false) (mVar 5) (mVar 4))) (mB (mO2 (opIn true) (mVar 8) (mVar 2)))) (mSeq (mSt (mO2 opAdd (mO2 opIx (mVar 2) (mVar 4)) (mVar 7)) (mVar 2) (mVar 8)) (mDrop (mBm opAppend (mVar 3) (aCons (mVar 8) aNil)))) mNil)))) (mRet (mVar 2)))))
/-- moves between numbered places -/
structure Mvs (h : SH) (A : Nat) (ms : List (Int × Int × Int × Int)) (n : Int) : Prop where
  ex : ∃ ts : List Nat, h[A]? = some (.lst (ts.map SV.ref)) ∧ ts.length = ms.length ∧ ∀ (i t : Nat), ts[i]? = some t → ∃ p l c o, ms[i]? = some (p, l, c, o) ∧ h[t]? = some (.tup [.int p, .int l, .int c, .int o]) ∧ 0 ≤ p ∧ p < n ∧ 0 ≤ o ∧ o < n ∧ -4 ≤ c ∧ c ≤ 4
  few : ms.length ≤ 10
  n4 : n ≤ 4
theorem Mvs.le {h h' : SH} {A : Nat} {ms : List (Int × Int × Int × Int)} {n : Int} (x : Mvs h A ms n) (l : Le h h') : Mvs h' A ms n := by
  obtain ⟨⟨ts, e, hl, z⟩, f, g⟩ := x
  exact ⟨⟨ts, l _ _ e, hl, fun i t et => let ⟨p, l0, c, o, a, b, d⟩ := z i t et; ⟨p, l0, c, o, a, l _ _ b, d⟩⟩, f, g⟩
def has (kvs : List (Key × SV)) (k : Int) : Bool := (getS kvs (.inl k)).isSome
def miss (kvs : List (Key × SV)) : Nat := (if has kvs 0 then 0 else 1) + (if has kvs 1 then 0 else 1) + (if has kvs 2 then 0 else 1) + (if has kvs 3 then 0 else 1)
theorem has_put {kvs : List (Key × SV)} {k j : Int} {v : SV} : has (putS kvs (.inl k) v) j = (decide (k = j) || has kvs j) := by
  rw [Bool.eq_iff_iff]
  unfold has
  rw [put_has]
  simp
theorem miss_put {kvs : List (Key × SV)} {k : Int} {v : SV} (h0 : 0 ≤ k) (h4 : k < 4) (no : has kvs k = false) : miss (putS kvs (.inl k) v) + 1 = miss kvs := by
  unfold miss
  simp only [has_put]
  have q : k = 0 ∨ k = 1 ∨ k = 2 ∨ k = 3 := by omega
  rcases q with rfl | rfl | rfl | rfl <;> rw [no] <;> simp <;> omega
/-- what is known of the found changes -/
structure Chg (kvs : List (Key × SV)) (n : Int) : Prop where
  ks : ∀ p ∈ kvs, ∃ k v : Int, p = (.inl k, .int v) ∧ 0 ≤ k ∧ k < n ∧ -16 ≤ v ∧ v ≤ 16
  len : kvs.length ≤ 4
theorem Chg.get {kvs : List (Key × SV)} {n k : Int} (c : Chg kvs n) (h : has kvs k = true) : ∃ v : Int, getS kvs (.inl k) = some (.int v) ∧ -16 ≤ v ∧ v ≤ 16 := by
  unfold has at h
  obtain ⟨x, e⟩ := Option.isSome_iff_exists.mp h
  obtain ⟨k', v, e2, _, _, a, b⟩ := c.ks _ (getS_mem e)
  cases e2
  exact ⟨v, e, a, b⟩
end Fw
namespace Fw
open PySem PySem.Spec L2
abbrev Mv := Int × Int × Int × Int
def cl (ms : List Mv) (kvs : List (Key × SV)) (k : Int) : Prop := ∀ p l c o, (p, l, c, o) ∈ ms → p = k → has kvs o = true
structure VB (kvs : List (Key × SV)) (n : Int) : Prop where
  ks : ∀ p ∈ kvs, ∃ k v : Int, p = (.inl k, .int v) ∧ 0 ≤ k ∧ k < n ∧ v.natAbs ≤ 4 * (kvs.length - 1)
  len : kvs.length + miss kvs ≤ 4
theorem VB.chg {kvs : List (Key × SV)} {n : Int} (x : VB kvs n) : Chg kvs n := by
  have l := x.len
  refine ⟨fun p hp => ?_, by omega⟩
  obtain ⟨k, v, e, a, b, c⟩ := x.ks p hp
  exact ⟨k, v, e, a, b, by omega, by omega⟩
theorem has_of {kvs : List (Key × SV)} {k : Int} {v : SV} (e : getS kvs (.inl k) = some v) : has kvs k = true := by unfold has; rw [e]; rfl
theorem VB.put {kvs : List (Key × SV)} {n k v c : Int} (x : VB kvs n) (n4 : n ≤ 4) (h0 : 0 ≤ k) (h1 : k < n) (no : has kvs k = false) (hv : v.natAbs ≤ 4 * (kvs.length - 1)) (hl : 1 ≤ kvs.length) (c0 : -4 ≤ c) (c1 : c ≤ 4) : VB (putS kvs (.inl k) (.int (v + c))) n := by
  have g : getS kvs (.inl k) = none := by
    unfold has at no
    cases e : getS kvs (.inl k) with
    | none => rfl
    | some x => rw [e] at no; cases no
  have ml := miss_put (v := .int (v + c)) h0 (by omega) no
  have ll : (putS kvs (.inl k) (.int (v + c))).length = kvs.length + 1 := by rw [put_new g]; simp
  have l := x.len
  refine ⟨fun p hp => ?_, by omega⟩
  rw [ll]
  rw [put_new g] at hp
  rcases List.mem_append.mp hp with hp | hp
  · obtain ⟨k', v', e, a, b, d⟩ := x.ks p hp
    exact ⟨k', v', e, a, b, by omega⟩
  · rw [List.mem_singleton.mp hp]
    exact ⟨k, v + c, rfl, h0, h1, by omega⟩
theorem VB.get {kvs : List (Key × SV)} {n k : Int} (x : VB kvs n) (h : has kvs k = true) : ∃ v : Int, getS kvs (.inl k) = some (.int v) ∧ v.natAbs ≤ 4 * (kvs.length - 1) ∧ 1 ≤ kvs.length := by
  unfold has at h
  obtain ⟨y, e⟩ := Option.isSome_iff_exists.mp h
  obtain ⟨k', v, e2, _, _, a⟩ := x.ks _ (getS_mem e)
  cases e2
  exact ⟨v, e, a, by have := List.length_pos_of_mem (getS_mem e); omega⟩
theorem dict1_eq {ss : SS} {h : SH} {i : Int} (e : ss[1]? = some (some (.int i))) : mDict (dCons (mVar 1) (mC (.int 0)) dNil) ss h = .ok (.ref h.length) (h ++ [.dK [(.inl i, .int 0)]]) := by
  have e1 : mVar 1 ss (h ++ [.dK []]) = .ok (.int i) (h ++ [.dK []]) := by unfold mVar; rw [e]
  have e2 : keysP [(SV.int i, SV.int 0)] = some [(.inl i, .int 0)] := rfl
  have e3 : (h ++ [SO.dK []]).set h.length (SO.dK (mergeS [] [(.inl i, .int 0)])) = h ++ [SO.dK [(.inl i, .int 0)]] := by
    rw [List.set_append_right _ _ (Nat.le_refl _)]
    simp [mergeS, putS]
  unfold mDict dCons dNil
  simp only [e1, Res.bind, mC, e2]
  rw [if_pos ⟨(by simp : (1 : Nat) ≤ 15), new_at _ _⟩, e3]
structure Wst (A d w : Nat) (st n : Int) (ms : List Mv) (h : SH) (kvs : List (Key × SV)) (ws : List Int) (s : SS) (hh : SH) : Prop where
  len : s.length = 9
  s0 : s[0]? = some (some (.ref A))
  s2 : s[2]? = some (some (.ref d))
  s3 : s[3]? = some (some (.ref w))
  le : Le h hh
  hd : hh[d]? = some (.dK kvs)
  hw : hh[w]? = some (.lst (ws.map SV.int))
  vb : VB kvs n
  wk : ∀ k ∈ ws, has kvs k = true
  hst : has kvs st = true
theorem isEmpty_map {ws : List Int} : (ws.map SV.int).isEmpty = ws.isEmpty := by cases ws <;> rfl
theorem changes_is {h : SH} {A : Nat} {ms : List Mv} {n st : Int} (M : Mvs h A ms n) (s0 : 0 ≤ st) (s1 : st < n) {P : SV → SH → Prop} (p : ∀ h' d kvs, Le h h' → h.length ≤ d → h'[d]? = some (.dK kvs) → Chg kvs n → has kvs st = true → (∀ k, has kvs k = true → cl ms kvs k) → P (.ref d) h') : Is (mFn 2 9 changesM [.ref A, .int st] h) P := by
  refine Is.fn rfl ?_
  unfold changesM
  have few := M.few
  have n4 := M.n4
  refine Ist.seq (Ist.set ?_)
  rw [dict1_eq (i := st) rfl]
  refine ok_is ?_
  have n1 := new_at h (.dK [(.inl st, .int 0)])
  have l1 := Le.push h (.dK [(.inl st, .int 0)])
  have hl1 : (h ++ [SO.dK [(.inl st, .int 0)]]).length = h.length + 1 := by simp
  generalize h ++ [SO.dK [(.inl st, .int 0)]] = h1 at n1 l1 hl1 ⊢
  refine Ist.seq (Ist.set (Is.oa (Is.acons (Is.var (v := .int st) rfl (Is.anil (lst_is (small_big (by simp)) ?_))))))
  have n2 := new_at h1 (.lst [.int st])
  have n12 := Le.push h1 (.lst [.int st]) _ _ n1
  have l2 := l1.trans (Le.push h1 (.lst [.int st]))
  generalize h1 ++ [SO.lst [.int st]] = h2 at n2 n12 l2 ⊢
  rw [hl1] at n2 ⊢
  have vb0 : VB [(.inl st, .int 0)] n := by
    refine ⟨fun p hp => ?_, ?_⟩
    · rw [List.mem_singleton.mp hp]
      exact ⟨st, 0, rfl, s0, s1, by simp⟩
    · have q : st = 0 ∨ st = 1 ∨ st = 2 ∨ st = 3 := by omega
      rcases q with rfl | rfl | rfl | rfl <;> decide
  have hs0 : has [(.inl st, .int 0)] st = true := by unfold has; rw [getS_cons, if_pos rfl]; rfl
  have st0 : Wst A h.length (h.length + 1) st n ms h [(.inl st, .int 0)] [st] ((([SV.ref A, SV.int st].map some ++ List.replicate (9 - [SV.ref A, SV.int st].length) none).set 2 (some (.ref h.length))).set 3 (some (.ref (h.length + 1)))) h2 :=
    ⟨rfl, rfl, rfl, rfl, l2, n12, n2, vb0, fun k hk => by rw [List.mem_singleton.mp hk]; exact hs0, hs0⟩
  have only : ∀ k, has [(.inl st, .int 0)] k = true → k = st := fun k hk => by
    unfold has at hk
    rw [getS_cons] at hk
    by_cases e : (Sum.inl st : Key) = .inl k
    · injection e with e; exact e.symm
    · rw [if_neg e] at hk; cases hk
  generalize ((([SV.ref A, SV.int st].map some ++ List.replicate (9 - [SV.ref A, SV.int st].length) none).set 2 (some (.ref h.length))).set 3 (some (.ref (h.length + 1)))) = sA at st0 ⊢
  refine Ist.seq (Ist.while (fun m s hh => ∃ kvs ws, Wst A h.length (h.length + 1) st n ms h kvs ws s hh ∧ (∀ k, has kvs k = true → k ∈ ws ∨ cl ms kvs k) ∧ m = 2 * miss kvs + ws.length ∧ m ≤ 10) (2 * miss [(.inl st, .int 0)] + 1) (by have := vb0.len; unfold many; omega) ⟨_, [st], st0, fun k hk => .inl (by rw [only k hk]; exact List.mem_cons_self), rfl, by have := vb0.len; simp at this; omega⟩ ?_)
  rintro m s hh ⟨kvs, ws, x, cls, rfl, m10⟩
  refine Is.tru (Is.var x.s3 ?_)
  have tr : opTru (.ref (h.length + 1)) hh = .ok (!(ws.map SV.int).isEmpty) hh := by unfold opTru; simp only [x.hw]
  rw [tr, isEmpty_map]
  refine ok_is ?_
  by_cases we : ws = []
  · subst we
    rw [if_neg (by decide)]
    exact Ist.ret (Is.var x.s2 (p hh _ kvs x.le (Nat.le_refl _) x.hd x.vb.chg x.hst fun k hk => (cls k hk).elim (fun z => nomatch z) id))
  · rw [if_pos (by cases ws with | nil => exact absurd rfl we | cons a b => rfl)]
    obtain ⟨ws', at_, rfl⟩ : ∃ ws' a, ws = ws' ++ [a] := ⟨ws.dropLast, ws.getLast we, (List.dropLast_concat_getLast we).symm⟩
    obtain ⟨len, q0, q2, q3, le, hd, hw, vb, wk, hst⟩ := x
    have dw : h.length ≠ h.length + 1 := by omega
    rw [List.length_append] at m10
    refine Ist.seq (Ist.set (Is.bmL (Is.var q3 ⟨lstB hw, Is.anil ⟨.int at_, hh.set (h.length + 1) (.lst (ws'.map SV.int)), ?_, ?_⟩⟩)))
    · unfold opPop
      simp only [hw]
      have e1 : ((ws' ++ [at_]).map SV.int)[((ws' ++ [at_]).map SV.int).length - 1]? = some (.int at_) := by simp
      simp only [e1]
      congr 3
      simp
    have le1 : Le h (hh.set (h.length + 1) (.lst (ws'.map SV.int))) := le_set le (by omega)
    have hd1 : (hh.set (h.length + 1) (SO.lst (ws'.map SV.int)))[h.length]? = some (.dK kvs) := by rw [set_ne (by omega)]; exact hd
    have hw1 : (hh.set (h.length + 1) (SO.lst (ws'.map SV.int)))[h.length + 1]? = some (.lst (ws'.map SV.int)) := set_at hw
    generalize hh.set (h.length + 1) (SO.lst (ws'.map SV.int)) = h3 at le1 hd1 hw1 ⊢
    have x1 : Wst A h.length (h.length + 1) st n ms h kvs ws' (s.set 4 (some (.int at_))) h3 := ⟨by simp [len], gs q0 (by decide), gs q2 (by decide), gs q3 (by decide), le1, hd1, hw1, vb, fun k hk => wk k (List.mem_append_left _ hk), hst⟩
    have t4 := gx (i := 4) (x := some (SV.int at_)) len (by decide)
    have hat : has kvs at_ = true := wk at_ (List.mem_append_right _ List.mem_cons_self)
    generalize s.set 4 (some (.int at_)) = s' at x1 t4 ⊢
    obtain ⟨⟨ts, eA, hts, z⟩, _, _⟩ := M.le le1
    refine Ist.for (Is.walkL (Is.var x1.s0 ⟨A, _, rfl, eA, ts.length, fun q s hh => ∃ kvs' ws2, Wst A h.length (h.length + 1) st n ms h kvs' ws2 s hh ∧ s[4]? = some (some (.int at_)) ∧ has kvs' at_ = true ∧ (∀ k, has kvs' k = true → k ∈ ws2 ∨ k = at_ ∨ cl ms kvs' k) ∧
      (∀ q', q' < q → ∀ p l c o, ms[q']? = some (p, l, c, o) → p = at_ → has kvs' o = true) ∧ 2 * miss kvs' + ws2.length ≤ 2 * miss kvs + ws'.length, by unfold many; omega, ⟨kvs, ws', x1, t4, hat, fun k hk => ?_, fun q' hq => by omega, Nat.le_refl _⟩, ?_, ?_⟩))
    · rcases cls k hk with c | c
      · rcases List.mem_append.mp c with c | c
        · exact .inl c
        · exact .inr (.inl (List.mem_singleton.mp c))
      · exact .inr (.inr c)
    · rintro q s hh hq ⟨kvs', ws2, x, u4, hat', cls', pr, me⟩
      obtain ⟨⟨ts', eA', hts', z'⟩, _, _⟩ := M.le x.le
      have eq : ts'[q]? = some ts'[q] := List.getElem?_eq_getElem (by omega)
      obtain ⟨pp, l, c, o, em, et, p0, p1, o0, o1, c0, c1⟩ := z' q _ eq
      obtain ⟨len, q0, q2, q3, le, hd, hw, vb, wk, hst⟩ := x
      refine ⟨_, _, _, wkL_at eA' (by rw [List.getElem?_map, eq]; rfl), g4_is et, ?_⟩
      have v0 := gs (gs (gs (gs q0 (show 5 ≠ 0 by decide) (x := some (SV.int pp))) (show 6 ≠ 0 by decide) (x := some (SV.int l))) (show 7 ≠ 0 by decide) (x := some (SV.int c))) (show 8 ≠ 0 by decide) (x := some (SV.int o))
      have v2 := gs (gs (gs (gs q2 (show 5 ≠ 2 by decide) (x := some (SV.int pp))) (show 6 ≠ 2 by decide) (x := some (SV.int l))) (show 7 ≠ 2 by decide) (x := some (SV.int c))) (show 8 ≠ 2 by decide) (x := some (SV.int o))
      have v3 := gs (gs (gs (gs q3 (show 5 ≠ 3 by decide) (x := some (SV.int pp))) (show 6 ≠ 3 by decide) (x := some (SV.int l))) (show 7 ≠ 3 by decide) (x := some (SV.int c))) (show 8 ≠ 3 by decide) (x := some (SV.int o))
      have v4 := gs (gs (gs (gs u4 (show 5 ≠ 4 by decide) (x := some (SV.int pp))) (show 6 ≠ 4 by decide) (x := some (SV.int l))) (show 7 ≠ 4 by decide) (x := some (SV.int c))) (show 8 ≠ 4 by decide) (x := some (SV.int o))
      have v5 : ((((s.set 5 (some (SV.int pp))).set 6 (some (SV.int l))).set 7 (some (SV.int c))).set 8 (some (SV.int o)))[5]? = some (some (.int pp)) := gs (gs (gs (gx len (by decide)) (by decide)) (by decide)) (by decide)
      have v7 : ((((s.set 5 (some (SV.int pp))).set 6 (some (SV.int l))).set 7 (some (SV.int c))).set 8 (some (SV.int o)))[7]? = some (some (.int c)) := gs (gx (n := 9) (by simp [len]) (by decide)) (by decide)
      have v8 : ((((s.set 5 (some (SV.int pp))).set 6 (some (SV.int l))).set 7 (some (SV.int c))).set 8 (some (SV.int o)))[8]? = some (some (.int o)) := gx (n := 9) (by simp [len]) (by decide)
      have vl : ((((s.set 5 (some (SV.int pp))).set 6 (some (SV.int l))).set 7 (some (SV.int c))).set 8 (some (SV.int o))).length = 9 := by simp [len]
      generalize ((((s.set 5 (some (SV.int pp))).set 6 (some (SV.int l))).set 7 (some (SV.int c))).set 8 (some (SV.int o))) = sT at v0 v2 v3 v4 v5 v7 v8 vl ⊢
      have keepit : (pp = at_ → has kvs' o = true) → ∃ kvs2 ws3, Wst A h.length (h.length + 1) st n ms h kvs2 ws3 sT hh ∧ sT[4]? = some (some (.int at_)) ∧ has kvs2 at_ = true ∧ (∀ k, has kvs2 k = true → k ∈ ws3 ∨ k = at_ ∨ cl ms kvs2 k) ∧
          (∀ q', q' < q + 1 → ∀ p l c o, ms[q']? = some (p, l, c, o) → p = at_ → has kvs2 o = true) ∧ 2 * miss kvs2 + ws3.length ≤ 2 * miss kvs + ws'.length := fun ho =>
        ⟨kvs', ws2, ⟨vl, v0, v2, v3, le, hd, hw, vb, wk, hst⟩, v4, hat', cls', fun q' hq' p' l' c' o' em' ep => by
          by_cases hqq : q' = q
          · subst hqq
            rw [em] at em'; cases em'
            exact ho ep
          · exact pr q' (by omega) p' l' c' o' em' ep, me⟩
      refine Ist.ite (Is.band (Is.bm (Is.o2 (Is.var v5 (Is.var v4 (eqI ⟨_, rfl, ?_⟩))))))
      by_cases hp : pp = at_
      · rw [if_pos (decide_eq_true hp)]
        refine Is.bm (Is.o2 (Is.var v8 (Is.var v2 (inD (neg := true) hd rfl ⟨_, rfl, ?_⟩))))
        by_cases ho : has kvs' o = true
        · rw [if_neg (by unfold has at ho; simp [ho])]
          exact Ist.nil (keepit fun _ => ho)
        · have ho' : has kvs' o = false := by simpa using ho
          rw [if_pos (by unfold has at ho'; simp [ho'])]
          obtain ⟨v, gv, hv, hl1⟩ := vb.get hat'
          have nl : kvs'.length ≤ 4 := by have := vb.len; omega
          refine Ist.seq (Ist.st (Is.o2 (Is.o2 (Is.var v2 (Is.var v4 (ixD hd rfl gv (Is.var v7 ⟨_, _, rfl, Is.var v2 (Is.var v8 (stD hd rfl (small_lt (by omega)) ?_))⟩)))))))
          have hd2 : (hh.set h.length (.dK (putS kvs' (.inl o) (.int (v + c)))))[h.length]? = some (.dK (putS kvs' (.inl o) (.int (v + c)))) := set_at hd
          have hw2 : (hh.set h.length (.dK (putS kvs' (.inl o) (.int (v + c)))))[h.length + 1]? = some (.lst (ws2.map SV.int)) := by rw [set_ne (by omega)]; exact hw
          have le2 : Le h (hh.set h.length (.dK (putS kvs' (.inl o) (.int (v + c))))) := le_set le (Nat.le_refl _)
          generalize hh.set h.length (SO.dK (putS kvs' (.inl o) (.int (v + c)))) = h4 at hd2 hw2 le2 ⊢
          have nwl : ws2.length ≤ 100 := by omega
          refine Ist.drop (Is.bmL (Is.var v3 ⟨lstB hw2, Is.acons (Is.var v8 (Is.anil (app_is hw2 (small_lt (by simp; omega)) ?_)))⟩))
          have mono : ∀ k, has kvs' k = true → has (putS kvs' (.inl o) (.int (v + c))) k = true := fun k hk => by rw [has_put, hk]; simp
          have mp := miss_put (kvs := kvs') (v := .int (v + c)) o0 (by omega) ho'
          refine ⟨putS kvs' (.inl o) (.int (v + c)), ws2 ++ [o], ⟨vl, v0, v2, v3, le_set le2 (by omega), by rw [set_ne (by omega)]; exact hd2, by rw [set_at hw2, List.map_append]; rfl, vb.put n4 o0 o1 ho' hv hl1 c0 c1, fun k hk => ?_, mono _ hst⟩, v4, mono _ hat', fun k hk => ?_, fun q' hq' p' l' c' o' em' ep => ?_, by simp; omega⟩
          · rcases List.mem_append.mp hk with hk | hk
            · exact mono k (wk k hk)
            · rw [List.mem_singleton.mp hk, has_put]; simp
          · rw [has_put, Bool.or_eq_true] at hk
            rcases hk with hk | hk
            · exact .inl (List.mem_append_right _ (by rw [← of_decide_eq_true hk]; exact List.mem_cons_self))
            · rcases cls' k hk with y | y | y
              · exact .inl (List.mem_append_left _ y)
              · exact .inr (.inl y)
              · exact .inr (.inr fun p' l' c' o' hm ep => mono _ (y p' l' c' o' hm ep))
          · by_cases hqq : q' = q
            · subst hqq
              rw [em] at em'; cases em'
              rw [has_put]; simp
            · exact mono _ (pr q' (by omega) p' l' c' o' em' ep)
      · rw [if_neg (by simpa using hp), if_neg Bool.false_ne_true]
        exact Ist.nil (keepit fun z => absurd z hp)
    · rintro s hh ⟨kvs', ws2, x, u4, hat', cls', pr, me⟩
      obtain ⟨⟨ts', eA', hts', z'⟩, _, _⟩ := M.le x.le
      have w := wkL_end eA'
      rw [List.length_map, hts', ← hts] at w
      refine ⟨w, 2 * miss kvs' + ws2.length, by simp; omega, kvs', ws2, x, fun k hk => ?_, rfl, by omega⟩
      rcases cls' k hk with y | y | y
      · exact .inl y
      · refine .inr fun p' l' c' o' hm ep => ?_
        obtain ⟨q, hq, eq⟩ := List.getElem_of_mem hm
        exact pr q (by omega) p' l' c' o' (by rw [List.getElem?_eq_getElem hq, eq]) (by rw [ep, y])
      · exact .inr y
end Fw
namespace Fw
open PySem PySem.Spec L2
def stepM : SM := (mSeq (mSet 2 (mCall (mFn 2 9 changesM) (aCons (mVar 0) (aCons (mVar 1) aNil)))) (mSeq (mSet 3 (mC (.int 0))) (mSeq (mFor (mWalk (mVar 0)) (gTupM 4 (gsCons (gVar 4) (gsCons (gVar 5) (gsCons (gVar 6) (gsCons (gVar 7) gsNil))))) (mIfS (bAnd (mB (mO2 (opIn false) (mVar 4) (mVar 2))) (mB (mO2 (opIn false) (mVar 1) (mCall (mFn 2 9 changesM) (aCons (mVar 0) (aCons (mVar 7) aNil)))))) (mSet 3 (mOA (bin2 opGcd) (aCons (mVar 3) (aCons (mO2 opSub (mO2 opAdd (mO2 opIx (mVar 2) (mVar 4)) (mVar 6)) (mO2 opIx (mVar 2) (mVar 7))) aNil)))) mNil)) (mRet (mVar 3)))))
def commonM : SM := (mSeq (mSet 2 (mC (.int 1))) (mSeq (mFor (mRng1 (aCons (mVar 1) aNil)) (gVar 3) (mSeq (mSet 4 (mCall (mFn 2 8 stepM) (aCons (mVar 0) (aCons (mVar 3) aNil)))) (mIfS (mB (mO2 opGt (mVar 4) (mC (.int 0)))) (mSet 2 (mOA (bin2 opLcm) (aCons (mVar 2) (aCons (mVar 4) aNil)))) mNil))) (mRet (mVar 2))))
theorem gcd_le {a b B : Nat} (ha : a ≤ B) (hb : b ≤ B) : Nat.gcd a b ≤ B := by
  by_cases h : a = 0
  · subst h; rw [Nat.gcd_zero_left]; exact hb
  · exact Nat.le_trans (Nat.gcd_le_left b (Nat.pos_of_ne_zero h)) ha
theorem step_is {h : SH} {A : Nat} {ms : List Mv} {n st : Int} (M : Mvs h A ms n) (s0 : 0 ≤ st) (s1 : st < n) {P : SV → SH → Prop} (p : ∀ (s : Int) h', 0 ≤ s → s ≤ 40 → Le h h' → P (.int s) h') : Is (mFn 2 8 stepM [.ref A, .int st] h) P := by
  refine Is.fn rfl ?_
  unfold stepM
  have few := M.few
  refine Ist.seq (Ist.set (Is.call (Is.acons (Is.var (v := .ref A) rfl (Is.acons (Is.var (v := .int st) rfl (Is.anil (changes_is M s0 s1 fun h1 d kvs le1 _ hd ch hst cls => ?_))))))))
  refine Ist.seq (Ist.set (Is.c ?_))
  obtain ⟨⟨ts, eA, hts, z⟩, _, _⟩ := M.le le1
  refine Ist.seq (Ist.for (Is.walkL (Is.var (v := .ref A) rfl ⟨A, _, rfl, eA, ts.length, fun q s hh => s.length = 8 ∧ s[0]? = some (some (.ref A)) ∧ s[1]? = some (some (.int st)) ∧ s[2]? = some (some (.ref d)) ∧ Le h1 hh ∧ ∃ g : Int, s[3]? = some (some (.int g)) ∧ 0 ≤ g ∧ g ≤ 40, by unfold many; omega, ⟨rfl, rfl, rfl, rfl, Le.refl _, 0, rfl, by decide, by decide⟩, ?_, ?_⟩)))
  · rintro q s hh hq ⟨len, q0, q1, q2, le, g, q3, g0, g1⟩
    obtain ⟨⟨ts', eA', hts', z'⟩, _, _⟩ := M.le (le1.trans le)
    have eq : ts'[q]? = some ts'[q] := List.getElem?_eq_getElem (by omega)
    obtain ⟨pp, l, c, o, em, et, p0, p1, o0, o1, c0, c1⟩ := z' q _ eq
    refine ⟨_, _, _, wkL_at eA' (by rw [List.getElem?_map, eq]; rfl), g4_is et, ?_⟩
    have v0 := gs (gs (gs (gs q0 (show 4 ≠ 0 by decide) (x := some (SV.int pp))) (show 5 ≠ 0 by decide) (x := some (SV.int l))) (show 6 ≠ 0 by decide) (x := some (SV.int c))) (show 7 ≠ 0 by decide) (x := some (SV.int o))
    have v1 := gs (gs (gs (gs q1 (show 4 ≠ 1 by decide) (x := some (SV.int pp))) (show 5 ≠ 1 by decide) (x := some (SV.int l))) (show 6 ≠ 1 by decide) (x := some (SV.int c))) (show 7 ≠ 1 by decide) (x := some (SV.int o))
    have v2 := gs (gs (gs (gs q2 (show 4 ≠ 2 by decide) (x := some (SV.int pp))) (show 5 ≠ 2 by decide) (x := some (SV.int l))) (show 6 ≠ 2 by decide) (x := some (SV.int c))) (show 7 ≠ 2 by decide) (x := some (SV.int o))
    have v3 := gs (gs (gs (gs q3 (show 4 ≠ 3 by decide) (x := some (SV.int pp))) (show 5 ≠ 3 by decide) (x := some (SV.int l))) (show 6 ≠ 3 by decide) (x := some (SV.int c))) (show 7 ≠ 3 by decide) (x := some (SV.int o))
    have v4 : ((((s.set 4 (some (SV.int pp))).set 5 (some (SV.int l))).set 6 (some (SV.int c))).set 7 (some (SV.int o)))[4]? = some (some (.int pp)) := gs (gs (gs (gx len (by decide)) (by decide)) (by decide)) (by decide)
    have v6 : ((((s.set 4 (some (SV.int pp))).set 5 (some (SV.int l))).set 6 (some (SV.int c))).set 7 (some (SV.int o)))[6]? = some (some (.int c)) := gs (gx (n := 8) (by simp [len]) (by decide)) (by decide)
    have v7 : ((((s.set 4 (some (SV.int pp))).set 5 (some (SV.int l))).set 6 (some (SV.int c))).set 7 (some (SV.int o)))[7]? = some (some (.int o)) := gx (n := 8) (by simp [len]) (by decide)
    have vl : ((((s.set 4 (some (SV.int pp))).set 5 (some (SV.int l))).set 6 (some (SV.int c))).set 7 (some (SV.int o))).length = 8 := by simp [len]
    generalize ((((s.set 4 (some (SV.int pp))).set 5 (some (SV.int l))).set 6 (some (SV.int c))).set 7 (some (SV.int o))) = sT at v0 v1 v2 v3 v4 v6 v7 vl ⊢
    refine Ist.ite (Is.band (Is.bm (Is.o2 (Is.var v4 (Is.var v2 (inD (neg := false) (le _ _ hd) rfl ⟨_, rfl, ?_⟩))))))
    by_cases hp : has kvs pp = true
    · rw [if_pos (by unfold has at hp; simpa using hp)]
      refine Is.bm (Is.o2 (Is.var v1 (Is.call (Is.acons (Is.var v0 (Is.acons (Is.var v7 (Is.anil (changes_is (M.le (le1.trans le)) o0 o1 fun h2 d2 kv2 le2 _ hd2 ch2 hst2 _ => ?_)))))))))
      refine inD (neg := false) hd2 rfl ⟨_, rfl, ?_⟩
      have le3 := le.trans le2
      by_cases hs : has kv2 st = true
      · rw [if_pos (by unfold has at hs; simpa using hs)]
        have ho : has kvs o = true := cls pp hp pp l c o (List.mem_of_getElem? em) rfl
        obtain ⟨x1, gx1, a1, a2⟩ := ch.get hp
        obtain ⟨x2, gx2, b1, b2⟩ := ch.get ho
        refine Ist.set (Is.oa (Is.acons (Is.var v3 (Is.acons (Is.o2 (Is.o2 (Is.o2 (Is.var v2 (Is.var v4 (ixD (le3 _ _ hd) rfl gx1 (Is.var v6 ⟨_, _, rfl, Is.o2 (Is.var v2 (Is.var v7 (ixD (le3 _ _ hd) rfl gx2 ⟨_, _, rfl, Is.anil ⟨_, _, rfl, ?_⟩⟩)))⟩)))))))))))
        refine ⟨by simp [vl], gs v0 (by decide), gs v1 (by decide), gs v2 (by decide), le3, _, gx vl (by decide), Int.natCast_nonneg _, ?_⟩
        have := gcd_le (a := g.natAbs) (b := (x1 + c - x2).natAbs) (B := 40) (by omega) (by omega)
        exact_mod_cast this
      · rw [if_neg (by unfold has at hs; simpa using hs)]
        exact Ist.nil ⟨vl, v0, v1, v2, le3, g, v3, g0, g1⟩
    · rw [if_neg (by unfold has at hp; simpa using hp), if_neg Bool.false_ne_true]
      exact Ist.nil ⟨vl, v0, v1, v2, le, g, v3, g0, g1⟩
  · rintro s hh ⟨len, q0, q1, q2, le, g, q3, g0, g1⟩
    obtain ⟨⟨ts', eA', hts', z'⟩, _, _⟩ := M.le (le1.trans le)
    have w := wkL_end eA'
    rw [List.length_map, hts', ← hts] at w
    exact ⟨w, Ist.ret (Is.var q3 (p g hh g0 g1 (le1.trans le)))⟩
theorem common_is {h : SH} {A : Nat} {ms : List Mv} {n : Int} (M : Mvs h A ms n) (n0 : 0 ≤ n) {P : SV → SH → Prop} (p : ∀ (s : Int) h', 1 ≤ s → s ≤ 2560000 → Le h h' → P (.int s) h') : Is (mFn 2 5 commonM [.ref A, .int n] h) P := by
  refine Is.fn rfl ?_
  unfold commonM
  have n4 := M.n4
  refine Ist.seq (Ist.set (Is.c ?_))
  refine Ist.seq (Ist.for (Is.rng1 (Is.acons (Is.var (v := .int n) rfl (Is.anil ⟨n, rfl, decide_eq_true (by omega), n.toNat, fun k s hh => s.length = 5 ∧ s[0]? = some (some (.ref A)) ∧ Le h hh ∧ ∃ c : Nat, s[2]? = some (some (.int c)) ∧ 1 ≤ c ∧ c ≤ 40 ^ k, by unfold many; omega, ⟨rfl, rfl, Le.refl _, 1, rfl, by decide, by decide⟩, ?_, ?_⟩)))))
  · rintro k s hh hk ⟨len, q0, le, c, q2, c1, c2⟩
    refine ⟨_, _, _, wkRng_at hk, rfl, ?_⟩
    have v0 := gs q0 (show 3 ≠ 0 by decide) (x := some (SV.int (0 + (k : Int))))
    have v2 := gs q2 (show 3 ≠ 2 by decide) (x := some (SV.int (0 + (k : Int))))
    have v3 := gx (i := 3) (x := some (SV.int (0 + (k : Int)))) len (by decide)
    have vl : (s.set 3 (some (SV.int (0 + (k : Int))))).length = 5 := by simp [len]
    generalize s.set 3 (some (SV.int (0 + (k : Int)))) = sT at v0 v2 v3 vl ⊢
    refine Ist.seq (Ist.set (Is.call (Is.acons (Is.var v0 (Is.acons (Is.var v3 (Is.anil (step_is (M.le le) (by omega) (by omega) fun s h2 s0 s1 le2 => ?_))))))))
    have w2 := gs v2 (show 4 ≠ 2 by decide) (x := some (SV.int s))
    have w0 := gs v0 (show 4 ≠ 0 by decide) (x := some (SV.int s))
    have w4 := gx (i := 4) (x := some (SV.int s)) vl (by decide)
    have wl : (sT.set 4 (some (SV.int s))).length = 5 := by simp [vl]
    generalize sT.set 4 (some (SV.int s)) = sU at w0 w2 w4 wl ⊢
    have k4 : k < 4 := by omega
    have pw : (40 : Nat) ^ k * 40 = 40 ^ (k + 1) := (Nat.pow_succ ..).symm
    have p4 : (40 : Nat) ^ k ≤ 64000 := by
      have q : k = 0 ∨ k = 1 ∨ k = 2 ∨ k = 3 := by omega
      rcases q with rfl | rfl | rfl | rfl <;> decide
    refine Ist.ite (Is.bm (Is.o2 (Is.var w4 (Is.c ⟨_, _, rfl, _, rfl, ?_⟩))))
    by_cases hs : 0 < s
    · rw [if_pos (decide_eq_true hs)]
      refine Ist.set (Is.oa (Is.acons (Is.var w2 (Is.acons (Is.var w4 (Is.anil ⟨.int ((Nat.lcm (c : Int).natAbs s.natAbs : Nat) : Int), h2, ?_, ?_⟩))))))
      · show opLcm (.int c) (.int s) h2 = _
        unfold opLcm
        exact if_pos ⟨by simp; omega, by omega⟩
      · refine ⟨by simp [wl], gs w0 (by decide), le.trans le2, _, gx wl (by decide), ?_, ?_⟩
        · exact Nat.pos_of_ne_zero (Nat.lcm_ne_zero (by simp; omega) (by omega))
        · have h1 : Nat.lcm (c : Int).natAbs s.natAbs ≤ c * s.natAbs := by unfold Nat.lcm; exact Nat.div_le_self _ _
          have h2 : c * s.natAbs ≤ 40 ^ k * 40 := Nat.mul_le_mul c2 (by omega)
          omega
    · rw [if_neg (by simpa using hs)]
      refine Ist.nil ⟨wl, w0, le.trans le2, c, w2, c1, ?_⟩
      have : (40 : Nat) ^ k ≤ 40 ^ k * 40 := Nat.le_mul_of_pos_right _ (by decide)
      omega
  · rintro s hh ⟨len, q0, le, c, q2, c1, c2⟩
    refine ⟨wkRng_end, Ist.ret (Is.var q2 (p c hh (by omega) ?_ le))⟩
    have : (40 : Nat) ^ n.toNat ≤ 2560000 := by
      have q : n.toNat = 0 ∨ n.toNat = 1 ∨ n.toNat = 2 ∨ n.toNat = 3 ∨ n.toNat = 4 := by omega
      rcases q with q | q | q | q | q <;> rw [q] <;> decide
    omega
end Fw
namespace Fw
open PySem PySem.Spec L2
/-- a dict comprehension -/
theorem Is.dcM {ss : SS} {P : SV → SH → Prop} {g : GM} {wk : Wk} {t : BM} {ek ev : EM} {is : List Nat} {D : Nat} {I : Nat → List (Key × SV) → SH → Prop} {len : Nat}
    (hn : ∀ k acc h, k < len → h[D]? = some (.dK acc) → I k acc h → ∃ x h1 s1, wk h k = some (some (x, h1)) ∧ g x (wipeS ss is) h1 = some s1 ∧ Is (t s1 h1) fun b h2 =>
      if b = true then Is (ek s1 h2) fun y h3 => Is (ev s1 h3) fun z h4 => ∃ kk, Fw.keyOf y = some kk ∧ h4[D]? = some (.dK acc) ∧ acc.length < big ∧ I (k + 1) (putS acc kk z) (h4.set D (.dK (putS acc kk z))) else h2[D]? = some (.dK acc) ∧ I (k + 1) acc h2)
    (he : ∀ acc h, h[D]? = some (.dK acc) → I len acc h → wk h len = some none ∧ P (.ref D) h) :
    ∀ (n i : Nat) (acc : List (Key × SV)) (h : SH), i ≤ len → len - i < n → h[D]? = some (.dK acc) → I i acc h → Is (Fw.dcM g wk t ek ev is D ss n i h) P
  | 0, _, _, _, _, hl, _, _ => absurd hl (by omega)
  | n + 1, i, acc, h, hi, hl, hd, inv => by
    unfold Fw.dcM
    by_cases q : i = len
    · subst q
      obtain ⟨e1, e2⟩ := he acc h hd inv
      rw [e1]; exact e2
    · obtain ⟨x, h1, s1, e1, e2, e3⟩ := hn i acc h (by omega) hd inv
      rw [e1]
      simp only [e2]
      obtain ⟨b, h2, e4, e5⟩ := e3.out
      rw [e4]
      cases b with
      | false =>
        simp only [Bool.false_eq_true, if_false] at e5 ⊢
        exact Is.dcM hn he n (i + 1) acc h2 (by omega) (by omega) e5.1 e5.2
      | true =>
        simp only [if_true] at e5 ⊢
        obtain ⟨y, h3, e6, e7⟩ := e5.out
        rw [e6]
        obtain ⟨z, h4, e8, kk, e9, e10, e11, e12⟩ := e7.out
        simp only [e8, e10, e9, if_pos e11]
        exact Is.dcM hn he n (i + 1) (putS acc kk z) (h4.set D (.dK (putS acc kk z))) (by omega) (by omega) (set_at e10) e12
theorem Is.dc {ss : SS} {h : SH} {P : SV → SH → Prop} {m : IM} {g : GM} {t : BM} {ek ev : EM} {is : List Nat} (x : Is (m ss h) fun wk h0 => ∃ (len : Nat) (I : Nat → List (Key × SV) → SH → Prop), len < many ∧ I 0 [] (h0 ++ [.dK []]) ∧
      (∀ k acc h, k < len → h[h0.length]? = some (.dK acc) → I k acc h → ∃ x h1 s1, wk h k = some (some (x, h1)) ∧ g x (wipeS ss is) h1 = some s1 ∧ Is (t s1 h1) fun b h2 =>
        if b = true then Is (ek s1 h2) fun y h3 => Is (ev s1 h3) fun z h4 => ∃ kk, Fw.keyOf y = some kk ∧ h4[h0.length]? = some (.dK acc) ∧ acc.length < big ∧ I (k + 1) (putS acc kk z) (h4.set h0.length (.dK (putS acc kk z))) else h2[h0.length]? = some (.dK acc) ∧ I (k + 1) acc h2) ∧
      (∀ acc h, h[h0.length]? = some (.dK acc) → I len acc h → wk h len = some none ∧ P (.ref h0.length) h)) : Is (mDc m g t ek ev is ss h) P := by
  unfold mDc
  obtain ⟨wk, h0, e, len, I, hl, i0, hn, he⟩ := x.out
  rw [e]
  exact Is.dcM hn he many 0 [] (h0 ++ [.dK []]) (Nat.zero_le _) (by omega) (new_at _ _) i0
theorem Is.chain {ss : SS} {h : SH} {P : SV → SH → Prop} {o1 o2 : O2} {ma mb mc : EM} (x : Is (ma ss h) fun a h1 => Is (mb ss h1) fun b h2 => ∃ z h3, o1 a b h2 = some (z, h3) ∧ ((z = .bl true ∧ Is (mc ss h3) fun c h4 => ∃ w h5, o2 b c h4 = some (w, h5) ∧ P w h5) ∨ (z = .bl false ∧ P (.bl false) h3))) : Is (mChain o1 o2 ma mb mc ss h) P :=
  Is.bind (x.mono fun a h1 y => Is.bind (y.mono fun b h2 ⟨z, h3, e, q⟩ => by
    rw [e]
    rcases q with ⟨rfl, q⟩ | ⟨rfl, q⟩
    · exact Is.bind (Is.lift ⟨_, _, rfl, Is.bind (q.mono fun c h4 r => Is.lift r)⟩)
    · exact Is.bind (Is.lift ⟨_, _, rfl, q⟩)))
theorem Is.enum {ss : SS} {h : SH} {m : AM} {P : Wk → SH → Prop} (x : Is (m ss h) fun vs h1 => ∃ r xs, vs = [.ref r] ∧ h1[r]? = some (.lst xs) ∧ P (wkEnum r) h1) : Is (mEnum m ss h) P := Is.bind (x.mono fun v h1 y => by
  obtain ⟨r, xs, rfl, e, p⟩ := y
  show Is (match h1[r]? with | some (.lst _) => Res.ok (wkEnum r) h1 | _ => .stuck) P
  rw [e]; exact p)
theorem wkEnum_at {h : SH} {r k : Nat} {xs : List SV} {x : SV} (e : h[r]? = some (.lst xs)) (ex : xs[k]? = some x) : wkEnum r h k = some (some (.ref h.length, h ++ [.tup [.int (k : Nat), x]])) := by
  unfold wkEnum; simp only [e, ex]
theorem wkEnum_end {h : SH} {r : Nat} {xs : List SV} (e : h[r]? = some (.lst xs)) : wkEnum r h xs.length = some none := by
  unfold wkEnum; simp [e]
theorem Is.andV {ss : SS} {h : SH} {P : SV → SH → Prop} {ma mb : EM} (x : Is (ma ss h) fun v h1 => (v = .bl true ∧ Is (mb ss h1) P) ∨ (v = .bl false ∧ P (.bl false) h1)) : Is (mAnd ma mb ss h) P := Is.bind (x.mono fun v h1 y => by
  rcases y with ⟨rfl, y⟩ | ⟨rfl, y⟩ <;> exact y)
theorem Is.orV {ss : SS} {h : SH} {P : SV → SH → Prop} {ma mb : EM} (x : Is (ma ss h) fun v h1 => (v = .bl true ∧ P (.bl true) h1) ∨ (v = .bl false ∧ Is (mb ss h1) P)) : Is (mOr ma mb ss h) P := Is.bind (x.mono fun v h1 y => by
  rcases y with ⟨rfl, y⟩ | ⟨rfl, y⟩ <;> exact y)
theorem Is.notV {ss : SS} {h : SH} {P : SV → SH → Prop} {ma : EM} (x : Is (ma ss h) fun v h1 => ∃ b, v = .bl b ∧ P (.bl (!b)) h1) : Is (mNot ma ss h) P := Is.bind (x.mono fun v h1 ⟨b, e, p⟩ => by subst e; exact p)
end Fw
namespace Fw
open PySem PySem.Spec L2
/-! ### a program's parts: places by name, moves; what Walks makes of them -/
/-- a move by names -/
structure Nm where
  p : Str
  l : Int
  c : Int
  o : Str
def Nm.so (m : Nm) : SO := .tup [.str m.p, .int m.l, .int m.c, .str m.o]
structure Nm.Ok (ps : List Str) (m : Nm) : Prop where
  hp : m.p ∈ ps
  ho : m.o ∈ ps
  l0 : 0 ≤ m.l
  l8 : m.l ≤ 8
  c0 : -4 ≤ m.c
  c4 : m.c ≤ 4
  e0 : 0 ≤ m.l + m.c
  e8 : m.l + m.c ≤ 8
/-- a list of places, a list of moves, as they stand -/
structure Pls (h : SH) (A : Nat) (ps : List Str) : Prop where
  at_ : h[A]? = some (.lst (ps.map SV.str))
structure Mvn (h : SH) (A : Nat) (ms : List Nm) : Prop where
  ex : ∃ ts : List Nat, h[A]? = some (.lst (ts.map SV.ref)) ∧ ts.length = ms.length ∧ ∀ (i t : Nat), ts[i]? = some t → ∃ m, ms[i]? = some m ∧ h[t]? = some (Nm.so m)
theorem Mvn.le {h h' : SH} {A : Nat} {ms : List Nm} (x : Mvn h A ms) (l : Le h h') : Mvn h' A ms := by
  obtain ⟨ts, e, hl, z⟩ := x
  exact ⟨ts, l _ _ e, hl, fun i t et => let ⟨m, a, b⟩ := z i t et; ⟨m, a, l _ _ b⟩⟩
theorem Pls.le {h h' : SH} {A : Nat} {ps : List Str} (x : Pls h A ps) (l : Le h h') : Pls h' A ps := ⟨l _ _ x.at_⟩
structure PsOk (ps : List Str) : Prop where
  one : 1 ≤ ps.length
  four : ps.length ≤ 4
  nd : ps.Nodup
/-- the number of a place -/
def Num (ps : List Str) (x : Str) (i : Int) : Prop := 0 ≤ i ∧ i < ps.length ∧ ps[i.toNat]? = some x
theorem num_of {ps : List Str} {x : Str} (h : x ∈ ps) : ∃ i, Num ps x i := by
  obtain ⟨i, hi, e⟩ := List.getElem_of_mem h
  exact ⟨i, by omega, by omega, by rw [Int.toNat_natCast, List.getElem?_eq_getElem hi, e]⟩
/-- the dict of the places' numbers -/
structure Nums2 (ps : List Str) (k : Nat) (kvs : List (Key × SV)) : Prop where
  len : kvs.length ≤ k
  get : ∀ (i : Nat) (x : Str), i < k → ps[i]? = some x → getS kvs (.inr x) = some (.int (i : Nat))
  no : ∀ x, getS kvs (.inr x) ≠ none → ∃ i, i < k ∧ ps[i]? = some x
theorem Nums2.put {ps : List Str} {k : Nat} {kvs : List (Key × SV)} {x : Str} (n : Nums2 ps k kvs) (nd : ps.Nodup) (e : ps[k]? = some x) : Nums2 ps (k + 1) (putS kvs (.inr x) (.int (k : Nat))) := by
  have g : getS kvs (.inr x) = none := by
    cases gg : getS kvs (.inr x) with
    | none => rfl
    | some v =>
      obtain ⟨i, hi, ei⟩ := n.no x (by rw [gg]; exact fun z => nomatch z)
      have := nd_ix nd e ei
      omega
  rw [put_new g]
  refine ⟨by have := n.len; simp; omega, fun i y hi ey => ?_, fun y hy => ?_⟩
  · rw [getS_app]
    by_cases hik : i < k
    · rw [n.get i y hik ey]
    · obtain rfl : i = k := by omega
      rw [e] at ey; cases ey
      rw [g]; simp
  · rw [getS_app] at hy
    cases gg : getS kvs (.inr y) with
    | some v =>
      obtain ⟨i, hi, ei⟩ := n.no y (by rw [gg]; exact fun z => nomatch z)
      exact ⟨i, by omega, ei⟩
    | none =>
      rw [gg] at hy
      by_cases q : (Sum.inr x : Key) = .inr y
      · injection q with q
        exact ⟨k, by omega, by rw [← q]; exact e⟩
      · simp only [if_neg q] at hy; exact absurd rfl hy
end Fw
namespace Fw
open PySem PySem.Spec L2
section
variable (xA xW xT xC : List (Option Nat))
def onwardM : EM := (mLc (mWalk (mVar 2)) (gTupM 4 (gsCons (gVar 6) (gsCons (gVar 7) (gsCons (gVar 8) (gsCons (gVar 9) gsNil))))) bYes (mOA opTup (aCons (mO2 opIx (mO1 (opFld xA) (mVar 0)) (mVar 6)) (aCons (mVar 7) (aCons (mVar 8) (aCons (mO2 opIx (mO1 (opFld xA) (mVar 0)) (mVar 9)) aNil))))) [6, 7, 8, 9])
def turnedM : EM := (mLc (mWalk (mVar 3)) (gTupM 4 (gsCons (gVar 6) (gsCons (gVar 7) (gsCons (gVar 8) (gsCons (gVar 9) gsNil))))) bYes (mOA opTup (aCons (mVar 9) (aCons (mO2 opAdd (mVar 7) (mVar 8)) (aCons (mO1 opNeg (mVar 8)) (aCons (mVar 6) aNil))))) [6, 7, 8, 9])
def atM : EM := (mDc (mEnum (aCons (mVar 1) aNil)) (gTupM 2 (gsCons (gVar 5) (gsCons (gVar 6) gsNil))) bYes (mVar 6) (mVar 5) [5, 6])
def walksM : SM := (mSeq (mFst xA atM (mVar 0)) (mSeq (mSet 3 (onwardM xA)) (mSeq (mSet 4 turnedM) (mSeq (mFst xW (mOA opTup (aCons (mVar 3) (aCons (mVar 4) aNil))) (mVar 0)) (mSeq (mFst xT mDict0 (mVar 0)) (mFst xC (mCall (mFn 2 5 commonM) (aCons (mVar 3) (aCons (mOA (un1 opLen) (aCons (mVar 1) aNil)) aNil))) (mVar 0)))))))
end
theorem at_is {ss : SS} {h : SH} {A : Nat} {ps : List Str} (hl : ss.length = 10) (s1 : ss[1]? = some (some (.ref A))) (pl : Pls h A ps) (ok : PsOk ps) {P : SV → SH → Prop} (p : ∀ h' D kvs, Le h h' → h.length ≤ D → h'[D]? = some (.dK kvs) → Nums2 ps ps.length kvs → P (.ref D) h') : Is (atM ss h) P := by
  unfold atM
  have four := ok.four
  refine Is.dc (Is.enum (Is.acons (Is.var s1 (Is.anil ⟨A, _, rfl, pl.at_, ps.length, fun k acc h' => Le h h' ∧ Nums2 ps k acc, by unfold many; omega, ⟨Le.push _ _, ⟨Nat.le_refl _, fun i _ hi => by omega, fun x hx => absurd rfl hx⟩⟩, ?_, ?_⟩))))
  · rintro k acc h' hk hD ⟨le, nu⟩
    have ek : ps[k]? = some ps[k] := List.getElem?_eq_getElem hk
    refine ⟨_, _, _, wkEnum_at (le _ _ pl.at_) (by rw [List.getElem?_map, ek]; rfl), g2_is (new_at _ _), ?_⟩
    show Is (Res.ok true _) _
    refine is_ok ?_
    rw [if_pos rfl]
    refine Is.var (v := .str ps[k]) (gx (n := 10) (by simp [wipeS, hl]) (by decide)) (Is.var (v := .int (k : Nat)) (gs (gx (n := 10) (by simp [wipeS, hl]) (by decide)) (by decide)) ⟨_, rfl, Le.push _ _ _ _ hD, small_lt (by have := nu.len; omega), fun j o ej => ?_, nu.put ok.nd ek⟩)
    have hj : h.length ≠ j := by have := lt_of ej; omega
    rw [set_ne hj]
    exact Le.push _ _ _ _ (le _ _ ej)
  · rintro acc h' hD ⟨le, nu⟩
    have w := wkEnum_end (le _ _ pl.at_)
    rw [List.length_map] at w
    exact ⟨w, p h' _ acc le (Nat.le_refl _) hD nu⟩
theorem set4 {ss : SS} {n : Nat} (hl : ss.length = n) (hn : 10 ≤ n) {a b c d : SV} : ∃ s, s = ((((wipeS ss [6, 7, 8, 9]).set 6 (some a)).set 7 (some b)).set 8 (some c)).set 9 (some d) ∧ s.length = n ∧ s[6]? = some (some a) ∧ s[7]? = some (some b) ∧ s[8]? = some (some c) ∧ s[9]? = some (some d) ∧ ∀ i, i < 6 → s[i]? = ss[i]? := by
  refine ⟨_, rfl, by simp [wipeS, hl], ?_, ?_, ?_, ?_, fun i hi => ?_⟩
  · exact gs (gs (gs (gx (n := n) (by simp [wipeS, hl]) (by omega)) (by decide)) (by decide)) (by decide)
  · exact gs (gs (gx (n := n) (by simp [wipeS, hl]) (by omega)) (by decide)) (by decide)
  · exact gs (gx (n := n) (by simp [wipeS, hl]) (by omega)) (by decide)
  · exact gx (n := n) (by simp [wipeS, hl]) (by omega)
  · rw [List.getElem?_set_ne (by omega), List.getElem?_set_ne (by omega), List.getElem?_set_ne (by omega), List.getElem?_set_ne (by omega)]
    show ((((ss.set 9 none).set 8 none).set 7 none).set 6 none)[i]? = ss[i]?
    rw [List.getElem?_set_ne (by omega), List.getElem?_set_ne (by omega), List.getElem?_set_ne (by omega), List.getElem?_set_ne (by omega)]
theorem onward_is {xA : List (Option Nat)} {c o D : Nat} {vs : List SV} {ss : SS} {h : SH} {M : Nat} {ps : List Str} {ms : List Nm} {kvs : List (Key × SV)} (hl : ss.length = 10) (s0 : ss[0]? = some (some (.ref o))) (s2 : ss[2]? = some (some (.ref M))) (ho : h[o]? = some (.ins c (.ref D :: vs))) (eA : xA[c]? = some (some 0)) (hD : h[D]? = some (.dK kvs)) (nu : Nums2 ps ps.length kvs)
    (mv : Mvn h M ms) (few : ms.length ≤ 10) (four : ps.length ≤ 4) (mok : ∀ m ∈ ms, Nm.Ok ps m) {P : SV → SH → Prop} (p : ∀ h' A ms', Le h h' → Mvs h' A ms' ps.length → P (.ref A) h') : Is (onwardM xA ss h) P := by
  unfold onwardM
  obtain ⟨ts, eM, hts, z⟩ := mv
  refine Is.lc (Is.walkL (Is.var s2 ⟨M, _, rfl, eM, ts.length, fun k acc h' => Le h h' ∧ ∃ (us : List Nat) (ms' : List Mv), acc = us.map SV.ref ∧ us.length = k ∧ us.length = ms'.length ∧ ∀ (i t : Nat), us[i]? = some t → t ≠ h.length ∧ ∃ p l c o, ms'[i]? = some (p, l, c, o) ∧ h'[t]? = some (.tup [.int p, .int l, .int c, .int o]) ∧ 0 ≤ p ∧ p < ps.length ∧ 0 ≤ o ∧ o < ps.length ∧ -4 ≤ c ∧ c ≤ 4, by unfold many; omega, ⟨Le.push _ _, [], [], rfl, rfl, rfl, fun i t e => by simp at e⟩, ?_, ?_⟩))
  · rintro k acc h' hk hDl ⟨le, us, ms', rfl, hu, hm, zz⟩
    have ek : ts[k]? = some ts[k] := List.getElem?_eq_getElem hk
    obtain ⟨m, em, et⟩ := z k _ ek
    have mo := mok m (List.mem_of_getElem? em)
    obtain ⟨s, es, sl, t6, t7, t8, t9, told⟩ := set4 hl (by decide) (a := .str m.p) (b := .int m.l) (c := .int m.c) (d := .str m.o)
    refine ⟨_, _, _, wkL_at (le _ _ eM) (by rw [List.getElem?_map, ek]; rfl), g4_is (le _ _ et), ?_⟩
    rw [← es]
    show Is (Res.ok true _) _
    refine is_ok ?_
    rw [if_pos rfl]
    obtain ⟨i, i0, i1, ei⟩ := num_of mo.hp
    obtain ⟨j, j0, j1, ej⟩ := num_of mo.ho
    have gi := nu.get i.toNat m.p (by omega) ei
    have gj := nu.get j.toNat m.o (by omega) ej
    have ti : ((i.toNat : Nat) : Int) = i := Int.toNat_of_nonneg i0
    have tj : ((j.toNat : Nat) : Int) = j := Int.toNat_of_nonneg j0
    rw [ti] at gi
    rw [tj] at gj
    have z0 := (told 0 (by omega)).trans s0
    refine Is.oa (Is.acons (Is.o2 (Is.o1 (Is.var z0 (fld_is (le _ _ ho) eA rfl (Is.var t6 (ixD (le _ _ hD) rfl gi ?_)))))))
    refine Is.acons (Is.var t7 (Is.acons (Is.var t8 (Is.acons (Is.o2 (Is.o1 (Is.var z0 (fld_is (le _ _ ho) eA rfl (Is.var t9 (ixD (le _ _ hD) rfl gj (Is.anil (tup_is (small_big (by simp)) ?_))))))))))))
    have hlt := lt_of hDl
    refine ⟨Le.push _ _ _ _ hDl, small_lt (by simp; omega), fun q u eq => ?_, us ++ [h'.length], ms' ++ [(i, m.l, m.c, j)], by simp, by simp [hu], by simp [hm], fun q t eq => ?_⟩
    · have hq : h.length ≠ q := by have := lt_of eq; omega
      rw [set_ne hq]
      exact Le.push _ _ _ _ (le _ _ eq)
    · by_cases hq : q < us.length
      · rw [List.getElem?_append_left hq] at eq
        obtain ⟨nt, a, b, c, d, e1, e2, e3⟩ := zz q t eq
        exact ⟨nt, a, b, c, d, by rw [List.getElem?_append_left (by omega)]; exact e1, by rw [set_ne (Ne.symm nt)]; exact Le.push _ _ _ _ e2, e3⟩
      · have hq2 : q = us.length := by have := (List.getElem?_eq_some_iff.mp eq).1; simp at this; omega
        subst hq2
        rw [List.getElem?_append_right (Nat.le_refl _)] at eq
        simp at eq
        subst eq
        exact ⟨by omega, i, m.l, m.c, j, by rw [hm, List.getElem?_append_right (Nat.le_refl _)]; simp, by rw [set_ne (by omega)]; exact new_at _ _, i0, i1, j0, j1, mo.c0, mo.c4⟩
  · rintro acc h' hDl ⟨le, us, ms', rfl, hu, hm, zz⟩
    have w := wkL_end (le _ _ eM)
    rw [List.length_map] at w
    exact ⟨w, p h' _ ms' le ⟨⟨us, hDl, hm, fun i t e => (zz i t e).2⟩, by omega, by omega⟩⟩
theorem turned_is {ss : SS} {h : SH} {A : Nat} {ms : List Mv} {n : Int} (hl : ss.length = 10) (s3 : ss[3]? = some (some (.ref A))) (mv : Mvs h A ms n) {P : SV → SH → Prop} (p : ∀ h' B, Le h h' → P (.ref B) h') : Is (turnedM ss h) P := by
  unfold turnedM
  have few := mv.few
  obtain ⟨⟨ts, eM, hts, z⟩, _, _⟩ := mv
  refine Is.lc (Is.walkL (Is.var s3 ⟨A, _, rfl, eM, ts.length, fun k acc h' => Le h h' ∧ acc.length = k, by unfold many; omega, ⟨Le.push _ _, rfl⟩, ?_, ?_⟩))
  · rintro k acc h' hk hDl ⟨le, ha⟩
    have ek : ts[k]? = some ts[k] := List.getElem?_eq_getElem hk
    obtain ⟨pp, l, c, o, em, et, _⟩ := z k _ ek
    obtain ⟨s, es, sl, t6, t7, t8, t9, told⟩ := set4 hl (by decide) (a := .int pp) (b := .int l) (c := .int c) (d := .int o)
    refine ⟨_, _, _, wkL_at (le _ _ eM) (by rw [List.getElem?_map, ek]; rfl), g4_is (le _ _ et), ?_⟩
    rw [← es]
    show Is (Res.ok true _) _
    refine is_ok ?_
    rw [if_pos rfl]
    refine Is.oa (Is.acons (Is.var t9 (Is.acons (Is.o2 (Is.var t7 (Is.var t8 ⟨_, _, rfl, Is.acons (Is.o1 (Is.var t8 ⟨_, _, rfl, Is.acons (Is.var t6 (Is.anil (tup_is (small_big (by simp)) ?_)))⟩))⟩))))))
    refine ⟨Le.push _ _ _ _ hDl, small_lt (by omega), fun q u eq => ?_, by simp [ha]⟩
    have hq : h.length ≠ q := by have := lt_of eq; omega
    rw [set_ne hq]
    exact Le.push _ _ _ _ (le _ _ eq)
  · rintro acc h' hDl ⟨le, ha⟩
    have w := wkL_end (le _ _ eM)
    rw [List.length_map] at w
    exact ⟨w, p h' _ le⟩
theorem walks_is {xA xW xT xC : List (Option Nat)} {c : Nat} (eA : xA[c]? = some (some 0)) (eW : xW[c]? = some (some 1)) (eT : xT[c]? = some (some 2)) (eC : xC[c]? = some (some 3)) {h0 : SH} {A M : Nat} {ps : List Str} {ms : List Nm} (pl : Pls h0 A ps) (mv : Mvn h0 M ms) (ok : PsOk ps) (mok : ∀ m ∈ ms, Nm.Ok ps m) (few : ms.length ≤ 10) :
    Is (mFn 3 10 (walksM xA xW xT xC) [.ref h0.length, .ref A, .ref M] (h0 ++ [.ins c []])) fun v h' => v = .non ∧ Le h0 h' ∧ ∃ vs, h'[h0.length]? = some (.ins c vs) := by
  refine Is.fn rfl ?_
  unfold walksM
  have n0 := new_at h0 (.ins c [])
  have l0 := Le.push h0 (.ins c [])
  generalize h0 ++ [SO.ins c []] = hA at n0 l0 ⊢
  refine Ist.seq (Ist.fst (at_is rfl rfl (pl.le l0) ok fun h1 D kvs l1 hd eD nu => Is.var (v := .ref h0.length) rfl (fst_is (l1 _ _ n0) eA rfl ?_)))
  have hDo : h0.length ≠ D := by have := lt_of n0; omega
  have n1 : (h1.set h0.length (.ins c ([] ++ [.ref D])))[h0.length]? = some (.ins c [.ref D]) := set_at (l1 _ _ n0)
  have eD1 : (h1.set h0.length (.ins c ([] ++ [.ref D])))[D]? = some (.dK kvs) := by rw [set_ne hDo]; exact eD
  have le1 : Le h0 (h1.set h0.length (.ins c ([] ++ [.ref D]))) := le_set (l0.trans l1) (Nat.le_refl _)
  generalize h1.set h0.length (SO.ins c ([] ++ [.ref D])) = h2 at n1 eD1 le1 ⊢
  refine Ist.seq (Ist.set (onward_is rfl rfl rfl n1 eA eD1 nu (mv.le le1) few ok.four mok fun h3 B ms' l3 mvs => ?_))
  refine Ist.seq (Ist.set (turned_is (A := B) rfl rfl mvs fun h4 B2 l4 => ?_))
  have n4 := l4 _ _ (l3 _ _ n1)
  refine Ist.seq (Ist.fst (Is.oa (Is.acons (Is.var (v := .ref B) rfl (Is.acons (Is.var (v := .ref B2) rfl (Is.anil (tup_is (small_big (by simp)) (Is.var (v := .ref h0.length) rfl (fst_is (Le.push _ _ _ _ n4) eW rfl ?_))))))))))
  have n5 : ((h4 ++ [SO.tup [.ref B, .ref B2]]).set h0.length (.ins c ([.ref D] ++ [.ref h4.length])))[h0.length]? = some (.ins c [.ref D, .ref h4.length]) := set_at (Le.push _ _ _ _ n4)
  have le5 : Le h0 ((h4 ++ [SO.tup [.ref B, .ref B2]]).set h0.length (.ins c ([.ref D] ++ [.ref h4.length]))) := le_set (((le1.trans l3).trans l4).trans (Le.push _ _)) (Nat.le_refl _)
  have mvs5 : Mvs ((h4 ++ [SO.tup [.ref B, .ref B2]]).set h0.length (.ins c ([.ref D] ++ [.ref h4.length]))) B ms' ps.length := by
    have m4 := (mvs.le l4).le (Le.push h4 (.tup [.ref B, .ref B2]))
    have n4' := Le.push h4 (.tup [.ref B, .ref B2]) _ _ n4
    obtain ⟨⟨ts, e, hl, z⟩, f, g⟩ := m4
    refine ⟨⟨ts, by rw [set_ne (fun w => by have q := n4'; rw [w] at q; rw [q] at e; cases e)]; exact e, hl, fun i t et => ?_⟩, f, g⟩
    obtain ⟨p, l, cc, o, a, b, d⟩ := z i t et
    exact ⟨p, l, cc, o, a, by rw [set_ne (fun w => by have q := n4'; rw [w] at q; rw [q] at b; cases b)]; exact b, d⟩
  generalize (h4 ++ [SO.tup [.ref B, .ref B2]]).set h0.length (SO.ins c ([.ref D] ++ [.ref h4.length])) = h5 at n5 le5 mvs5 ⊢
  refine Ist.seq (Ist.fst (Is.dict0 (Is.var (v := .ref h0.length) rfl (fst_is (Le.push _ _ _ _ n5) eT rfl ?_))))
  have n6 : ((h5 ++ [SO.dK []]).set h0.length (.ins c ([.ref D, .ref h4.length] ++ [.ref h5.length])))[h0.length]? = some (.ins c [.ref D, .ref h4.length, .ref h5.length]) := set_at (Le.push _ _ _ _ n5)
  have le6 : Le h0 ((h5 ++ [SO.dK []]).set h0.length (.ins c ([.ref D, .ref h4.length] ++ [.ref h5.length]))) := le_set (le5.trans (Le.push _ _)) (Nat.le_refl _)
  have mvs6 : Mvs ((h5 ++ [SO.dK []]).set h0.length (.ins c ([.ref D, .ref h4.length] ++ [.ref h5.length]))) B ms' ps.length := by
    have m4 := mvs5.le (Le.push h5 (.dK []))
    have n4' := Le.push h5 (.dK []) _ _ n5
    obtain ⟨⟨ts, e, hl, z⟩, f, g⟩ := m4
    refine ⟨⟨ts, by rw [set_ne (fun w => by have q := n4'; rw [w] at q; rw [q] at e; cases e)]; exact e, hl, fun i t et => ?_⟩, f, g⟩
    obtain ⟨p, l, cc, o, a, b, d⟩ := z i t et
    exact ⟨p, l, cc, o, a, by rw [set_ne (fun w => by have q := n4'; rw [w] at q; rw [q] at b; cases b)]; exact b, d⟩
  have pl6 := pl.le le6
  generalize (h5 ++ [SO.dK []]).set h0.length (SO.ins c ([.ref D, .ref h4.length] ++ [.ref h5.length])) = h6 at n6 le6 mvs6 pl6 ⊢
  refine Ist.fst (Is.call (Is.acons (Is.var (v := .ref B) rfl (Is.acons (Is.oa (Is.acons (Is.var (v := .ref A) rfl (Is.anil ⟨.int (ps.length : Nat), h6, ?_, ?_⟩))))))))
  · show opLen (.ref A) h6 = _
    unfold opLen
    simp only [pl6.at_]
    rw [List.length_map]
  · with_reducible refine Is.anil ?_
    have n0' : (0 : Int) ≤ ((ps.length : Nat) : Int) := by omega
    with_reducible refine common_is mvs6 n0' ?_
    intro s h7 s1 s2 l7
    refine Is.var (v := .ref h0.length) rfl (fst_is (l7 _ _ n6) eC rfl ⟨rfl, le_set (le6.trans l7) (Nat.le_refl _), _, set_at (l7 _ _ n6)⟩)
end Fw
namespace Fw
open PySem PySem.Spec L2
/-! ### a program is made: its parts are looked through -/
structure NmOk (z : Str) : Prop where
  one : 1 ≤ z.length
  eight : z.length ≤ 8
  az : ∀ c ∈ z.cps, 97 ≤ c ∧ c ≤ 122
theorem lt1 (c d : Nat) : decide ([c] < [d]) = decide (c < d) := by
  by_cases h : c < d
  · rw [decide_eq_true h]
    exact decide_eq_true (List.Lex.rel h)
  · rw [decide_eq_false h]
    refine decide_eq_false fun z => ?_
    cases z with
    | rel z => exact h z
    | cons z => cases z
def nameM (iS : Tag → Option Bool) : SM := (mSeq (mIfS (bOr (bNot (mB (mO1 (opIsi iS) (mVar 0)))) (bNot (mB (mChain opLe opLe (mC (.int 1)) (mOA (un1 opLen) (aCons (mVar 0) aNil)) (mC (.int 8)))))) (mRet (mC (.bl false))) mNil) (mRet (mOA (un1 opAll) (aCons (mLc (mWalk (mVar 0)) (gVar 1) bYes (mChain opLe opLe (mC (.str "a")) (mVar 1) (mC (.str "z"))) [1]) aNil))))
theorem boolsOf_rep : ∀ n, boolsOf (List.replicate n (.bl true)) = some (List.replicate n true)
  | 0 => rfl
  | n + 1 => by
    rw [List.replicate_succ, List.replicate_succ]
    unfold boolsOf
    simp only [boolsOf_rep n]
theorem walkStr_is {ss : SS} {h : SH} {m : EM} {z : Str} {P : Wk → SH → Prop} (x : Is (m ss h) fun v h1 => v = .str z ∧ P (wkStr z) h1) : Is (mWalk m ss h) P := Is.bind (x.mono fun v h1 ⟨e, p⟩ => by subst e; exact p)
theorem name_is {iS : Tag → Option Bool} (eS : iS .str = some true) {z : Str} (ok : NmOk z) {h : SH} {P : SV → SH → Prop} (p : ∀ h', Le h h' → P (.bl true) h') : Is (mFn 1 2 (nameM iS) [.str z] h) P := by
  refine Is.fn rfl ?_
  unfold nameM
  have h8 := ok.eight
  have h1 := ok.one
  have ob : z.length ≤ big := small_big (by omega)
  refine Ist.seq (Ist.ite (Is.bor (Is.bnot (Is.bm (Is.o1 (Is.var (v := .str z) rfl (isi_t (t := .str) (b := true) rfl eS ⟨true, rfl, ?_⟩)))))))
  rw [if_neg (by decide)]
  have ln : ∀ hh : SH, un1 opLen [.str z] hh = some (.int (z.length : Nat), hh) := fun hh => by
    show opLen (.str z) hh = _
    unfold opLen
    exact if_pos ob
  refine Is.bnot (Is.bm (Is.chain (Is.c (Is.oa (Is.acons (Is.var (v := .str z) rfl (Is.anil ⟨_, _, ln h, .bl true, h, ?_, .inl ⟨rfl, Is.c ⟨.bl true, h, ?_, true, rfl, ?_⟩⟩⟩))))))) 
  · show some (SV.bl (decide ((1 : Int) ≤ (z.length : Nat))), h) = _
    rw [decide_eq_true (by omega)]
  · show some (SV.bl (decide (((z.length : Nat) : Int) ≤ 8)), h) = _
    rw [decide_eq_true (by omega)]
  rw [if_neg (by decide)]
  refine Ist.nil (Ist.ret (Is.oa (Is.acons (Is.lc (walkStr_is (Is.var (v := .str z) rfl ⟨rfl, z.cps.size, fun k acc h' => Le h h' ∧ acc = List.replicate k (.bl true), by have : z.cps.size = z.length := rfl; unfold many; omega, ⟨Le.push _ _, rfl⟩, ?_, ?_⟩))))))
  · rintro k acc h' hk hD ⟨le, rfl⟩
    have ec : z.cps[k]? = some z.cps[k] := Array.getElem?_eq_getElem hk
    obtain ⟨a1, a2⟩ := ok.az _ (Array.getElem_mem hk)
    refine ⟨.str ⟨#[z.cps[k]]⟩, h', _, by unfold wkStr; simp only [ec], rfl, ?_⟩
    show Is (Res.ok true h') _
    refine is_ok ?_
    rw [if_pos rfl]
    refine Is.chain (Is.c (Is.var (v := .str ⟨#[z.cps[k]]⟩) rfl ⟨.bl true, h', ?_, .inl ⟨rfl, Is.c ⟨.bl true, h', ?_, hD, small_lt (by have : z.cps.size = z.length := rfl; simp; omega), fun j o ej => ?_, by rw [List.replicate_succ']⟩⟩⟩))
    · show some (SV.bl (!decide ([z.cps[k]] < [97])), h') = _
      rw [lt1, decide_eq_false (by omega)]; rfl
    · show some (SV.bl (!decide ([122] < [z.cps[k]])), h') = _
      rw [lt1, decide_eq_false (by omega)]; rfl
    · have hj : h.length ≠ j := by have := lt_of ej; omega
      rw [set_ne hj]; exact le _ _ ej
  · rintro acc h' hD ⟨le, rfl⟩
    refine ⟨by unfold wkStr; simp, Is.anil ⟨.bl true, h', ?_, p h' le⟩⟩
    show opAll (.ref h.length) h' = _
    unfold opAll
    simp only [hD, boolsOf_rep]
    congr 3
    simp
theorem inS {j : Nat} {ps : List Str} {x : Str} {h : SH} {P : SV → SH → Prop} (e : h[j]? = some (.lst (ps.map SV.str))) (p : P (.bl (decide (x ∈ ps))) h) : ∃ w h3, opIn false (.str x) (.ref j) h = some (w, h3) ∧ P w h3 := by
  refine ⟨_, _, ?_, p⟩
  unfold opIn
  simp only [e]
  have f1 : (ps.map SV.str).all flatS = true := by simp [flatS]
  have f2 : flatS (.str x) = true := rfl
  rw [f1, f2]
  rw [if_pos (by rfl)]
  congr 3
  rw [List.any_map]
  show (if false = true then _ else _) = _
  rw [if_neg Bool.false_ne_true, Bool.eq_iff_iff]
  simp only [List.any_eq_true, decide_eq_true_eq, Function.comp]
  constructor
  · rintro ⟨y, hy, e⟩
    have : y = x := by unfold eqS at e; exact eq_of_beq e
    rw [← this]; exact hy
  · intro hx
    exact ⟨x, hx, by unfold eqS; exact beq_self_eq_true x⟩
def checkPM (iL iS : Tag → Option Bool) : SM := (mSeq (mIfS (bOr (bNot (mB (mO1 (opIsi iL) (mVar 0)))) (bNot (mB (mChain opLe opLe (mC (.int 1)) (mOA (un1 opLen) (aCons (mVar 0) aNil)) (mC (.int 4)))))) (mRaise 2 1 (aCons (mVar 0) aNil)) mNil) (mFor (mEnum (aCons (mVar 0) aNil)) (gTupM 2 (gsCons (gVar 1) (gsCons (gVar 2) gsNil))) (mIfS (bOr (bNot (mTru (mCall (mFn 1 2 (nameM iS)) (aCons (mVar 2) aNil)))) (mB (mO2 (opIn false) (mVar 2) (mCut (mVar 0) pNone (pSome (mVar 1)))))) (mRaise 3 1 (aCons (mVar 2) aNil)) mNil)))
theorem cut_take (xs : List SV) (k : Nat) (h : k ≤ xs.length) : cutS xs none (some (k : Int)) = xs.take k := by
  unfold cutS
  have e1 : HT.sIx xs.length 0 none = 0 := rfl
  have e2 : HT.sIx xs.length xs.length (some (k : Int)) = k := by
    unfold HT.sIx
    simp [show ¬ ((k : Int) < 0) from by omega]
    omega
  rw [e1, e2]
  simp
end Fw
namespace Fw
open PySem PySem.Spec L2
theorem len_is {A : Nat} {xs : List SV} {h : SH} {P : SV → SH → Prop} (e : h[A]? = some (.lst xs)) (p : P (.int (xs.length : Nat)) h) : ∃ v h3, un1 opLen [.ref A] h = some (v, h3) ∧ P v h3 :=
  ⟨_, _, by show opLen (.ref A) h = _; unfold opLen; simp only [e], p⟩
theorem lenT_is {A : Nat} {xs : List SV} {h : SH} {P : SV → SH → Prop} (e : h[A]? = some (.tup xs)) (p : P (.int (xs.length : Nat)) h) : ∃ v h3, un1 opLen [.ref A] h = some (v, h3) ∧ P v h3 :=
  ⟨_, _, by show opLen (.ref A) h = _; unfold opLen; simp only [e], p⟩
theorem Is.cut {ss : SS} {h : SH} {P : SV → SH → Prop} {m : EM} {pl pu : PM} (x : Is (m ss h) fun v h1 => Is (pl ss h1) fun lo h2 => Is (pu ss h2) fun hi h3 => ∃ i xs, v = .ref i ∧ h3[i]? = some (.lst xs) ∧ P (.ref h3.length) (h3 ++ [.lst (cutS xs lo hi)])) : Is (mCut m pl pu ss h) P :=
  Is.bind (x.mono fun v h1 y => Is.bind (y.mono fun lo h2 z => Is.bind (z.mono fun hi h3 ⟨i, xs, ev, e, p⟩ => by
    subst ev
    refine Is.lift ⟨_, _, ?_, p⟩
    unfold opCut
    simp only [e]
    rfl)))
theorem Is.pN {ss : SS} {h : SH} {P : Option Int → SH → Prop} (p : P none h) : Is (pNone ss h) P := p
theorem Is.pS {ss : SS} {h : SH} {P : Option Int → SH → Prop} {m : EM} (x : Is (m ss h) fun v h1 => ∃ i, v = .int i ∧ P (some i) h1) : Is (pSome m ss h) P := Is.bind (x.mono fun v h1 ⟨i, e, p⟩ => by subst e; exact p)
theorem checkP_is {iL iS : Tag → Option Bool} (eL : iL .lst = some true) (eS : iS .str = some true) {h : SH} {A : Nat} {ps : List Str} (pl : Pls h A ps) (ok : PsOk ps) (nm : ∀ p ∈ ps, NmOk p) {P : SV → SH → Prop} (p : ∀ h', Le h h' → P .non h') : Is (mFn 1 3 (checkPM iL iS) [.ref A] h) P := by
  refine Is.fn rfl ?_
  unfold checkPM
  have o1 := ok.one
  have o4 := ok.four
  have e := pl.at_
  refine Ist.seq (Ist.ite (Is.bor (Is.bnot (Is.bm (Is.o1 (Is.var (v := .ref A) rfl (isi_t (t := .lst) (b := true) (tag_lst e) eL ⟨true, rfl, ?_⟩)))))))
  rw [if_neg (by decide)]
  refine Is.bnot (Is.bm (Is.chain (Is.c (Is.oa (Is.acons (Is.var (v := .ref A) rfl (Is.anil (len_is e ⟨.bl true, h, ?_, .inl ⟨rfl, Is.c ⟨.bl true, h, ?_, true, rfl, ?_⟩⟩⟩))))))))
  · show some (SV.bl (decide ((1 : Int) ≤ (((ps.map SV.str).length : Nat) : Int))), h) = _
    rw [decide_eq_true (by simp; omega)]
  · show some (SV.bl (decide ((((ps.map SV.str).length : Nat) : Int) ≤ 4)), h) = _
    rw [decide_eq_true (by simp; omega)]
  rw [if_neg (by decide)]
  refine Ist.nil (Ist.for (Is.enum (Is.acons (Is.var (v := .ref A) rfl (Is.anil ⟨A, _, rfl, e, ps.length, fun k s h' => s.length = 3 ∧ s[0]? = some (some (.ref A)) ∧ Le h h', by unfold many; omega, ⟨rfl, rfl, Le.refl _⟩, ?_, ?_⟩)))))
  · rintro k s h' hk ⟨len, q0, le⟩
    have ek : ps[k]? = some ps[k] := List.getElem?_eq_getElem hk
    refine ⟨_, _, _, wkEnum_at (le _ _ e) (by rw [List.getElem?_map, ek]; rfl), g2_is (new_at _ _), ?_⟩
    have le1 := le.trans (Le.push h' (.tup [.int (k : Nat), .str ps[k]]))
    generalize h' ++ [SO.tup [.int (k : Nat), .str ps[k]]] = h1 at le1 ⊢
    have t0 := gs (gs q0 (show 1 ≠ 0 by decide) (x := some (SV.int (k : Nat)))) (show 2 ≠ 0 by decide) (x := some (SV.str ps[k]))
    have t1 : ((s.set 1 (some (SV.int (k : Nat)))).set 2 (some (SV.str ps[k])))[1]? = some (some (.int (k : Nat))) := gs (gx len (by decide)) (by decide)
    have t2 : ((s.set 1 (some (SV.int (k : Nat)))).set 2 (some (SV.str ps[k])))[2]? = some (some (.str ps[k])) := gx (n := 3) (by simp [len]) (by decide)
    have tl : ((s.set 1 (some (SV.int (k : Nat)))).set 2 (some (SV.str ps[k]))).length = 3 := by simp [len]
    generalize ((s.set 1 (some (SV.int (k : Nat)))).set 2 (some (SV.str ps[k]))) = s1 at t0 t1 t2 tl ⊢
    refine Ist.ite (Is.bor (Is.bnot (Is.tru (Is.call (Is.acons (Is.var t2 (Is.anil (name_is eS (nm _ (List.getElem_mem hk)) fun h2 le2 => ?_))))))))
    refine tru_is ?_
    rw [if_neg (by decide)]
    have le3 := le1.trans le2
    refine Is.bm (Is.o2 (Is.var t2 (Is.cut (Is.var t0 (Is.pN (Is.pS (Is.var t1 ⟨_, rfl, A, _, rfl, le3 _ _ e, ?_⟩)))))))
    have ec : cutS (ps.map SV.str) none (some ((k : Nat) : Int)) = (ps.take k).map SV.str := by
      rw [cut_take _ _ (by simp; omega), List.map_take]
    rw [ec]
    refine inS (new_at _ _) ⟨_, rfl, ?_⟩
    have no : ps[k] ∉ ps.take k := fun hm => by
      obtain ⟨i, hi, ei⟩ := List.getElem_of_mem hm
      have hik : i < k := by simp at hi; omega
      have e1 : ps[i]? = some ps[k] := by rw [List.getElem?_eq_getElem (by omega), ← ei]; simp
      have := nd_ix ok.nd e1 ek
      omega
    rw [if_neg (by simpa using no)]
    exact Ist.nil ⟨tl, t0, le3.trans (Le.push _ _)⟩
  · rintro s h' ⟨len, q0, le⟩
    have w := wkEnum_end (le _ _ e)
    rw [List.length_map] at w
    exact ⟨w, p h' le⟩
/-- is_whole, is_between, _is_among, is_move -/
def wholeM (iI iB : Tag → Option Bool) : SM := mRet (mAnd (mO1 (opIsi iI) (mVar 0)) (mNot (mO1 (opIsi iB) (mVar 0))))
def betwM (iI iB : Tag → Option Bool) : SM := mRet (mAnd (mCall (mFn 1 1 (wholeM iI iB)) (aCons (mVar 0) aNil)) (mChain opLe opLe (mVar 1) (mVar 0) (mVar 2)))
def amongM (iS : Tag → Option Bool) : SM := mRet (mAnd (mO1 (opIsi iS) (mVar 0)) (mO2 (opIn false) (mVar 0) (mVar 1)))
theorem whole_is {iI iB : Tag → Option Bool} (eI : iI .int = some true) (eB : iB .int = some false) {i : Int} {h : SH} {P : SV → SH → Prop} (p : P (.bl true) h) : Is (mFn 1 1 (wholeM iI iB) [.int i] h) P := by
  refine Is.fn rfl ?_
  unfold wholeM
  exact Ist.ret (Is.andV (Is.o1 (Is.var (v := .int i) rfl (isi_t (t := .int) (b := true) rfl eI (.inl ⟨rfl, Is.notV (Is.o1 (Is.var (v := .int i) rfl (isi_t (t := .int) (b := false) rfl eB ⟨false, rfl, p⟩)))⟩)))))
theorem betw_is {iI iB : Tag → Option Bool} (eI : iI .int = some true) (eB : iB .int = some false) {i lo hi : Int} {h : SH} (h0 : lo ≤ i) (h1 : i ≤ hi) {P : SV → SH → Prop} (p : P (.bl true) h) : Is (mFn 3 3 (betwM iI iB) [.int i, .int lo, .int hi] h) P := by
  refine Is.fn rfl ?_
  unfold betwM
  refine Ist.ret (Is.andV (Is.call (Is.acons (Is.var (v := .int i) rfl (Is.anil (whole_is eI eB (.inl ⟨rfl, ?_⟩)))))))
  refine Is.chain (Is.var (v := .int lo) rfl (Is.var (v := .int i) rfl ⟨.bl true, h, ?_, .inl ⟨rfl, Is.var (v := .int hi) rfl ⟨.bl true, h, ?_, p⟩⟩⟩))
  · show some (SV.bl (decide (lo ≤ i)), h) = _
    rw [decide_eq_true h0]
  · show some (SV.bl (decide (i ≤ hi)), h) = _
    rw [decide_eq_true h1]
theorem among_is {iS : Tag → Option Bool} (eS : iS .str = some true) {A : Nat} {ps : List Str} {x : Str} {h : SH} (pl : Pls h A ps) (hx : x ∈ ps) {P : SV → SH → Prop} (p : P (.bl true) h) : Is (mFn 2 2 (amongM iS) [.str x, .ref A] h) P := by
  refine Is.fn rfl ?_
  unfold amongM
  refine Ist.ret (Is.andV (Is.o1 (Is.var (v := .str x) rfl (isi_t (t := .str) (b := true) rfl eS (.inl ⟨rfl, Is.o2 (Is.var (v := .str x) rfl (Is.var (v := .ref A) rfl (inS pl.at_ ?_)))⟩)))))
  rw [decide_eq_true hx]
  exact p
def moveM (iT iS iI iB : Tag → Option Bool) : SM := (mSeq (mIfS (bOr (bNot (mB (mO1 (opIsi iT) (mVar 0)))) (mB (mO2 (eqD true) (mOA (un1 opLen) (aCons (mVar 0) aNil)) (mC (.int 4))))) (mRet (mC (.bl false))) mNil) (mSeq (mAsg (gTupM 4 (gsCons (gVar 2) (gsCons (gVar 3) (gsCons (gVar 4) (gsCons (gVar 5) gsNil))))) (mVar 0)) (mSeq (mIfS (bOr (bNot (mTru (mCall (mFn 2 2 (amongM iS)) (aCons (mVar 2) (aCons (mVar 1) aNil))))) (bNot (mTru (mCall (mFn 2 2 (amongM iS)) (aCons (mVar 5) (aCons (mVar 1) aNil)))))) (mRet (mC (.bl false))) mNil) (mSeq (mIfS (bOr (bNot (mTru (mCall (mFn 3 3 (betwM iI iB)) (aCons (mVar 3) (aCons (mC (.int 0)) (aCons (mC (.int 8)) aNil)))))) (bNot (mTru (mCall (mFn 3 3 (betwM iI iB)) (aCons (mVar 4) (aCons (mO1 opNeg (mC (.int 4))) (aCons (mC (.int 4)) aNil))))))) (mRet (mC (.bl false))) mNil) (mRet (mChain opLe opLe (mC (.int 0)) (mO2 opAdd (mVar 3) (mVar 4)) (mC (.int 8))))))))
theorem Ist.asg {g : GM} {m : EM} {ss : SS} {h : SH} {N B C : SS → SH → Prop} {R : SV → SH → Prop} (x : Is (m ss h) fun v h1 => ∃ ss', g v ss h1 = some ss' ∧ N ss' h1) : Ist (mAsg g m ss h) N R B C := by
  refine Ist.then (x.mono fun v h1 ⟨ss', e, n⟩ => ?_)
  rw [e]; exact n
theorem neI {i j : Int} {h : SH} {P : SV → SH → Prop} (p : P (.bl (!decide (i = j))) h) : ∃ v h3, eqD true (.int i) (.int j) h = some (v, h3) ∧ P v h3 := by
  refine ⟨_, _, ?_, p⟩
  unfold eqD
  have e1 : dataOf 64 h (.int i) = some (.int i) := rfl
  have e2 : dataOf 64 h (.int j) = some (.int j) := rfl
  simp only [e1, e2, sh_int, ev_int, Bool.and_self, if_true]
theorem move_is {iT iS iI iB : Tag → Option Bool} (eT : iT .tup = some true) (eS : iS .str = some true) (eI : iI .int = some true) (eB : iB .int = some false) {A t : Nat} {ps : List Str} {m : Nm} {h : SH} (pl : Pls h A ps) (et : h[t]? = some m.so) (ok : m.Ok ps) {P : SV → SH → Prop} (p : P (.bl true) h) : Is (mFn 2 6 (moveM iT iS iI iB) [.ref t, .ref A] h) P := by
  refine Is.fn rfl ?_
  unfold moveM
  unfold Nm.so at et
  refine Ist.seq (Ist.ite (Is.bor (Is.bnot (Is.bm (Is.o1 (Is.var (v := .ref t) rfl (isi_t (t := .tup) (b := true) (tag_tup et) eT ⟨true, rfl, ?_⟩)))))))
  rw [if_neg (by decide)]
  refine Is.bm (Is.o2 (Is.oa (Is.acons (Is.var (v := .ref t) rfl (Is.anil (lenT_is et (Is.c (neI ⟨_, rfl, ?_⟩))))))))
  rw [if_neg (by simp)]
  refine Ist.nil (Ist.seq (Ist.asg (Is.var (v := .ref t) rfl ⟨_, g4_is et, ?_⟩)))
  refine Ist.seq (Ist.ite (Is.bor (Is.bnot (Is.tru (Is.call (Is.acons (Is.var (v := .str m.p) rfl (Is.acons (Is.var (v := .ref A) rfl (Is.anil (among_is eS pl ok.hp ?_)))))))))))
  refine tru_is ?_
  rw [if_neg (by decide)]
  refine Is.bnot (Is.tru (Is.call (Is.acons (Is.var (v := .str m.o) rfl (Is.acons (Is.var (v := .ref A) rfl (Is.anil (among_is eS pl ok.ho ?_))))))))
  refine tru_is ?_
  rw [if_neg (by decide)]
  refine Ist.nil (Ist.seq (Ist.ite (Is.bor (Is.bnot (Is.tru (Is.call (Is.acons (Is.var (v := .int m.l) rfl (Is.acons (Is.c (Is.acons (Is.c (Is.anil (betw_is eI eB ok.l0 ok.l8 ?_))))))))))))))
  refine tru_is ?_
  rw [if_neg (by decide)]
  refine Is.bnot (Is.tru (Is.call (Is.acons (Is.var (v := .int m.c) rfl (Is.acons (Is.o1 (Is.c ⟨.int (-4), h, rfl, Is.acons (Is.c (Is.anil (betw_is eI eB ok.c0 ok.c4 ?_)))⟩)))))))
  refine tru_is ?_
  rw [if_neg (by decide)]
  refine Ist.nil (Ist.ret (Is.chain (Is.c (Is.o2 (Is.var (v := .int m.l) rfl (Is.var (v := .int m.c) rfl ⟨_, _, rfl, .bl true, h, ?_, .inl ⟨rfl, Is.c ⟨.bl true, h, ?_, p⟩⟩⟩))))))
  · show some (SV.bl (decide ((0 : Int) ≤ m.l + m.c)), h) = _
    rw [decide_eq_true ok.e0]
  · show some (SV.bl (decide (m.l + m.c ≤ 8)), h) = _
    rw [decide_eq_true ok.e8]
end Fw
namespace Fw
open PySem PySem.Spec L2
def checkMM (iL iT iS iI iB : Tag → Option Bool) : SM := (mSeq (mIfS (bOr (bNot (mB (mO1 (opIsi iL) (mVar 0)))) (mB (mO2 opGt (mOA (un1 opLen) (aCons (mVar 0) aNil)) (mC (.int 10))))) (mRaise 2 1 (aCons (mVar 0) aNil)) mNil) (mFor (mWalk (mVar 0)) (gVar 2) (mIfS (bNot (mTru (mCall (mFn 2 6 (moveM iT iS iI iB)) (aCons (mVar 2) (aCons (mVar 1) aNil))))) (mRaise 3 1 (aCons (mVar 2) aNil)) mNil)))
structure Isis (iL iT iS iI iB : Tag → Option Bool) : Prop where
  L : iL .lst = some true
  T : iT .tup = some true
  S : iS .str = some true
  I : iI .int = some true
  B : iB .int = some false
theorem checkM_is {iL iT iS iI iB : Tag → Option Bool} (es : Isis iL iT iS iI iB) {h : SH} {A M : Nat} {ps : List Str} {ms : List Nm} (pl : Pls h A ps) (mv : Mvn h M ms) (mok : ∀ m ∈ ms, Nm.Ok ps m) (few : ms.length ≤ 10) {P : SV → SH → Prop} (p : P .non h) : Is (mFn 2 3 (checkMM iL iT iS iI iB) [.ref M, .ref A] h) P := by
  refine Is.fn rfl ?_
  unfold checkMM
  obtain ⟨ts, e, hts, z⟩ := mv
  refine Ist.seq (Ist.ite (Is.bor (Is.bnot (Is.bm (Is.o1 (Is.var (v := .ref M) rfl (isi_t (t := .lst) (b := true) (tag_lst e) es.L ⟨true, rfl, ?_⟩)))))))
  rw [if_neg (by decide)]
  refine Is.bm (Is.o2 (Is.oa (Is.acons (Is.var (v := .ref M) rfl (Is.anil (len_is e (Is.c ⟨_, _, rfl, _, rfl, ?_⟩)))))))
  rw [if_neg (by simp; omega)]
  refine Ist.nil (Ist.for (Is.walkL (Is.var (v := .ref M) rfl ⟨M, _, rfl, e, ts.length, fun k s h' => h' = h ∧ s.length = 3 ∧ s[1]? = some (some (.ref A)), by unfold many; omega, ⟨rfl, rfl, rfl⟩, ?_, ?_⟩)))
  · rintro k s _ hk ⟨rfl, len, q1⟩
    have ek : ts[k]? = some ts[k] := List.getElem?_eq_getElem hk
    obtain ⟨m, em, et⟩ := z k _ ek
    refine ⟨_, _, _, wkL_at e (by rw [List.getElem?_map, ek]; rfl), rfl, ?_⟩
    refine Ist.ite (Is.bnot (Is.tru (Is.call (Is.acons (Is.var (gx len (by decide)) (Is.acons (Is.var (gs q1 (by decide)) (Is.anil (move_is es.T es.S es.I es.B pl et (mok m (List.mem_of_getElem? em)) ?_)))))))))
    refine tru_is ?_
    rw [if_neg (by decide)]
    exact Ist.nil ⟨rfl, by simp [len], gs q1 (by decide)⟩
  · rintro s _ ⟨rfl, len, q1⟩
    have w := wkL_end e
    rw [List.length_map] at w
    exact ⟨w, p⟩
def programM (iL iT iS iI iB : Tag → Option Bool) (xA xW xT xC xP xM xK : List (Option Nat)) (cW : Nat) : SM := (mSeq (mDrop (mCall (mFn 1 3 (checkPM iL iS)) (aCons (mVar 1) aNil))) (mSeq (mDrop (mCall (mFn 2 3 (checkMM iL iT iS iI iB)) (aCons (mVar 2) (aCons (mVar 1) aNil)))) (mSeq (mFst xP (mOA (un1 opList) (aCons (mVar 1) aNil)) (mVar 0)) (mSeq (mFst xM (mOA (un1 opList) (aCons (mVar 2) aNil)) (mVar 0)) (mFst xK (mMake cW (mFn 3 10 (walksM xA xW xT xC)) (aCons (mO1 (opFld xP) (mVar 0)) (aCons (mO1 (opFld xM) (mVar 0)) aNil))) (mVar 0))))))
structure Ixs (xA xW xT xC xP xM xK : List (Option Nat)) (cW c : Nat) : Prop where
  A : xA[cW]? = some (some 0)
  W : xW[cW]? = some (some 1)
  T : xT[cW]? = some (some 2)
  C : xC[cW]? = some (some 3)
  P : xP[c]? = some (some 0)
  M : xM[c]? = some (some 1)
  K : xK[c]? = some (some 2)
/-- a program as it stands -/
structure Prog (h : SH) (c a lo : Nat) (ps : List Str) (ms : List Nm) : Prop where
  ex : ∃ P M W, h[a]? = some (.ins c [.ref P, .ref M, .ref W]) ∧ lo ≤ P ∧ lo ≤ M ∧ Pls h P ps ∧ Mvn h M ms
theorem program_is {iL iT iS iI iB : Tag → Option Bool} (es : Isis iL iT iS iI iB) {xA xW xT xC xP xM xK : List (Option Nat)} {cW c : Nat} (xs : Ixs xA xW xT xC xP xM xK cW c) {h0 : SH} {A M : Nat} {ps : List Str} {ms : List Nm} (pl : Pls h0 A ps) (mv : Mvn h0 M ms) (ok : PsOk ps) (nm : ∀ p ∈ ps, NmOk p) (mok : ∀ m ∈ ms, Nm.Ok ps m) (few : ms.length ≤ 10) :
    Is (mFn 3 3 (programM iL iT iS iI iB xA xW xT xC xP xM xK cW) [.ref h0.length, .ref A, .ref M] (h0 ++ [.ins c []])) fun v h' => v = .non ∧ Le h0 h' ∧ Prog h' c h0.length h0.length ps ms := by
  refine Is.fn rfl ?_
  unfold programM
  have n0 := new_at h0 (.ins c [])
  have l0 := Le.push h0 (.ins c [])
  generalize h0 ++ [SO.ins c []] = hA at n0 l0 ⊢
  refine Ist.seq (Ist.drop (Is.call (Is.acons (Is.var (v := .ref A) rfl (Is.anil ?_)))))
  refine checkP_is es.L es.S (pl.le l0) ok nm fun h1 l1 => ?_
  refine Ist.seq (Ist.drop (Is.call (Is.acons (Is.var (v := .ref M) rfl (Is.acons (Is.var (v := .ref A) rfl (Is.anil ?_)))))))
  refine checkM_is es ((pl.le l0).le l1) ((mv.le l0).le l1) mok few ?_
  have pl1 := (pl.le l0).le l1
  have mv1 := (mv.le l0).le l1
  have hlt := lt_of n0
  have hl1 := l1.len
  refine Ist.seq (Ist.fst (Is.oa (Is.acons (Is.var (v := .ref A) rfl (Is.anil (list_is pl1.at_ (Is.var (v := .ref h0.length) rfl (fst_is (Le.push _ _ _ _ (l1 _ _ n0)) xs.P rfl ?_))))))))
  have n2 : ((h1 ++ [SO.lst (ps.map SV.str)]).set h0.length (.ins c ([] ++ [.ref h1.length])))[h0.length]? = some (.ins c [.ref h1.length]) := set_at (Le.push _ _ _ _ (l1 _ _ n0))
  have p2 : Pls ((h1 ++ [SO.lst (ps.map SV.str)]).set h0.length (.ins c ([] ++ [.ref h1.length]))) h1.length ps := ⟨by rw [set_ne (by omega)]; exact new_at _ _⟩
  have le2 : Le h0 ((h1 ++ [SO.lst (ps.map SV.str)]).set h0.length (.ins c ([] ++ [.ref h1.length]))) := le_set ((l0.trans l1).trans (Le.push _ _)) (Nat.le_refl _)
  have ll2 : ((h1 ++ [SO.lst (ps.map SV.str)]).set h0.length (.ins c ([] ++ [.ref h1.length]))).length = h1.length + 1 := by simp
  generalize (h1 ++ [SO.lst (ps.map SV.str)]).set h0.length (SO.ins c ([] ++ [.ref h1.length])) = h2 at n2 p2 le2 ll2 ⊢
  obtain ⟨ts, eM, hts, z⟩ := mv.le le2
  refine Ist.seq (Ist.fst (Is.oa (Is.acons (Is.var (v := .ref M) rfl (Is.anil (list_is eM (Is.var (v := .ref h0.length) rfl (fst_is (Le.push _ _ _ _ n2) xs.M rfl ?_))))))))
  have n3 : ((h2 ++ [SO.lst (ts.map SV.ref)]).set h0.length (.ins c ([.ref h1.length] ++ [.ref h2.length])))[h0.length]? = some (.ins c [.ref h1.length, .ref h2.length]) := set_at (Le.push _ _ _ _ n2)
  have p3 : Pls ((h2 ++ [SO.lst (ts.map SV.ref)]).set h0.length (.ins c ([.ref h1.length] ++ [.ref h2.length]))) h1.length ps := ⟨by rw [set_ne (by omega)]; exact Le.push _ _ _ _ p2.at_⟩
  have le3 : Le h0 ((h2 ++ [SO.lst (ts.map SV.ref)]).set h0.length (.ins c ([.ref h1.length] ++ [.ref h2.length]))) := le_set (le2.trans (Le.push _ _)) (Nat.le_refl _)
  have m3 : Mvn ((h2 ++ [SO.lst (ts.map SV.ref)]).set h0.length (.ins c ([.ref h1.length] ++ [.ref h2.length]))) h2.length ms := ⟨ts, by rw [set_ne (by omega)]; exact new_at _ _, hts, fun i t et => by
    obtain ⟨m, a, b⟩ := z i t et
    have nt : h0.length ≠ t := fun w => by rw [← w, n2] at b; cases b
    exact ⟨m, a, by rw [set_ne nt]; exact Le.push _ _ _ _ b⟩⟩
  generalize (h2 ++ [SO.lst (ts.map SV.ref)]).set h0.length (SO.ins c ([.ref h1.length] ++ [.ref h2.length])) = h3 at n3 p3 le3 m3 ⊢
  refine Ist.fst (Is.make (Is.acons (Is.o1 (Is.var (v := .ref h0.length) rfl (fld_is n3 xs.P rfl (Is.acons (Is.o1 (Is.var (v := .ref h0.length) rfl (fld_is n3 xs.M rfl (Is.anil ?_))))))))))
  refine (walks_is xs.A xs.W xs.T xs.C p3 m3 ok mok few).mono fun v h4 ⟨ev, l4, vs, ew⟩ => ⟨ev, ?_⟩
  have n4 := l4 _ _ n3
  refine Is.var (v := .ref h0.length) rfl (fst_is n4 xs.K rfl ⟨rfl, le_set (le3.trans l4) (Nat.le_refl _), _, _, _, set_at n4, by omega, by omega, ⟨?_⟩, ?_⟩)
  · rw [set_ne (fun w => by have q := (p3.le l4).at_; rw [← w, n4] at q; cases q)]
    exact (p3.le l4).at_
  · obtain ⟨us, e, hu, zz⟩ := m3.le l4
    refine ⟨us, by rw [set_ne (fun w => by rw [← w, n4] at e; cases e)]; exact e, hu, fun i t et => ?_⟩
    obtain ⟨m, a, b⟩ := zz i t et
    exact ⟨m, a, by rw [set_ne (fun w => by rw [← w, n4] at b; cases b)]; exact b⟩
end Fw
namespace Fw
open PySem PySem.Spec L2
/-! ### drawn moves, places, programs -/
theorem bits100 {n : Int} (h0 : 0 < n) (h1 : n ≤ 100) : n.natAbs.log2 < 9000 ∧ Builtin.Int.intBits n < 100000 := by
  refine ⟨?_, ?_⟩
  · have : n.natAbs.log2 < 8 := (Nat.log2_lt (by omega)).mpr (by omega)
    omega
  · obtain ⟨k, rfl⟩ := Int.eq_ofNat_of_zero_le (Int.le_of_lt h0)
    have hk : k ≤ 100 := by omega
    have : ∀ k : Fin 101, Builtin.Int.intBits ((k.1 : Nat) : Int) < 100000 := by decide +kernel
    exact this ⟨k, by omega⟩
theorem draw100 {h : SH} {g : Nat} {B n : Int} (G : GenOk h g B) (hB : B ≤ 1000000000) (h0 : 0 < n) (h1 : n ≤ 100) {P : SV → SH → Prop}
    (p : ∀ r h', 0 ≤ r → r < n → Kp g h h' → h'.length = h.length → GenOk h' g (B + 4000) → P (.int r) h') : Is (mFn 2 4 randM [.ref g, .int n] h) P :=
  draw G (by omega) h0 (bits100 h0 h1).1 (bits100 h0 h1).2 p
/-- one of a list, drawn: the list stands or is made just now -/
theorem pickR {h : SH} {g j : Nat} {B n : Int} {xs : List SV} {ss : SS} {mb : AM} (G : GenOk h g B) (hB : B ≤ 900000000) (hn : n = xs.length) (h0 : 0 < n) (h1 : n ≤ 100) {m : EM} (hm : Is (m ss h) fun v h1 => ∃ j, v = .ref j ∧ j ≠ g ∧ Le h h1 ∧ h1[j]? = some (.lst xs) ∧ Is (mb ss h1) fun vs h2 => vs = [.ref g, .int n] ∧ h2 = h1) {P : SV → SH → Prop}
    (p : ∀ x h', x ∈ xs → Kp g h h' → h.length ≤ h'.length → GenOk h' g (B + 4000) → P x h') : Is (mO2 opIx m (mCall (mFn 2 4 randM) mb) ss h) P := by
  refine Is.o2 (hm.mono fun v h2 ⟨j, ev, nj, l, e, hb⟩ => ?_)
  subst ev
  refine Is.call (hb.mono fun vs h3 ⟨ev, eh⟩ => ?_)
  subst ev; subst eh
  refine draw100 (G.le l (Int.le_refl _)) (by omega) h0 h1 fun r h3 r0 r1 kp hl G3 => ?_
  obtain ⟨x, ex, mx⟩ := atI_mem r0 (by rw [← hn]; exact r1)
  refine ix_is (kp _ _ nj e) ex (p x h3 mx ((Le.kp l).trans kp) ?_ G3)
  have := l.len
  omega
def lawMoveM : SM := (mSeq (mSet 3 (mO2 opSub (mCall (mFn 2 4 randM) (aCons (mVar 0) (aCons (mO2 opAdd (mO2 opMul (mC (.int 2)) (mVar 2)) (mC (.int 1))) aNil))) (mVar 2))) (mSeq (mSet 4 (mOA (bin2 opMax) (aCons (mC (.int 0)) (aCons (mO2 opSub (mC (.int 0)) (mVar 3)) aNil)))) (mSeq (mSet 5 (mO2 opAdd (mVar 4) (mO2 opIx (mOA opLst (aCons (mC (.int 0)) (aCons (mC (.int 0)) (aCons (mC (.int 0)) (aCons (mC (.int 1)) (aCons (mC (.int 2)) (aCons (mC (.int 4)) aNil))))))) (mCall (mFn 2 4 randM) (aCons (mVar 0) (aCons (mC (.int 6)) aNil)))))) (mSeq (mIfS (bOr (mB (mO2 opGt (mO2 opAdd (mVar 5) (mVar 3)) (mC (.int 8)))) (mB (mO2 opGt (mVar 5) (mC (.int 8))))) (mSet 5 (mVar 4)) mNil) (mSeq (mPar 6 7 (aCons (mO2 opIx (mVar 1) (mCall (mFn 2 4 randM) (aCons (mVar 0) (aCons (mOA (un1 opLen) (aCons (mVar 1) aNil)) aNil)))) (aCons (mO2 opIx (mVar 1) (mCall (mFn 2 4 randM) (aCons (mVar 0) (aCons (mOA (un1 opLen) (aCons (mVar 1) aNil)) aNil)))) aNil))) (mRet (mOA opTup (aCons (mVar 6) (aCons (mVar 5) (aCons (mVar 3) (aCons (mVar 7) aNil)))))))))))
theorem Ist.par {N B C : SS → SH → Prop} {R : SV → SH → Prop} {i j : Nat} {m : AM} {ss : SS} {h : SH} (x : Is (m ss h) fun vs h1 => ∃ v w, vs = [v, w] ∧ N ((ss.set i (some v)).set j (some w)) h1) : Ist (mPar i j m ss h) N R B C := Ist.then (x.mono fun vs h1 y => by
  obtain ⟨v, w, rfl, n⟩ := y; exact n)
theorem move_draw {g A : Nat} {h : SH} {B most : Int} {ps : List Str} (G : GenOk h g B) (hB : B ≤ 800000000) (pl : Pls h A ps) (ng : A ≠ g) (o1 : 1 ≤ ps.length) (o4 : ps.length ≤ 4) (m0 : 0 ≤ most) (m4 : most ≤ 4) {P : SV → SH → Prop}
    (p : ∀ h' t m, Kp g h h' → h.length ≤ h'.length → GenOk h' g (B + 16000) → h'[t]? = some (Nm.so m) → m.Ok ps → h.length ≤ t → P (.ref t) h') : Is (mFn 3 8 lawMoveM [.ref g, .ref A, .int most] h) P := by
  refine Is.fn rfl ?_
  unfold lawMoveM
  refine Ist.seq (Ist.set (Is.o2 (Is.call (Is.acons (Is.var (v := .ref g) rfl (Is.acons (Is.o2 (Is.o2 (Is.c (Is.var (v := .int most) rfl (mul_is (okMul_l (by decide) (by decide)) (Is.c ⟨_, _, rfl, Is.anil ?_⟩))))))))))))
  refine draw100 G (by omega) (by omega) (by omega) fun r h1 r0 r1 kp1 l1 G1 => ?_
  refine Is.var (v := .int most) rfl ⟨_, _, rfl, ?_⟩
  refine Ist.seq (Ist.set (Is.oa (Is.acons (Is.c (Is.acons (Is.o2 (Is.c (Is.var (v := .int (r - most)) rfl ⟨_, _, rfl, Is.anil ⟨_, _, rfl, ?_⟩⟩))))))))
  have elow : ∃ low : Int, (if 0 - (r - most) > 0 then 0 - (r - most) else 0) = low ∧ 0 ≤ low ∧ low ≤ 4 ∧ 0 ≤ low + (r - most) ∧ (low + (r - most) ≤ 4) := by
    by_cases hc : 0 - (r - most) > 0
    · exact ⟨_, if_pos hc, by omega, by omega, by omega, by omega⟩
    · exact ⟨_, if_neg hc, by omega, by omega, by omega, by omega⟩
  obtain ⟨low, el, w0, w1, w2, w3⟩ := elow
  rw [el]
  refine Ist.seq (Ist.set (Is.o2 (Is.var (v := .int low) rfl ?_)))
  have hg1 : g < h1.length := by obtain ⟨_, e⟩ := G1.at; exact lt_of e
  refine pickR (j := 0) (n := 6) (xs := [.int 0, .int 0, .int 0, .int 1, .int 2, .int 4]) G1 (by omega) rfl (by decide) (by decide) (Is.oa (Is.acons (Is.c (Is.acons (Is.c (Is.acons (Is.c (Is.acons (Is.c (Is.acons (Is.c (Is.acons (Is.c (Is.anil (lst_is (small_big (by simp)) ⟨_, rfl, by omega, Le.push _ _, new_at _ _, Is.acons (Is.var (v := .ref g) rfl (Is.acons (Is.c (Is.anil ⟨rfl, rfl⟩))))⟩))))))))))))))) fun x h2 mx kp2 l2 G2 => ?_
  have hx : ∃ e : Int, x = .int e ∧ 0 ≤ e ∧ e ≤ 4 := by
    simp only [List.mem_cons, List.not_mem_nil, or_false] at mx
    rcases mx with rfl | rfl | rfl | rfl | rfl | rfl <;> exact ⟨_, rfl, by decide, by decide⟩
  obtain ⟨e, rfl, e0, e4⟩ := hx
  refine ⟨_, _, rfl, ?_⟩
  have rest : ∀ (s : SS) (l : Int), s.length = 8 → s[0]? = some (some (.ref g)) → s[1]? = some (some (.ref A)) → s[3]? = some (some (.int (r - most))) → s[5]? = some (some (.int l)) → 0 ≤ l → l ≤ 8 → 0 ≤ l + (r - most) → l + (r - most) ≤ 8 →
      Ist ((mSeq (mPar 6 7 (aCons (mO2 opIx (mVar 1) (mCall (mFn 2 4 randM) (aCons (mVar 0) (aCons (mOA (un1 opLen) (aCons (mVar 1) aNil)) aNil)))) (aCons (mO2 opIx (mVar 1) (mCall (mFn 2 4 randM) (aCons (mVar 0) (aCons (mOA (un1 opLen) (aCons (mVar 1) aNil)) aNil)))) aNil))) (mRet (mOA opTup (aCons (mVar 6) (aCons (mVar 5) (aCons (mVar 3) (aCons (mVar 7) aNil))))))) s h2) (fun _ h => P .non h) P (fun _ _ => False) (fun _ _ => False) := fun s l sl t0 t1 t3 t5 b0 b1 b2 b3 => by
    have kp12 := kp1.trans kp2
    have pl2 : Pls h2 A ps := ⟨kp12 _ _ ng pl.at_⟩
    have once : ∀ {hh : SH} {B' : Int} {Q : SV → SH → Prop}, GenOk hh g B' → B' ≤ 900000000 → Pls hh A ps → (∀ x h', x ∈ ps.map SV.str → Kp g hh h' → hh.length ≤ h'.length → GenOk h' g (B' + 4000) → Q x h') → Is (mO2 opIx (mVar 1) (mCall (mFn 2 4 randM) (aCons (mVar 0) (aCons (mOA (un1 opLen) (aCons (mVar 1) aNil)) aNil))) s hh) Q := fun {hh B' Q} G' hB' pl' q =>
      pickR (j := 0) (n := ((ps.map SV.str).length : Nat)) (xs := ps.map SV.str) G' hB' rfl (by simp; omega) (by simp; omega) (Is.var t1 ⟨A, rfl, ng, Le.refl _, pl'.at_, Is.acons (Is.var t0 (Is.acons (Is.oa (Is.acons (Is.var t1 (Is.anil (len_is pl'.at_ (Is.anil ⟨rfl, rfl⟩))))))))⟩) q
    refine Ist.seq (Ist.par (Is.acons (once G2 (by omega) pl2 fun x h3 mx kp3 l3 G3 => ?_)))
    refine Is.acons (once G3 (by omega) ⟨kp3 _ _ ng pl2.at_⟩ fun y h4 my kp4 l4 G4 => Is.anil ⟨x, y, rfl, ?_⟩)
    obtain ⟨px, hpx, rfl⟩ := List.mem_map.mp mx
    obtain ⟨py, hpy, rfl⟩ := List.mem_map.mp my
    refine Ist.ret (Is.oa (Is.acons (Is.var (gs (gx sl (by decide)) (by decide)) (Is.acons (Is.var (gs (gs t5 (by decide)) (by decide)) (Is.acons (Is.var (gs (gs t3 (by decide)) (by decide)) (Is.acons (Is.var (gx (n := 8) (by simp [sl]) (by decide)) (Is.anil (tup_is (small_big (by simp)) ?_)))))))))))
    refine p _ h4.length ⟨px, l, r - most, py⟩ (((kp12.trans kp3).trans kp4).trans (Le.kp (Le.push _ _))) (by simp; omega) (G4.le (Le.push _ _) (by omega)) (new_at _ _) ⟨hpx, hpy, b0, b1, by show -4 ≤ r - most; omega, by show r - most ≤ 4; omega, b2, b3⟩ (by omega)
  refine Ist.seq (Ist.ite (Is.bor (Is.bm (Is.o2 (Is.o2 (Is.var (v := .int (low + e)) rfl (Is.var (v := .int (r - most)) rfl ⟨_, _, rfl, Is.c ⟨_, _, rfl, _, rfl, ?_⟩⟩)))))))
  by_cases c1 : 8 < low + e + (r - most)
  · rw [if_pos (decide_eq_true c1), if_pos rfl]
    exact Ist.set (Is.var (v := .int low) rfl (rest _ low rfl rfl rfl rfl rfl w0 (by omega) w2 (by omega)))
  · rw [if_neg (by simpa using c1)]
    refine Is.bm (Is.o2 (Is.var (v := .int (low + e)) rfl (Is.c ⟨_, _, rfl, _, rfl, ?_⟩)))
    by_cases c2 : 8 < low + e
    · rw [if_pos (decide_eq_true c2)]
      exact Ist.set (Is.var (v := .int low) rfl (rest _ low rfl rfl rfl rfl rfl w0 (by omega) w2 (by omega)))
    · rw [if_neg (by simpa using c2)]
      exact Ist.nil (rest _ (low + e) rfl rfl rfl rfl rfl (by omega) (by omega) (by omega) (by omega))
end Fw
namespace Fw
open PySem PySem.Spec L2
def lawPartsM : SM := (mSeq (mSet 4 (mCut (mOA opLst (aCons (mC (.str "up")) (aCons (mC (.str "down")) (aCons (mC (.str "mid")) (aCons (mC (.str "low")) aNil))))) pNone (pSome (mO2 opAdd (mC (.int 1)) (mCall (mFn 2 4 randM) (aCons (mVar 0) (aCons (mVar 1) aNil))))))) (mSeq (mSet 5 (mOA opLst aNil)) (mSeq (mFor (mRng1 (aCons (mCall (mFn 2 4 randM) (aCons (mVar 0) (aCons (mO2 opAdd (mVar 2) (mC (.int 1))) aNil))) aNil)) (gVar 6) (mDrop (mBm opAppend (mVar 5) (aCons (mCall (mFn 3 8 lawMoveM) (aCons (mVar 0) (aCons (mVar 4) (aCons (mVar 3) aNil)))) aNil)))) (mRet (mOA opLst (aCons (mVar 4) (aCons (mVar 5) aNil)))))))
def four : List Str := ["up", "down", "mid", "low"]
theorem four_ok {k : Nat} (h1 : 1 ≤ k) (h4 : k ≤ 4) : PsOk (four.take k) ∧ ∀ p ∈ four.take k, NmOk p := by
  have nm : ∀ p ∈ four, NmOk p := by
    have d : ∀ p ∈ four, (1 ≤ p.length ∧ p.length ≤ 8) ∧ p.cps.toList.all (fun c => decide (97 ≤ c ∧ c ≤ 122)) = true := by decide +kernel
    intro p hp
    obtain ⟨⟨a, b⟩, c⟩ := d p hp
    refine ⟨a, b, fun x hx => ?_⟩
    have := List.all_eq_true.mp c x (by simpa using hx)
    simpa using this
  refine ⟨⟨?_, ?_, ?_⟩, fun p hp => nm p (List.mem_of_mem_take hp)⟩
  · have : four.length = 4 := rfl
    rw [List.length_take]; omega
  · have : four.length = 4 := rfl
    rw [List.length_take]; omega
  · have nd : four.Nodup := by decide +kernel
    exact nd.sublist (List.take_sublist _ _)
/-- the two lists that a program is made of, in a list -/
structure Parts (h : SH) (t lo : Nat) (ps : List Str) (ms : List Nm) : Prop where
  ex : ∃ A M, h[t]? = some (.lst [.ref A, .ref M]) ∧ lo ≤ A ∧ lo ≤ M ∧ lo ≤ t ∧ Pls h A ps ∧ Mvn h M ms
  ok : PsOk ps
  nm : ∀ p ∈ ps, NmOk p
  mok : ∀ m ∈ ms, Nm.Ok ps m
  few : ms.length ≤ 10
  fr : ∀ p ∈ ps, p ∈ four
theorem Parts.le {h h' : SH} {t lo : Nat} {ps : List Str} {ms : List Nm} (x : Parts h t lo ps ms) (l : Le h h') : Parts h' t lo ps ms := by
  obtain ⟨⟨A, M, e, a, b, c, d, f⟩, g1, g2, g3, g4, g5⟩ := x
  exact ⟨⟨A, M, l _ _ e, a, b, c, d.le l, f.le l⟩, g1, g2, g3, g4, g5⟩
theorem Parts.kp {h h' : SH} {t lo g : Nat} {ps : List Str} {ms : List Nm} {gl : List SV} (x : Parts h t lo ps ms) (k : Kp g h h') (hg : g < lo) (eg : h[g]? = some (.lst gl)) : Parts h' t lo ps ms := by
  obtain ⟨⟨A, M, e, a, b, c, d, us, f1, f2, f3⟩, g1, g2, g3, g4, g5⟩ := x
  refine ⟨⟨A, M, k _ _ (by omega) e, a, b, c, ⟨k _ _ (by omega) d.at_⟩, us, k _ _ (by omega) f1, f2, fun i t et => ?_⟩, g1, g2, g3, g4, g5⟩
  obtain ⟨m, h1, h2⟩ := f3 i t et
  exact ⟨m, h1, k _ _ (fun w => by rw [w, eg] at h2; cases h2) h2⟩
theorem parts_draw {g : Nat} {h : SH} {B : Int} (G : GenOk h g B) (hB : B ≤ 700000000) {P : SV → SH → Prop}
    (p : ∀ h' t ps ms, Kp g h h' → h.length ≤ h'.length → GenOk h' g (B + 200000) → Parts h' t h.length ps ms → P (.ref t) h') : Is (mFn 4 7 lawPartsM [.ref g, .int 4, .int 10, .int 4] h) P := by
  refine Is.fn rfl ?_
  unfold lawPartsM
  have hg : g < h.length := by obtain ⟨_, e⟩ := G.at; exact lt_of e
  refine Ist.seq (Ist.set (Is.cut (Is.oa (Is.acons (Is.c (Is.acons (Is.c (Is.acons (Is.c (Is.acons (Is.c (Is.anil (lst_is (small_big (by simp)) (Is.pN (Is.pS (Is.o2 (Is.c (Is.call (Is.acons (Is.var (v := .ref g) rfl (Is.acons (Is.var (v := .int 4) rfl (Is.anil ?_)))))))))))))))))))))))
  have l1 := Le.push h (.lst [.str "up", .str "down", .str "mid", .str "low"])
  have n1 := new_at h (.lst [.str "up", .str "down", .str "mid", .str "low"])
  have hl1 : (h ++ [SO.lst [.str "up", .str "down", .str "mid", .str "low"]]).length = h.length + 1 := by simp
  refine draw100 (G.le l1 (Int.le_refl _)) (by omega) (by decide) (by decide) fun r h2 r0 r1 kp2 l2 G2 => ?_
  refine ⟨.int (1 + r), h2, rfl, 1 + r, rfl, h.length, [.str "up", .str "down", .str "mid", .str "low"], rfl, kp2 _ _ (by omega) n1, ?_⟩
  obtain ⟨k, hk, k1, k4⟩ : ∃ k : Nat, 1 + r = (k : Int) ∧ 1 ≤ k ∧ k ≤ 4 := ⟨(1 + r).toNat, by omega, by omega, by omega⟩
  rw [hk]
  have ec : cutS [SV.str "up", .str "down", .str "mid", .str "low"] none (some ((k : Nat) : Int)) = (four.take k).map SV.str := by
    rw [cut_take _ _ (by simpa using k4), List.map_take]; rfl
  rw [ec]
  obtain ⟨pok, pnm⟩ := four_ok k1 k4
  have pfr : ∀ p ∈ four.take k, p ∈ four := fun p hp => List.mem_of_mem_take hp
  generalize four.take k = ps at pok pnm pfr ⊢
  have l3 := Le.push h2 (.lst (ps.map SV.str))
  have n3 := new_at h2 (.lst (ps.map SV.str))
  have kp3 := ((Le.kp (g := g) l1).trans kp2).trans (Le.kp l3)
  have hl3 : (h2 ++ [SO.lst (ps.map SV.str)]).length = h2.length + 1 := by simp
  have G3 := G2.le l3 (Int.le_refl _)
  generalize h2 ++ [SO.lst (ps.map SV.str)] = h3 at l3 n3 kp3 hl3 G3 ⊢
  refine Ist.seq (Ist.set (Is.oa (Is.anil (lst_is (small_big (by simp)) ?_))))
  have l4 := Le.push h3 (.lst [])
  have n4 := new_at h3 (.lst [])
  have n34 := l4 _ _ n3
  have kp4 := kp3.trans (Le.kp l4)
  have hl4 : (h3 ++ [SO.lst []]).length = h3.length + 1 := by simp
  have G4 := G3.le l4 (Int.le_refl _)
  generalize h3 ++ [SO.lst []] = h4 at l4 n4 n34 kp4 hl4 G4 ⊢
  refine Ist.seq (Ist.for (Is.rng1 (Is.acons (Is.call (Is.acons (Is.var (v := .ref g) rfl (Is.acons (Is.o2 (Is.var (v := .int 10) rfl (Is.c ⟨_, _, rfl, Is.anil ?_⟩))))))))))
  refine draw100 G4 (by omega) (by decide) (by decide) fun q h5 q0 q1 kp5 l5 G5 => ?_
  have e45 := kp5 _ _ (by omega) n4
  have e35 := kp5 _ _ (by omega) n34
  refine Is.anil ⟨q, rfl, decide_eq_true (by omega), q.toNat, fun j s hh => s.length = 7 ∧ s[0]? = some (some (.ref g)) ∧ s[3]? = some (some (.int 4)) ∧ s[4]? = some (some (.ref h2.length)) ∧ s[5]? = some (some (.ref h3.length)) ∧ Kp g h hh ∧ h4.length ≤ hh.length ∧ GenOk hh g (B + 8000 + 16000 * j) ∧ hh[h2.length]? = some (.lst (ps.map SV.str)) ∧
      ∃ (ts : List Nat) (ms : List Nm), hh[h3.length]? = some (.lst (ts.map SV.ref)) ∧ ts.length = j ∧ ts.length = ms.length ∧ (∀ m ∈ ms, Nm.Ok ps m) ∧ ∀ (i t : Nat), ts[i]? = some t → h4.length ≤ t ∧ ∃ m, ms[i]? = some m ∧ hh[t]? = some (Nm.so m), by unfold many; omega, ⟨rfl, rfl, rfl, rfl, rfl, kp4.trans kp5, by omega, G5.le (Le.refl _) (by omega), e35, [], [], e45, rfl, rfl, fun _ z => (nomatch z), fun i t e => by simp at e⟩, ?_, ?_⟩
  · rintro j s hh hj ⟨len, t0, t3, t4, t5, kp, lh, GG, eps, ts, ms, ets, hj1, hj2, mok, zz⟩
    refine ⟨_, _, _, wkRng_at hj, rfl, ?_⟩
    have pl : Pls hh h2.length ps := ⟨eps⟩
    refine Ist.drop (Is.bmL (Is.var (gs t5 (by decide)) ⟨lstB ets, Is.acons (Is.call (Is.acons (Is.var (gs t0 (by decide)) (Is.acons (Is.var (gs t4 (by decide)) (Is.acons (Is.var (gs t3 (by decide)) (Is.anil ?_))))))))⟩))
    refine move_draw GG (by omega) pl (by omega) pok.one pok.four (by decide) (by decide) fun h6 t m kp6 l6 G6 et mo ht => ?_
    have e6 := kp6 _ _ (by omega) ets
    refine Is.anil (app_is e6 (small_lt (by simp; omega)) ⟨by simp [len], gs t0 (by decide), gs t3 (by decide), gs t4 (by decide), gs t5 (by decide), ?_, by simp; omega, ?_, ?_, ts ++ [t], ms ++ [m], by rw [set_at e6]; simp, by simp [hj1], by simp [hj2], ?_, ?_⟩)
    · intro i o ni ei
      have hi := lt_of ei
      rw [set_ne (by omega)]
      exact kp6 _ _ ni (kp i o ni ei)
    · obtain ⟨a, b, c, e, c1, c2, c3⟩ := G6
      exact ⟨a, b, c, by rw [set_ne (by omega)]; exact e, c1, c2, by omega⟩
    · rw [set_ne (by omega)]; exact kp6 _ _ (by omega) eps
    · intro m' hm'
      rcases List.mem_append.mp hm' with hm' | hm'
      · exact mok m' hm'
      · rw [List.mem_singleton.mp hm']; exact mo
    · intro i u eu
      by_cases hi : i < ts.length
      · rw [List.getElem?_append_left hi] at eu
        obtain ⟨a, m', b, c⟩ := zz i u eu
        exact ⟨a, m', by rw [List.getElem?_append_left (by omega)]; exact b, by rw [set_ne (by omega)]; exact kp6 _ _ (by omega) c⟩
      · have hi2 : i = ts.length := by have := (List.getElem?_eq_some_iff.mp eu).1; simp at this; omega
        subst hi2
        rw [List.getElem?_append_right (Nat.le_refl _)] at eu
        simp at eu
        subst eu
        exact ⟨by omega, m, by rw [hj2, List.getElem?_append_right (Nat.le_refl _)]; simp, by rw [set_ne (by omega)]; exact et⟩
  · rintro s hh ⟨len, t0, t3, t4, t5, kp, lh, GG, eps, ts, ms, ets, hj1, hj2, mok, zz⟩
    refine ⟨wkRng_end, Ist.ret (Is.oa (Is.acons (Is.var t4 (Is.acons (Is.var t5 (Is.anil (lst_is (small_big (by simp)) ?_)))))))⟩
    have l7 := Le.push hh (.lst [.ref h2.length, .ref h3.length])
    refine p _ hh.length ps ms (kp.trans (Le.kp l7)) (by simp; omega) (GG.le l7 (by omega)) ⟨⟨_, _, new_at _ _, by omega, by omega, by omega, ⟨l7 _ _ eps⟩, ts, l7 _ _ ets, hj2, fun i t e => ?_⟩, pok, pnm, mok, by omega, pfr⟩
    obtain ⟨a, m, b, c⟩ := zz i t e
    exact ⟨m, b, l7 _ _ c⟩
end Fw
namespace Fw
open PySem PySem.Spec L2
def lawProgramM (iL iT iS iI iB : Tag → Option Bool) (xA xW xT xC xP xM xK : List (Option Nat)) (cW c : Nat) : SM := (mRet (mMake c (mFn 3 3 (programM iL iT iS iI iB xA xW xT xC xP xM xK cW)) (aCons (mOA (un1 opList) (aCons (mO2 opIx (mVar 0) (mC (.int 0))) aNil)) (aCons (mOA (un1 opList) (aCons (mO2 opIx (mVar 0) (mC (.int 1))) aNil)) aNil))))
theorem lawProgram_is {iL iT iS iI iB : Tag → Option Bool} (es : Isis iL iT iS iI iB) {xA xW xT xC xP xM xK : List (Option Nat)} {cW c : Nat} (xs : Ixs xA xW xT xC xP xM xK cW c) {h : SH} {t lo : Nat} {ps : List Str} {ms : List Nm} (pt : Parts h t lo ps ms) {P : SV → SH → Prop}
    (p : ∀ h' a, Le h h' → h.length ≤ a → Prog h' c a h.length ps ms → P (.ref a) h') : Is (mFn 1 1 (lawProgramM iL iT iS iI iB xA xW xT xC xP xM xK cW c) [.ref t] h) P := by
  refine Is.fn rfl ?_
  unfold lawProgramM
  obtain ⟨⟨A, M, e, a, b, cc, pl, mv⟩, ok, nm, mok, few, fr⟩ := pt
  refine Ist.ret (Is.make (Is.acons (Is.oa (Is.acons (Is.o2 (Is.var (v := .ref t) rfl (Is.c (ix_is e rfl (Is.anil (list_is pl.at_ ?_))))))))))
  have l1 := Le.push h (.lst (ps.map SV.str))
  have n1 := new_at h (.lst (ps.map SV.str))
  have hl1 : (h ++ [SO.lst (ps.map SV.str)]).length = h.length + 1 := by simp
  generalize h ++ [SO.lst (ps.map SV.str)] = h1 at l1 n1 hl1 ⊢
  obtain ⟨ts, eM, hts, z⟩ := mv.le l1
  refine Is.acons (Is.oa (Is.acons (Is.o2 (Is.var (v := .ref t) rfl (Is.c (ix_is (l1 _ _ e) rfl (Is.anil (list_is eM ?_))))))))
  have l2 := Le.push h1 (.lst (ts.map SV.ref))
  have n2 := new_at h1 (.lst (ts.map SV.ref))
  have hl2 : (h1 ++ [SO.lst (ts.map SV.ref)]).length = h1.length + 1 := by simp
  have mv2 : Mvn (h1 ++ [SO.lst (ts.map SV.ref)]) h1.length ms := ⟨ts, n2, hts, fun i u eu => let ⟨m, x, y⟩ := z i u eu; ⟨m, x, l2 _ _ y⟩⟩
  have pl2 : Pls (h1 ++ [SO.lst (ts.map SV.ref)]) h.length ps := ⟨l2 _ _ n1⟩
  have l12 := l1.trans l2
  generalize h1 ++ [SO.lst (ts.map SV.ref)] = h2 at l2 n2 hl2 mv2 pl2 l12 ⊢
  refine Is.anil ((program_is es xs pl2 mv2 ok nm mok few).mono fun v h3 ⟨ev, l3, pr⟩ => ⟨ev, p h3 _ (l12.trans l3) (by omega) ?_⟩)
  obtain ⟨P', M', W', e1, e2, e3, e4, e5⟩ := pr
  exact ⟨P', M', W', e1, by omega, by omega, e4, e5⟩
/-! ### rows -/
/-- one tuple of a pressed row -/
structure Pt where
  t : Int
  ns : List Int
def PtAt (h : SH) (a : Nat) (x : Pt) : Prop := ∃ b, h[a]? = some (.tup [.int x.t, .ref b]) ∧ h[b]? = some (.lst (x.ns.map SV.int))
structure Row (h : SH) (a : Nat) (r : List Pt) : Prop where
  ex : ∃ ts : List Nat, h[a]? = some (.lst (ts.map SV.ref)) ∧ ts.length = r.length ∧ ∀ (i t : Nat), ts[i]? = some t → ∃ x, r[i]? = some x ∧ PtAt h t x
theorem PtAt.le {h h' : SH} {a : Nat} {x : Pt} (p : PtAt h a x) (l : Le h h') : PtAt h' a x := let ⟨b, e, f⟩ := p; ⟨b, l _ _ e, l _ _ f⟩
theorem Row.le {h h' : SH} {a : Nat} {r : List Pt} (x : Row h a r) (l : Le h h') : Row h' a r := by
  obtain ⟨ts, e, hl, z⟩ := x
  exact ⟨ts, l _ _ e, hl, fun i t et => let ⟨y, a, b⟩ := z i t et; ⟨y, a, b.le l⟩⟩
/-- where the moves one behind the other lead, from a place; none: they do not hang together -/
def walkN (ms : List Nm) : Str → List Int → Option Str
  | p, [] => some p
  | p, n :: ns => if 0 ≤ n then match ms[n.toNat]? with
    | some m => if m.p = p then walkN ms m.o ns else none
    | none => none
    else none
/-- .. of a row of rounds -/
def walkR (ms : List Nm) : Str → List Pt → Option Str
  | p, [] => some p
  | p, x :: r => if 1 ≤ x.t ∧ x.ns ≠ [] then match walkN ms p x.ns with
    | some q => if 1 < x.t → q = p then walkR ms q r else none
    | none => none
    else none
end Fw
namespace Fw
open PySem PySem.Spec L2
theorem NmOk.ok {z : Str} (n : NmOk z) : PyData.strOk z = true := by
  unfold PyData.strOk
  rw [Array.all_eq_true_iff_forall_mem]
  exact fun c hc => decide_eq_true (by have := n.az c hc; omega)
theorem ev_str (x y : Str) : PyData.eqv (.str x) (.str y) = decide (x = y) := by
  rw [PyData.eqv]
  by_cases h : x = y
  · rw [decide_eq_true h, h]; exact beq_self_eq_true y
  · rw [decide_eq_false h]; simpa using h
theorem eqStr {x y : Str} (hx : PyData.strOk x = true) (hy : PyData.strOk y = true) {h : SH} {P : SV → SH → Prop} {neg : Bool} (p : P (.bl (if neg then !decide (x = y) else decide (x = y))) h) : ∃ v h3, eqD neg (.str x) (.str y) h = some (v, h3) ∧ P v h3 := by
  refine ⟨_, _, ?_, p⟩
  unfold eqD
  have e1 : dataOf 64 h (.str x) = some (.str x) := rfl
  have e2 : dataOf 64 h (.str y) = some (.str y) := rfl
  simp only [e1, e2, sh_str hx, sh_str hy, ev_str, Bool.and_self, if_true]
theorem sh_ints (ns : List Int) : SeqAt.shaped (.list (ns.map .int)) = true := by
  have a : PyData.canLayAll0 (ns.map .int) = true ∧ PyData.depthAll (ns.map .int) = 0 := by
    induction ns with
    | nil => exact ⟨rfl, rfl⟩
    | cons n ns ih => exact ⟨by rw [List.map_cons, PyData.canLayAll0, ih.1, PyData.canLay0]; rfl, by rw [List.map_cons, PyData.depthAll, ih.2, PyData.depth]; rfl⟩
  unfold SeqAt.shaped
  rw [PyData.canLay0, PyData.depth, a.1, a.2]
  rfl
theorem data_ints {h : SH} {j n : Nat} {ns : List Int} (e : h[j]? = some (.lst (ns.map SV.int))) : dataOf (n + 2) h (.ref j) = some (.list (ns.map .int)) := by
  refine dataOf_lst e (dataAll_of (by simp) fun k x ex => ?_)
  rw [List.getElem?_map] at ex
  cases et : ns[k]? with
  | none => rw [et] at ex; cases ex
  | some i => rw [et] at ex; cases ex; exact ⟨.int i, by rw [List.getElem?_map, et]; rfl, rfl⟩
/-- a list of numbers against the empty list -/
theorem neNil {h : SH} {j k : Nat} {ns : List Int} (e : h[j]? = some (.lst (ns.map SV.int))) (e0 : h[k]? = some (.lst [])) {P : SV → SH → Prop} (p : P (.bl (!ns.isEmpty)) h) : ∃ v h3, eqD true (.ref j) (.ref k) h = some (v, h3) ∧ P v h3 := by
  refine ⟨_, _, ?_, p⟩
  unfold eqD
  have d0 : dataOf 64 h (.ref k) = some (.list []) := dataOf_lst e0 rfl
  have s0 : SeqAt.shaped (.list []) = true := by decide +kernel
  rw [data_ints e, d0]
  simp only [sh_ints, s0, Bool.and_self, if_true]
  rw [PyData.eqv, eqvAll_nil]
  cases ns <;> rfl
theorem walkN_app {ms : List Nm} {n : Int} {m : Nm} : ∀ {ns : List Int} {p q : Str}, walkN ms p ns = some q → 0 ≤ n → ms[n.toNat]? = some m → m.p = q → walkN ms p (ns ++ [n]) = some m.o
  | [], p, q, e, h0, em, ep => by
    unfold walkN at e
    cases e
    rw [List.nil_append]
    unfold walkN
    rw [if_pos h0, em]
    simp only [ep, if_true]
    unfold walkN; rfl
  | k :: ns, p, q, e, h0, em, ep => by
    rw [List.cons_append]
    unfold walkN at e ⊢
    by_cases c : 0 ≤ k
    · rw [if_pos c] at e ⊢
      cases ek : ms[k.toNat]? with
      | none => rw [ek] at e; cases e
      | some m' =>
        rw [ek] at e
        simp only at e ⊢
        by_cases d : m'.p = p
        · rw [if_pos d] at e ⊢
          exact walkN_app e h0 em ep
        · rw [if_neg d] at e; cases e
    · rw [if_neg c] at e; cases e
theorem walkR_app {ms : List Nm} {x : Pt} : ∀ {r : List Pt} {p q q' : Str}, walkR ms p r = some q → 1 ≤ x.t → x.ns ≠ [] → walkN ms q x.ns = some q' → (1 < x.t → q' = q) → walkR ms p (r ++ [x]) = some q'
  | [], p, q, q', e, h1, hn, hw, hq => by
    unfold walkR at e
    cases e
    rw [List.nil_append]
    unfold walkR
    rw [if_pos ⟨h1, hn⟩, hw]
    simp only [if_pos hq]
    unfold walkR; rfl
  | y :: r, p, q, q', e, h1, hn, hw, hq => by
    rw [List.cons_append]
    unfold walkR at e ⊢
    by_cases c : 1 ≤ y.t ∧ y.ns ≠ []
    · rw [if_pos c] at e ⊢
      cases ek : walkN ms p y.ns with
      | none => rw [ek] at e; cases e
      | some z =>
        rw [ek] at e
        simp only at e ⊢
        by_cases d : 1 < y.t → z = p
        · rw [if_pos d] at e ⊢
          exact walkR_app e h1 hn hw hq
        · rw [if_neg d] at e; cases e
    · rw [if_neg c] at e; cases e
/-- one move's entry: parts[1][n][k] -/
theorem Mvn.at {h : SH} {M : Nat} {ms : List Nm} (mv : Mvn h M ms) {n : Int} (h0 : 0 ≤ n) (h1 : n < ms.length) : ∃ m t xs, ms[n.toNat]? = some m ∧ h[M]? = some (.lst xs) ∧ xs.length = ms.length ∧ L2.atI xs n = some (.ref t) ∧ h[t]? = some (Nm.so m) := by
  obtain ⟨ts, e, hl, z⟩ := mv
  have hn : n.toNat < ts.length := by omega
  have et : ts[n.toNat]? = some ts[n.toNat] := List.getElem?_eq_getElem hn
  obtain ⟨m, em, eo⟩ := z _ _ et
  refine ⟨m, _, _, em, e, by simp [hl], ?_, eo⟩
  unfold L2.atI L2.ixN
  rw [if_pos (by omega), if_pos (by simp; omega)]
  simp [List.getElem?_map, et]
end Fw
namespace Fw
open PySem PySem.Spec L2
def pmM : EM := (mO2 opIx (mVar 1) (mC (.int 1)))
def someM : EM := (mLc (mRng1 (aCons (mOA (un1 opLen) (aCons pmM aNil)) aNil)) (gVar 12) (mB (mO2 (eqD false) (mO2 opIx (mO2 opIx pmM (mVar 12)) (mC (.int 0))) (mVar 9))) (mVar 12) [12])
def stepB : SM := (mSeq (mSet 10 someM) (mIfS (mB (mO2 (eqD true) (mVar 10) (mOA opLst aNil))) (mSeq (mDrop (mBm opAppend (mVar 8) (aCons (mO2 opIx (mVar 10) (mCall (mFn 2 4 randM) (aCons (mVar 0) (aCons (mOA (un1 opLen) (aCons (mVar 10) aNil)) aNil)))) aNil))) (mSet 9 (mO2 opIx (mO2 opIx pmM (mO2 opIx (mVar 8) (mO1 opNeg (mC (.int 1))))) (mC (.int 3))))) mNil))
def turnB : SM := (mSeq (mAsg (gTupM 2 (gsCons (gVar 8) (gsCons (gVar 9) gsNil))) (mOA opTup (aCons (mOA opLst aNil) (aCons (mVar 6) aNil)))) (mSeq (mFor (mRng1 (aCons (mO2 opAdd (mC (.int 1)) (mCall (mFn 2 4 randM) (aCons (mVar 0) (aCons (mC (.int 4)) aNil)))) aNil)) (gVar 7) stepB) (mIfS (mB (mO2 (eqD true) (mVar 8) (mOA opLst aNil))) (mSeq (mSet 11 (mIf (mB (mO2 (eqD false) (mVar 9) (mVar 6))) (mO2 opIx (mOA opLst (aCons (mC (.int 1)) (aCons (mC (.int 2)) (aCons (mC (.int 3)) (aCons (mO2 opPow (mC (.int 10)) (mC (.int 30))) aNil))))) (mCall (mFn 2 4 randM) (aCons (mVar 0) (aCons (mC (.int 4)) aNil)))) (mC (.int 1)))) (mSeq (mDrop (mBm opAppend (mVar 5) (aCons (mOA opTup (aCons (mVar 11) (aCons (mVar 8) aNil))) aNil))) (mSet 6 (mVar 9)))) mNil)))
def lawRowM : SM := (mSeq (mPar 5 6 (aCons (mOA opLst aNil) (aCons (mVar 2) aNil))) (mSeq (mFor (mRng1 (aCons (mCall (mFn 2 4 randM) (aCons (mVar 0) (aCons (mO2 opAdd (mVar 3) (mC (.int 1))) aNil))) aNil)) (gVar 4) turnB) (mRet (mVar 5))))
section
variable {h : SH} {t lo : Nat} {ps : List Str} {ms : List Nm} {ss : SS} {P : SV → SH → Prop}
theorem pm_is (pt : Parts h t lo ps ms) (s1 : ss[1]? = some (some (.ref t))) (p : ∀ M, Mvn h M ms → P (.ref M) h) : Is (pmM ss h) P := by
  obtain ⟨A, M, e, _, _, _, _, mv⟩ := pt.ex
  unfold pmM
  exact Is.o2 (Is.var s1 (Is.c (ix_is e rfl (p M mv))))
/-- the moves that leave a place -/
theorem some_is (hl : ss.length = 13) (pt : Parts h t lo ps ms) (s1 : ss[1]? = some (some (.ref t))) {x : Str} (s9 : ss[9]? = some (some (.str x))) (hx : PyData.strOk x = true)
    (p : ∀ h' D (ns : List Int), Le h h' → h'[D]? = some (.lst (ns.map SV.int)) → h.length ≤ D → ns.length ≤ 10 → (∀ n ∈ ns, 0 ≤ n ∧ n < ms.length ∧ ∃ m, ms[n.toNat]? = some m ∧ m.p = x) → P (.ref D) h') : Is (someM ss h) P := by
  unfold someM
  have few := pt.few
  refine Is.lc (Is.rng1 (Is.acons (Is.oa (Is.acons (pm_is pt s1 fun M mv => ?_)))))
  obtain ⟨ts, e, hts, z⟩ := mv
  refine Is.anil (len_is e (Is.anil ⟨_, rfl, decide_eq_true (by simp; omega), ms.length, fun k acc h' => Le h h' ∧ ∃ ns : List Int, acc = ns.map SV.int ∧ ns.length ≤ k ∧ ∀ n ∈ ns, 0 ≤ n ∧ n < ms.length ∧ ∃ m, ms[n.toNat]? = some m ∧ m.p = x, by unfold many; omega, ⟨Le.push _ _, [], rfl, Nat.le_refl _, fun _ z => nomatch z⟩, ?_, ?_⟩))
  · rintro k acc h' hk hD ⟨le, ns, rfl, hn, zz⟩
    have w12 : ((wipeS ss [12]).set 12 (some (SV.int (0 + (k : Int)))))[12]? = some (some (.int (0 + (k : Int)))) := gx (n := 13) (by simp [wipeS, hl]) (by decide)
    have w1 : ((wipeS ss [12]).set 12 (some (SV.int (0 + (k : Int)))))[1]? = some (some (.ref t)) := gs (by show (ss.set 12 none)[1]? = _; exact gs s1 (by decide)) (by decide)
    have w9 : ((wipeS ss [12]).set 12 (some (SV.int (0 + (k : Int)))))[9]? = some (some (.str x)) := gs (by show (ss.set 12 none)[9]? = _; exact gs s9 (by decide)) (by decide)
    refine ⟨_, _, _, wkRng_at (by simpa [hts] using hk), rfl, ?_⟩
    generalize (wipeS ss [12]).set 12 (some (SV.int (0 + (k : Int)))) = s at w12 w1 w9 ⊢
    refine Is.bm (Is.o2 (Is.o2 (Is.o2 (pm_is (pt.le le) w1 fun M' mv' => ?_))))
    obtain ⟨m, u, xs, em, eM, hxs, ei, eu⟩ := mv'.at (n := 0 + (k : Int)) (by omega) (by omega)
    refine Is.var w12 (ix_is eM ei (Is.c (ixT eu rfl (Is.var w9 ?_))))
    have mo := pt.mok m (List.mem_of_getElem? em)
    refine eqStr (neg := false) (pt.nm m.p mo.hp).ok hx ⟨_, rfl, ?_⟩
    show if (decide (m.p = x)) = true then _ else _
    by_cases c : m.p = x
    · rw [if_pos (decide_eq_true c)]
      refine Is.var w12 ⟨hD, small_lt (by simp; omega), fun j o ej => ?_, ns ++ [0 + (k : Int)], by simp, by simp; omega, fun n hn' => ?_⟩
      · have hj : h.length ≠ j := by have := lt_of ej; omega
        rw [set_ne hj]; exact le _ _ ej
      · rcases List.mem_append.mp hn' with hn' | hn'
        · exact zz n hn'
        · rw [List.mem_singleton.mp hn']
          exact ⟨by omega, by omega, m, em, c⟩
    · rw [if_neg (by simpa using c)]
      exact ⟨hD, le, ns, rfl, by omega, zz⟩
  · rintro acc h' hD ⟨le, ns, rfl, hn, zz⟩
    refine ⟨?_, p h' _ ns le hD (Nat.le_refl _) (by omega) zz⟩
    have e1 : (((ts.map SV.ref).length : Nat) : Int).toNat = ms.length := by simp [hts]
    rw [e1]
    exact wkRng_end
end
/-- what stands while a round is drawn -/
structure Rst (g t N : Nat) (ps : List Str) (ms : List Nm) (h0 : SH) (B : Int) (at_ : Str) (k : Nat) (s : SS) (h : SH) (ns : List Int) (here : Str) : Prop where
  len : s.length = 13
  s0 : s[0]? = some (some (.ref g))
  s1 : s[1]? = some (some (.ref t))
  s8 : s[8]? = some (some (.ref N))
  s9 : s[9]? = some (some (.str here))
  kp : Kp g h0 h
  le : h0.length ≤ h.length
  gen : GenOk h g B
  hN : h[N]? = some (.lst (ns.map SV.int))
  few : ns.length ≤ k
  walk : walkN ms at_ ns = some here
  hh : here ∈ ps
  num : ∀ n ∈ ns, 0 ≤ n ∧ n < ms.length
theorem last_at {ns : List Int} {n : Int} : L2.atI ((ns ++ [n]).map SV.int) (-1) = some (.int n) := by
  unfold L2.atI L2.ixN
  rw [if_neg (by omega), if_pos (by simp; omega)]
  have e : (-1 + (((ns ++ [n]).map SV.int).length : Int)).toNat = (ns.map SV.int).length := by simp; omega
  simp only [e]
  simp
theorem step_turn {g t lo N : Nat} {ps : List Str} {ms : List Nm} {h0 h : SH} {B : Int} {at_ : Str} {k : Nat} {s : SS} {ns : List Int} {here : Str} {gl : List SV} (pt : Parts h0 t lo ps ms) (hg : g < lo) (egl : h0[g]? = some (.lst gl)) (hN0 : h0.length ≤ N) (hB : B ≤ 800000000) (hk : k ≤ 500) (x : Rst g t N ps ms h0 B at_ k s h ns here)
    {N' B' C' : SS → SH → Prop} {R : SV → SH → Prop} (n : ∀ s' h' ns' here', (∀ i, i < 9 → s'[i]? = s[i]?) → Rst g t N ps ms h0 (B + 4000) at_ (k + 1) s' h' ns' here' → N' s' h') : Ist (stepB s h) N' R B' C' := by
  unfold stepB
  obtain ⟨len, q0, q1, q8, q9, kp, le, gen, hN, few, walk, hh, num⟩ := x
  have pth := pt.kp kp hg egl
  have hgl : g < h0.length := lt_of egl
  refine Ist.seq (Ist.set (some_is len pth q1 q9 (pt.nm here hh).ok fun h1 D ss l1 eD hD hs zz => ?_))
  have t0 := gs q0 (show 10 ≠ 0 by decide) (x := some (SV.ref D))
  have t1 := gs q1 (show 10 ≠ 1 by decide) (x := some (SV.ref D))
  have t8 := gs q8 (show 10 ≠ 8 by decide) (x := some (SV.ref D))
  have t9 := gs q9 (show 10 ≠ 9 by decide) (x := some (SV.ref D))
  have t10 := gx (i := 10) (x := some (SV.ref D)) len (by decide)
  have tl : (s.set 10 (some (SV.ref D))).length = 13 := by simp [len]
  have told : ∀ i, i < 9 → (s.set 10 (some (SV.ref D)))[i]? = s[i]? := fun i hi => List.getElem?_set_ne (by omega)
  generalize s.set 10 (some (SV.ref D)) = s1 at t0 t1 t8 t9 t10 tl told ⊢
  refine Ist.ite (Is.bm (Is.o2 (Is.var t10 (Is.oa (Is.anil (lst_is (small_big (by simp)) (neNil (Le.push _ _ _ _ eD) (new_at _ _) ⟨_, rfl, ?_⟩)))))))
  have l2 := l1.trans (Le.push h1 (.lst []))
  have eD2 := Le.push h1 (.lst []) _ _ eD
  generalize h1 ++ [SO.lst []] = h2 at l2 eD2 ⊢
  have kp2 := kp.trans (Le.kp l2)
  have le2 := Nat.le_trans le l2.len
  have G2 := gen.le l2 (Int.le_refl _)
  have hN2 := l2 _ _ hN
  cases ss with
  | nil =>
    rw [if_neg (by decide)]
    exact Ist.nil (n s1 h2 ns here told ⟨tl, t0, t1, t8, t9, kp2, le2, G2.le (Le.refl _) (by omega), hN2, by omega, walk, hh, num⟩)
  | cons a ss =>
    rw [if_pos (by rfl)]
    have hNg : N ≠ g := by omega
    have hDg : D ≠ g := by omega
    refine Ist.seq (Ist.drop (Is.bmL (Is.var t8 ⟨lstB hN2, Is.acons (pickR (j := 0) (n := (((a :: ss).map SV.int).length : Nat)) (xs := (a :: ss).map SV.int) G2 (by omega) rfl (by simp) (by simp at hs ⊢; omega) (Is.var t10 ⟨D, rfl, hDg, Le.refl _, eD2, Is.acons (Is.var t0 (Is.acons (Is.oa (Is.acons (Is.var t10 (Is.anil (len_is eD2 (Is.anil ⟨rfl, rfl⟩))))))))⟩) fun x h3 mx kp3 l3 G3 => ?_)⟩)))
    obtain ⟨c, hc, rfl⟩ := List.mem_map.mp mx
    obtain ⟨c0, c1, m, em, ep⟩ := zz c hc
    have hN3 := kp3 _ _ hNg hN2
    refine Is.anil (app_is hN3 (small_lt (by simp; omega)) ?_)
    have kp4 : Kp g h0 (h3.set N (.lst (ns.map SV.int ++ [.int c]))) := fun j o nj ej => by
      have := lt_of ej
      rw [set_ne (by omega)]
      exact kp3 _ _ nj (kp2 _ _ nj ej)
    have hN4 : (h3.set N (.lst (ns.map SV.int ++ [.int c])))[N]? = some (.lst ((ns ++ [c]).map SV.int)) := by rw [set_at hN3]; simp
    have G4 : GenOk (h3.set N (.lst (ns.map SV.int ++ [.int c]))) g (B + 4000) := by
      obtain ⟨a1, a2, a3, e, d1, d2, d3⟩ := G3
      exact ⟨a1, a2, a3, by rw [set_ne hNg]; exact e, d1, d2, d3⟩
    have le4 : h0.length ≤ (h3.set N (.lst (ns.map SV.int ++ [.int c]))).length := by simp; omega
    generalize h3.set N (SO.lst (ns.map SV.int ++ [.int c])) = h4 at kp4 hN4 G4 le4 ⊢
    have pt4 := pt.kp kp4 hg egl
    refine Ist.set (Is.o2 (Is.o2 (pm_is pt4 t1 fun M mv => ?_)))
    obtain ⟨m', u, xs, em', eM, hxs, ei, eu⟩ := mv.at c0 c1
    rw [em] at em'; cases em'
    refine Is.o2 (Is.var t8 (Is.o1 (Is.c ⟨.int (-1), h4, rfl, ix_is hN4 last_at (ix_is eM ei (Is.c (ixT eu rfl ?_)))⟩)))
    have mo := pt.mok m (List.mem_of_getElem? em)
    refine n _ h4 (ns ++ [c]) m.o (fun i hi => by rw [List.getElem?_set_ne (by omega)]; exact told i hi) ⟨by simp [tl], gs t0 (by decide), gs t1 (by decide), gs t8 (by decide), gx tl (by decide), kp4, le4, G4, hN4, by simp; omega, walkN_app walk c0 em ep, mo.ho, fun k hk => ?_⟩
    rcases List.mem_append.mp hk with hk | hk
    · exact num k hk
    · rw [List.mem_singleton.mp hk]; exact ⟨c0, c1⟩
end Fw
namespace Fw
open PySem PySem.Spec L2
/-- a row all of whose objects are new -/
structure Rowb (h : SH) (lo A : Nat) (r : List Pt) : Prop where
  hA : lo ≤ A
  ex : ∃ ts : List Nat, h[A]? = some (.lst (ts.map SV.ref)) ∧ ts.length = r.length ∧ ∀ (i t : Nat), ts[i]? = some t → ∃ (x : Pt) (b : Nat), r[i]? = some x ∧ lo ≤ t ∧ lo ≤ b ∧ t ≠ A ∧ b ≠ A ∧ h[t]? = some (.tup [.int x.t, .ref b]) ∧ h[b]? = some (.lst (x.ns.map SV.int))
theorem Rowb.row {h : SH} {lo A : Nat} {r : List Pt} (x : Rowb h lo A r) : Row h A r := by
  obtain ⟨_, ts, e, hl, z⟩ := x
  exact ⟨ts, e, hl, fun i t et => let ⟨y, b, a1, _, _, _, _, a2, a3⟩ := z i t et; ⟨y, a1, b, a2, a3⟩⟩
theorem Rowb.kp {h h' : SH} {g lo A : Nat} {r : List Pt} (x : Rowb h lo A r) (k : Kp g h h') (hg : g < lo) : Rowb h' lo A r := by
  obtain ⟨a, ts, e, hl, z⟩ := x
  refine ⟨a, ts, k _ _ (by omega) e, hl, fun i t et => ?_⟩
  obtain ⟨y, b, a1, a2, a3, a4, a5, a6, a7⟩ := z i t et
  exact ⟨y, b, a1, a2, a3, a4, a5, k _ _ (by omega) a6, k _ _ (by omega) a7⟩
theorem Rowb.set {h : SH} {lo A t b : Nat} {r : List Pt} {x : Pt} (y : Rowb h lo A r) (ht : lo ≤ t) (hb : lo ≤ b) (nt : t ≠ A) (nb : b ≠ A) (et : h[t]? = some (.tup [.int x.t, .ref b])) (eb : h[b]? = some (.lst (x.ns.map SV.int))) :
    ∃ ts : List Nat, h[A]? = some (.lst (ts.map SV.ref)) ∧ ts.length = r.length ∧ Rowb (h.set A (.lst (ts.map SV.ref ++ [.ref t]))) lo A (r ++ [x]) := by
  obtain ⟨a, ts, e, hl, z⟩ := y
  refine ⟨ts, e, hl, a, ts ++ [t], by rw [set_at e]; simp, by simp [hl], fun i u eu => ?_⟩
  by_cases hi : i < ts.length
  · rw [List.getElem?_append_left hi] at eu
    obtain ⟨y, b', a1, a2, a3, a4, a5, a6, a7⟩ := z i u eu
    exact ⟨y, b', by rw [List.getElem?_append_left (by omega)]; exact a1, a2, a3, a4, a5, by rw [set_ne (Ne.symm a4)]; exact a6, by rw [set_ne (Ne.symm a5)]; exact a7⟩
  · have hi2 : i = ts.length := by have := (List.getElem?_eq_some_iff.mp eu).1; simp at this; omega
    subst hi2
    rw [List.getElem?_append_right (Nat.le_refl _)] at eu
    simp at eu
    subst eu
    exact ⟨x, b, by rw [hl, List.getElem?_append_right (Nat.le_refl _)]; simp, ht, hb, nt, nb, by rw [set_ne (Ne.symm nt)]; exact et, by rw [set_ne (Ne.symm nb)]; exact eb⟩
theorem Rst.up {g t N : Nat} {ps : List Str} {ms : List Nm} {h0 h : SH} {B B' : Int} {at_ : Str} {k : Nat} {s : SS} {ns : List Int} {here : Str} (x : Rst g t N ps ms h0 B at_ k s h ns here) (hB : B ≤ B') : Rst g t N ps ms h0 B' at_ k s h ns here :=
  { x with gen := x.gen.le (Le.refl _) hB }
/-- what stands while a row is drawn -/
structure Rrt (g t A : Nat) (ps : List Str) (ms : List Nm) (h0 : SH) (B : Int) (place : Str) (k : Nat) (s : SS) (h : SH) (r : List Pt) (here : Str) : Prop where
  len : s.length = 13
  s0 : s[0]? = some (some (.ref g))
  s1 : s[1]? = some (some (.ref t))
  s5 : s[5]? = some (some (.ref A))
  s6 : s[6]? = some (some (.str here))
  kp : Kp g h0 h
  le : h0.length ≤ h.length
  gen : GenOk h g B
  row : Rowb h h0.length A r
  few : r.length ≤ k
  walk : walkR ms place r = some here
  hh : here ∈ ps
  num : ∀ x ∈ r, x.t ≤ 10 ^ 30 ∧ x.ns.length ≤ 4
def addB : SM := (mSeq (mDrop (mBm opAppend (mVar 5) (aCons (mOA opTup (aCons (mVar 11) (aCons (mVar 8) aNil))) aNil))) (mSet 6 (mVar 9)))
theorem add_turn {g t A N : Nat} {ps : List Str} {ms : List Nm} {h0 h : SH} {B : Int} {place : Str} {k : Nat} {s : SS} {r : List Pt} {here here' : Str} {ns : List Int} {tm : Int}
    (len : s.length = 13) (s0 : s[0]? = some (some (.ref g))) (s1 : s[1]? = some (some (.ref t))) (s5 : s[5]? = some (some (.ref A))) (s8 : s[8]? = some (some (.ref N))) (s9 : s[9]? = some (some (.str here'))) (s11 : s[11]? = some (some (.int tm)))
    (kp : Kp g h0 h) (le : h0.length ≤ h.length) (gen : GenOk h g B) (row : Rowb h h0.length A r) (few : r.length ≤ k) (hk : k ≤ 100) (walk : walkR ms place r = some here) (hh : here' ∈ ps) (num : ∀ x ∈ r, x.t ≤ 10 ^ 30 ∧ x.ns.length ≤ 4)
    (hg : g < h0.length) (hN : h0.length ≤ N) (nA : N ≠ A) (eN : h[N]? = some (.lst (ns.map SV.int))) (nl : ns.length ≤ 4) (nn : ns ≠ []) (t1 : 1 ≤ tm) (t2 : tm ≤ 10 ^ 30) (w : walkN ms here ns = some here') (cl : 1 < tm → here' = here)
    {N' B' C' : SS → SH → Prop} {R : SV → SH → Prop} (n : ∀ s' h' r' here', Rrt g t A ps ms h0 B place (k + 1) s' h' r' here' → N' s' h') : Ist (addB s h) N' R B' C' := by
  unfold addB
  obtain ⟨ts0, eA, _⟩ := row.ex
  have hA := row.hA
  have ltA := lt_of eA
  have ltN := lt_of eN
  refine Ist.seq (Ist.drop (Is.bmL (Is.var s5 ⟨lstB eA, Is.acons (Is.oa (Is.acons (Is.var s11 (Is.acons (Is.var s8 (Is.anil (tup_is (small_big (by simp)) (Is.anil ?_))))))))⟩)))
  have l1 := Le.push h (.tup [.int tm, .ref N])
  have n1 := new_at h (.tup [.int tm, .ref N])
  have hl1 : (h ++ [SO.tup [.int tm, .ref N]]).length = h.length + 1 := by simp
  have hu : h.length ≤ h.length := Nat.le_refl _
  generalize hw : h.length = w' at n1 hl1 hu ⊢
  generalize h ++ [SO.tup [.int tm, .ref N]] = h1 at l1 n1 hl1 ⊢
  obtain ⟨ts, e1, hts, row1⟩ := (row.kp (Le.kp (g := g) l1) hg).set (t := w') (b := N) (x := ⟨tm, ns⟩) (by omega) hN (by omega) nA n1 (l1 _ _ eN)
  refine app_is e1 (small_lt (by simp; omega)) (Ist.set (Is.var s9 (n _ _ (r ++ [⟨tm, ns⟩]) here' ⟨by simp [len], gs s0 (by decide), gs s1 (by decide), gs s5 (by decide), gx len (by decide), ?_, by simp; omega, ?_, row1, by simp; omega, walkR_app walk t1 nn w cl, hh, ?_⟩)))
  · intro j o nj ej
    have := lt_of ej
    rw [set_ne (by omega)]
    exact l1 _ _ (kp _ _ nj ej)
  · obtain ⟨a, b, c, e, d1, d2, d3⟩ := gen
    exact ⟨a, b, c, by rw [set_ne (by omega)]; exact l1 _ _ e, d1, d2, d3⟩
  · intro x hx
    rcases List.mem_append.mp hx with hx | hx
    · exact num x hx
    · rw [List.mem_singleton.mp hx]; exact ⟨t2, nl⟩
end Fw
namespace Fw
open PySem PySem.Spec L2
theorem turn_is {g t lo A : Nat} {ps : List Str} {ms : List Nm} {h0 h : SH} {B : Int} {place : Str} {k : Nat} {s : SS} {r : List Pt} {here : Str} {gl : List SV} (pt : Parts h0 t lo ps ms) (hg : g < lo) (egl : h0[g]? = some (.lst gl)) (hB : B ≤ 700000000) (hk : k ≤ 100) (x : Rrt g t A ps ms h0 B place k s h r here)
    {N' B' C' : SS → SH → Prop} {R : SV → SH → Prop} (n : ∀ s' h' r' here', Rrt g t A ps ms h0 (B + 24000) place (k + 1) s' h' r' here' → N' s' h') : Ist (turnB s h) N' R B' C' := by
  unfold turnB
  obtain ⟨len, s0, s1, s5, s6, kp, le, gen, row, few, walk, hh, num⟩ := x
  have hgl : g < h0.length := lt_of egl
  have okh := (pt.nm here hh).ok
  refine Ist.seq (Ist.asg (Is.oa (Is.acons (Is.oa (Is.anil (lst_is (small_big (by simp)) (Is.acons (Is.var s6 (Is.anil (tup_is (small_big (by simp)) ⟨_, g2_is (new_at _ _), ?_⟩))))))))))
  have l1 := (Le.push h (.lst [])).trans (Le.push (h ++ [.lst []]) (.tup [.ref h.length, .str here]))
  have n1 := Le.push (h ++ [.lst []]) (.tup [.ref h.length, .str here]) _ _ (new_at h (.lst []))
  generalize (h ++ [SO.lst []]) ++ [SO.tup [.ref h.length, .str here]] = h1 at l1 n1 ⊢
  have t0 := gs (i := 9) (x := some (SV.str here)) (gs (i := 8) (x := some (SV.ref h.length)) s0 (by decide)) (by decide)
  have t1 := gs (i := 9) (x := some (SV.str here)) (gs (i := 8) (x := some (SV.ref h.length)) s1 (by decide)) (by decide)
  have t5 := gs (i := 9) (x := some (SV.str here)) (gs (i := 8) (x := some (SV.ref h.length)) s5 (by decide)) (by decide)
  have t6 := gs (i := 9) (x := some (SV.str here)) (gs (i := 8) (x := some (SV.ref h.length)) s6 (by decide)) (by decide)
  have t8 := gs (i := 9) (x := some (SV.str here)) (gx (i := 8) (x := some (SV.ref h.length)) len (by decide)) (by decide)
  have t9 := gx (i := 9) (x := some (SV.str here)) (s := s.set 8 (some (SV.ref h.length))) (n := 13) (by simp [len]) (by decide)
  have tl : ((s.set 8 (some (SV.ref h.length))).set 9 (some (SV.str here))).length = 13 := by simp [len]
  generalize (s.set 8 (some (SV.ref h.length))).set 9 (some (SV.str here)) = sa at t0 t1 t5 t6 t8 t9 tl ⊢
  have G1 := gen.le l1 (Int.le_refl _)
  have ltN : h.length < h1.length := lt_of n1
  refine Ist.seq (Ist.for (Is.rng1 (Is.acons (Is.o2 (Is.c (Is.call (Is.acons (Is.var t0 (Is.acons (Is.c (Is.anil ?_))))))))))) 
  refine draw100 G1 (by omega) (by decide) (by decide) fun c h2 c0 c1 kp2 l2 G2 => ⟨_, _, rfl, Is.anil ⟨_, rfl, decide_eq_true (by omega), (1 + c).toNat, fun j s' h' => (s'[5]? = some (some (.ref A)) ∧ s'[6]? = some (some (.str here))) ∧ ∃ ns here', Rst g t h.length ps ms h (B + 4000 + 4000 * j) here j s' h' ns here', by unfold many; omega, ⟨⟨t5, t6⟩, [], here, ?_⟩, ?_, ?_⟩⟩
  · exact ⟨tl, t0, t1, t8, t9, (Le.kp l1).trans kp2, by omega, G2.le (Le.refl _) (by omega), kp2 _ _ (by omega) n1, by simp, rfl, hh, fun _ z => nomatch z⟩
  · rintro j s' h' hj ⟨⟨u5, u6⟩, ns, here', x⟩
    obtain ⟨gl', egl'⟩ := gen.at
    refine ⟨_, _, _, wkRng_at hj, rfl, ?_⟩
    refine step_turn (pt.kp kp hg egl) hg egl' (Nat.le_refl _) (by omega) (by omega) ⟨by simp [x.len], gs x.s0 (by decide), gs x.s1 (by decide), gs x.s8 (by decide), gs x.s9 (by decide), x.kp, x.le, x.gen, x.hN, x.few, x.walk, x.hh, x.num⟩ fun s'' h'' ns' here'' old y => ⟨⟨by rw [old 5 (by decide)]; exact gs u5 (by decide), by rw [old 6 (by decide)]; exact gs u6 (by decide)⟩, ns', here'', y.up (by omega)⟩
  · rintro s' h' ⟨⟨u5, u6⟩, ns, here', x⟩
    refine ⟨wkRng_end, ?_⟩
    have c5 : ((1 + c).toNat : Int) ≤ 4 := by omega
    obtain ⟨len', q0, q1, q8, q9, kp', le', gen', hN, few', walk', hh', num'⟩ := x
    have G3 : GenOk h' g (B + 20000) := gen'.le (Le.refl _) (by omega)
    have row' := row.kp kp' hgl
    have kp0 := kp.trans kp'
    have hN0 : h0.length ≤ h.length := le
    have nA : h.length ≠ A := fun w => by obtain ⟨_, e, _⟩ := row.ex; have := lt_of e; omega
    refine Ist.ite (Is.bm (Is.o2 (Is.var q8 (Is.oa (Is.anil (lst_is (small_big (by simp)) (neNil (Le.push _ _ _ _ hN) (new_at _ _) ⟨_, rfl, ?_⟩)))))))
    have l4 := Le.push h' (.lst [])
    generalize h' ++ [SO.lst []] = h4 at l4 ⊢
    have kp4 := kp0.trans (Le.kp l4)
    have le4 : h0.length ≤ h4.length := by have := l4.len; omega
    have G4 := G3.le l4 (Int.le_refl _)
    have row4 := row'.kp (Le.kp (g := g) l4) hgl
    have hN4 := l4 _ _ hN
    cases ns with
    | nil =>
      rw [if_neg (by decide)]
      unfold walkN at walk'
      exact Ist.nil (n _ _ r here ⟨len', q0, q1, u5, u6, kp4, le4, G4.le (Le.refl _) (by omega), row4, by omega, walk, hh, num⟩)
    | cons a ns =>
      rw [if_pos (show (!(a :: ns).isEmpty) = true from rfl)]
      have okh' := (pt.nm here' hh').ok
      refine Ist.seq (Ist.set (Is.ifx (Is.bm (Is.o2 (Is.var q9 (Is.var u6 (eqStr (neg := false) okh' okh ⟨_, rfl, ?_⟩)))))))
      show if (decide (here' = here)) = true then _ else _
      have fin : ∀ (tm : Int) (h5 : SH), Kp g h4 h5 → h4.length ≤ h5.length → GenOk h5 g (B + 24000) → 1 ≤ tm → tm ≤ 10 ^ 30 → (1 < tm → here' = here) → Ist (addB (s'.set 11 (some (.int tm))) h5) N' R B' C' := fun tm h5 kp5 l5 G5 t1 t2 cl =>
        add_turn (ns := a :: ns) (by simp [len']) (gs q0 (by decide)) (gs q1 (by decide)) (gs u5 (by decide)) (gs q8 (by decide)) (gs q9 (by decide)) (gx len' (by decide)) (kp4.trans kp5) (by omega) G5 (row4.kp kp5 hgl) few hk walk hh' num hgl hN0 nA (kp5 _ _ (by omega) hN4) (by omega) (fun z => nomatch z) t1 t2 walk' cl n
      by_cases ce : here' = here
      · rw [if_pos (decide_eq_true ce)]
        refine pickR (j := 0) (n := 4) (xs := [.int 1, .int 2, .int 3, .int (10 ^ 30)]) G4 (by omega) rfl (by decide) (by decide) (Is.oa (Is.acons (Is.c (Is.acons (Is.c (Is.acons (Is.c (Is.acons (Is.o2 (Is.c (Is.c (pow_is (by decide +kernel) (Is.anil (lst_is (small_big (by simp)) ⟨_, rfl, by omega, Le.push _ _, new_at _ _, Is.acons (Is.var q0 (Is.acons (Is.c (Is.anil ⟨rfl, rfl⟩))))⟩)))))))))))))) fun x h5 mx kp5 l5 G5 => ?_
        simp only [List.mem_cons, List.not_mem_nil, or_false] at mx
        have hx : ∃ tm : Int, x = .int tm ∧ 1 ≤ tm ∧ tm ≤ 10 ^ 30 := by
          rcases mx with rfl | rfl | rfl | rfl <;> exact ⟨_, rfl, by decide +kernel, by decide +kernel⟩
        obtain ⟨tm, rfl, t1, t2⟩ := hx
        exact fin tm h5 kp5 l5 (G5.le (Le.refl _) (by omega)) t1 t2 fun _ => ce
      · rw [if_neg (by simpa using ce)]
        exact Is.c (fin 1 h4 (Kp.refl) (Nat.le_refl _) (G4.le (Le.refl _) (by omega)) (by decide) (by decide +kernel) fun w => absurd w (by decide))
theorem lawRow_is {g t lo : Nat} {ps : List Str} {ms : List Nm} {h : SH} {B : Int} {place : Str} {gl : List SV} (G : GenOk h g B) (pt : Parts h t lo ps ms) (hg : g < lo) (egl : h[g]? = some (.lst gl)) (hB : B ≤ 600000000) (hp : place ∈ ps) {P : SV → SH → Prop}
    (p : ∀ h' A r q, Kp g h h' → h.length ≤ h'.length → GenOk h' g (B + 120000) → Rowb h' h.length A r → r.length ≤ 4 → walkR ms place r = some q → q ∈ ps → (∀ x ∈ r, x.t ≤ 10 ^ 30 ∧ x.ns.length ≤ 4) → P (.ref A) h') : Is (mFn 4 13 lawRowM [.ref g, .ref t, .str place, .int 4] h) P := by
  refine Is.fn rfl ?_
  unfold lawRowM
  have hgl := lt_of egl
  refine Ist.seq (Ist.par (Is.acons (Is.oa (Is.anil (lst_is (small_big (by simp)) (Is.acons (Is.var (v := .str place) rfl (Is.anil ⟨_, _, rfl, ?_⟩))))))))
  have l1 := Le.push h (.lst [])
  have n1 := new_at h (.lst [])
  have hl1 : (h ++ [SO.lst []]).length = h.length + 1 := by simp
  generalize h ++ [SO.lst []] = h1 at l1 n1 hl1 ⊢
  generalize hs : (([SV.ref g, .ref t, .str place, .int 4].map some ++ List.replicate (13 - [SV.ref g, .ref t, .str place, .int 4].length) none).set 5 (some (SV.ref h.length))).set 6 (some (SV.str place)) = s
  have t0 : s[0]? = some (some (.ref g)) := by rw [← hs]; rfl
  have t1 : s[1]? = some (some (.ref t)) := by rw [← hs]; rfl
  have t3 : s[3]? = some (some (.int 4)) := by rw [← hs]; rfl
  have t5 : s[5]? = some (some (.ref h.length)) := by rw [← hs]; rfl
  have t6 : s[6]? = some (some (.str place)) := by rw [← hs]; rfl
  have tl : s.length = 13 := by rw [← hs]; rfl
  clear hs
  refine Ist.seq (Ist.for (Is.rng1 (Is.acons (Is.call (Is.acons (Is.var t0 (Is.acons (Is.o2 (Is.var t3 (Is.c ⟨_, _, rfl, Is.anil ?_⟩))))))))))
  refine draw100 (G.le l1 (Int.le_refl _)) (by omega) (by decide) (by decide) fun c h2 c0 c1 kp2 l2 G2 => Is.anil ⟨_, rfl, decide_eq_true (by omega), c.toNat, fun j s' h' => ∃ r here, Rrt g t h.length ps ms h (B + 4000 + 24000 * j) place j s' h' r here, by unfold many; omega, ⟨[], place, ?_⟩, ?_, ?_⟩
  · exact ⟨tl, t0, t1, t5, t6, (Le.kp l1).trans kp2, by omega, G2.le (Le.refl _) (by omega), ⟨Nat.le_refl _, [], kp2 _ _ (by omega) n1, rfl, fun i t e => by simp at e⟩, by simp, rfl, hp, fun _ z => nomatch z⟩
  · rintro j s' h' hj ⟨r, here, x⟩
    refine ⟨_, _, _, wkRng_at hj, rfl, ?_⟩
    refine turn_is pt hg egl (by omega) (by omega) ⟨by simp [x.len], gs x.s0 (by decide), gs x.s1 (by decide), gs x.s5 (by decide), gs x.s6 (by decide), x.kp, x.le, x.gen, x.row, x.few, x.walk, x.hh, x.num⟩ fun s'' h'' r' here' y => ⟨r', here', { y with gen := y.gen.le (Le.refl _) (by omega) }⟩
  · rintro s' h' ⟨r, here, x⟩
    exact ⟨wkRng_end, Ist.ret (Is.var x.s5 (p h' _ r here x.kp x.le (x.gen.le (Le.refl _) (by omega)) x.row (by have := x.few; omega) x.walk x.hh x.num))⟩
end Fw
namespace Fw
open PySem PySem.Spec L2
/-! ### what rows need and change -/
def beh (a b : Int × Int) : Int × Int := (if b.1 - a.2 > a.1 then b.1 - a.2 else a.1, a.2 + b.2)
def stepN (ms : List Nm) (a : Int × Int) (n : Int) : Int × Int := match ms[n.toNat]? with
  | some m => beh a (m.l, m.c)
  | none => a
def mN (ms : List Nm) (ns : List Int) : Int × Int := ns.foldl (stepN ms) (0, 0)
def farP (t : Int) (a : Int × Int) : Int × Int := (if a.2 < 0 then a.1 - (t - 1) * a.2 else a.1, t * a.2)
def stepR (ms : List Nm) (a : Int × Int) (x : Pt) : Int × Int := beh a (farP x.t (mN ms x.ns))
def mR (ms : List Nm) (r : List Pt) : Int × Int := r.foldl (stepR ms) (0, 0)
/-- rows as they are drawn -/
structure RowOk (ms : List Nm) (r : List Pt) : Prop where
  few : r.length ≤ 4
  num : ∀ x ∈ r, 1 ≤ x.t ∧ x.t ≤ 10 ^ 30 ∧ x.ns ≠ [] ∧ x.ns.length ≤ 4 ∧ ∀ n ∈ x.ns, 0 ≤ n ∧ n < ms.length
theorem walkN_num {ms : List Nm} : ∀ {ns : List Int} {p q : Str}, walkN ms p ns = some q → ∀ n ∈ ns, 0 ≤ n ∧ n < ms.length
  | [], _, _, _, n, z => nomatch z
  | k :: ns, p, q, e, n, z => by
    unfold walkN at e
    by_cases c : 0 ≤ k
    · rw [if_pos c] at e
      cases ek : ms[k.toNat]? with
      | none => rw [ek] at e; cases e
      | some m =>
        rw [ek] at e
        simp only at e
        by_cases d : m.p = p
        · rw [if_pos d] at e
          rcases List.mem_cons.mp z with z | z
          · subst z
            have := (List.getElem?_eq_some_iff.mp ek).1
            exact ⟨c, by omega⟩
          · exact walkN_num e n z
        · rw [if_neg d] at e; cases e
    · rw [if_neg c] at e; cases e
theorem walkR_num {ms : List Nm} : ∀ {r : List Pt} {p q : Str}, walkR ms p r = some q → ∀ x ∈ r, 1 ≤ x.t ∧ x.ns ≠ [] ∧ ∀ n ∈ x.ns, 0 ≤ n ∧ n < ms.length
  | [], _, _, _, n, z => nomatch z
  | y :: r, p, q, e, x, z => by
    unfold walkR at e
    by_cases c : 1 ≤ y.t ∧ y.ns ≠ []
    · rw [if_pos c] at e
      cases ek : walkN ms p y.ns with
      | none => rw [ek] at e; cases e
      | some w =>
        rw [ek] at e
        simp only at e
        by_cases d : 1 < y.t → w = p
        · rw [if_pos d] at e
          rcases List.mem_cons.mp z with z | z
          · subst z
            exact ⟨c.1, c.2, walkN_num ek⟩
          · exact walkR_num e x z
        · rw [if_neg d] at e; cases e
    · rw [if_neg c] at e; cases e
theorem RowOk.of {ms : List Nm} {r : List Pt} {p q : Str} (e : walkR ms p r = some q) (few : r.length ≤ 4) (num : ∀ x ∈ r, x.t ≤ 10 ^ 30 ∧ x.ns.length ≤ 4) : RowOk ms r :=
  ⟨few, fun x hx => let ⟨a, b, c⟩ := walkR_num e x hx; let ⟨d, f⟩ := num x hx; ⟨a, d, b, f, c⟩⟩
theorem take_fold {α β : Type} {f : α → β → α} {a : α} {xs : List β} {k : Nat} {x : β} (e : xs[k]? = some x) : (xs.take (k + 1)).foldl f a = f ((xs.take k).foldl f a) x := by
  rw [List.take_add_one, e, List.foldl_append]; rfl
theorem mN_b {ms : List Nm} {ps : List Str} (mok : ∀ m ∈ ms, Nm.Ok ps m) : ∀ (ns : List Int) (a : Int × Int) (b : Int), -b ≤ a.2 → a.2 ≤ b → 0 ≤ a.1 → a.1 ≤ b + 8 → -(b + 4 * ns.length) ≤ (ns.foldl (stepN ms) a).2 ∧ (ns.foldl (stepN ms) a).2 ≤ b + 4 * ns.length ∧ 0 ≤ (ns.foldl (stepN ms) a).1 ∧ (ns.foldl (stepN ms) a).1 ≤ b + 4 * ns.length + 8
  | [], a, b, h1, h2, h3, h4 => by simp; omega
  | n :: ns, a, b, h1, h2, h3, h4 => by
    have q : -(b + 4) ≤ (stepN ms a n).2 ∧ (stepN ms a n).2 ≤ b + 4 ∧ 0 ≤ (stepN ms a n).1 ∧ (stepN ms a n).1 ≤ b + 4 + 8 := by
      unfold stepN
      cases e : ms[n.toNat]? with
      | none => exact ⟨by show _ ≤ a.2; omega, by show a.2 ≤ _; omega, h3, by show a.1 ≤ _; omega⟩
      | some m =>
        have mo := mok m (List.mem_of_getElem? e)
        have := mo.c0; have := mo.c4; have := mo.l0; have := mo.l8
        show _ ≤ a.2 + m.c ∧ a.2 + m.c ≤ _ ∧ 0 ≤ (if m.l - a.2 > a.1 then m.l - a.2 else a.1) ∧ (if m.l - a.2 > a.1 then m.l - a.2 else a.1) ≤ _
        by_cases c : m.l - a.2 > a.1
        · rw [if_pos c]; omega
        · rw [if_neg c]; omega
    have := mN_b mok ns (stepN ms a n) (b + 4) q.1 q.2.1 q.2.2.1 (by omega)
    rw [List.foldl_cons, List.length_cons]
    omega
theorem mN_small {ms : List Nm} {ps : List Str} (mok : ∀ m ∈ ms, Nm.Ok ps m) {ns : List Int} (k : Nat) (h : ns.length ≤ k) : -(4 * (k : Int)) ≤ (mN ms ns).2 ∧ (mN ms ns).2 ≤ 4 * k ∧ 0 ≤ (mN ms ns).1 ∧ (mN ms ns).1 ≤ 4 * k + 8 := by
  have := mN_b mok ns (0, 0) 0 (by decide) (by decide) (by decide) (by decide)
  unfold mN
  omega
theorem Ist.aug {N B C : SS → SH → Prop} {R : SV → SH → Prop} {i : Nat} {o : O2} {m : EM} {x : SV} {ss : SS} {h : SH} (e : ss[i]? = some (some x)) (y : Is (m ss h) fun v h1 => ∃ w h2, o x v h1 = some (w, h2) ∧ N (ss.set i (some w)) h2) : Ist (mAug i o m ss h) N R B C := by
  unfold mAug
  simp only [e]
  exact Ist.then (y.mono fun v h1 z => Ist.then (Is.lift z))
def onceM : SM := (mSeq (mSet 2 (mC (.int 0))) (mSeq (mSet 3 (mC (.int 0))) (mSeq (mFor (mWalk (mVar 1)) (gVar 4) (mSeq (mSet 2 (mOA (bin2 opMax) (aCons (mVar 2) (aCons (mO2 opSub (mO2 opIx (mO2 opIx (mVar 0) (mVar 4)) (mC (.int 1))) (mVar 3)) aNil)))) (mAug 3 opAddI (mO2 opIx (mO2 opIx (mVar 0) (mVar 4)) (mC (.int 2)))))) (mRet (mOA opTup (aCons (mVar 2) (aCons (mVar 3) aNil)))))))
theorem once_is {h : SH} {M N : Nat} {ms : List Nm} {ns : List Int} (mv : Mvn h M ms) (eN : h[N]? = some (.lst (ns.map SV.int))) (hn : ∀ n ∈ ns, 0 ≤ n ∧ n < ms.length) (hl : ns.length ≤ 1000) {P : SV → SH → Prop}
    (p : P (.ref h.length) (h ++ [.tup [.int (mN ms ns).1, .int (mN ms ns).2]])) : Is (mFn 2 5 onceM [.ref M, .ref N] h) P := by
  refine Is.fn rfl ?_
  unfold onceM
  refine Ist.seq (Ist.set (Is.c (Ist.seq (Ist.set (Is.c (Ist.seq (Ist.for (Is.walkL (Is.var (v := .ref N) rfl ⟨N, _, rfl, eN, ns.length, fun k s h' => h' = h ∧ s.length = 5 ∧ s[0]? = some (some (.ref M)) ∧ s[2]? = some (some (.int (mN ms (ns.take k)).1)) ∧ s[3]? = some (some (.int (mN ms (ns.take k)).2)), by unfold many; omega, ⟨rfl, rfl, rfl, rfl, rfl⟩, ?_, ?_⟩)))))))))
  · rintro k s _ hk ⟨rfl, len, q0, q2, q3⟩
    have ek : ns[k]? = some ns[k] := List.getElem?_eq_getElem hk
    obtain ⟨n0, n1⟩ := hn _ (List.mem_of_getElem? ek)
    refine ⟨_, _, _, wkL_at eN (by rw [List.getElem?_map, ek]; rfl), rfl, ?_⟩
    have t0 := gs (i := 4) (x := some (SV.int ns[k])) q0 (by decide)
    have t2 := gs (i := 4) (x := some (SV.int ns[k])) q2 (by decide)
    have t3 := gs (i := 4) (x := some (SV.int ns[k])) q3 (by decide)
    have t4 := gx (i := 4) (x := some (SV.int ns[k])) len (by decide)
    have tl : (s.set 4 (some (SV.int ns[k]))).length = 5 := by simp [len]
    generalize s.set 4 (some (SV.int ns[k])) = s1 at t0 t2 t3 t4 tl ⊢
    obtain ⟨m, u, xs, em, eM, hxs, ei, eu⟩ := mv.at n0 n1
    have et : mN ms (ns.take (k + 1)) = beh (mN ms (ns.take k)) (m.l, m.c) := by
      unfold mN
      rw [take_fold ek]
      show stepN ms _ _ = _
      unfold stepN
      rw [em]
    refine Ist.seq (Ist.set (Is.oa (Is.acons (Is.var t2 (Is.acons (Is.o2 (Is.o2 (Is.o2 (Is.var t0 (Is.var t4 (ix_is eM ei (Is.c (ixT eu rfl (Is.var t3 ⟨_, _, rfl, Is.anil ⟨_, _, rfl, ?_⟩⟩))))))))))))))
    refine Ist.aug (gs t3 (by decide)) (Is.o2 (Is.o2 (Is.var (gs t0 (by decide)) (Is.var (gs t4 (by decide)) (ix_is eM ei (Is.c (ixT eu rfl ⟨_, _, rfl, ?_⟩)))))))
    refine ⟨rfl, by simp [tl], gs (gs t0 (by decide)) (by decide), ?_, ?_⟩
    · rw [et]; exact gs (gx tl (by decide)) (by decide)
    · rw [et]; exact gx (n := 5) (by simp [tl]) (by decide)
  · rintro s _ ⟨rfl, len, q0, q2, q3⟩
    rw [List.take_length] at q2 q3
    have w := wkL_end eN
    rw [List.length_map] at w
    exact ⟨w, Ist.ret (Is.oa (Is.acons (Is.var q2 (Is.acons (Is.var q3 (Is.anil (tup_is (small_big (by simp)) p)))))))⟩
end Fw
namespace Fw
open PySem PySem.Spec L2
theorem Row.at {h : SH} {A : Nat} {r : List Pt} (x : Row h A r) : ∃ ts : List Nat, h[A]? = some (.lst (ts.map SV.ref)) ∧ ts.length = r.length ∧ ∀ k, k < ts.length → ∃ (t b : Nat) (y : Pt), (ts.map SV.ref)[k]? = some (.ref t) ∧ r[k]? = some y ∧ y ∈ r ∧ h[t]? = some (.tup [.int y.t, .ref b]) ∧ h[b]? = some (.lst (y.ns.map SV.int)) := by
  obtain ⟨ts, e, hl, z⟩ := x
  refine ⟨ts, e, hl, fun k hk => ?_⟩
  have ek : ts[k]? = some ts[k] := List.getElem?_eq_getElem hk
  obtain ⟨y, ey, b, e1, e2⟩ := z k _ ek
  exact ⟨ts[k], b, y, by rw [List.getElem?_map, ek]; rfl, ey, List.mem_of_getElem? ey, e1, e2⟩
theorem mR_take {ms : List Nm} {r : List Pt} {k : Nat} {y : Pt} (e : r[k]? = some y) : mR ms (r.take (k + 1)) = beh (mR ms (r.take k)) (farP y.t (mN ms y.ns)) := take_fold e
theorem far_eq {t : Int} {a : Int × Int} : a.1 + (t - 1) * (if -a.2 > 0 then -a.2 else 0) = (farP t a).1 := by
  unfold farP
  by_cases c : a.2 < 0
  · rw [if_pos (by omega)]
    simp only [if_pos c]
    rw [Int.mul_neg]; omega
  · rw [if_neg (by omega)]
    simp only [if_neg c]
    simp
def needM : SM := (mSeq (mSet 2 (mC (.int 0))) (mSeq (mSet 3 (mC (.int 0))) (mSeq (mFor (mWalk (mVar 1)) (gTupM 2 (gsCons (gVar 4) (gsCons (gVar 5) gsNil))) (mSeq (mAsg (gTupM 2 (gsCons (gVar 6) (gsCons (gVar 7) gsNil))) (mCall (mFn 2 5 onceM) (aCons (mVar 0) (aCons (mVar 5) aNil)))) (mSeq (mSet 2 (mOA (bin2 opMax) (aCons (mVar 2) (aCons (mO2 opSub (mO2 opAdd (mVar 6) (mO2 opMul (mO2 opSub (mVar 4) (mC (.int 1))) (mOA (bin2 opMax) (aCons (mC (.int 0)) (aCons (mO1 opNeg (mVar 7)) aNil))))) (mVar 3)) aNil)))) (mAug 3 opAddI (mO2 opMul (mVar 4) (mVar 7)))))) (mRet (mOA opTup (aCons (mVar 2) (aCons (mVar 3) aNil)))))))
theorem needM_is {h : SH} {M A : Nat} {ps : List Str} {ms : List Nm} {r : List Pt} (mv : Mvn h M ms) (mok : ∀ m ∈ ms, Nm.Ok ps m) (row : Row h A r) (ok : RowOk ms r) {P : SV → SH → Prop}
    (p : ∀ h' u, Le h h' → h'[u]? = some (.tup [.int (mR ms r).1, .int (mR ms r).2]) → P (.ref u) h') : Is (mFn 2 8 needM [.ref M, .ref A] h) P := by
  refine Is.fn rfl ?_
  unfold needM
  obtain ⟨ts, eA, hts, z⟩ := row.at
  have few := ok.few
  refine Ist.seq (Ist.set (Is.c (Ist.seq (Ist.set (Is.c (Ist.seq (Ist.for (Is.walkL (Is.var (v := .ref A) rfl ⟨A, _, rfl, eA, ts.length, fun k s h' => Le h h' ∧ s.length = 8 ∧ s[0]? = some (some (.ref M)) ∧ s[2]? = some (some (.int (mR ms (r.take k)).1)) ∧ s[3]? = some (some (.int (mR ms (r.take k)).2)), by unfold many; omega, ⟨Le.refl _, rfl, rfl, rfl, rfl⟩, ?_, ?_⟩)))))))))
  · rintro k s h' hk ⟨le, len, q0, q2, q3⟩
    obtain ⟨t, b, y, et, er, my, e1, e2⟩ := z k hk
    obtain ⟨y1, y2, y3, y4, y5⟩ := ok.num y my
    refine ⟨_, _, _, wkL_at (le _ _ eA) et, g2_is (le _ _ e1), ?_⟩
    have t0 := gs (i := 5) (x := some (SV.ref b)) (gs (i := 4) (x := some (SV.int y.t)) q0 (by decide)) (by decide)
    have t2 := gs (i := 5) (x := some (SV.ref b)) (gs (i := 4) (x := some (SV.int y.t)) q2 (by decide)) (by decide)
    have t3 := gs (i := 5) (x := some (SV.ref b)) (gs (i := 4) (x := some (SV.int y.t)) q3 (by decide)) (by decide)
    have t4 := gs (i := 5) (x := some (SV.ref b)) (gx (i := 4) (x := some (SV.int y.t)) len (by decide)) (by decide)
    have t5 := gx (i := 5) (x := some (SV.ref b)) (s := s.set 4 (some (SV.int y.t))) (n := 8) (by simp [len]) (by decide)
    have tl : ((s.set 4 (some (SV.int y.t))).set 5 (some (SV.ref b))).length = 8 := by simp [len]
    generalize (s.set 4 (some (SV.int y.t))).set 5 (some (SV.ref b)) = s1 at t0 t2 t3 t4 t5 tl ⊢
    obtain ⟨w1, w2, w3, w4⟩ := mN_small mok 4 y4
    refine Ist.seq (Ist.asg (Is.call (Is.acons (Is.var t0 (Is.acons (Is.var t5 (Is.anil ?_)))))))
    refine once_is (mv.le le) (le _ _ e2) y5 (by omega) ⟨_, g2_is (new_at _ _), ?_⟩
    have l1 := Le.push h' (.tup [.int (mN ms y.ns).1, .int (mN ms y.ns).2])
    generalize h' ++ [SO.tup [.int (mN ms y.ns).1, .int (mN ms y.ns).2]] = h1 at l1 ⊢
    have et : mR ms (r.take (k + 1)) = beh (mR ms (r.take k)) (farP y.t (mN ms y.ns)) := mR_take er
    have fe := far_eq (t := y.t) (a := mN ms y.ns)
    have f2 : (farP y.t (mN ms y.ns)).2 = y.t * (mN ms y.ns).2 := rfl
    generalize mN ms y.ns = a at w1 w2 w3 w4 et fe f2 ⊢
    have u0 := gs (i := 7) (x := some (SV.int a.2)) (gs (i := 6) (x := some (SV.int a.1)) t0 (by decide)) (by decide)
    have u2 := gs (i := 7) (x := some (SV.int a.2)) (gs (i := 6) (x := some (SV.int a.1)) t2 (by decide)) (by decide)
    have u3 := gs (i := 7) (x := some (SV.int a.2)) (gs (i := 6) (x := some (SV.int a.1)) t3 (by decide)) (by decide)
    have u4 := gs (i := 7) (x := some (SV.int a.2)) (gs (i := 6) (x := some (SV.int a.1)) t4 (by decide)) (by decide)
    have u6 := gs (i := 7) (x := some (SV.int a.2)) (gx (i := 6) (x := some (SV.int a.1)) tl (by decide)) (by decide)
    have u7 := gx (i := 7) (x := some (SV.int a.2)) (s := s1.set 6 (some (SV.int a.1))) (n := 8) (by simp [tl]) (by decide)
    have ul : ((s1.set 6 (some (SV.int a.1))).set 7 (some (SV.int a.2))).length = 8 := by simp [tl]
    generalize (s1.set 6 (some (SV.int a.1))).set 7 (some (SV.int a.2)) = s2 at u0 u2 u3 u4 u6 u7 ul ⊢
    have big : ∀ i : Int, -16 ≤ i → i ≤ 16 → ∀ j, okMul j i = true := fun i i1 i2 j => okMul_r (by omega) (by omega)
    refine Ist.seq (Ist.set (Is.oa (Is.acons (Is.var u2 (Is.acons (Is.o2 (Is.o2 (Is.var u6 (Is.o2 (Is.o2 (Is.var u4 (Is.c ⟨_, _, rfl, ?_⟩))))))))))))
    refine Is.oa (Is.acons (Is.c (Is.acons (Is.o1 (Is.var u7 ⟨_, _, rfl, Is.anil ⟨_, _, rfl, mul_is (big _ ?_ ?_ _) ⟨_, _, rfl, Is.var u3 ⟨_, _, rfl, Is.anil ⟨_, _, rfl, ?_⟩⟩⟩⟩⟩)))))
    · by_cases c : -a.2 > 0
      · rw [if_pos c]; omega
      · rw [if_neg c]; omega
    · by_cases c : -a.2 > 0
      · rw [if_pos c]; omega
      · rw [if_neg c]; omega
    rw [fe]
    refine Ist.aug (gs u3 (by decide)) (Is.o2 (Is.var (gs u4 (by decide)) (Is.var (gs u7 (by decide)) (mul_is (big _ (by omega) (by omega) _) ⟨_, _, rfl, ?_⟩))))
    refine ⟨le.trans l1, by simp [ul], gs (gs u0 (by decide)) (by decide), ?_, ?_⟩
    · rw [et]; exact gs (gx ul (by decide)) (by decide)
    · rw [et]; exact gx (n := 8) (by simp [ul]) (by decide)
  · rintro s h' ⟨le, len, q0, q2, q3⟩
    rw [hts, List.take_length] at q2 q3
    have w := wkL_end (le _ _ eA)
    rw [List.length_map] at w
    exact ⟨w, Ist.ret (Is.oa (Is.acons (Is.var q2 (Is.acons (Is.var q3 (Is.anil (tup_is (small_big (by simp)) (p _ _ (le.trans (Le.push _ _)) (new_at _ _)))))))))⟩
def behM : SM := (mRet (mOA opTup (aCons (mOA (bin2 opMax) (aCons (mO2 opIx (mVar 0) (mC (.int 0))) (aCons (mO2 opSub (mO2 opIx (mVar 1) (mC (.int 0))) (mO2 opIx (mVar 0) (mC (.int 1)))) aNil))) (aCons (mO2 opAdd (mO2 opIx (mVar 0) (mC (.int 1))) (mO2 opIx (mVar 1) (mC (.int 1)))) aNil))))
def TwoAt (h : SH) (u : Nat) (a : Int × Int) : Prop := h[u]? = some (.tup [.int a.1, .int a.2])
theorem behM_is {h : SH} {u v : Nat} {a b : Int × Int} (eu : TwoAt h u a) (ev : TwoAt h v b) {P : SV → SH → Prop} (p : TwoAt (h ++ [.tup [.int (beh a b).1, .int (beh a b).2]]) h.length (beh a b) → P (.ref h.length) (h ++ [.tup [.int (beh a b).1, .int (beh a b).2]])) : Is (mFn 2 2 behM [.ref u, .ref v] h) P := by
  refine Is.fn rfl ?_
  unfold behM
  unfold TwoAt at eu ev
  refine Ist.ret (Is.oa (Is.acons (Is.oa (Is.acons (Is.o2 (Is.var (v := .ref u) rfl (Is.c (ixT eu rfl (Is.acons ?_)))))))))
  refine Is.o2 (Is.o2 (Is.var (v := .ref v) rfl (Is.c (ixT ev rfl (Is.o2 (Is.var (v := .ref u) rfl (Is.c (ixT eu rfl ⟨_, _, rfl, Is.anil ⟨_, _, rfl, ?_⟩⟩))))))))
  refine Is.acons (Is.o2 (Is.o2 (Is.var (v := .ref u) rfl (Is.c (ixT eu rfl (Is.o2 (Is.var (v := .ref v) rfl (Is.c (ixT ev rfl ⟨_, _, rfl, Is.anil (tup_is (small_big (by simp)) ?_)⟩)))))))))
  exact p (new_at _ _)
end Fw
namespace Fw
open PySem PySem.Spec L2
theorem Is.cutT {ss : SS} {h : SH} {P : SV → SH → Prop} {m : EM} {pl pu : PM} (x : Is (m ss h) fun v h1 => Is (pl ss h1) fun lo h2 => Is (pu ss h2) fun hi h3 => ∃ i xs, v = .ref i ∧ h3[i]? = some (.tup xs) ∧ ¬ (HT.sIx xs.length 0 lo = 0 ∧ HT.sIx xs.length xs.length hi = xs.length) ∧ P (.ref h3.length) (h3 ++ [.tup (cutS xs lo hi)])) : Is (mCut m pl pu ss h) P :=
  Is.bind (x.mono fun v h1 y => Is.bind (y.mono fun lo h2 z => Is.bind (z.mono fun hi h3 ⟨i, xs, ev, e, n, p⟩ => by
    subst ev
    refine Is.lift ⟨_, _, ?_, p⟩
    unfold opCut
    simp only [e]
    rw [if_neg n]
    rfl)))
theorem pmi_is {i t lo : Nat} {ps : List Str} {ms : List Nm} {ss : SS} {h : SH} {P : SV → SH → Prop} (pt : Parts h t lo ps ms) (s1 : ss[i]? = some (some (.ref t))) (p : ∀ M, Mvn h M ms → P (.ref M) h) : Is (mO2 opIx (mVar i) (mC (.int 1)) ss h) P := by
  obtain ⟨A, M, e, _, _, _, _, mv⟩ := pt.ex
  exact Is.o2 (Is.var s1 (Is.c (ix_is e rfl (p M mv))))
def measM : SM := (mSeq (mSet 2 (mOA opTup (aCons (mC (.int 0)) (aCons (mC (.int 0)) aNil)))) (mSeq (mFor (mWalk (mVar 1)) (gTupM 2 (gsCons (gVar 3) (gsCons (gVar 4) gsNil))) (mSeq (mSet 5 (mOA opTup (aCons (mC (.int 0)) (aCons (mC (.int 0)) aNil)))) (mSeq (mFor (mWalk (mVar 4)) (gVar 6) (mSet 5 (mCall (mFn 2 2 behM) (aCons (mVar 5) (aCons (mCut (mO2 opIx (mO2 opIx (mVar 0) (mC (.int 1))) (mVar 6)) (pSome (mC (.int 1))) (pSome (mC (.int 3)))) aNil))))) (mSeq (mAsg (gTupM 2 (gsCons (gVar 8) (gsCons (gVar 9) gsNil))) (mVar 5)) (mSeq (mSet 7 (mIf (mB (mO2 opLt (mVar 9) (mC (.int 0)))) (mO2 opSub (mVar 8) (mO2 opMul (mO2 opSub (mVar 3) (mC (.int 1))) (mVar 9))) (mVar 8))) (mSet 2 (mCall (mFn 2 2 behM) (aCons (mVar 2) (aCons (mOA opTup (aCons (mVar 7) (aCons (mO2 opMul (mVar 3) (mVar 9)) aNil))) aNil))))))))) (mRet (mVar 2))))
theorem TwoAt.le {h h' : SH} {u : Nat} {a : Int × Int} (x : TwoAt h u a) (l : Le h h') : TwoAt h' u a := l _ _ x
theorem measM_is {h : SH} {t lo A : Nat} {ps : List Str} {ms : List Nm} {r : List Pt} (pt : Parts h t lo ps ms) (row : Row h A r) (ok : RowOk ms r) {P : SV → SH → Prop}
    (p : ∀ h' u, Le h h' → TwoAt h' u (mR ms r) → P (.ref u) h') : Is (mFn 2 10 measM [.ref t, .ref A] h) P := by
  refine Is.fn rfl ?_
  unfold measM
  obtain ⟨ts, eA, hts, z⟩ := row.at
  have few := ok.few
  refine Ist.seq (Ist.set (Is.oa (Is.acons (Is.c (Is.acons (Is.c (Is.anil (tup_is (small_big (by simp)) ?_))))))))
  have l0 := Le.push h (.tup [.int 0, .int 0])
  have n0 : TwoAt (h ++ [.tup [.int 0, .int 0]]) h.length (0, 0) := new_at _ _
  generalize h ++ [SO.tup [.int 0, .int 0]] = h0 at l0 n0 ⊢
  refine Ist.seq (Ist.for (Is.walkL (Is.var (v := .ref A) rfl ⟨A, _, rfl, l0 _ _ eA, ts.length, fun k s h' => Le h h' ∧ s.length = 10 ∧ s[0]? = some (some (.ref t)) ∧ ∃ u, s[2]? = some (some (.ref u)) ∧ TwoAt h' u (mR ms (r.take k)), by unfold many; omega, ⟨l0, rfl, rfl, _, rfl, n0⟩, ?_, ?_⟩)))
  · rintro k s h' hk ⟨le, len, q0, u, q2, eu⟩
    obtain ⟨w, b, y, et, er, my, e1, e2⟩ := z k hk
    obtain ⟨y1, y2, y3, y4, y5⟩ := ok.num y my
    refine ⟨_, _, _, wkL_at (le _ _ eA) et, g2_is (le _ _ e1), ?_⟩
    have t0 := gs (i := 4) (x := some (SV.ref b)) (gs (i := 3) (x := some (SV.int y.t)) q0 (by decide)) (by decide)
    have t2 := gs (i := 4) (x := some (SV.ref b)) (gs (i := 3) (x := some (SV.int y.t)) q2 (by decide)) (by decide)
    have t3 := gs (i := 4) (x := some (SV.ref b)) (gx (i := 3) (x := some (SV.int y.t)) len (by decide)) (by decide)
    have t4 := gx (i := 4) (x := some (SV.ref b)) (s := s.set 3 (some (SV.int y.t))) (n := 10) (by simp [len]) (by decide)
    have tl : ((s.set 3 (some (SV.int y.t))).set 4 (some (SV.ref b))).length = 10 := by simp [len]
    generalize (s.set 3 (some (SV.int y.t))).set 4 (some (SV.ref b)) = s1 at t0 t2 t3 t4 tl ⊢
    obtain ⟨w1, w2, w3, w4⟩ := mN_small pt.mok 4 y4
    refine Ist.seq (Ist.set (Is.oa (Is.acons (Is.c (Is.acons (Is.c (Is.anil (tup_is (small_big (by simp)) ?_))))))))
    have l1 := le.trans (Le.push h' (.tup [.int 0, .int 0]))
    have n1 : TwoAt (h' ++ [.tup [.int 0, .int 0]]) h'.length (mN ms (y.ns.take 0)) := new_at _ _
    have eu1 := eu.le (Le.push h' (.tup [.int 0, .int 0]))
    generalize hj : h'.length = j at n1 ⊢
    generalize h' ++ [SO.tup [.int 0, .int 0]] = h1 at l1 n1 eu1 ⊢
    refine Ist.seq (Ist.for (Is.walkL (Is.var (gs t4 (by decide)) ⟨b, _, rfl, l1 _ _ e2, y.ns.length, fun i s h' => Le h1 h' ∧ s.length = 10 ∧ s[0]? = some (some (.ref t)) ∧ s[2]? = some (some (.ref u)) ∧ s[3]? = some (some (.int y.t)) ∧ ∃ v, s[5]? = some (some (.ref v)) ∧ TwoAt h' v (mN ms (y.ns.take i)), by unfold many; omega, ⟨Le.refl _, by simp [tl], gs t0 (by decide), gs t2 (by decide), gs t3 (by decide), _, gx tl (by decide), n1⟩, ?_, ?_⟩)))
    · rintro i s h2 hi ⟨l2, len, q0, q2, q3, v, q5, ev⟩
      have ek : y.ns[i]? = some y.ns[i] := List.getElem?_eq_getElem hi
      obtain ⟨n0, n1⟩ := y5 _ (List.mem_of_getElem? ek)
      refine ⟨_, _, _, wkL_at (l2 _ _ (l1 _ _ e2)) (by rw [List.getElem?_map, ek]; rfl), rfl, ?_⟩
      have pt2 := pt.le (l1.trans l2)
      refine Ist.set (Is.call (Is.acons (Is.var (gs q5 (by decide)) (Is.acons (Is.cutT (Is.o2 (pmi_is pt2 (gs q0 (by decide)) fun M mv => ?_)))))))
      obtain ⟨m, c, xs, em, eM, hxs, ei, ec⟩ := mv.at n0 n1
      refine Is.var (gx len (by decide)) (ix_is eM ei (Is.pS (Is.c ⟨1, rfl, Is.pS (Is.c ⟨3, rfl, c, _, rfl, ec, (show ¬ (HT.sIx 4 0 (some 1) = 0 ∧ HT.sIx 4 4 (some 3) = 4) by decide), ?_⟩)⟩)))
      have l3 := Le.push h2 (.tup [.int m.l, .int m.c])
      have n3 : TwoAt (h2 ++ [.tup [.int m.l, .int m.c]]) h2.length (m.l, m.c) := new_at _ _
      show Is (aNil _ (h2 ++ [.tup [.int m.l, .int m.c]])) _
      generalize h2 ++ [SO.tup [.int m.l, .int m.c]] = h3 at l3 n3 ⊢
      refine Is.anil (behM_is (ev.le l3) n3 fun n4 => ⟨l2.trans (l3.trans (Le.push _ _)), by simp [len], gs (gs q0 (by decide)) (by decide), gs (gs q2 (by decide)) (by decide), gs (gs q3 (by decide)) (by decide), _, gx (n := 10) (by simp [len]) (by decide), ?_⟩)
      have e : mN ms (y.ns.take (i + 1)) = beh (mN ms (y.ns.take i)) (m.l, m.c) := by
        unfold mN
        rw [take_fold ek]
        show stepN ms _ _ = _
        unfold stepN
        rw [em]
      rw [e]
      exact n4
    · rintro s h2 ⟨l2, len, q0, q2, q3, v, q5, ev⟩
      rw [List.take_length] at ev
      have wk := wkL_end (l2 _ _ (l1 _ _ e2))
      rw [List.length_map] at wk
      refine ⟨wk, ?_⟩
      have eu2 := eu1.le l2
      have e3 : mR ms (r.take (k + 1)) = beh (mR ms (r.take k)) (farP y.t (mN ms y.ns)) := mR_take er
      have f1 : (farP y.t (mN ms y.ns)).1 = if (mN ms y.ns).2 < 0 then (mN ms y.ns).1 - (y.t - 1) * (mN ms y.ns).2 else (mN ms y.ns).1 := rfl
      have f2 : (farP y.t (mN ms y.ns)).2 = y.t * (mN ms y.ns).2 := rfl
      generalize farP y.t (mN ms y.ns) = f at e3 f1 f2
      generalize mN ms y.ns = a at w1 w2 w3 w4 f1 f2 ev
      have big : ∀ j, okMul j a.2 = true := fun j => okMul_r (by omega) (by omega)
      unfold TwoAt at ev
      refine Ist.seq (Ist.asg (Is.var q5 ⟨_, g2_is ev, ?_⟩))
      have t0 := gs (i := 9) (x := some (SV.int a.2)) (gs (i := 8) (x := some (SV.int a.1)) q0 (by decide)) (by decide)
      have t2 := gs (i := 9) (x := some (SV.int a.2)) (gs (i := 8) (x := some (SV.int a.1)) q2 (by decide)) (by decide)
      have t3 := gs (i := 9) (x := some (SV.int a.2)) (gs (i := 8) (x := some (SV.int a.1)) q3 (by decide)) (by decide)
      have t8 := gs (i := 9) (x := some (SV.int a.2)) (gx (i := 8) (x := some (SV.int a.1)) len (by decide)) (by decide)
      have t9 := gx (i := 9) (x := some (SV.int a.2)) (s := s.set 8 (some (SV.int a.1))) (n := 10) (by simp [len]) (by decide)
      have tl : ((s.set 8 (some (SV.int a.1))).set 9 (some (SV.int a.2))).length = 10 := by simp [len]
      generalize (s.set 8 (some (SV.int a.1))).set 9 (some (SV.int a.2)) = s2 at t0 t2 t3 t8 t9 tl ⊢
      have last : ∀ {B' C' : SS → SH → Prop}, Ist (mSet 2 (mCall (mFn 2 2 behM) (aCons (mVar 2) (aCons (mOA opTup (aCons (mVar 7) (aCons (mO2 opMul (mVar 3) (mVar 9)) aNil))) aNil))) (s2.set 7 (some (.int f.1))) h2) (fun s h' => Le h h' ∧ s.length = 10 ∧ s[0]? = some (some (.ref t)) ∧ ∃ u, s[2]? = some (some (.ref u)) ∧ TwoAt h' u (mR ms (r.take (k + 1)))) P B' C' := fun {B' C'} => by
        refine Ist.set (Is.call (Is.acons (Is.var (gs t2 (by decide)) (Is.acons (Is.oa (Is.acons (Is.var (gx tl (by decide)) (Is.acons (Is.o2 (Is.var (gs t3 (by decide)) (Is.var (gs t9 (by decide)) (mul_is (big _) ?_))))))))))))
        rw [← f2]
        refine Is.anil (tup_is (small_big (by simp)) (Is.anil ?_))
        have l3 := Le.push h2 (.tup [.int f.1, .int f.2])
        have n3 : TwoAt (h2 ++ [.tup [.int f.1, .int f.2]]) h2.length f := new_at _ _
        generalize h2 ++ [SO.tup [.int f.1, .int f.2]] = h3 at l3 n3 ⊢
        refine behM_is (eu2.le l3) n3 fun n4 => ⟨(l1.trans l2).trans (l3.trans (Le.push _ _)), by simp [tl], gs (gs t0 (by decide)) (by decide), _, gx (n := 10) (by simp [tl]) (by decide), ?_⟩
        rw [e3]
        exact n4
      refine Ist.seq (Ist.set (Is.ifx (Is.bm (Is.o2 (Is.var t9 (Is.c ⟨_, _, rfl, _, rfl, ?_⟩))))))
      by_cases c : a.2 < 0
      · rw [if_pos (decide_eq_true c)]
        rw [if_pos c] at f1
        refine Is.o2 (Is.var t8 (Is.o2 (Is.o2 (Is.var t3 (Is.c ⟨_, _, rfl, Is.var t9 (mul_is (big _) ⟨_, _, rfl, ?_⟩)⟩)))))
        rw [← f1]
        exact last
      · rw [if_neg (by simpa using c)]
        rw [if_neg c] at f1
        refine Is.var t8 ?_
        rw [← f1]
        exact last
  · rintro s h' ⟨le, len, q0, u, q2, eu⟩
    rw [hts, List.take_length] at eu
    have w := wkL_end (le _ _ eA)
    rw [List.length_map] at w
    exact ⟨w, Ist.ret (Is.var q2 (p _ _ le eu))⟩
end Fw
namespace Fw
open PySem PySem.Spec L2
theorem walkN_cons {ms : List Nm} {p q : Str} {n : Int} {ns : List Int} (e : walkN ms p (n :: ns) = some q) : 0 ≤ n ∧ ∃ m, ms[n.toNat]? = some m ∧ m.p = p ∧ walkN ms m.o ns = some q := by
  unfold walkN at e
  by_cases c : 0 ≤ n
  · rw [if_pos c] at e
    cases ek : ms[n.toNat]? with
    | none => rw [ek] at e; cases e
    | some m =>
      rw [ek] at e
      simp only at e
      by_cases d : m.p = p
      · rw [if_pos d] at e; exact ⟨c, m, rfl, d, e⟩
      · rw [if_neg d] at e; cases e
  · rw [if_neg c] at e; cases e
theorem walkR_cons {ms : List Nm} {p q : Str} {y : Pt} {r : List Pt} (e : walkR ms p (y :: r) = some q) : 1 ≤ y.t ∧ y.ns ≠ [] ∧ ∃ z, walkN ms p y.ns = some z ∧ (1 < y.t → z = p) ∧ walkR ms z r = some q := by
  unfold walkR at e
  by_cases c : 1 ≤ y.t ∧ y.ns ≠ []
  · rw [if_pos c] at e
    cases ek : walkN ms p y.ns with
    | none => rw [ek] at e; cases e
    | some w =>
      rw [ek] at e
      simp only at e
      by_cases d : 1 < y.t → w = p
      · rw [if_pos d] at e; exact ⟨c.1, c.2, w, rfl, d, e⟩
      · rw [if_neg d] at e; cases e
  · rw [if_neg c] at e; cases e
theorem walkN_last {ms : List Nm} : ∀ {ns : List Int} {p q : Str}, walkN ms p ns = some q → ns ≠ [] → ∃ n m, ns[ns.length - 1]? = some n ∧ 0 ≤ n ∧ ms[n.toNat]? = some m ∧ m.o = q
  | [], _, _, _, h => absurd rfl h
  | [n], p, q, e, _ => by
    obtain ⟨c, m, em, _, w⟩ := walkN_cons e
    unfold walkN at w
    cases w
    exact ⟨n, m, rfl, c, em, rfl⟩
  | n :: n' :: ns, p, q, e, _ => by
    obtain ⟨c, m, em, _, w⟩ := walkN_cons e
    obtain ⟨a, m', ea, a0, em', eo⟩ := walkN_last w (fun z => nomatch z)
    refine ⟨a, m', ?_, a0, em', eo⟩
    simpa using ea
theorem allL_is {A : Nat} {xs : List SV} {m e : EM} {g : GM} {is : List Nat} {ss : SS} {h : SH} {P : SV → SH → Prop} (eA : h[A]? = some (.lst xs)) (hl : xs.length ≤ 1000) (hm : Is (m ss h) fun v h1 => v = .ref A ∧ h1 = h)
    (step : ∀ (k : Nat) (x : SV) (h' : SH), Le h h' → xs[k]? = some x → ∃ s1, g x (wipeS ss is) h' = some s1 ∧ Is (e s1 h') fun v h2 => v = .bl true ∧ Le h' h2) (p : ∀ h', Le h h' → P (.bl true) h') :
    Is (mOA (un1 opAll) (aCons (mLc (mWalk m) g bYes e is) aNil) ss h) P := by
  refine Is.oa (Is.acons (Is.lc (Is.walkL (hm.mono fun v h1 ⟨ev, eh⟩ => ?_))))
  subst ev; subst eh
  refine ⟨A, xs, rfl, eA, xs.length, fun k acc h' => Le h1 h' ∧ acc = List.replicate k (.bl true), by unfold many; omega, ⟨Le.push _ _, rfl⟩, ?_, ?_⟩
  · rintro k acc h' hk hD ⟨le, rfl⟩
    have ek : xs[k]? = some xs[k] := List.getElem?_eq_getElem hk
    obtain ⟨s1, eg, st⟩ := step k _ h' le ek
    refine ⟨_, _, s1, wkL_at (le _ _ eA) ek, eg, ?_⟩
    show Is (Res.ok true h') _
    refine is_ok ?_
    rw [if_pos rfl]
    refine st.mono fun v h2 ⟨ev, l2⟩ => ?_
    subst ev
    refine ⟨l2 _ _ hD, small_lt (by simp; omega), fun j o ej => ?_, by rw [List.replicate_succ']⟩
    have hj : h1.length ≠ j := by have := lt_of ej; omega
    rw [set_ne hj]; exact l2 _ _ (le _ _ ej)
  · rintro acc h' hD ⟨le, rfl⟩
    refine ⟨wkL_end (le _ _ eA), Is.anil ⟨.bl true, h', ?_, p h' le⟩⟩
    show opAll (.ref h1.length) h' = _
    unfold opAll
    simp only [hD, boolsOf_rep]
    congr 3
    simp
def partM (iL iT iI iB : Tag → Option Bool) : SM := (mSeq (mIfS (bOr (bNot (mB (mO1 (opIsi iT) (mVar 0)))) (mB (mO2 (eqD true) (mOA (un1 opLen) (aCons (mVar 0) aNil)) (mC (.int 2))))) (mRet (mC (.bl false))) mNil) (mSeq (mAsg (gTupM 2 (gsCons (gVar 2) (gsCons (gVar 3) gsNil))) (mVar 0)) (mSeq (mIfS (bOr (bNot (mTru (mCall (mFn 1 1 (wholeM iI iB)) (aCons (mVar 2) aNil)))) (bOr (mB (mO2 opLt (mVar 2) (mC (.int 1)))) (bOr (bNot (mB (mO1 (opIsi iL) (mVar 3)))) (bNot (mTru (mVar 3)))))) (mRet (mC (.bl false))) mNil) (mRet (mOA (un1 opAll) (aCons (mLc (mWalk (mVar 3)) (gVar 4) bYes (mCall (mFn 3 3 (betwM iI iB)) (aCons (mVar 4) (aCons (mC (.int 0)) (aCons (mO2 opSub (mVar 1) (mC (.int 1))) aNil)))) [4]) aNil))))))
theorem truL {b : Nat} {xs : List SV} {h : SH} {P : Bool → SH → Prop} (e : h[b]? = some (.lst xs)) (p : P (!xs.isEmpty) h) : Is (opTru (.ref b) h) P := by
  unfold opTru
  simp only [e]
  exact p
theorem part_is {iL iT iS iI iB : Tag → Option Bool} (es : Isis iL iT iS iI iB) {t b : Nat} {y : Pt} {h : SH} {n : Int} (et : h[t]? = some (.tup [.int y.t, .ref b])) (eb : h[b]? = some (.lst (y.ns.map SV.int))) (t1 : 1 ≤ y.t) (nn : y.ns ≠ []) (nl : y.ns.length ≤ 4) (num : ∀ k ∈ y.ns, 0 ≤ k ∧ k < n) {P : SV → SH → Prop} (p : ∀ h', Le h h' → P (.bl true) h') :
    Is (mFn 2 5 (partM iL iT iI iB) [.ref t, .int n] h) P := by
  refine Is.fn rfl ?_
  unfold partM
  refine Ist.seq (Ist.ite (Is.bor (Is.bnot (Is.bm (Is.o1 (Is.var (v := .ref t) rfl (isi_t (t := .tup) (b := true) (tag_tup et) es.T ⟨true, rfl, ?_⟩)))))))
  rw [if_neg (by decide)]
  refine Is.bm (Is.o2 (Is.oa (Is.acons (Is.var (v := .ref t) rfl (Is.anil (lenT_is et (Is.c (neI ⟨_, rfl, ?_⟩))))))))
  rw [if_neg (by simp)]
  refine Ist.nil (Ist.seq (Ist.asg (Is.var (v := .ref t) rfl ⟨_, g2_is et, ?_⟩)))
  refine Ist.seq (Ist.ite (Is.bor (Is.bnot (Is.tru (Is.call (Is.acons (Is.var (v := .int y.t) rfl (Is.anil (whole_is es.I es.B ?_)))))))))
  refine tru_is ?_
  rw [if_neg (by decide)]
  refine Is.bor (Is.bm (Is.o2 (Is.var (v := .int y.t) rfl (Is.c ⟨_, _, rfl, _, rfl, ?_⟩))))
  rw [if_neg (by simpa using t1)]
  refine Is.bor (Is.bnot (Is.bm (Is.o1 (Is.var (v := .ref b) rfl (isi_t (t := .lst) (b := true) (tag_lst eb) es.L ⟨true, rfl, ?_⟩)))))
  rw [if_neg (by decide)]
  refine Is.bnot (Is.tru (Is.var (v := .ref b) rfl (truL eb ?_)))
  have ne : (y.ns.map SV.int).isEmpty = false := by
    cases hq : y.ns with
    | nil => exact absurd hq nn
    | cons a l => rfl
  rw [ne, if_neg (by decide)]
  refine Ist.nil (Ist.ret (allL_is eb (by simp; omega) (Is.var (v := .ref b) rfl ⟨rfl, rfl⟩) (fun k x h' le ex => ⟨_, rfl, ?_⟩) p))
  rw [List.getElem?_map] at ex
  cases ey : y.ns[k]? with
  | none => rw [ey] at ex; cases ex
  | some i =>
    rw [ey] at ex; cases ex
    obtain ⟨i0, i1⟩ := num i (List.mem_of_getElem? ey)
    refine Is.call (Is.acons (Is.var (v := .int i) rfl (Is.acons (Is.c (Is.acons (Is.o2 (Is.var (v := .int n) rfl (Is.c ⟨_, _, rfl, Is.anil ?_⟩))))))))
    exact betw_is es.I es.B i0 (by omega) ⟨rfl, Le.refl _⟩
end Fw
namespace Fw
open PySem PySem.Spec L2
def hangM : SM := (mSeq (mSet 2 (mC .non)) (mSeq (mFor (mWalk (mVar 1)) (gTupM 2 (gsCons (gVar 3) (gsCons (gVar 4) gsNil))) (mSeq (mIfS (bAnd (mB (mO2 opGt (mVar 3) (mC (.int 1)))) (mB (mO2 (eqD true) (mO2 opIx (mO2 opIx (mVar 0) (mO2 opIx (mVar 4) (mO1 opNeg (mC (.int 1))))) (mC (.int 3))) (mO2 opIx (mO2 opIx (mVar 0) (mO2 opIx (mVar 4) (mC (.int 0)))) (mC (.int 0)))))) (mRet (mC (.bl false))) mNil) (mFor (mWalk (mVar 4)) (gVar 5) (mSeq (mIfS (bAnd (mB (mO2 opNotN (mVar 2) (mC .non))) (mB (mO2 (eqD true) (mVar 2) (mO2 opIx (mO2 opIx (mVar 0) (mVar 5)) (mC (.int 0)))))) (mRet (mC (.bl false))) mNil) (mSet 2 (mO2 opIx (mO2 opIx (mVar 0) (mVar 5)) (mC (.int 3)))))))) (mRet (mC (.bl true)))))
theorem last_ix {ns : List Int} {n : Int} (e : ns[ns.length - 1]? = some n) : L2.atI (ns.map SV.int) (-1) = some (.int n) := by
  have hl := (List.getElem?_eq_some_iff.mp e).1
  unfold L2.atI L2.ixN
  rw [if_neg (by omega), if_pos (by simp; omega)]
  have q : (-1 + ((ns.map SV.int).length : Int)).toNat = ns.length - 1 := by simp; omega
  simp only [q]
  show (ns.map SV.int)[ns.length - 1]? = _
  rw [List.getElem?_map, e]; rfl
theorem first_ix {n : Int} {ns : List Int} : L2.atI ((n :: ns).map SV.int) 0 = some (.int n) := by
  unfold L2.atI L2.ixN
  rw [if_pos (by omega), if_pos (by simp)]
  rfl
/-- none, or the place -/
def Ahead (s : SS) (p : Str) : Prop := s[2]? = some (some .non) ∨ s[2]? = some (some (.str p))
theorem hang_is {h : SH} {M A : Nat} {ps : List Str} {ms : List Nm} {r : List Pt} {place q : Str} (mv : Mvn h M ms) (mok : ∀ m ∈ ms, Nm.Ok ps m) (nm : ∀ p ∈ ps, NmOk p) (row : Row h A r) (few : r.length ≤ 1000) (fews : ∀ y ∈ r, y.ns.length ≤ 1000) (w : walkR ms place r = some q) (hp : place ∈ ps) {P : SV → SH → Prop}
    (p : P (.bl true) h) : Is (mFn 2 6 hangM [.ref M, .ref A] h) P := by
  refine Is.fn rfl ?_
  unfold hangM
  obtain ⟨ts, eA, hts, z⟩ := row.at
  refine Ist.seq (Ist.set (Is.c (Ist.seq (Ist.for (Is.walkL (Is.var (v := .ref A) rfl ⟨A, _, rfl, eA, ts.length, fun k s h' => h' = h ∧ s.length = 6 ∧ s[0]? = some (some (.ref M)) ∧ ∃ pk, walkR ms pk (r.drop k) = some q ∧ pk ∈ ps ∧ Ahead s pk, by unfold many; omega, ⟨rfl, rfl, rfl, place, w, hp, .inl rfl⟩, ?_, ?_⟩))))))
  · rintro k s h' hk ⟨eh, len, q0, pk, wk, hpk, ah⟩
    subst eh
    obtain ⟨t, b, y, et, er, my, e1, e2⟩ := z k hk
    have hkr : k < r.length := by omega
    rw [List.drop_eq_getElem_cons hkr] at wk
    have ey : r[k] = y := by rw [List.getElem?_eq_getElem hkr] at er; exact Option.some.inj er
    rw [ey] at wk
    obtain ⟨y1, y2, zz, wz, cl, wr⟩ := walkR_cons wk
    refine ⟨_, _, _, wkL_at eA et, g2_is e1, ?_⟩
    have t0 := gs (i := 4) (x := some (SV.ref b)) (gs (i := 3) (x := some (SV.int y.t)) q0 (by decide)) (by decide)
    have t3 := gs (i := 4) (x := some (SV.ref b)) (gx (i := 3) (x := some (SV.int y.t)) len (by decide)) (by decide)
    have t4 := gx (i := 4) (x := some (SV.ref b)) (s := s.set 3 (some (SV.int y.t))) (n := 6) (by simp [len]) (by decide)
    have tl : ((s.set 3 (some (SV.int y.t))).set 4 (some (SV.ref b))).length = 6 := by simp [len]
    have ah1 : Ahead ((s.set 3 (some (SV.int y.t))).set 4 (some (SV.ref b))) pk := ah.imp (fun e => gs (gs e (by decide)) (by decide)) (fun e => gs (gs e (by decide)) (by decide))
    generalize (s.set 3 (some (SV.int y.t))).set 4 (some (SV.ref b)) = s1 at t0 t3 t4 tl ah1 ⊢
    obtain ⟨nl, ml, el, l0, eml, eol⟩ := walkN_last wz y2
    have hz : zz ∈ ps := by rw [← eol]; exact (mok ml (List.mem_of_getElem? eml)).ho
    have okpk := (nm pk hpk).ok
    have okz := (nm zz hz).ok
    have inner : Ist (mFor (mWalk (mVar 4)) (gVar 5) (mSeq (mIfS (bAnd (mB (mO2 opNotN (mVar 2) (mC .non))) (mB (mO2 (eqD true) (mVar 2) (mO2 opIx (mO2 opIx (mVar 0) (mVar 5)) (mC (.int 0)))))) (mRet (mC (.bl false))) mNil) (mSet 2 (mO2 opIx (mO2 opIx (mVar 0) (mVar 5)) (mC (.int 3))))) s1 h') (fun s h2 => h2 = h' ∧ s.length = 6 ∧ s[0]? = some (some (.ref M)) ∧ ∃ pk, walkR ms pk (r.drop (k + 1)) = some q ∧ pk ∈ ps ∧ Ahead s pk) P (fun s h => Ist (mRet (mC (.bl true)) s h) (fun _ h => P .non h) P (fun _ _ => False) (fun _ _ => False)) (fun s h2 => h2 = h' ∧ s.length = 6 ∧ s[0]? = some (some (.ref M)) ∧ ∃ pk, walkR ms pk (r.drop (k + 1)) = some q ∧ pk ∈ ps ∧ Ahead s pk) := by
      refine Ist.for (Is.walkL (Is.var t4 ⟨b, _, rfl, e2, y.ns.length, fun j s h2 => h2 = h' ∧ s.length = 6 ∧ s[0]? = some (some (.ref M)) ∧ ∃ pj, walkN ms pj (y.ns.drop j) = some zz ∧ pj ∈ ps ∧ Ahead s pj, by have := fews y my; unfold many; omega, ⟨rfl, tl, t0, pk, wz, hpk, ah1⟩, ?_, ?_⟩))
      · rintro j s2 h2 hj ⟨eh, len, q0, pj, wj, hpj, ah⟩
        subst eh
        rw [List.drop_eq_getElem_cons hj] at wj
        obtain ⟨n0, m, em, ep, wj'⟩ := walkN_cons wj
        have n1 : y.ns[j] < ms.length := by have := (List.getElem?_eq_some_iff.mp em).1; omega
        obtain ⟨m', u, xs, em', eM, hxs, ei, eu⟩ := mv.at n0 n1
        rw [em] at em'; cases em'
        have mo := mok m (List.mem_of_getElem? em)
        refine ⟨_, _, _, wkL_at e2 (by rw [List.getElem?_map, List.getElem?_eq_getElem hj]; rfl), rfl, ?_⟩
        have u0 := gs (i := 5) (x := some (SV.int y.ns[j])) q0 (by decide)
        have u5 := gx (i := 5) (x := some (SV.int y.ns[j])) len (by decide)
        have ul : (s2.set 5 (some (SV.int y.ns[j]))).length = 6 := by simp [len]
        have ah2 : Ahead (s2.set 5 (some (SV.int y.ns[j]))) pj := ah.imp (fun e => gs e (by decide)) (fun e => gs e (by decide))
        generalize s2.set 5 (some (SV.int y.ns[j])) = s3 at u0 u5 ul ah2 ⊢
        have rest : Ist (mSet 2 (mO2 opIx (mO2 opIx (mVar 0) (mVar 5)) (mC (.int 3))) s3 h2) (fun s h4 => h4 = h2 ∧ s.length = 6 ∧ s[0]? = some (some (.ref M)) ∧ ∃ pj, walkN ms pj (y.ns.drop (j + 1)) = some zz ∧ pj ∈ ps ∧ Ahead s pj) P (fun s h2_1 => h2_1 = h2 ∧ s.length = 6 ∧ s[0]? = some (some (.ref M)) ∧ ∃ pk, walkR ms pk (r.drop (k + 1)) = some q ∧ pk ∈ ps ∧ Ahead s pk) (fun s h4 => h4 = h2 ∧ s.length = 6 ∧ s[0]? = some (some (.ref M)) ∧ ∃ pj, walkN ms pj (y.ns.drop (j + 1)) = some zz ∧ pj ∈ ps ∧ Ahead s pj) := by
          refine Ist.set (Is.o2 (Is.o2 (Is.var u0 (Is.var u5 (ix_is eM ei (Is.c (ixT eu rfl ⟨rfl, by simp [ul], gs u0 (by decide), m.o, wj', mo.ho, .inr (gx ul (by decide))⟩)))))))
        refine Ist.seq (Ist.ite (Is.band (Is.bm (Is.o2 ?_))))
        rcases ah2 with e | e
        · refine Is.var e (Is.c ⟨_, _, rfl, _, rfl, ?_⟩)
          rw [if_neg (by simp), if_neg (by decide)]
          exact Ist.nil rest
        · refine Is.var e (Is.c ⟨_, _, rfl, _, rfl, ?_⟩)
          rw [if_pos (by simp)]
          refine Is.bm (Is.o2 (Is.var e (Is.o2 (Is.o2 (Is.var u0 (Is.var u5 (ix_is eM ei (Is.c (ixT eu rfl (eqStr (neg := true) (nm pj hpj).ok (nm m.p mo.hp).ok ⟨_, rfl, ?_⟩))))))))))
          rw [if_pos rfl, ep, decide_eq_true rfl, if_neg (by decide)]
          exact Ist.nil rest
      · rintro s2 h2 ⟨eh, len, q0, pj, wj, hpj, ah⟩
        subst eh
        have wk' := wkL_end e2
        rw [List.length_map] at wk'
        rw [List.drop_length] at wj
        unfold walkN at wj
        cases wj
        exact ⟨wk', rfl, len, q0, zz, wr, hz, ah⟩
    refine Ist.seq (Ist.ite (Is.band (Is.bm (Is.o2 (Is.var t3 (Is.c ⟨_, _, rfl, _, rfl, ?_⟩))))))
    by_cases c : 1 < y.t
    · rw [if_pos (decide_eq_true c)]
      obtain ⟨n1, ns1, en⟩ : ∃ n1 ns1, y.ns = n1 :: ns1 := by
        cases hq : y.ns with
        | nil => exact absurd hq y2
        | cons a l => exact ⟨a, l, rfl⟩
      have ltl : nl < ms.length := by have := (List.getElem?_eq_some_iff.mp eml).1; omega
      obtain ⟨m', u, xs, em', eM, hxs, ei, eu⟩ := mv.at l0 ltl
      rw [eml] at em'; cases em'
      rw [en] at wz
      obtain ⟨c0, mf, emf, epf, _⟩ := walkN_cons wz
      have ltf : n1 < ms.length := by have := (List.getElem?_eq_some_iff.mp emf).1; omega
      obtain ⟨m', u', xs', em', eM', hxs', ei', eu'⟩ := mv.at c0 ltf
      rw [emf] at em'; cases em'
      have eb : h'[b]? = some (.lst ((n1 :: ns1).map SV.int)) := by rw [← en]; exact e2
      refine Is.bm (Is.o2 (Is.o2 (Is.o2 (Is.var t0 (Is.o2 (Is.var t4 (Is.o1 (Is.c ⟨.int (-1), h', rfl, ix_is e2 (last_ix el) (ix_is eM ei (Is.c (ixT eu rfl ?_)))⟩))))))))
      refine Is.o2 (Is.o2 (Is.var t0 (Is.o2 (Is.var t4 (Is.c (ix_is eb first_ix (ix_is eM' ei' (Is.c (ixT eu' rfl ?_)))))))))
      refine eqStr (neg := true) (by rw [eol]; exact okz) (by rw [epf]; exact okpk) ⟨_, rfl, ?_⟩
      rw [if_pos rfl, eol, epf, decide_eq_true (cl c), if_neg (by decide)]
      exact Ist.nil inner
    · rw [if_neg (by simpa using c), if_neg (by decide)]
      exact Ist.nil inner
  · rintro s _ ⟨rfl, len, q0, pk, wk, hpk, ah⟩
    have w := wkL_end eA
    rw [List.length_map] at w
    exact ⟨w, Ist.ret (Is.c p)⟩
end Fw
namespace Fw
open PySem PySem.Spec L2
theorem tag_ins {a c : Nat} {vs : List SV} {h : SH} (e : h[a]? = some (.ins c vs)) : tagOf h (.ref a) = some (.ins c) := by unfold tagOf; simp only [e]
theorem Prog.le {h h' : SH} {c a lo : Nat} {ps : List Str} {ms : List Nm} (x : Prog h c a lo ps ms) (l : Le h h') : Prog h' c a lo ps ms := by
  obtain ⟨P, M, W, e, a1, a2, a3, a4⟩ := x
  exact ⟨P, M, W, l _ _ e, a1, a2, a3.le l, a4.le l⟩
theorem Prog.kp {h h' : SH} {g c a lo : Nat} {ps : List Str} {ms : List Nm} {gl : List SV} (x : Prog h c a lo ps ms) (k : Kp g h h') (hg : g < lo) (eg : h[g]? = some (.lst gl)) : Prog h' c a lo ps ms := by
  obtain ⟨P, M, W, e, a1, a2, a3, us, f1, f2, f3⟩ := x
  refine ⟨P, M, W, k _ _ (fun w => by rw [w, eg] at e; cases e) e, a1, a2, ⟨k _ _ (by omega) a3.at_⟩, us, k _ _ (by omega) f1, f2, fun i t et => ?_⟩
  obtain ⟨m, h1, h2⟩ := f3 i t et
  exact ⟨m, h1, k _ _ (fun w => by rw [w, eg] at h2; cases h2) h2⟩
/-- what a question about a row is asked with, as it stands -/
structure Asked (h : SH) (c a lo A : Nat) (ps : List Str) (ms : List Nm) (r : List Pt) (place q : Str) : Prop where
  pr : Prog h c a lo ps ms
  nm : ∀ p ∈ ps, NmOk p
  mok : ∀ m ∈ ms, Nm.Ok ps m
  few : ms.length ≤ 10
  row : Row h A r
  rok : RowOk ms r
  walk : walkR ms place r = some q
  hp : place ∈ ps
theorem Asked.le {h h' : SH} {c a lo A : Nat} {ps : List Str} {ms : List Nm} {r : List Pt} {place q : Str} (x : Asked h c a lo A ps ms r place q) (l : Le h h') : Asked h' c a lo A ps ms r place q :=
  ⟨x.pr.le l, x.nm, x.mok, x.few, x.row.le l, x.rok, x.walk, x.hp⟩
def movesM (xM : List (Option Nat)) : SM := (mRet (mOA (un1 opList) (aCons (mO1 (opFld xM) (mVar 0)) aNil)))
theorem meth_moves {xM : List (Option Nat)} {c i a lo : Nat} (xm : xM[c]? = some (some 1)) {ps : List Str} {ms : List Nm} {ss : SS} {h : SH} {P : SV → SH → Prop} (s : ss[i]? = some (some (.ref a))) (pr : Prog h c a lo ps ms) (p : ∀ h' M', Le h h' → Mvn h' M' ms → P (.ref M') h') :
    Is (mMeth c (mFn 1 1 (movesM xM)) (mVar i) aNil ss h) P := by
  obtain ⟨Q, M, W, e, a1, a2, a3, us, f1, f2, f3⟩ := pr
  refine Is.meth (Is.var s ⟨by unfold insOf; simp only [e], Is.anil (Is.fn rfl ?_)⟩)
  unfold movesM
  refine Ist.ret (Is.oa (Is.acons (Is.o1 (Is.var (v := .ref a) rfl (fld_is e xm rfl (Is.anil (list_is f1 ?_)))))))
  exact p _ _ (Le.push _ _) ⟨us, new_at _ _, f2, fun i t et => let ⟨m, x, y⟩ := f3 i t et; ⟨m, x, Le.push _ _ _ _ y⟩⟩
def placesM (xP : List (Option Nat)) : SM := (mRet (mOA (un1 opList) (aCons (mO1 (opFld xP) (mVar 0)) aNil)))
theorem meth_places {xP : List (Option Nat)} {c i a lo : Nat} (xp : xP[c]? = some (some 0)) {ps : List Str} {ms : List Nm} {ss : SS} {h : SH} {P : SV → SH → Prop} (s : ss[i]? = some (some (.ref a))) (pr : Prog h c a lo ps ms) (p : ∀ h' A', Le h h' → Pls h' A' ps → P (.ref A') h') :
    Is (mMeth c (mFn 1 1 (placesM xP)) (mVar i) aNil ss h) P := by
  obtain ⟨Q, M, W, e, a1, a2, ⟨a3⟩, a4⟩ := pr
  refine Is.meth (Is.var s ⟨by unfold insOf; simp only [e], Is.anil (Is.fn rfl ?_)⟩)
  unfold placesM
  refine Ist.ret (Is.oa (Is.acons (Is.o1 (Is.var (v := .ref a) rfl (fld_is e xp rfl (Is.anil (list_is a3 ?_)))))))
  exact p _ _ (Le.push _ _) ⟨new_at _ _⟩
def pressM (iL iT iI iB : Tag → Option Bool) (xM : List (Option Nat)) (c : Nat) : SM := (mSeq (mSet 2 (mMeth c (mFn 1 1 (movesM xM)) (mVar 0) aNil)) (mSeq (mIfS (bOr (bNot (mB (mO1 (opIsi iL) (mVar 1)))) (bNot (mB (mOA (un1 opAll) (aCons (mLc (mWalk (mVar 1)) (gVar 3) bYes (mCall (mFn 2 5 (partM iL iT iI iB)) (aCons (mVar 3) (aCons (mOA (un1 opLen) (aCons (mVar 2) aNil)) aNil))) [3]) aNil))))) (mRet (mC (.bl false))) mNil) (mRet (mCall (mFn 2 6 hangM) (aCons (mVar 2) (aCons (mVar 1) aNil))))))
theorem press_is {iL iT iS iI iB : Tag → Option Bool} (es : Isis iL iT iS iI iB) {xM : List (Option Nat)} {c a lo A : Nat} (xm : xM[c]? = some (some 1)) {ps : List Str} {ms : List Nm} {r : List Pt} {place q : Str} {h : SH} (x : Asked h c a lo A ps ms r place q) {P : SV → SH → Prop}
    (p : ∀ h', Le h h' → P (.bl true) h') : Is (mFn 2 4 (pressM iL iT iI iB xM c) [.ref a, .ref A] h) P := by
  refine Is.fn rfl ?_
  unfold pressM
  refine Ist.seq (Ist.set (meth_moves xm (a := a) rfl x.pr fun h1 M l1 mv => ?_))
  have row1 := x.row.le l1
  obtain ⟨ts, eA, hts, z⟩ := row1.at
  obtain ⟨us, eM, hus, zm⟩ := mv
  have few := x.rok.few
  refine Ist.seq (Ist.ite (Is.bor (Is.bnot (Is.bm (Is.o1 (Is.var (v := .ref A) rfl (isi_t (t := .lst) (b := true) (tag_lst eA) es.L ⟨true, rfl, ?_⟩)))))))
  rw [if_neg (by decide)]
  refine Is.bnot (Is.bm (allL_is eA (by simp; omega) (Is.var (v := .ref A) rfl ⟨rfl, rfl⟩) (fun k v h2 l2 ev => ⟨_, rfl, ?_⟩) fun h2 l2 => ⟨true, rfl, ?_⟩))
  · rw [List.getElem?_map] at ev
    cases et : ts[k]? with
    | none => rw [et] at ev; cases ev
    | some t =>
      rw [et] at ev; cases ev
      obtain ⟨t', b, y, e', er, my, e1, e2⟩ := z k (List.getElem?_eq_some_iff.mp et).1
      rw [List.getElem?_map, et] at e'; cases e'
      obtain ⟨y1, y2, y3, y4, y5⟩ := x.rok.num y my
      refine Is.call (Is.acons (Is.var (v := .ref t) rfl (Is.acons (Is.oa (Is.acons (Is.var (v := .ref M) rfl (Is.anil (len_is (l2 _ _ eM) (Is.anil ?_))))))))) 
      refine part_is es (l2 _ _ e1) (l2 _ _ e2) y1 y3 y4 (fun n hn => ⟨(y5 n hn).1, ?_⟩) fun h3 l3 => ⟨rfl, l3⟩
      have := (y5 n hn).2
      rw [List.length_map, hus]; exact this
  · rw [if_neg (by decide)]
    refine Ist.nil (Ist.ret (Is.call (Is.acons (Is.var (v := .ref M) rfl (Is.acons (Is.var (v := .ref A) rfl (Is.anil ?_)))))))
    exact hang_is (Mvn.le ⟨us, eM, hus, zm⟩ l2) x.mok x.nm (row1.le l2) (by omega) (fun y my => by have := (x.rok.num y my).2.2.2.1; omega) x.walk x.hp (p h2 (l1.trans l2))
def checkProgM (iP : Tag → Option Bool) (eP : Nat) : SM := (mIfS (bNot (mB (mO1 (opIsi iP) (mVar 0)))) (mRaise eP 1 (aCons (mVar 0) aNil)) mNil)
theorem checkProg_is {iP : Tag → Option Bool} {eP c a lo : Nat} (ip : iP (.ins c) = some true) {ps : List Str} {ms : List Nm} {h : SH} (pr : Prog h c a lo ps ms) {P : SV → SH → Prop} (p : P .non h) : Is (mFn 1 1 (checkProgM iP eP) [.ref a] h) P := by
  refine Is.fn rfl ?_
  unfold checkProgM
  obtain ⟨Q, M, W, e, _⟩ := pr
  refine Ist.ite (Is.bnot (Is.bm (Is.o1 (Is.var (v := .ref a) rfl (isi_t (t := .ins c) (b := true) (tag_ins e) ip ⟨true, rfl, ?_⟩)))))
  rw [if_neg (by decide)]
  exact Ist.nil p
def checkRowM (iL iT iI iB iP : Tag → Option Bool) (xM : List (Option Nat)) (c eP eR : Nat) : SM := (mSeq (mDrop (mCall (mFn 1 1 (checkProgM iP eP)) (aCons (mVar 0) aNil))) (mIfS (bNot (mTru (mCall (mFn 2 4 (pressM iL iT iI iB xM c)) (aCons (mVar 0) (aCons (mVar 1) aNil))))) (mRaise eR 1 (aCons (mVar 1) aNil)) mNil))
theorem checkRow_is {iL iT iS iI iB iP : Tag → Option Bool} (es : Isis iL iT iS iI iB) {xM : List (Option Nat)} {c a lo A eP eR : Nat} (xm : xM[c]? = some (some 1)) (ip : iP (.ins c) = some true) {ps : List Str} {ms : List Nm} {r : List Pt} {place q : Str} {h : SH} (x : Asked h c a lo A ps ms r place q) {P : SV → SH → Prop}
    (p : ∀ h', Le h h' → P .non h') : Is (mFn 2 2 (checkRowM iL iT iI iB iP xM c eP eR) [.ref a, .ref A] h) P := by
  refine Is.fn rfl ?_
  unfold checkRowM
  refine Ist.seq (Ist.drop (Is.call (Is.acons (Is.var (v := .ref a) rfl (Is.anil (checkProg_is ip x.pr ?_))))))
  refine Ist.ite (Is.bnot (Is.tru (Is.call (Is.acons (Is.var (v := .ref a) rfl (Is.acons (Is.var (v := .ref A) rfl (Is.anil (press_is es xm x fun h1 l1 => ?_)))))))))
  refine tru_is ?_
  rw [if_neg (by decide)]
  exact Ist.nil (p h1 l1)
def askM (iL iT iI iB iP : Tag → Option Bool) (xM : List (Option Nat)) (c eP eR : Nat) (k : Int) : SM := (mSeq (mDrop (mCall (mFn 2 2 (checkRowM iL iT iI iB iP xM c eP eR)) (aCons (mVar 0) (aCons (mVar 1) aNil)))) (mRet (mO2 opIx (mCall (mFn 2 8 needM) (aCons (mMeth c (mFn 1 1 (movesM xM)) (mVar 0) aNil) (aCons (mVar 1) aNil))) (mC (.int k)))))
/-- need_of (0) and change_of (1) -/
theorem ask_is {iL iT iS iI iB iP : Tag → Option Bool} (es : Isis iL iT iS iI iB) {xM : List (Option Nat)} {c a lo A eP eR : Nat} {k : Int} {v : Int} (xm : xM[c]? = some (some 1)) (ip : iP (.ins c) = some true) {ps : List Str} {ms : List Nm} {r : List Pt} {place q : Str} {h : SH} (x : Asked h c a lo A ps ms r place q) (hv : (k = 0 ∧ v = (mR ms r).1) ∨ (k = 1 ∧ v = (mR ms r).2)) {P : SV → SH → Prop}
    (p : ∀ h', Le h h' → P (.int v) h') : Is (mFn 2 2 (askM iL iT iI iB iP xM c eP eR k) [.ref a, .ref A] h) P := by
  refine Is.fn rfl ?_
  unfold askM
  refine Ist.seq (Ist.drop (Is.call (Is.acons (Is.var (v := .ref a) rfl (Is.acons (Is.var (v := .ref A) rfl (Is.anil (checkRow_is es xm ip x fun h1 l1 => ?_))))))))
  refine Ist.ret (Is.o2 (Is.call (Is.acons (meth_moves xm (a := a) rfl (x.pr.le l1) fun h2 M l2 mv => ?_))))
  refine Is.acons (Is.var (v := .ref A) rfl (Is.anil (needM_is mv x.mok ((x.row.le l1).le l2) x.rok fun h3 u l3 eu => Is.c ?_)))
  have l := (l1.trans l2).trans l3
  rcases hv with ⟨rfl, rfl⟩ | ⟨rfl, rfl⟩
  · exact ixT eu rfl (p h3 l)
  · exact ixT eu rfl (p h3 l)
end Fw
namespace Fw
open PySem PySem.Spec L2
theorem Is.notT {ss : SS} {h : SH} {P : SV → SH → Prop} {ma : EM} (x : Is (ma ss h) fun v h1 => Is (opTru v h1) fun b h2 => P (.bl (!b)) h2) : Is (mNotT ma ss h) P := Is.bind (x.mono fun v h1 y => Is.bind y)
theorem ninS {j : Nat} {ps : List Str} {x : Str} {h : SH} {P : SV → SH → Prop} (e : h[j]? = some (.lst (ps.map SV.str))) (hx : x ∈ ps) (p : P (.bl false) h) : ∃ w h3, opIn true (.str x) (.ref j) h = some (w, h3) ∧ P w h3 := by
  obtain ⟨w, h3, e1, e2⟩ := inS (x := x) (P := fun v h' => v = .bl true ∧ h' = h) e ⟨by rw [decide_eq_true hx], rfl⟩
  obtain ⟨rfl, rfl⟩ := e2
  refine ⟨.bl false, h3, ?_, p⟩
  unfold opIn at e1 ⊢
  simp only [e] at e1 ⊢
  split at e1 <;> first | cases e1 | skip
  all_goals simp_all
def checkPlaceM (iS : Tag → Option Bool) (xP : List (Option Nat)) (c eU : Nat) : SM := (mIfS (bOr (bNot (mB (mO1 (opIsi iS) (mVar 1)))) (mB (mO2 (opIn true) (mVar 1) (mMeth c (mFn 1 1 (placesM xP)) (mVar 0) aNil)))) (mRaise eU 1 (aCons (mVar 1) aNil)) mNil)
theorem checkPlace_is {iS : Tag → Option Bool} (eS : iS .str = some true) {xP : List (Option Nat)} {c a lo eU : Nat} (xp : xP[c]? = some (some 0)) {ps : List Str} {ms : List Nm} {x : Str} {h : SH} (pr : Prog h c a lo ps ms) (hx : x ∈ ps) {P : SV → SH → Prop} (p : ∀ h', Le h h' → P .non h') :
    Is (mFn 2 2 (checkPlaceM iS xP c eU) [.ref a, .str x] h) P := by
  refine Is.fn rfl ?_
  unfold checkPlaceM
  refine Ist.ite (Is.bor (Is.bnot (Is.bm (Is.o1 (Is.var (v := .str x) rfl (isi_t (t := .str) (b := true) rfl eS ⟨true, rfl, ?_⟩))))))
  rw [if_neg (by decide)]
  refine Is.bm (Is.o2 (Is.var (v := .str x) rfl (meth_places xp (a := a) rfl pr fun h1 A l1 pl => ninS pl.at_ hx ⟨false, rfl, ?_⟩)))
  rw [if_neg (by decide)]
  exact Ist.nil (p h1 l1)
def checkCountM (iI iB : Tag → Option Bool) (eN : Nat) : SM := (mIfS (bOr (bNot (mTru (mCall (mFn 1 1 (wholeM iI iB)) (aCons (mVar 0) aNil)))) (mB (mO2 opLt (mVar 0) (mC (.int 0))))) (mRaise eN 1 (aCons (mVar 0) aNil)) mNil)
theorem checkCount_is {iI iB : Tag → Option Bool} (eI : iI .int = some true) (eB : iB .int = some false) {eN : Nat} {i : Int} {h : SH} (hi : 0 ≤ i) {P : SV → SH → Prop} (p : P .non h) : Is (mFn 1 1 (checkCountM iI iB eN) [.int i] h) P := by
  refine Is.fn rfl ?_
  unfold checkCountM
  refine Ist.ite (Is.bor (Is.bnot (Is.tru (Is.call (Is.acons (Is.var (v := .int i) rfl (Is.anil (whole_is eI eB ?_))))))))
  refine tru_is ?_
  rw [if_neg (by decide)]
  refine Is.bm (Is.o2 (Is.var (v := .int i) rfl (Is.c ⟨_, _, rfl, _, rfl, ?_⟩)))
  rw [if_neg (by simpa using hi)]
  exact Ist.nil p
end Fw
namespace Fw
open PySem PySem.Spec L2
theorem walkR_last {ms : List Nm} : ∀ {r : List Pt} {p q : Str}, walkR ms p r = some q → r ≠ [] → ∃ y n m, r[r.length - 1]? = some y ∧ y.ns[y.ns.length - 1]? = some n ∧ 0 ≤ n ∧ ms[n.toNat]? = some m ∧ m.o = q
  | [], _, _, _, h => absurd rfl h
  | [y], p, q, e, _ => by
    obtain ⟨_, nn, z, wz, _, wr⟩ := walkR_cons e
    unfold walkR at wr
    cases wr
    obtain ⟨n, m, en, n0, em, eo⟩ := walkN_last wz nn
    exact ⟨y, n, m, rfl, en, n0, em, eo⟩
  | y :: y' :: r, p, q, e, _ => by
    obtain ⟨_, nn, z, wz, _, wr⟩ := walkR_cons e
    obtain ⟨y2, n, m, ey, en, n0, em, eo⟩ := walkR_last wr (fun z => nomatch z)
    exact ⟨y2, n, m, by simpa using ey, en, n0, em, eo⟩
theorem lastR_ix {ts : List Nat} {t : Nat} (e : ts[ts.length - 1]? = some t) : L2.atI (ts.map SV.ref) (-1) = some (.ref t) := by
  have hl := (List.getElem?_eq_some_iff.mp e).1
  unfold L2.atI L2.ixN
  rw [if_neg (by omega), if_pos (by simp; omega)]
  have q : (-1 + ((ts.map SV.ref).length : Int)).toNat = ts.length - 1 := by simp; omega
  simp only [q]
  show (ts.map SV.ref)[ts.length - 1]? = _
  rw [List.getElem?_map, e]; rfl
theorem firstR_ix {ts : List Nat} {t : Nat} (e : ts[0]? = some t) : L2.atI (ts.map SV.ref) 0 = some (.ref t) := by
  have hl := (List.getElem?_eq_some_iff.mp e).1
  unfold L2.atI L2.ixN
  rw [if_pos (by omega), if_pos (by simp; omega)]
  show (ts.map SV.ref)[0]? = _
  rw [List.getElem?_map, e]; rfl
theorem firstN_ix {ns : List Int} {n : Int} (e : ns[0]? = some n) : L2.atI (ns.map SV.int) 0 = some (.int n) := by
  have hl := (List.getElem?_eq_some_iff.mp e).1
  unfold L2.atI L2.ixN
  rw [if_pos (by omega), if_pos (by simp; omega)]
  show (ns.map SV.int)[0]? = _
  rw [List.getElem?_map, e]; rfl
def beginsM (xM : List (Option Nat)) (c : Nat) : SM := (mRet (mOr (mNotT (mVar 2)) (mO2 (eqD false) (mO2 opIx (mO2 opIx (mMeth c (mFn 1 1 (movesM xM)) (mVar 0) aNil) (mO2 opIx (mO2 opIx (mO2 opIx (mVar 2) (mC (.int 0))) (mC (.int 1))) (mC (.int 0)))) (mC (.int 0))) (mVar 1))))
theorem begins_is {xM : List (Option Nat)} {c a lo A : Nat} (xm : xM[c]? = some (some 1)) {ps : List Str} {ms : List Nm} {r : List Pt} {place q : Str} {h : SH} (x : Asked h c a lo A ps ms r place q) {P : SV → SH → Prop}
    (p : ∀ h', Le h h' → P (.bl true) h') : Is (mFn 3 3 (beginsM xM c) [.ref a, .str place, .ref A] h) P := by
  refine Is.fn rfl ?_
  unfold beginsM
  obtain ⟨ts, eA, hts, z⟩ := x.row.at
  refine Ist.ret (Is.orV (Is.notT (Is.var (v := .ref A) rfl (truL eA ?_))))
  cases hr : r with
  | nil =>
    have e : ts = [] := List.length_eq_zero_iff.mp (by rw [hts, hr]; rfl)
    subst e
    exact .inl ⟨rfl, p h (Le.refl _)⟩
  | cons y r' =>
    have l0 : 0 < ts.length := by rw [hts, hr]; simp
    obtain ⟨t, b, y', et, er, my, e1, e2⟩ := z 0 l0
    rw [hr] at er; cases er
    have et0 : ts[0]? = some t := by
      rw [List.getElem?_map, List.getElem?_eq_getElem l0] at et
      rw [List.getElem?_eq_getElem l0]
      simp at et ⊢; exact et
    have w := x.walk
    rw [hr] at w
    obtain ⟨_, nn, z', wz, _, _⟩ := walkR_cons w
    obtain ⟨n, ns, en⟩ : ∃ n ns, y.ns = n :: ns := by
      cases hq : y.ns with
      | nil => exact absurd hq nn
      | cons a l => exact ⟨a, l, rfl⟩
    have wz2 := wz
    rw [en] at wz2
    obtain ⟨n0, m, em, ep, _⟩ := walkN_cons wz2
    have n1 : n < ms.length := by have := (List.getElem?_eq_some_iff.mp em).1; omega
    have mo := x.mok m (List.mem_of_getElem? em)
    have ne : (ts.map SV.ref).isEmpty = false := by
      cases ts with
      | nil => simp at l0
      | cons _ _ => rfl
    refine .inr ⟨by rw [ne]; rfl, Is.o2 (Is.o2 (Is.o2 (meth_moves xm (a := a) rfl x.pr fun h1 M l1 mv => ?_)))⟩
    obtain ⟨m', u, xs, em', eM, hxs, ei, eu⟩ := mv.at n0 n1
    rw [em] at em'; cases em'
    refine Is.o2 (Is.o2 (Is.o2 (Is.var (v := .ref A) rfl (Is.c (ix_is (l1 _ _ eA) (firstR_ix et0) (Is.c (ixT (l1 _ _ e1) rfl (Is.c (ix_is (l1 _ _ e2) (firstN_ix (by rw [en]; rfl)) ?_)))))))))
    refine ix_is eM ei (Is.c (ixT eu rfl (Is.var (v := .str place) rfl (eqStr (neg := false) (x.nm m.p mo.hp).ok (x.nm place x.hp).ok ?_))))
    show P (.bl (decide (m.p = place))) h1
    rw [ep, decide_eq_true rfl]
    exact p h1 l1
def endOfM : SM := (mRet (mIf (mTru (mVar 2)) (mO2 opIx (mO2 opIx (mVar 0) (mO2 opIx (mO2 opIx (mO2 opIx (mVar 2) (mO1 opNeg (mC (.int 1)))) (mC (.int 1))) (mO1 opNeg (mC (.int 1))))) (mC (.int 3))) (mVar 1)))
theorem endOf_is {M A : Nat} {ms : List Nm} {r : List Pt} {place q : Str} {h : SH} (mv : Mvn h M ms) (row : Row h A r) (w : walkR ms place r = some q) {P : SV → SH → Prop} (p : P (.str q) h) : Is (mFn 3 3 endOfM [.ref M, .str place, .ref A] h) P := by
  refine Is.fn rfl ?_
  unfold endOfM
  obtain ⟨ts, eA, hts, z⟩ := row.at
  refine Ist.ret (Is.ifx (Is.tru (Is.var (v := .ref A) rfl (truL eA ?_))))
  cases hr : r with
  | nil =>
    have e : ts = [] := List.length_eq_zero_iff.mp (by rw [hts, hr]; rfl)
    subst e
    rw [hr] at w
    unfold walkR at w
    cases w
    rw [if_neg (by decide)]
    exact Is.var rfl p
  | cons y0 r' =>
    have l0 : 0 < ts.length := by rw [hts, hr]; simp
    obtain ⟨y, n, m, ey, en, n0, em, eo⟩ := walkR_last w (by rw [hr]; exact fun z => nomatch z)
    obtain ⟨t, b, y', et, er, my, e1, e2⟩ := z (ts.length - 1) (by omega)
    rw [hts, ey] at er; cases er
    have et0 : ts[ts.length - 1]? = some t := by
      rw [List.getElem?_map] at et
      cases eq : ts[ts.length - 1]? with
      | none => rw [eq] at et; cases et
      | some t' => rw [eq] at et; cases et; rfl
    have n1 : n < ms.length := by have := (List.getElem?_eq_some_iff.mp em).1; omega
    obtain ⟨m', u, xs, em', eM, hxs, ei, eu⟩ := mv.at n0 n1
    rw [em] at em'; cases em'
    have ne : (!(ts.map SV.ref).isEmpty) = true := by
      cases ts with
      | nil => simp at l0
      | cons _ _ => rfl
    rw [if_pos ne]
    refine Is.o2 (Is.o2 (Is.var (v := .ref M) rfl (Is.o2 (Is.o2 (Is.o2 (Is.var (v := .ref A) rfl (Is.o1 (Is.c ⟨.int (-1), h, rfl, ix_is eA (lastR_ix et0) (Is.c (ixT e1 rfl (Is.o1 (Is.c ⟨.int (-1), h, rfl, ix_is e2 (last_ix en) ?_⟩))))⟩))))))))
    refine ix_is eM ei (Is.c (ixT eu rfl ?_))
    rw [eo]; exact p
end Fw
namespace Fw
open PySem PySem.Spec L2
def checkStartM (iS iI iB iP : Tag → Option Bool) (xP : List (Option Nat)) (c eP eU eN : Nat) : SM := (mSeq (mDrop (mCall (mFn 1 1 (checkProgM iP eP)) (aCons (mVar 0) aNil))) (mSeq (mDrop (mCall (mFn 2 2 (checkPlaceM iS xP c eU)) (aCons (mVar 0) (aCons (mVar 1) aNil)))) (mDrop (mCall (mFn 1 1 (checkCountM iI iB eN)) (aCons (mVar 2) aNil)))))
def checkLedM (iL iT iS iI iB iP : Tag → Option Bool) (xP xM : List (Option Nat)) (c eP eU eN eR : Nat) : SM := (mSeq (mDrop (mCall (mFn 3 3 (checkStartM iS iI iB iP xP c eP eU eN)) (aCons (mVar 0) (aCons (mVar 1) (aCons (mVar 2) aNil))))) (mIfS (bOr (bNot (mTru (mCall (mFn 2 4 (pressM iL iT iI iB xM c)) (aCons (mVar 0) (aCons (mVar 3) aNil))))) (bNot (mTru (mCall (mFn 3 3 (beginsM xM c)) (aCons (mVar 0) (aCons (mVar 1) (aCons (mVar 3) aNil))))))) (mRaise eR 1 (aCons (mVar 3) aNil)) mNil))
def ledM (iL iT iS iI iB iP : Tag → Option Bool) (xP xM : List (Option Nat)) (c eP eU eN eR : Nat) : SM := (mSeq (mDrop (mCall (mFn 4 4 (checkLedM iL iT iS iI iB iP xP xM c eP eU eN eR)) (aCons (mVar 0) (aCons (mVar 1) (aCons (mVar 2) (aCons (mVar 3) aNil)))))) (mSeq (mSet 4 (mMeth c (mFn 1 1 (movesM xM)) (mVar 0) aNil)) (mSeq (mAsg (gTupM 2 (gsCons (gVar 5) (gsCons (gVar 6) gsNil))) (mCall (mFn 2 8 needM) (aCons (mVar 4) (aCons (mVar 3) aNil)))) (mSeq (mIfS (mB (mO2 opLt (mVar 2) (mVar 5))) (mRet (mC .non)) mNil) (mRet (mOA opTup (aCons (mCall (mFn 3 3 endOfM) (aCons (mVar 4) (aCons (mVar 1) (aCons (mVar 3) aNil)))) (aCons (mO2 opAdd (mVar 2) (mVar 6)) aNil))))))))
structure Facts (iL iT iS iI iB iP : Tag → Option Bool) (xP xM : List (Option Nat)) (c : Nat) : Prop where
  es : Isis iL iT iS iI iB
  ip : iP (.ins c) = some true
  xp : xP[c]? = some (some 0)
  xm : xM[c]? = some (some 1)
section
variable {iL iT iS iI iB iP : Tag → Option Bool} {xP xM : List (Option Nat)} {c eP eU eN eR : Nat}
theorem checkStart_is (F : Facts iL iT iS iI iB iP xP xM c) {a lo : Nat} {ps : List Str} {ms : List Nm} {place : Str} {i : Int} {h : SH} (pr : Prog h c a lo ps ms) (hp : place ∈ ps) (hi : 0 ≤ i) {P : SV → SH → Prop} (p : ∀ h', Le h h' → P .non h') :
    Is (mFn 3 3 (checkStartM iS iI iB iP xP c eP eU eN) [.ref a, .str place, .int i] h) P := by
  refine Is.fn rfl ?_
  unfold checkStartM
  refine Ist.seq (Ist.drop (Is.call (Is.acons (Is.var (v := .ref a) rfl (Is.anil (checkProg_is F.ip pr ?_))))))
  refine Ist.seq (Ist.drop (Is.call (Is.acons (Is.var (v := .ref a) rfl (Is.acons (Is.var (v := .str place) rfl (Is.anil (checkPlace_is F.es.S F.xp pr hp fun h1 l1 => ?_))))))))
  exact Ist.drop (Is.call (Is.acons (Is.var (v := .int i) rfl (Is.anil (checkCount_is F.es.I F.es.B hi (p h1 l1))))))
theorem led_is (F : Facts iL iT iS iI iB iP xP xM c) {a lo A : Nat} {ps : List Str} {ms : List Nm} {r : List Pt} {place q : Str} {i : Int} {h : SH} (x : Asked h c a lo A ps ms r place q) (hi : 0 ≤ i) {P : SV → SH → Prop}
    (p1 : i < (mR ms r).1 → ∀ h', Le h h' → P .non h') (p2 : (mR ms r).1 ≤ i → ∀ h' u, Le h h' → h'[u]? = some (.tup [.str q, .int (i + (mR ms r).2)]) → P (.ref u) h') :
    Is (mFn 4 7 (ledM iL iT iS iI iB iP xP xM c eP eU eN eR) [.ref a, .str place, .int i, .ref A] h) P := by
  refine Is.fn rfl ?_
  unfold ledM
  refine Ist.seq (Ist.drop (Is.call (Is.acons (Is.var (v := .ref a) rfl (Is.acons (Is.var (v := .str place) rfl (Is.acons (Is.var (v := .int i) rfl (Is.acons (Is.var (v := .ref A) rfl (Is.anil ?_))))))))))) 
  refine Is.fn rfl ?_
  unfold checkLedM
  refine Ist.seq (Ist.drop (Is.call (Is.acons (Is.var (v := .ref a) rfl (Is.acons (Is.var (v := .str place) rfl (Is.acons (Is.var (v := .int i) rfl (Is.anil (checkStart_is F x.pr x.hp hi fun h1 l1 => ?_))))))))))
  have x1 := x.le l1
  refine Ist.ite (Is.bor (Is.bnot (Is.tru (Is.call (Is.acons (Is.var (v := .ref a) rfl (Is.acons (Is.var (v := .ref A) rfl (Is.anil (press_is F.es F.xm x1 fun h2 l2 => ?_))))))))))
  refine tru_is ?_
  rw [if_neg (by decide)]
  have x2 := x1.le l2
  refine Is.bnot (Is.tru (Is.call (Is.acons (Is.var (v := .ref a) rfl (Is.acons (Is.var (v := .str place) rfl (Is.acons (Is.var (v := .ref A) rfl (Is.anil (begins_is F.xm x2 fun h3 l3 => ?_)))))))))) 
  refine tru_is ?_
  rw [if_neg (by decide)]
  have x3 := x2.le l3
  refine Ist.nil ?_
  refine Ist.seq (Ist.set (meth_moves F.xm (a := a) rfl x3.pr fun h4 M l4 mv => ?_))
  have x4 := x3.le l4
  refine Ist.seq (Ist.asg (Is.call (Is.acons (Is.var (v := .ref M) rfl (Is.acons (Is.var (v := .ref A) rfl (Is.anil (needM_is mv x.mok x4.row x.rok fun h5 u l5 eu => ⟨_, g2_is eu, ?_⟩))))))))
  have l := (((l1.trans l2).trans l3).trans l4).trans l5
  refine Ist.seq (Ist.ite (Is.bm (Is.o2 (Is.var (v := .int i) rfl (Is.var (v := .int (mR ms r).1) rfl ⟨_, _, rfl, _, rfl, ?_⟩)))))
  by_cases cc : i < (mR ms r).1
  · rw [if_pos (decide_eq_true cc)]
    exact Ist.ret (Is.c (p1 cc h5 l))
  · rw [if_neg (by simpa using cc)]
    refine Ist.nil (Ist.ret (Is.oa (Is.acons (Is.call (Is.acons (Is.var (v := .ref M) rfl (Is.acons (Is.var (v := .str place) rfl (Is.acons (Is.var (v := .ref A) rfl (Is.anil (endOf_is (mv.le l5) (x4.row.le l5) x.walk ?_)))))))))))) 
    refine Is.acons (Is.o2 (Is.var (v := .int i) rfl (Is.var (v := .int (mR ms r).2) rfl ⟨_, _, rfl, Is.anil (tup_is (small_big (by simp)) ?_)⟩)))
    exact p2 (by omega) _ _ (l.trans (Le.push _ _)) (new_at _ _)
end
end Fw
namespace Fw
open PySem PySem.Spec L2
theorem eqNil {h : SH} {j k : Nat} {ns : List Int} (e : h[j]? = some (.lst (ns.map SV.int))) (e0 : h[k]? = some (.lst [])) {P : SV → SH → Prop} (p : P (.bl ns.isEmpty) h) : ∃ v h3, eqD false (.ref j) (.ref k) h = some (v, h3) ∧ P v h3 := by
  refine ⟨_, _, ?_, p⟩
  unfold eqD
  have d0 : dataOf 64 h (.ref k) = some (.list []) := dataOf_lst e0 rfl
  have s0 : SeqAt.shaped (.list []) = true := by decide +kernel
  rw [data_ints e, d0]
  simp only [sh_ints, s0, Bool.and_self, if_true]
  rw [PyData.eqv, eqvAll_nil]
  cases ns <;> rfl
theorem isi_of {f : Tag → Option Bool} {ss : SS} {h : SH} {m : EM} {t : Tag} {b : Bool} {P : Bool → SH → Prop} (x : Is (m ss h) fun v h1 => tagOf h1 v = some t ∧ P b h1) (ef : f t = some b) : Is (mB (mO1 (opIsi f) m) ss h) P :=
  Is.bm (Is.o1 (x.mono fun v h1 ⟨e, p⟩ => isi_t e ef ⟨b, rfl, p⟩))
def lastM (iL iT iI iB : Tag → Option Bool) : SM := (mSeq (mSet 3 (mVar 1)) (mSeq (mIfS (bNot (mB (mO1 (opIsi iL) (mVar 2)))) (mRet (mC .non)) mNil) (mSeq (mFor (mWalk (mVar 2)) (gVar 4) (mSeq (mIfS (bOr (bNot (mB (mO1 (opIsi iT) (mVar 4)))) (bOr (mB (mO2 (eqD true) (mOA (un1 opLen) (aCons (mVar 4) aNil)) (mC (.int 2)))) (bOr (bNot (mTru (mCall (mFn 1 1 (wholeM iI iB)) (aCons (mO2 opIx (mVar 4) (mC (.int 0))) aNil)))) (mB (mO2 opLt (mO2 opIx (mVar 4) (mC (.int 0))) (mC (.int 1))))))) (mRet (mC .non)) mNil) (mSeq (mIfS (bOr (bNot (mB (mO1 (opIsi iL) (mO2 opIx (mVar 4) (mC (.int 1)))))) (mB (mO2 (eqD false) (mO2 opIx (mVar 4) (mC (.int 1))) (mOA opLst aNil)))) (mRet (mC .non)) mNil) (mSeq (mSet 5 (mVar 3)) (mSeq (mFor (mWalk (mO2 opIx (mVar 4) (mC (.int 1)))) (gVar 6) (mSeq (mIfS (bOr (bNot (mTru (mCall (mFn 1 1 (wholeM iI iB)) (aCons (mVar 6) aNil)))) (bOr (bNot (mB (mChain opLe opLt (mC (.int 0)) (mVar 6) (mOA (un1 opLen) (aCons (mO2 opIx (mVar 0) (mC (.int 1))) aNil))))) (mB (mO2 (eqD true) (mO2 opIx (mO2 opIx (mO2 opIx (mVar 0) (mC (.int 1))) (mVar 6)) (mC (.int 0))) (mVar 3))))) (mRet (mC .non)) mNil) (mSet 3 (mO2 opIx (mO2 opIx (mO2 opIx (mVar 0) (mC (.int 1))) (mVar 6)) (mC (.int 3)))))) (mIfS (bAnd (mB (mO2 opGt (mO2 opIx (mVar 4) (mC (.int 0))) (mC (.int 1)))) (mB (mO2 (eqD true) (mVar 3) (mVar 5)))) (mRet (mC .non)) mNil)))))) (mRet (mVar 3)))))
theorem last_is {iL iT iS iI iB : Tag → Option Bool} (es : Isis iL iT iS iI iB) {t lo A : Nat} {ps : List Str} {ms : List Nm} {r : List Pt} {place q : Str} {h : SH} (pt : Parts h t lo ps ms) (row : Row h A r) (rok : RowOk ms r) (w : walkR ms place r = some q) (hp : place ∈ ps) {P : SV → SH → Prop}
    (p : ∀ h', Le h h' → P (.str q) h') : Is (mFn 3 7 (lastM iL iT iI iB) [.ref t, .str place, .ref A] h) P := by
  refine Is.fn rfl ?_
  unfold lastM
  obtain ⟨ts, eA, hts, z⟩ := row.at
  have few := rok.few
  refine Ist.seq (Ist.set (Is.var (v := .str place) rfl ?_))
  refine Ist.seq (Ist.ite (Is.bnot (isi_of (Is.var (v := .ref A) rfl ⟨tag_lst eA, ?_⟩) es.L)))
  rw [if_neg (by decide)]
  refine Ist.nil (Ist.seq (Ist.for (Is.walkL (Is.var (v := .ref A) rfl ⟨A, _, rfl, eA, ts.length, fun k s h' => Le h h' ∧ s.length = 7 ∧ s[0]? = some (some (.ref t)) ∧ ∃ pk, s[3]? = some (some (.str pk)) ∧ walkR ms pk (r.drop k) = some q ∧ pk ∈ ps, by unfold many; omega, ⟨Le.refl _, rfl, rfl, place, rfl, w, hp⟩, ?_, ?_⟩))))
  · rintro k s h' hk ⟨le, len, q0, pk, q3, wk, hpk⟩
    obtain ⟨u, b, y, et, er, my, e1, e2⟩ := z k hk
    obtain ⟨y1, y2, y3, y4, y5⟩ := rok.num y my
    have hkr : k < r.length := by omega
    rw [List.drop_eq_getElem_cons hkr] at wk
    have ey : r[k] = y := by rw [List.getElem?_eq_getElem hkr] at er; exact Option.some.inj er
    rw [ey] at wk
    obtain ⟨_, _, zz, wz, cl, wr⟩ := walkR_cons wk
    have e1' := le _ _ e1
    have e2' := le _ _ e2
    refine ⟨_, _, _, wkL_at (le _ _ eA) et, rfl, ?_⟩
    have t0 := gs (i := 4) (x := some (SV.ref u)) q0 (by decide)
    have t3 := gs (i := 4) (x := some (SV.ref u)) q3 (by decide)
    have t4 := gx (i := 4) (x := some (SV.ref u)) len (by decide)
    have tl : (s.set 4 (some (SV.ref u))).length = 7 := by simp [len]
    generalize s.set 4 (some (SV.ref u)) = s1 at t0 t3 t4 tl ⊢
    refine Ist.seq (Ist.ite (Is.bor (Is.bnot (isi_of (Is.var t4 ⟨tag_tup e1', ?_⟩) es.T))))
    rw [if_neg (by decide)]
    refine Is.bor (Is.bm (Is.o2 (Is.oa (Is.acons (Is.var t4 (Is.anil (lenT_is e1' (Is.c (neI ⟨_, rfl, ?_⟩)))))))))
    rw [if_neg (by simp)]
    refine Is.bor (Is.bnot (Is.tru (Is.call (Is.acons (Is.o2 (Is.var t4 (Is.c (ixT e1' rfl (Is.anil (whole_is es.I es.B ?_))))))))))
    refine tru_is ?_
    rw [if_neg (by decide)]
    refine Is.bm (Is.o2 (Is.o2 (Is.var t4 (Is.c (ixT e1' rfl (Is.c ⟨_, _, rfl, _, rfl, ?_⟩))))))
    rw [if_neg (by simpa using y1)]
    refine Ist.nil (Ist.seq (Ist.ite (Is.bor (Is.bnot (isi_of (Is.o2 (Is.var t4 (Is.c (ixT e1' rfl ⟨tag_lst e2', ?_⟩)))) es.L)))))
    rw [if_neg (by decide)]
    refine Is.bm (Is.o2 (Is.o2 (Is.var t4 (Is.c (ixT e1' rfl (Is.oa (Is.anil (lst_is (small_big (by simp)) ?_))))))))
    refine eqNil (Le.push _ _ _ _ e2') (new_at _ _) ⟨_, rfl, ?_⟩
    have ne : y.ns.isEmpty = false := by
      cases hq : y.ns with
      | nil => exact absurd hq y3
      | cons a l => rfl
    rw [if_neg (by rw [ne]; decide)]
    have l2 := le.trans (Le.push h' (.lst []))
    generalize h' ++ [SO.lst []] = h2 at l2 ⊢
    have e1'' := l2 _ _ e1
    have e2'' := l2 _ _ e2
    refine Ist.nil (Ist.seq (Ist.set (Is.var t3 ?_)))
    have u0 := gs (i := 5) (x := some (SV.str pk)) t0 (by decide)
    have u3 := gs (i := 5) (x := some (SV.str pk)) t3 (by decide)
    have u4 := gs (i := 5) (x := some (SV.str pk)) t4 (by decide)
    have u5 := gx (i := 5) (x := some (SV.str pk)) tl (by decide)
    have ul : (s1.set 5 (some (SV.str pk))).length = 7 := by simp [tl]
    generalize s1.set 5 (some (SV.str pk)) = s2 at u0 u3 u4 u5 ul ⊢
    refine Ist.seq (Ist.for (Is.walkL (Is.o2 (Is.var u4 (Is.c (ixT e1'' rfl ⟨b, _, rfl, e2'', y.ns.length, fun j s h' => h' = h2 ∧ s.length = 7 ∧ s[0]? = some (some (.ref t)) ∧ s[4]? = some (some (.ref u)) ∧ s[5]? = some (some (.str pk)) ∧ ∃ pj, s[3]? = some (some (.str pj)) ∧ walkN ms pj (y.ns.drop j) = some zz ∧ pj ∈ ps, by unfold many; omega, ⟨rfl, ul, u0, u4, u5, pk, u3, wz, hpk⟩, ?_, ?_⟩))))))
    · rintro j s3 h3 hj ⟨eh, len, q0, q4, q5, pj, q3, wj, hpj⟩
      subst eh
      rw [List.drop_eq_getElem_cons hj] at wj
      obtain ⟨n0, m, em, ep, wj'⟩ := walkN_cons wj
      have n1 : y.ns[j] < ms.length := by have := (List.getElem?_eq_some_iff.mp em).1; omega
      have mo := pt.mok m (List.mem_of_getElem? em)
      have pt2 := pt.le l2
      refine ⟨_, _, _, wkL_at e2'' (by rw [List.getElem?_map, List.getElem?_eq_getElem hj]; rfl), rfl, ?_⟩
      have v0 := gs (i := 6) (x := some (SV.int y.ns[j])) q0 (by decide)
      have v3 := gs (i := 6) (x := some (SV.int y.ns[j])) q3 (by decide)
      have v4 := gs (i := 6) (x := some (SV.int y.ns[j])) q4 (by decide)
      have v5 := gs (i := 6) (x := some (SV.int y.ns[j])) q5 (by decide)
      have v6 := gx (i := 6) (x := some (SV.int y.ns[j])) len (by decide)
      have vl : (s3.set 6 (some (SV.int y.ns[j]))).length = 7 := by simp [len]
      generalize s3.set 6 (some (SV.int y.ns[j])) = s4 at v0 v3 v4 v5 v6 vl ⊢
      refine Ist.seq (Ist.ite (Is.bor (Is.bnot (Is.tru (Is.call (Is.acons (Is.var v6 (Is.anil (whole_is es.I es.B ?_)))))))))
      refine tru_is ?_
      rw [if_neg (by decide)]
      refine Is.bor (Is.bnot (Is.bm (Is.chain (Is.c (Is.var v6 ⟨_, _, rfl, .inl ⟨?_, Is.oa (Is.acons (pmi_is pt2 v0 fun M mv => ?_))⟩⟩)))))
      · rw [decide_eq_true n0]
      obtain ⟨ts', eM, hts', _⟩ := mv
      refine Is.anil (len_is eM ⟨_, _, rfl, _, rfl, ?_⟩)
      rw [if_neg (by simp [hts']; omega)]
      refine Is.bm (Is.o2 (Is.o2 (Is.o2 (pmi_is pt2 v0 fun M' mv' => ?_))))
      obtain ⟨m', uu, xs, em', eM', hxs, ei, eu⟩ := mv'.at n0 n1
      rw [em] at em'; cases em'
      refine Is.var v6 (ix_is eM' ei (Is.c (ixT eu rfl (Is.var v3 (eqStr (neg := true) (pt.nm m.p mo.hp).ok (pt.nm pj hpj).ok ⟨_, rfl, ?_⟩)))))
      rw [if_pos rfl, ep, decide_eq_true rfl, if_neg (by decide)]
      refine Ist.nil (Ist.set (Is.o2 (Is.o2 (pmi_is pt2 v0 fun M' mv' => ?_))))
      obtain ⟨m', uu', xs', em', eM'', hxs', ei', eu'⟩ := mv'.at n0 n1
      rw [em] at em'; cases em'
      exact Is.var v6 (ix_is eM'' ei' (Is.c (ixT eu' rfl ⟨rfl, by simp [vl], gs v0 (by decide), gs v4 (by decide), gs v5 (by decide), m.o, gx vl (by decide), wj', mo.ho⟩)))
    · rintro s3 h3 ⟨eh, len, q0, q4, q5, pj, q3, wj, hpj⟩
      subst eh
      have wk' := wkL_end e2''
      rw [List.length_map] at wk'
      rw [List.drop_length] at wj
      unfold walkN at wj
      cases wj
      refine ⟨wk', Ist.ite (Is.band (Is.bm (Is.o2 (Is.o2 (Is.var q4 (Is.c (ixT e1'' rfl (Is.c ⟨_, _, rfl, _, rfl, ?_⟩))))))))⟩
      by_cases cc : 1 < y.t
      · rw [if_pos (decide_eq_true cc)]
        refine Is.bm (Is.o2 (Is.var q3 (Is.var q5 (eqStr (neg := true) (pt.nm _ hpj).ok (pt.nm pk hpk).ok ⟨_, rfl, ?_⟩))))
        rw [if_pos rfl, cl cc, decide_eq_true rfl, if_neg (by decide)]
        refine Ist.nil ⟨l2, len, q0, _, q3, ?_, hpj⟩
        exact wr
      · rw [if_neg (by simpa using cc), if_neg (by decide)]
        exact Ist.nil ⟨l2, len, q0, _, q3, wr, hpj⟩
  · rintro s h' ⟨le, len, q0, pk, q3, wk, hpk⟩
    have wkk := wkL_end (le _ _ eA)
    rw [List.length_map] at wkk
    rw [hts, List.drop_length] at wk
    unfold walkR at wk
    cases wk
    exact ⟨wkk, Ist.ret (Is.var q3 (p h' le))⟩
end Fw
namespace Fw
open PySem PySem.Spec L2
/-! ### rows move by move -/
def Gd (a : Int × Int) : Prop := 0 ≤ a.1 ∧ 0 ≤ a.1 + a.2
theorem beh_assoc (a b c : Int × Int) : beh (beh a b) c = beh a (beh b c) := by
  obtain ⟨a1, a2⟩ := a; obtain ⟨b1, b2⟩ := b; obtain ⟨c1, c2⟩ := c
  unfold beh
  simp only
  refine Prod.ext ?_ ?_
  · simp only
    by_cases h1 : b1 - a2 > a1
    · simp only [if_pos h1]
      by_cases h2 : c1 - b2 > b1
      · simp only [if_pos h2]
        rw [if_pos (by omega), if_pos (by omega)]; omega
      · simp only [if_neg h2]
        rw [if_neg (by omega), if_pos h1]
    · simp only [if_neg h1]
      by_cases h2 : c1 - b2 > b1
      · simp only [if_pos h2]
        by_cases h3 : c1 - (a2 + b2) > a1
        · rw [if_pos h3, if_pos (by omega)]; omega
        · rw [if_neg h3, if_neg (by omega)]
      · simp only [if_neg h2]
        rw [if_neg (by omega), if_neg h1]
  · simp only; omega
theorem beh_nil {a : Int × Int} (g : Gd a) : beh a (0, 0) = a := by
  obtain ⟨a1, a2⟩ := a
  obtain ⟨g1, g2⟩ := g
  unfold beh
  simp only at g1 g2 ⊢
  rw [if_neg (by omega)]
  simp
theorem beh_ge (a b : Int × Int) : a.1 ≤ (beh a b).1 := by
  unfold beh
  simp only
  split <;> omega
theorem beh_gd {a b : Int × Int} (ga : Gd a) (gb : Gd b) : Gd (beh a b) := by
  obtain ⟨a1, a2⟩ := a; obtain ⟨b1, b2⟩ := b
  obtain ⟨g1, g2⟩ := ga; obtain ⟨g3, g4⟩ := gb
  unfold beh Gd
  simp only at g1 g2 g3 g4 ⊢
  split <;> omega
theorem gd0 : Gd (0, 0) := ⟨by decide, by decide⟩
section
variable {ms : List Nm} {ps : List Str}
theorem stepN_ge (a : Int × Int) (n : Int) : a.1 ≤ (stepN ms a n).1 := by
  unfold stepN
  cases ms[n.toNat]? with
  | none => exact Int.le_refl _
  | some m => exact beh_ge _ _
theorem fold_ge : ∀ (ns : List Int) (a : Int × Int), a.1 ≤ (ns.foldl (stepN ms) a).1
  | [], a => Int.le_refl _
  | n :: ns, a => Int.le_trans (stepN_ge a n) (fold_ge ns _)
theorem fold_take (ns : List Int) (j : Nat) (a : Int × Int) : ((ns.take j).foldl (stepN ms) a).1 ≤ (ns.foldl (stepN ms) a).1 := by
  have e : ns.foldl (stepN ms) a = (ns.drop j).foldl (stepN ms) ((ns.take j).foldl (stepN ms) a) := by rw [← List.foldl_append, List.take_append_drop]
  rw [e]; exact fold_ge _ _
theorem stepN_gd (mok : ∀ m ∈ ms, Nm.Ok ps m) {a : Int × Int} (g : Gd a) (n : Int) : Gd (stepN ms a n) := by
  unfold stepN
  cases e : ms[n.toNat]? with
  | none => exact g
  | some m =>
    have mo := mok m (List.mem_of_getElem? e)
    exact beh_gd g ⟨mo.l0, mo.e0⟩
theorem fold_gd (mok : ∀ m ∈ ms, Nm.Ok ps m) : ∀ (ns : List Int) {a : Int × Int}, Gd a → Gd (ns.foldl (stepN ms) a)
  | [], a, g => g
  | n :: ns, a, g => fold_gd mok ns (stepN_gd mok g n)
theorem fold_beh (mok : ∀ m ∈ ms, Nm.Ok ps m) : ∀ (ns : List Int) {a b : Int × Int}, Gd b → beh a b = a → ns.foldl (stepN ms) (beh a b) = beh a (ns.foldl (stepN ms) b)
  | [], a, b, _, _ => rfl
  | n :: ns, a, b, g, e => by
    rw [List.foldl_cons, List.foldl_cons]
    have q : ∀ (ns : List Int) (b : Int × Int), ns.foldl (stepN ms) (beh a b) = beh a (ns.foldl (stepN ms) b) := by
      intro ns
      induction ns with
      | nil => intro b; rfl
      | cons n ns ih =>
        intro b
        rw [List.foldl_cons, List.foldl_cons]
        have s : stepN ms (beh a b) n = beh a (stepN ms b n) := by
          unfold stepN
          cases ms[n.toNat]? with
          | none => rfl
          | some m => exact beh_assoc _ _ _
        rw [s, ih]
    have s : stepN ms (beh a b) n = beh a (stepN ms b n) := by
      unfold stepN
      cases ms[n.toNat]? with
      | none => rfl
      | some m => exact beh_assoc _ _ _
    rw [s, q]
theorem fold_mN (mok : ∀ m ∈ ms, Nm.Ok ps m) (ns : List Int) {a : Int × Int} (g : Gd a) : ns.foldl (stepN ms) a = beh a (mN ms ns) := by
  have := fold_beh mok ns (a := a) (b := (0, 0)) gd0 (beh_nil g)
  rw [beh_nil g] at this
  exact this
def itN (ms : List Nm) (ns : List Int) : Nat → Int × Int → Int × Int
  | 0, a => a
  | n + 1, a => ns.foldl (stepN ms) (itN ms ns n a)
theorem itN_ge (ns : List Int) (a : Int × Int) : ∀ (i n : Nat), i ≤ n → (itN ms ns i a).1 ≤ (itN ms ns n a).1
  | i, 0, h => by have : i = 0 := by omega
                  rw [this]; exact Int.le_refl _
  | i, n + 1, h => by
    by_cases e : i = n + 1
    · rw [e]; exact Int.le_refl _
    · exact Int.le_trans (itN_ge ns a i n (by omega)) (fold_ge _ _)
theorem itN_gd (mok : ∀ m ∈ ms, Nm.Ok ps m) (ns : List Int) {a : Int × Int} (g : Gd a) : ∀ n, Gd (itN ms ns n a)
  | 0 => g
  | n + 1 => fold_gd mok ns (itN_gd mok ns g n)
theorem far_step (m : Int × Int) (n : Int) (hn : 1 ≤ n) : beh (farP n m) m = farP (n + 1) m := by
  obtain ⟨m1, m2⟩ := m
  unfold beh farP
  simp only
  refine Prod.ext ?_ (by simp only; rw [Int.add_mul]; omega)
  simp only
  have e1 : (n + 1 - 1) * m2 = n * m2 := by congr 1; omega
  have e2 : (n - 1) * m2 = n * m2 - m2 := by rw [Int.sub_mul]; omega
  rw [e1, e2]
  by_cases c : m2 < 0
  · rw [if_pos c, if_pos c, if_pos (by omega)]
  · rw [if_neg c, if_neg c]
    have : 0 ≤ n * m2 := Int.mul_nonneg (by omega) (by omega)
    rw [if_neg (by omega)]
theorem far_one (m : Int × Int) : farP 1 m = m := by
  obtain ⟨m1, m2⟩ := m
  unfold farP
  simp
theorem itN_far (mok : ∀ m ∈ ms, Nm.Ok ps m) (ns : List Int) {a : Int × Int} (g : Gd a) : ∀ n : Nat, itN ms ns (n + 1) a = beh a (farP ((n : Int) + 1) (mN ms ns))
  | 0 => by
    show ns.foldl (stepN ms) a = _
    rw [fold_mN mok ns g]
    have : ((0 : Nat) : Int) + 1 = 1 := rfl
    rw [this, far_one]
  | n + 1 => by
    show ns.foldl (stepN ms) (itN ms ns (n + 1) a) = _
    rw [fold_mN mok ns (itN_gd mok ns g _), itN_far mok ns g n, beh_assoc, far_step _ _ (by omega)]
    congr 1
theorem itN_step (mok : ∀ m ∈ ms, Nm.Ok ps m) (x : Pt) {a : Int × Int} (g : Gd a) (h : 1 ≤ x.t) : itN ms x.ns x.t.toNat a = stepR ms a x := by
  obtain ⟨n, hn⟩ : ∃ n : Nat, x.t.toNat = n + 1 := ⟨x.t.toNat - 1, by omega⟩
  rw [hn, itN_far mok _ g]
  unfold stepR
  have : ((n : Int) + 1) = x.t := by omega
  rw [this]
theorem stepR_ge (a : Int × Int) (x : Pt) : a.1 ≤ (stepR ms a x).1 := beh_ge _ _
theorem far_gd {m : Int × Int} (g : Gd m) {t : Int} (ht : 1 ≤ t) : Gd (farP t m) := by
  obtain ⟨m1, m2⟩ := m
  obtain ⟨g1, g2⟩ := g
  unfold farP Gd
  simp only at g1 g2 ⊢
  have e2 : (t - 1) * m2 = t * m2 - m2 := by rw [Int.sub_mul]; omega
  rw [e2]
  by_cases c : m2 < 0
  · rw [if_pos c]
    have : t * m2 ≤ 1 * m2 := Int.mul_le_mul_of_nonpos_right ht (by omega)
    omega
  · rw [if_neg c]
    have : 0 ≤ t * m2 := Int.mul_nonneg (by omega) (by omega)
    omega
theorem mN_gd (mok : ∀ m ∈ ms, Nm.Ok ps m) (ns : List Int) : Gd (mN ms ns) := fold_gd mok ns gd0
theorem stepR_gd (mok : ∀ m ∈ ms, Nm.Ok ps m) {a : Int × Int} (g : Gd a) {x : Pt} (h : 1 ≤ x.t) : Gd (stepR ms a x) := beh_gd g (far_gd (mN_gd mok _) h)
theorem foldR_gd (mok : ∀ m ∈ ms, Nm.Ok ps m) : ∀ (r : List Pt) {a : Int × Int}, Gd a → (∀ x ∈ r, 1 ≤ x.t) → Gd (r.foldl (stepR ms) a)
  | [], a, g, _ => g
  | x :: r, a, g, h => foldR_gd mok r (stepR_gd mok g (h x List.mem_cons_self)) fun y hy => h y (List.mem_cons_of_mem _ hy)
theorem foldR_ge : ∀ (r : List Pt) (a : Int × Int), a.1 ≤ (r.foldl (stepR ms) a).1
  | [], a => Int.le_refl _
  | x :: r, a => Int.le_trans (stepR_ge a x) (foldR_ge r _)
theorem mR_take_le (r : List Pt) (k : Nat) : (mR ms (r.take k)).1 ≤ (mR ms r).1 := by
  have e : mR ms r = (r.drop k).foldl (stepR ms) (mR ms (r.take k)) := by
    unfold mR
    rw [← List.foldl_append, List.take_append_drop]
  rw [e]; exact foldR_ge _ _
theorem foldR_beh (r : List Pt) (a : Int × Int) : ∀ b : Int × Int, r.foldl (stepR ms) (beh a b) = beh a (r.foldl (stepR ms) b) := by
  induction r with
  | nil => intro b; rfl
  | cons x r ih =>
    intro b
    rw [List.foldl_cons, List.foldl_cons]
    have s : stepR ms (beh a b) x = beh a (stepR ms b x) := beh_assoc _ _ _
    rw [s, ih]
/-- a row parted anywhere measures the same -/
theorem mR_part (mok : ∀ m ∈ ms, Nm.Ok ps m) {r : List Pt} (h : ∀ x ∈ r, 1 ≤ x.t) (k : Nat) : beh (mR ms (r.take k)) (mR ms (r.drop k)) = mR ms r := by
  have g : Gd (mR ms (r.take k)) := foldR_gd mok _ gd0 fun x hx => h x (List.mem_of_mem_take hx)
  have e : mR ms r = (r.drop k).foldl (stepR ms) (mR ms (r.take k)) := by
    unfold mR
    rw [← List.foldl_append, List.take_append_drop]
  rw [e]
  have := foldR_beh (ms := ms) (r.drop k) (mR ms (r.take k)) (0, 0)
  rw [beh_nil g] at this
  rw [this]
  rfl
end
end Fw
namespace Fw
open PySem PySem.Spec L2
def oneWalkM : SM := (mSeq (mAsg (gTupM 4 (gsCons (gVar 8) (gsCons (gVar 9) (gsCons (gVar 10) (gsCons (gVar 11) gsNil))))) (mO2 opIx (mO2 opIx (mVar 0) (mC (.int 1))) (mVar 7))) (mSeq (mIfS (mB (mO2 opLt (mVar 3) (mVar 9))) (mRet (mC .non)) mNil) (mSet 3 (mO2 opAdd (mVar 3) (mVar 10)))))
def walkedM : SM := (mSeq (mSet 3 (mVar 1)) (mSeq (mFor (mWalk (mVar 2)) (gTupM 2 (gsCons (gVar 4) (gsCons (gVar 5) gsNil))) (mFor (mRng1 (aCons (mVar 4) aNil)) (gVar 6) (mFor (mWalk (mVar 5)) (gVar 7) oneWalkM))) (mRet (mVar 3))))
/-- what stands while a row is walked: what was done so far measures a -/
structure Wkt (t : Nat) (i : Int) (a : Int × Int) (s : SS) : Prop where
  len : s.length = 12
  s0 : s[0]? = some (some (.ref t))
  s3 : s[3]? = some (some (.int (i + a.2)))
  need : a.1 ≤ i
theorem walked_is {t lo A : Nat} {ps : List Str} {ms : List Nm} {r : List Pt} {i : Int} {h : SH} (pt : Parts h t lo ps ms) (row : Row h A r) (rok : RowOk ms r) (small : ∀ x ∈ r, x.t ≤ 1000) (hi : 0 ≤ i) {P : SV → SH → Prop}
    (p1 : i < (mR ms r).1 → P .non h) (p2 : (mR ms r).1 ≤ i → P (.int (i + (mR ms r).2)) h) : Is (mFn 3 12 walkedM [.ref t, .int i, .ref A] h) P := by
  refine Is.fn rfl ?_
  unfold walkedM
  obtain ⟨ts, eA, hts, z⟩ := row.at
  have few := rok.few
  refine Ist.seq (Ist.set (Is.var (v := .int i) rfl ?_))
  refine Ist.seq (Ist.for (Is.walkL (Is.var (v := .ref A) rfl ⟨A, _, rfl, eA, ts.length, fun k s h' => h' = h ∧ Wkt t i (mR ms (r.take k)) s, by unfold many; omega, ⟨rfl, rfl, rfl, ?_, ?_⟩, ?_, ?_⟩)))
  · show some (some (SV.int i)) = some (some (.int (i + 0)))
    rw [Int.add_zero]
  · exact hi
  · rintro k s h' hk ⟨eh, x⟩
    subst eh
    obtain ⟨u, b, y, et, er, my, e1, e2⟩ := z k hk
    obtain ⟨y1, y2, y3, y4, y5⟩ := rok.num y my
    have ysm := small y my
    have g : Gd (mR ms (r.take k)) := foldR_gd pt.mok _ gd0 fun x hx => (rok.num x (List.mem_of_mem_take hx)).1
    have etk : mR ms (r.take (k + 1)) = itN ms y.ns y.t.toNat (mR ms (r.take k)) := by rw [itN_step pt.mok y g y1]; exact take_fold er
    have htot : (mR ms (r.take (k + 1))).1 ≤ (mR ms r).1 := mR_take_le r (k + 1)
    rw [etk] at htot
    refine ⟨_, _, _, wkL_at eA et, g2_is e1, ?_⟩
    have t0 := gs (i := 5) (x := some (SV.ref b)) (gs (i := 4) (x := some (SV.int y.t)) x.s0 (by decide)) (by decide)
    have t3 := gs (i := 5) (x := some (SV.ref b)) (gs (i := 4) (x := some (SV.int y.t)) x.s3 (by decide)) (by decide)
    have t4 := gs (i := 5) (x := some (SV.ref b)) (gx (i := 4) (x := some (SV.int y.t)) x.len (by decide)) (by decide)
    have t5 := gx (i := 5) (x := some (SV.ref b)) (s := s.set 4 (some (SV.int y.t))) (n := 12) (by simp [x.len]) (by decide)
    have tl : ((s.set 4 (some (SV.int y.t))).set 5 (some (SV.ref b))).length = 12 := by simp [x.len]
    have need0 := x.need
    generalize (s.set 4 (some (SV.int y.t))).set 5 (some (SV.ref b)) = s1 at t0 t3 t4 t5 tl ⊢
    generalize mR ms (r.take k) = a at t3 need0 g htot etk
    refine Ist.for (Is.rng1 (Is.acons (Is.var t4 (Is.anil ⟨_, rfl, decide_eq_true (by omega), y.t.toNat, fun n s h2 => h2 = h' ∧ Wkt t i (itN ms y.ns n a) s ∧ s[5]? = some (some (.ref b)), by unfold many; omega, ⟨rfl, ⟨tl, t0, t3, need0⟩, t5⟩, ?_, ?_⟩))))
    · rintro n s2 h2 hn ⟨eh, x2, q5⟩
      subst eh
      refine ⟨_, _, _, wkRng_at hn, rfl, ?_⟩
      have hn1 : (itN ms y.ns (n + 1) a).1 ≤ (itN ms y.ns y.t.toNat a).1 := itN_ge _ _ _ _ (by omega)
      refine Ist.for (Is.walkL (Is.var (gs q5 (by decide)) ⟨b, _, rfl, e2, y.ns.length, fun j s h3 => h3 = h2 ∧ Wkt t i ((y.ns.take j).foldl (stepN ms) (itN ms y.ns n a)) s ∧ s[5]? = some (some (.ref b)), by unfold many; omega, ⟨rfl, ⟨by simp [x2.len], gs x2.s0 (by decide), gs x2.s3 (by decide), x2.need⟩, gs q5 (by decide)⟩, ?_, ?_⟩))
      · rintro j s3 h3 hj ⟨eh, x3, q5⟩
        subst eh
        have ek : y.ns[j]? = some y.ns[j] := List.getElem?_eq_getElem hj
        obtain ⟨n0, n1⟩ := y5 _ (List.mem_of_getElem? ek)
        refine ⟨_, _, _, wkL_at e2 (by rw [List.getElem?_map, ek]; rfl), rfl, ?_⟩
        have v0 := gs (i := 7) (x := some (SV.int y.ns[j])) x3.s0 (by decide)
        have v3 := gs (i := 7) (x := some (SV.int y.ns[j])) x3.s3 (by decide)
        have v5 := gs (i := 7) (x := some (SV.int y.ns[j])) q5 (by decide)
        have v7 := gx (i := 7) (x := some (SV.int y.ns[j])) x3.len (by decide)
        have vl : (s3.set 7 (some (SV.int y.ns[j]))).length = 12 := by simp [x3.len]
        have vn := x3.need
        generalize s3.set 7 (some (SV.int y.ns[j])) = s4 at v0 v3 v5 v7 vl ⊢
        have ej := take_fold (f := stepN ms) (a := itN ms y.ns n a) ek
        have hle : ((y.ns.take (j + 1)).foldl (stepN ms) (itN ms y.ns n a)).1 ≤ (itN ms y.ns (n + 1) a).1 := fold_take y.ns (j + 1) _
        rw [ej] at hle
        show Ist _ (fun s h4 => h4 = h3 ∧ Wkt t i ((y.ns.take (j + 1)).foldl (stepN ms) (itN ms y.ns n a)) s ∧ s[5]? = some (some (.ref b))) _ _ _
        rw [ej]
        generalize (y.ns.take j).foldl (stepN ms) (itN ms y.ns n a) = c at v3 vn hle ⊢
        unfold oneWalkM
        refine Ist.seq (Ist.asg (Is.o2 (pmi_is pt v0 fun M mv => ?_)))
        obtain ⟨m, u', xs, em, eM, hxs, ei, eu⟩ := mv.at n0 n1
        have es : stepN ms c y.ns[j] = beh c (m.l, m.c) := by unfold stepN; rw [em]
        rw [es] at hle ⊢
        refine Is.var v7 (ix_is eM ei ⟨_, g4_is eu, ?_⟩)
        have w0 := gs (i := 11) (x := some (SV.str m.o)) (gs (i := 10) (x := some (SV.int m.c)) (gs (i := 9) (x := some (SV.int m.l)) (gs (i := 8) (x := some (SV.str m.p)) v0 (by decide)) (by decide)) (by decide)) (by decide)
        have w3 := gs (i := 11) (x := some (SV.str m.o)) (gs (i := 10) (x := some (SV.int m.c)) (gs (i := 9) (x := some (SV.int m.l)) (gs (i := 8) (x := some (SV.str m.p)) v3 (by decide)) (by decide)) (by decide)) (by decide)
        have w5 := gs (i := 11) (x := some (SV.str m.o)) (gs (i := 10) (x := some (SV.int m.c)) (gs (i := 9) (x := some (SV.int m.l)) (gs (i := 8) (x := some (SV.str m.p)) v5 (by decide)) (by decide)) (by decide)) (by decide)
        have w9 := gs (i := 11) (x := some (SV.str m.o)) (gs (i := 10) (x := some (SV.int m.c)) (gx (i := 9) (x := some (SV.int m.l)) (s := s4.set 8 (some (SV.str m.p))) (n := 12) (by simp [vl]) (by decide)) (by decide)) (by decide)
        have w10 := gs (i := 11) (x := some (SV.str m.o)) (gx (i := 10) (x := some (SV.int m.c)) (s := (s4.set 8 (some (SV.str m.p))).set 9 (some (SV.int m.l))) (n := 12) (by simp [vl]) (by decide)) (by decide)
        have wl : ((((s4.set 8 (some (SV.str m.p))).set 9 (some (SV.int m.l))).set 10 (some (SV.int m.c))).set 11 (some (SV.str m.o))).length = 12 := by simp [vl]
        generalize (((s4.set 8 (some (SV.str m.p))).set 9 (some (SV.int m.l))).set 10 (some (SV.int m.c))).set 11 (some (SV.str m.o)) = s5 at w0 w3 w5 w9 w10 wl ⊢
        refine Ist.seq (Ist.ite (Is.bm (Is.o2 (Is.var w3 (Is.var w9 ⟨_, _, rfl, _, rfl, ?_⟩)))))
        have b1 : (beh c (m.l, m.c)).1 = if m.l - c.2 > c.1 then m.l - c.2 else c.1 := rfl
        have b2 : (beh c (m.l, m.c)).2 = c.2 + m.c := rfl
        by_cases cc : i + c.2 < m.l
        · rw [if_pos (decide_eq_true cc)]
          refine Ist.ret (Is.c (p1 ?_))
          rw [b1, if_pos (by omega)] at hle
          omega
        · rw [if_neg (by simpa using cc)]
          refine Ist.nil (Ist.set (Is.o2 (Is.var w3 (Is.var w10 ⟨_, _, rfl, rfl, ⟨by simp [wl], gs w0 (by decide), ?_, ?_⟩, gs w5 (by decide)⟩))))
          · rw [gx wl (by decide), b2]
            congr 3; omega
          · rw [b1]
            split <;> omega
      · rintro s3 h3 ⟨eh, x3, q5⟩
        subst eh
        rw [List.take_length] at x3
        have wk' := wkL_end e2
        rw [List.length_map] at wk'
        exact ⟨wk', rfl, x3, q5⟩
    · rintro s2 h2 ⟨eh, x2, q5⟩
      subst eh
      exact ⟨wkRng_end, rfl, by rw [etk]; exact x2⟩
  · rintro s h' ⟨eh, x⟩
    subst eh
    have wkk := wkL_end eA
    rw [List.length_map] at wkk
    rw [hts, List.take_length] at x
    exact ⟨wkk, Ist.ret (Is.var x.s3 (p2 x.need))⟩
end Fw
namespace Fw
open PySem PySem.Spec L2
/-! ### texts of rows, of ends -/
theorem rq_of (x : Str) : reprQuote x = 34 ∨ reprQuote x = 39 := by
  unfold reprQuote
  split <;> simp
theorem rc_of {q c : Nat} (hq : q = 34 ∨ q = 39) (h1 : 97 ≤ c) (h2 : c ≤ 122) : Builtin.Str.reprChar q c = [c] := by
  have d : ∀ q ∈ [34, 39], ∀ c : Fin 26, Builtin.Str.reprChar q (97 + c.1) = [97 + c.1] := by decide +kernel
  have := d q (by rcases hq with rfl | rfl <;> simp) ⟨c - 97, by omega⟩
  have e : 97 + (c - 97) = c := by omega
  simp only [e] at this
  exact this
theorem fold_cs {q : Nat} (hq : q = 34 ∨ q = 39) : ∀ (l : List Nat) (acc : Array Nat), (∀ c ∈ l, 97 ≤ c ∧ c ≤ 122) → (∀ c ∈ acc, c < 0x110000) → (∀ c ∈ l.foldl (fun out c => out ++ (Builtin.Str.reprChar q c).toArray) acc, c < 0x110000) ∧ (l.foldl (fun out c => out ++ (Builtin.Str.reprChar q c).toArray) acc).size = acc.size + l.length
  | [], acc, _, h => ⟨h, rfl⟩
  | c :: l, acc, hl, h => by
    obtain ⟨c1, c2⟩ := hl c List.mem_cons_self
    rw [List.foldl_cons, rc_of hq c1 c2]
    have := fold_cs hq l (acc ++ [c].toArray) (fun d hd => hl d (List.mem_cons_of_mem _ hd)) (fun d hd => by
      rcases Array.mem_append.mp hd with hd | hd
      · exact h d hd
      · simp at hd; omega)
    refine ⟨this.1, ?_⟩
    rw [this.2]
    simp; omega
theorem sg_repr {z : Str} (ok : NmOk z) : Sg 10 (reprText z) := by
  have hq := rq_of z
  have e8 := ok.eight
  unfold reprText Sg
  have k := fold_cs hq z.cps.toList #[reprQuote z] (fun c hc => ok.az c (by simpa using hc)) (fun c hc => by
    simp at hc; rcases hq with e | e <;> omega)
  rw [Array.foldl_toList] at k
  refine ⟨?_, fun c hc => ?_⟩
  · rw [Array.size_push, k.2]
    have e1 : z.cps.toList.length = z.cps.size := by simp
    have e2 : z.length = z.cps.size := rfl
    have e3 : (#[reprQuote z]).size = 1 := rfl
    rw [e1, e3]; omega
  · rcases Array.mem_push.mp hc with hc | hc
    · exact k.1 c hc
    · rcases hq with e | e <;> omega
theorem shown_int (i : Int) : PyData.shown (.int i) = Str.ofString (toString i) := by rw [PyData.shown]
def endD (q : Str) (v : Int) : PyData := .tuple [.str q, .int v]
theorem tx_end {q : Str} {v : Int} (ok : NmOk q) (h : v.natAbs < 10 ^ 40) : Tx1 (endD q v) := by
  unfold endD
  refine Tx1.of (n := 107) ?_ ?_ ?_ (by decide)
  · rw [PyData.showable, PyData.showableAll, PyData.showableAll, PyData.showable, PyData.showable, decide_eq_true (log40 h), PyData.showableAll]; rfl
  · rw [PyData.depth, PyData.depthAll, PyData.depthAll, PyData.depth, PyData.depth]; decide
  · rw [PyData.shown, PyData.shownAll, PyData.shownAll, PyData.shownAll, shown_int, PyData.shown]
    refine (Sg.tup (b := 50) fun t ht => ?_).up (by simp)
    simp only [List.mem_cons, List.not_mem_nil, or_false] at ht
    rcases ht with rfl | rfl
    · exact (sg_repr ok).up (by decide)
    · exact num40 h
theorem data_end {h : SH} {u : Nat} {q : Str} {v : Int} (e : h[u]? = some (.tup [.str q, .int v])) : dataOf 64 h (.ref u) = some (endD q v) :=
  data_tup e (data_two rfl rfl)
theorem tx_none : Tx1 .none := tx_c (by decide +kernel)
theorem neB {a b : Bool} {h : SH} {P : SV → SH → Prop} (p : P (.bl (!decide (a = b))) h) : ∃ v h3, eqD true (.bl a) (.bl b) h = some (v, h3) ∧ P v h3 := by
  cases a <;> cases b <;> exact ⟨_, _, rfl, p⟩
/-- the data of a row -/
def ptD (x : Pt) : PyData := .tuple [.int x.t, .list (x.ns.map .int)]
def rowD (r : List Pt) : PyData := .list (r.map ptD)
theorem data_row {h : SH} {A : Nat} {r : List Pt} (x : Row h A r) : dataOf 64 h (.ref A) = some (rowD r) := by
  obtain ⟨ts, e, hl, z⟩ := x
  refine dataOf_lst e (dataAll_of (by simp [hl]) fun k v ev => ?_)
  rw [List.getElem?_map] at ev
  cases et : ts[k]? with
  | none => rw [et] at ev; cases ev
  | some t =>
    rw [et] at ev; cases ev
    obtain ⟨y, ey, b, e1, e2⟩ := z k t et
    exact ⟨ptD y, by rw [List.getElem?_map, ey]; rfl, data_tup e1 (data_two rfl (data_ints e2))⟩
end Fw
namespace Fw
open PySem PySem.Spec L2
theorem showAll_of : ∀ {ds : List PyData}, (∀ d ∈ ds, d.showable = true) → PyData.showableAll ds = true
  | [], _ => by rw [PyData.showableAll]
  | d :: ds, h => by rw [PyData.showableAll, h d List.mem_cons_self, showAll_of fun e he => h e (List.mem_cons_of_mem _ he)]; rfl
theorem depthAll_of {n : Nat} : ∀ {ds : List PyData}, (∀ d ∈ ds, d.depth ≤ n) → PyData.depthAll ds ≤ n
  | [], _ => by rw [PyData.depthAll]; omega
  | d :: ds, h => by
    have a := h d List.mem_cons_self
    have b := depthAll_of (n := n) fun e he => h e (List.mem_cons_of_mem _ he)
    rw [PyData.depthAll]
    omega
theorem shownAll_mem {t : Str} : ∀ {ds : List PyData}, t ∈ PyData.shownAll ds → ∃ d ∈ ds, t = d.shown
  | [], h => by rw [PyData.shownAll] at h; cases h
  | d :: ds, h => by
    rw [PyData.shownAll] at h
    rcases List.mem_cons.mp h with h | h
    · exact ⟨d, List.mem_cons_self, h⟩
    · obtain ⟨e, he, q⟩ := shownAll_mem h
      exact ⟨e, List.mem_cons_of_mem _ he, q⟩
theorem show_int {i : Int} (h : i.natAbs < 10 ^ 40) : PyData.showable (.int i) = true := by rw [PyData.showable, decide_eq_true (log40 h)]
theorem depth_int {i : Int} : PyData.depth (.int i) = 0 := by rw [PyData.depth]
theorem show_ints {ns : List Int} (h : ∀ n ∈ ns, n.natAbs < 10 ^ 40) : PyData.showable (.list (ns.map .int)) = true := by
  rw [PyData.showable]
  exact showAll_of fun d hd => by
    obtain ⟨n, hn, rfl⟩ := List.mem_map.mp hd
    exact show_int (h n hn)
theorem depth_ints {ns : List Int} : PyData.depth (.list (ns.map .int)) ≤ 1 := by
  rw [PyData.depth]
  have := depthAll_of (n := 0) (ds := ns.map PyData.int) fun d hd => by
    obtain ⟨n, hn, rfl⟩ := List.mem_map.mp hd
    rw [depth_int]; omega
  omega
theorem sg_ints {ns : List Int} (h : ∀ n ∈ ns, n.natAbs < 10 ^ 40) (hl : ns.length ≤ 10) : Sg 522 (PyData.shown (.list (ns.map .int))) := by
  rw [PyData.shown]
  refine (Sg.list (b := 50) fun t ht => ?_).up (by rw [shownAll_len]; simp; omega)
  obtain ⟨d, hd, rfl⟩ := shownAll_mem ht
  obtain ⟨n, hn, rfl⟩ := List.mem_map.mp hd
  rw [shown_int]; exact num40 (h n hn)
structure PtOk (x : Pt) : Prop where
  t : x.t.natAbs < 10 ^ 40
  ns : ∀ n ∈ x.ns, n.natAbs < 10 ^ 40
  l : x.ns.length ≤ 10
theorem RowOk.pt {ms : List Nm} {r : List Pt} (h : RowOk ms r) (few : ms.length ≤ 10) : ∀ x ∈ r, PtOk x := fun x hx => by
  obtain ⟨a, b, c, d, e⟩ := h.num x hx
  refine ⟨by omega, fun n hn => ?_, by omega⟩
  have := e n hn
  have : n.natAbs ≤ 10 := by omega
  exact Nat.lt_of_le_of_lt this (by decide)
theorem tx_row {r : List Pt} (h : ∀ x ∈ r, PtOk x) (hl : r.length ≤ 10) : Tx1 (rowD r) := by
  unfold rowD
  refine Tx1.of (n := 20000) ?_ ?_ ?_ (by decide)
  · rw [PyData.showable]
    refine showAll_of fun d hd => ?_
    obtain ⟨x, hx, rfl⟩ := List.mem_map.mp hd
    unfold ptD
    rw [PyData.showable, PyData.showableAll, PyData.showableAll, PyData.showableAll, show_int (h x hx).t, show_ints (h x hx).ns]; rfl
  · rw [PyData.depth]
    have := depthAll_of (n := 2) (ds := r.map ptD) fun d hd => by
      obtain ⟨x, hx, rfl⟩ := List.mem_map.mp hd
      unfold ptD
      have := depth_ints (ns := x.ns)
      rw [PyData.depth, PyData.depthAll, PyData.depthAll, PyData.depthAll, depth_int]
      omega
    omega
  · rw [PyData.shown]
    refine (Sg.list (b := 1200) fun t ht => ?_).up (by rw [shownAll_len]; simp; omega)
    obtain ⟨d, hd, rfl⟩ := shownAll_mem ht
    obtain ⟨x, hx, rfl⟩ := List.mem_map.mp hd
    unfold ptD
    rw [PyData.shown, PyData.shownAll, PyData.shownAll, PyData.shownAll]
    refine (Sg.tup (b := 522) fun t ht => ?_).up (by simp)
    simp only [List.mem_cons, List.not_mem_nil, or_false] at ht
    rcases ht with rfl | rfl
    · rw [shown_int]; exact (num40 (h x hx).t).up (by decide)
    · exact sg_ints (h x hx).ns (h x hx).l
/-- [need, change] -/
def nc (a b : Int) : PyData := .list [.int a, .int b]
theorem tx_nc {a b : Int} (ha : a.natAbs < 10 ^ 40) (hb : b.natAbs < 10 ^ 40) : Tx1 (nc a b) := by
  unfold nc
  refine Tx1.of (n := 200) ?_ ?_ ?_ (by decide)
  · rw [PyData.showable, PyData.showableAll, PyData.showableAll, PyData.showableAll, show_int ha, show_int hb]; rfl
  · rw [PyData.depth, PyData.depthAll, PyData.depthAll, PyData.depthAll, depth_int, depth_int]; decide
  · rw [PyData.shown, PyData.shownAll, PyData.shownAll, PyData.shownAll, shown_int, shown_int]
    refine (Sg.list (b := 50) fun t ht => ?_).up (by simp)
    simp only [List.mem_cons, List.not_mem_nil, or_false] at ht
    rcases ht with rfl | rfl
    · exact num40 ha
    · exact num40 hb
theorem data_nc {h : SH} {u : Nat} {a b : Int} (e : h[u]? = some (.lst [.int a, .int b])) : dataOf 64 h (.ref u) = some (nc a b) := dataOf_lst e (data_two rfl rfl)
/-- how far a row needs and changes -/
theorem mR_b {ms : List Nm} {ps : List Str} (mok : ∀ m ∈ ms, Nm.Ok ps m) {T : Int} : ∀ (r : List Pt) (a : Int × Int) (B : Int), -B ≤ a.2 → a.2 ≤ B → 0 ≤ a.1 → a.1 ≤ B + 24 → (∀ x ∈ r, 1 ≤ x.t ∧ x.t ≤ T ∧ x.ns.length ≤ 4) →
    -(B + 16 * T * r.length) ≤ (r.foldl (stepR ms) a).2 ∧ (r.foldl (stepR ms) a).2 ≤ B + 16 * T * r.length ∧ 0 ≤ (r.foldl (stepR ms) a).1 ∧ (r.foldl (stepR ms) a).1 ≤ B + 16 * T * r.length + 24
  | [], a, B, h1, h2, h3, h4, _ => by simp; omega
  | x :: r, a, B, h1, h2, h3, h4, hx => by
    obtain ⟨t1, t2, l4⟩ := hx x List.mem_cons_self
    obtain ⟨w1, w2, w3, w4⟩ := mN_small mok 4 l4
    have q : -(B + 16 * T) ≤ (stepR ms a x).2 ∧ (stepR ms a x).2 ≤ B + 16 * T ∧ 0 ≤ (stepR ms a x).1 ∧ (stepR ms a x).1 ≤ B + 16 * T + 24 := by
      unfold stepR
      generalize mN ms x.ns = m at w1 w2 w3 w4 ⊢
      obtain ⟨m1, m2⟩ := m
      obtain ⟨a1, a2⟩ := a
      simp only at h1 h2 h3 h4 w1 w2 w3 w4
      have e1 : x.t * m2 ≤ x.t * 16 := Int.mul_le_mul_of_nonneg_left (by omega) (by omega)
      have e2 : x.t * (-16) ≤ x.t * m2 := Int.mul_le_mul_of_nonneg_left (by omega) (by omega)
      have e3 : (x.t - 1) * m2 = x.t * m2 - m2 := by rw [Int.sub_mul]; omega
      unfold beh farP
      simp only
      rw [e3]
      refine ⟨by omega, by omega, ?_, ?_⟩
      · split <;> split <;> omega
      · split <;> split <;> omega
    have := mR_b mok r (stepR ms a x) (B + 16 * T) q.1 q.2.1 q.2.2.1 q.2.2.2 fun y hy => hx y (List.mem_cons_of_mem _ hy)
    have el : (16 * T * ((x :: r).length : Int)) = 16 * T + 16 * T * (r.length : Int) := by
      rw [List.length_cons, Int.natCast_add, Int.mul_add]; omega
    rw [List.foldl_cons, el]
    omega
end Fw
namespace Fw
open PySem PySem.Spec L2
def smallM (iL iT iS iI iB iP : Tag → Option Bool) (xP xM : List (Option Nat)) (c eP eU eN eR : Nat) : SM := (mSeq (mAsg (gTupM 2 (gsCons (gVar 5) (gsCons (gVar 6) gsNil))) (mCall (mFn 2 10 measM) (aCons (mVar 1) (aCons (mVar 3) aNil)))) (mSeq (mFor (mRng2 (aCons (mOA (bin2 opMax) (aCons (mC (.int 0)) (aCons (mO2 opSub (mVar 5) (mC (.int 3))) aNil))) (aCons (mO2 opAdd (mVar 5) (mC (.int 3))) aNil))) (gVar 4) (mSeq (mSet 7 (mCall (mFn 3 12 walkedM) (aCons (mVar 1) (aCons (mVar 4) (aCons (mVar 3) aNil))))) (mSeq (mIfS (bOr (mB (mO2 (eqD true) (mO2 opIsN (mVar 7) (mC .non)) (mO2 opLt (mVar 4) (mVar 5)))) (bAnd (mB (mO2 opNotN (mVar 7) (mC .non))) (mB (mO2 (eqD true) (mVar 7) (mO2 opAdd (mVar 4) (mVar 6)))))) (mRet (mC (.bl false))) mNil) (mSeq (mSet 8 (mCall (mFn 4 7 (ledM iL iT iS iI iB iP xP xM c eP eU eN eR)) (aCons (mVar 0) (aCons (mVar 2) (aCons (mVar 4) (aCons (mVar 3) aNil)))))) (mIfS (mB (mO2 (eqD true) (mOA (un1 opRepr) (aCons (mVar 8) aNil)) (mOA (un1 opRepr) (aCons (mIf (mB (mO2 opIsN (mVar 7) (mC .non))) (mC .non) (mOA opTup (aCons (mCall (mFn 3 7 (lastM iL iT iI iB)) (aCons (mVar 1) (aCons (mVar 2) (aCons (mVar 3) aNil)))) (aCons (mVar 7) aNil)))) aNil)))) (mRet (mC (.bl false))) mNil))))) (mRet (mC (.bl true)))))
/-- texts of equal data are the same -/
theorem neText {d : PyData} (t : Tx1 d) {h : SH} {P : SV → SH → Prop} (p : P (.bl false) h) : ∃ v h3, eqD true (.str d.shown) (.str d.shown) h = some (v, h3) ∧ P v h3 :=
  eqStr (neg := true) t.ok t.ok (by rw [if_pos rfl, decide_eq_true rfl]; exact p)
section
variable {iL iT iS iI iB iP : Tag → Option Bool} {xP xM : List (Option Nat)} {c eP eU eN eR : Nat}
/-- what stands in the law's loops -/
structure Lst (n a t A : Nat) (place : Str) (b : Int × Int) (s : SS) : Prop where
  len : s.length = n
  s0 : s[0]? = some (some (.ref a))
  s1 : s[1]? = some (some (.ref t))
  s2 : s[2]? = some (some (.str place))
  s3 : s[3]? = some (some (.ref A))
  s5 : s[5]? = some (some (.int b.1))
  s6 : s[6]? = some (some (.int b.2))
theorem Lst.set {n a t A : Nat} {place : Str} {b : Int × Int} {s : SS} (x : Lst n a t A place b s) {j : Nat} {v : Option SV} (h : j = 4 ∨ 7 ≤ j) : Lst n a t A place b (s.set j v) :=
  ⟨by simp [x.len], gs x.s0 (by omega), gs x.s1 (by omega), gs x.s2 (by omega), gs x.s3 (by omega), gs x.s5 (by omega), gs x.s6 (by omega)⟩
theorem small_is (F : Facts iL iT iS iI iB iP xP xM c) {a lo A t lo' : Nat} {ps : List Str} {ms : List Nm} {r : List Pt} {place q : Str} {h : SH} (x : Asked h c a lo A ps ms r place q) (pt : Parts h t lo' ps ms) (hq : q ∈ ps) (small : ∀ x ∈ r, x.t ≤ 3) {P : SV → SH → Prop}
    (p : ∀ h', Le h h' → P (.bl true) h') : Is (mFn 4 9 (smallM iL iT iS iI iB iP xP xM c eP eU eN eR) [.ref a, .ref t, .str place, .ref A] h) P := by
  refine Is.fn rfl ?_
  unfold smallM
  have few := x.rok.few
  have bb := mR_b x.mok (T := 3) r (0, 0) 0 (by decide) (by decide) (by decide) (by decide) fun y hy => ⟨(x.rok.num y hy).1, small y hy, (x.rok.num y hy).2.2.2.1⟩
  change _ ≤ (mR ms r).2 ∧ (mR ms r).2 ≤ _ ∧ 0 ≤ (mR ms r).1 ∧ (mR ms r).1 ≤ _ at bb
  obtain ⟨b1, b2, b3, b4⟩ := bb
  refine Ist.seq (Ist.asg (Is.call (Is.acons (Is.var (v := .ref t) rfl (Is.acons (Is.var (v := .ref A) rfl (Is.anil (measM_is pt x.row x.rok fun h1 u l1 eu => ⟨_, g2_is eu, ?_⟩))))))))
  generalize hs : (([SV.ref a, .ref t, .str place, .ref A].map some ++ List.replicate (9 - [SV.ref a, .ref t, .str place, .ref A].length) none).set 5 (some (SV.int (mR ms r).1))).set 6 (some (SV.int (mR ms r).2)) = s
  have z0 : s[0]? = some (some (.ref a)) := by rw [← hs]; rfl
  have z1 : s[1]? = some (some (.ref t)) := by rw [← hs]; rfl
  have z2 : s[2]? = some (some (.str place)) := by rw [← hs]; rfl
  have z3 : s[3]? = some (some (.ref A)) := by rw [← hs]; rfl
  have z5 : s[5]? = some (some (.int (mR ms r).1)) := by rw [← hs]; rfl
  have z6 : s[6]? = some (some (.int (mR ms r).2)) := by rw [← hs]; rfl
  have zl : s.length = 9 := by rw [← hs]; rfl
  clear hs
  refine Ist.seq (Ist.for (Is.rng2 (Is.acons (Is.oa (Is.acons (Is.c (Is.acons (Is.o2 (Is.var z5 (Is.c ⟨_, _, rfl, Is.anil ⟨_, _, rfl, ?_⟩⟩))))))))))
  refine Is.acons (Is.o2 (Is.var z5 (Is.c ⟨_, _, rfl, Is.anil ⟨_, _, rfl, ?_, ?_, ?_⟩⟩)))
  · refine decide_eq_true ?_
    split <;> omega
  · exact decide_eq_true (by omega)
  have elo : ∃ low : Int, (if (mR ms r).1 - 3 > 0 then (mR ms r).1 - 3 else 0) = low ∧ 0 ≤ low ∧ low ≤ (mR ms r).1 := by
    by_cases cc : (mR ms r).1 - 3 > 0
    · exact ⟨_, if_pos cc, by omega, by omega⟩
    · exact ⟨_, if_neg cc, by omega, by omega⟩
  obtain ⟨low, el, l0, lle⟩ := elo
  rw [el]
  refine ⟨((mR ms r).1 + 3 - low).toNat, fun k s h' => Le h h' ∧ Lst 9 a t A place (mR ms r) s, by unfold many; omega, ⟨l1, zl, z0, z1, z2, z3, z5, z6⟩, ?_, ?_⟩
  · rintro k s h' hk ⟨le, y0⟩
    refine ⟨_, _, _, wkRng_at hk, rfl, ?_⟩
    obtain ⟨i, hi⟩ : ∃ i : Int, low + (k : Int) = i := ⟨_, rfl⟩
    rw [hi]
    have i0 : 0 ≤ i := by omega
    have i1 : i ≤ 300 := by omega
    have y := y0.set (j := 4) (v := some (SV.int i)) (.inl rfl)
    have y4 := gx (i := 4) (x := some (SV.int i)) y0.len (by decide)
    generalize s.set 4 (some (SV.int i)) = s1 at y y4 ⊢
    clear y0
    have x1 := x.le le
    have pt1 := pt.le le
    refine Ist.seq (Ist.set (Is.call (Is.acons (Is.var y.s1 (Is.acons (Is.var y4 (Is.acons (Is.var y.s3 (Is.anil (walked_is pt1 x1.row x.rok (fun z hz => by have := small z hz; omega) i0 (fun lt => ?_) fun ge => ?_))))))))))
    · have w := y.set (j := 7) (v := some SV.non) (.inr (by decide))
      have w4 := gs (i := 7) (x := some SV.non) y4 (by decide)
      have w7 := gx (i := 7) (x := some SV.non) y.len (by decide)
      generalize s1.set 7 (some SV.non) = s2 at w w4 w7 ⊢
      refine Ist.seq (Ist.ite (Is.bor (Is.bm (Is.o2 (Is.o2 (Is.var w7 (Is.c ⟨_, _, rfl, Is.o2 (Is.var w4 (Is.var w.s5 ⟨_, _, rfl, ?_⟩))⟩)))))))
      refine neB ⟨_, rfl, ?_⟩
      rw [decide_eq_true (show i < (mR ms r).1 from lt), if_neg (by decide)]
      refine Is.band (Is.bm (Is.o2 (Is.var w7 (Is.c ⟨_, _, rfl, _, rfl, ?_⟩))))
      rw [if_neg (by decide), if_neg (by decide)]
      refine Ist.nil (Ist.seq (Ist.set (Is.call (Is.acons (Is.var w.s0 (Is.acons (Is.var w.s2 (Is.acons (Is.var w4 (Is.acons (Is.var w.s3 (Is.anil (led_is F x1 i0 (fun _ h2 l2 => ?_) fun ge => absurd ge (by omega))))))))))))) )
      have v := w.set (j := 8) (v := some SV.non) (.inr (by decide))
      have v7 := gs (i := 8) (x := some SV.non) w7 (by decide)
      have v8 := gx (i := 8) (x := some SV.non) w.len (by decide)
      generalize s2.set 8 (some SV.non) = s3 at v v7 v8 ⊢
      refine Ist.ite (Is.bm (Is.o2 (Is.oa (Is.acons (Is.var v8 (Is.anil (repr_d (d := .none) rfl tx_none ?_)))))))
      refine Is.oa (Is.acons (Is.ifx (Is.bm (Is.o2 (Is.var v7 (Is.c ⟨_, _, rfl, _, rfl, ?_⟩))))))
      rw [if_pos (by decide)]
      refine Is.c (Is.anil (repr_d (d := .none) rfl tx_none (neText tx_none ⟨_, rfl, ?_⟩)))
      rw [if_neg (by decide)]
      exact Ist.nil ⟨le.trans l2, v⟩
    · obtain ⟨e, he⟩ : ∃ e : Int, i + (mR ms r).2 = e := ⟨_, rfl⟩
      rw [he]
      have w := y.set (j := 7) (v := some (SV.int e)) (.inr (by decide))
      have w4 := gs (i := 7) (x := some (SV.int e)) y4 (by decide)
      have w7 := gx (i := 7) (x := some (SV.int e)) y.len (by decide)
      generalize s1.set 7 (some (SV.int e)) = s2 at w w4 w7 ⊢
      refine Ist.seq (Ist.ite (Is.bor (Is.bm (Is.o2 (Is.o2 (Is.var w7 (Is.c ⟨_, _, rfl, Is.o2 (Is.var w4 (Is.var w.s5 ⟨_, _, rfl, ?_⟩))⟩)))))))
      refine neB ⟨_, rfl, ?_⟩
      rw [decide_eq_false (show ¬ i < (mR ms r).1 by omega), if_neg (by simp)]
      refine Is.band (Is.bm (Is.o2 (Is.var w7 (Is.c ⟨_, _, rfl, _, rfl, ?_⟩))))
      rw [if_pos (by simp)]
      refine Is.bm (Is.o2 (Is.var w7 (Is.o2 (Is.var w4 (Is.var w.s6 ⟨_, _, rfl, neI ⟨_, rfl, ?_⟩⟩)))))
      rw [he, decide_eq_true rfl, if_neg (by decide)]
      refine Ist.nil (Ist.seq (Ist.set (Is.call (Is.acons (Is.var w.s0 (Is.acons (Is.var w.s2 (Is.acons (Is.var w4 (Is.acons (Is.var w.s3 (Is.anil (led_is F x1 i0 (fun lt => absurd lt (by omega)) fun _ h2 u2 l2 eu2 => ?_)))))))))))))
      rw [he] at eu2
      have v := w.set (j := 8) (v := some (SV.ref u2)) (.inr (by decide))
      have v7 := gs (i := 8) (x := some (SV.ref u2)) w7 (by decide)
      have v8 := gx (i := 8) (x := some (SV.ref u2)) w.len (by decide)
      generalize s2.set 8 (some (SV.ref u2)) = s3 at v v7 v8 ⊢
      have tx : Tx1 (endD q e) := tx_end (x.nm q hq) (Nat.lt_of_le_of_lt (show e.natAbs ≤ 1000 by omega) (by decide))
      refine Ist.ite (Is.bm (Is.o2 (Is.oa (Is.acons (Is.var v8 (Is.anil (repr_d (data_end eu2) tx ?_)))))))
      refine Is.oa (Is.acons (Is.ifx (Is.bm (Is.o2 (Is.var v7 (Is.c ⟨_, _, rfl, _, rfl, ?_⟩))))))
      rw [if_neg (by simp)]
      refine Is.oa (Is.acons (Is.call (Is.acons (Is.var v.s1 (Is.acons (Is.var v.s2 (Is.acons (Is.var v.s3 (Is.anil (last_is F.es (pt1.le l2) (x1.row.le l2) x.rok x.walk x.hp fun h3 l3 => ?_))))))))))
      refine Is.acons (Is.var v7 (Is.anil (tup_is (small_big (by simp)) (Is.anil (repr_d (data_end (new_at _ _)) tx (neText tx ⟨_, rfl, ?_⟩))))))
      rw [if_neg (by decide)]
      exact Ist.nil ⟨((le.trans l2).trans l3).trans (Le.push _ _), v⟩
  · rintro s h' ⟨le, y⟩
    exact ⟨wkRng_end, Ist.ret (Is.c (p h' le))⟩
end
end Fw
namespace Fw
open PySem PySem.Spec L2
def toldM (iL iT iI iB iP : Tag → Option Bool) (xM : List (Option Nat)) (c eP eR : Nat) : SM := (mSeq (mSet 11 (mOA opLst (aCons (mCall (mFn 2 2 (askM iL iT iI iB iP xM c eP eR 0)) (aCons (mVar 0) (aCons (mVar 3) aNil))) (aCons (mCall (mFn 2 2 (askM iL iT iI iB iP xM c eP eR 1)) (aCons (mVar 0) (aCons (mVar 3) aNil))) aNil)))) (mIfS (bOr (mB (mO2 (eqD true) (mOA (un1 opRepr) (aCons (mVar 11) aNil)) (mOA (un1 opRepr) (aCons (mOA opLst (aCons (mVar 9) (aCons (mVar 10) aNil))) aNil)))) (mB (mO2 (eqD true) (mOA (un1 opRepr) (aCons (mVar 3) aNil)) (mVar 4)))) (mRet (mC (.bl false))) mNil))
def ledsM (iL iT iS iI iB iP : Tag → Option Bool) (xP xM : List (Option Nat)) (c eP eU eN eR : Nat) : SM := (mSeq (mSet 12 (mIf (mB (mO2 opGe (mVar 6) (mVar 9))) (mOA opTup (aCons (mCall (mFn 3 7 (lastM iL iT iI iB)) (aCons (mVar 1) (aCons (mVar 2) (aCons (mVar 3) aNil)))) (aCons (mO2 opAdd (mVar 6) (mVar 10)) aNil))) (mC .non))) (mIfS (bAnd (mB (mO2 opGe (mVar 6) (mC (.int 0)))) (mB (mO2 (eqD true) (mOA (un1 opRepr) (aCons (mCall (mFn 4 7 (ledM iL iT iS iI iB iP xP xM c eP eU eN eR)) (aCons (mVar 0) (aCons (mVar 2) (aCons (mVar 6) (aCons (mVar 3) aNil))))) aNil)) (mOA (un1 opRepr) (aCons (mVar 12) aNil))))) (mRet (mC (.bl false))) mNil))
structure Rgt (a t A : Nat) (place : Str) (b : Int × Int) (d : PyData) (s : SS) : Prop where
  len : s.length = 17
  s0 : s[0]? = some (some (.ref a))
  s1 : s[1]? = some (some (.ref t))
  s2 : s[2]? = some (some (.str place))
  s3 : s[3]? = some (some (.ref A))
  s4 : s[4]? = some (some (.str d.shown))
  s9 : s[9]? = some (some (.int b.1))
  s10 : s[10]? = some (some (.int b.2))
theorem Rgt.set {a t A : Nat} {place : Str} {b : Int × Int} {d : PyData} {s : SS} (x : Rgt a t A place b d s) {j : Nat} {v : Option SV} (h : (5 ≤ j ∧ j ≤ 8) ∨ 11 ≤ j) : Rgt a t A place b d (s.set j v) :=
  ⟨by simp [x.len], gs x.s0 (by omega), gs x.s1 (by omega), gs x.s2 (by omega), gs x.s3 (by omega), gs x.s4 (by omega), gs x.s9 (by omega), gs x.s10 (by omega)⟩
section
variable {iL iT iS iI iB iP : Tag → Option Bool} {xP xM : List (Option Nat)} {c eP eU eN eR : Nat} {N B C : SS → SH → Prop} {R : SV → SH → Prop}
theorem told_is (F : Facts iL iT iS iI iB iP xP xM c) {a lo A t : Nat} {ps : List Str} {ms : List Nm} {r : List Pt} {place q : Str} {s : SS} {h : SH} (x : Asked h c a lo A ps ms r place q) (y : Rgt a t A place (mR ms r) (rowD r) s) (tr : Tx1 (rowD r)) (tn : Tx1 (nc (mR ms r).1 (mR ms r).2))
    (n : ∀ s' h', Le h h' → Rgt a t A place (mR ms r) (rowD r) s' → N s' h') : Ist (toldM iL iT iI iB iP xM c eP eR s h) N R B C := by
  unfold toldM
  refine Ist.seq (Ist.set (Is.oa (Is.acons (Is.call (Is.acons (Is.var y.s0 (Is.acons (Is.var y.s3 (Is.anil (ask_is F.es F.xm F.ip x (.inl ⟨rfl, rfl⟩) fun h1 l1 => ?_))))))))))
  refine Is.acons (Is.call (Is.acons (Is.var y.s0 (Is.acons (Is.var y.s3 (Is.anil (ask_is F.es F.xm F.ip (x.le l1) (.inr ⟨rfl, rfl⟩) fun h2 l2 => ?_)))))))
  refine Is.anil (lst_is (small_big (by simp)) ?_)
  have l3 := (l1.trans l2).trans (Le.push h2 (.lst [.int (mR ms r).1, .int (mR ms r).2]))
  have n3 := new_at h2 (.lst [.int (mR ms r).1, .int (mR ms r).2])
  generalize hj : h2.length = j at n3 ⊢
  generalize h2 ++ [SO.lst [.int (mR ms r).1, .int (mR ms r).2]] = h3 at l3 n3 ⊢
  have v := y.set (j := 11) (v := some (SV.ref j)) (.inr (by decide))
  have v11 := gx (i := 11) (x := some (SV.ref j)) y.len (by decide)
  generalize s.set 11 (some (SV.ref j)) = s1 at v v11 ⊢
  refine Ist.ite (Is.bor (Is.bm (Is.o2 (Is.oa (Is.acons (Is.var v11 (Is.anil (repr_d (data_nc n3) tn ?_))))))))
  refine Is.oa (Is.acons (Is.oa (Is.acons (Is.var v.s9 (Is.acons (Is.var v.s10 (Is.anil (lst_is (small_big (by simp)) (Is.anil (repr_d (data_nc (new_at _ _)) tn (neText tn ⟨_, rfl, ?_⟩)))))))))))
  rw [if_neg (by decide)]
  have l4 := l3.trans (Le.push h3 (.lst [.int (mR ms r).1, .int (mR ms r).2]))
  generalize h3 ++ [SO.lst [.int (mR ms r).1, .int (mR ms r).2]] = h4 at l4 ⊢
  refine Is.bm (Is.o2 (Is.oa (Is.acons (Is.var v.s3 (Is.anil (repr_d (data_row (x.row.le l4)) tr (Is.var v.s4 (neText tr ⟨_, rfl, ?_⟩))))))))
  rw [if_neg (by decide)]
  exact Ist.nil (n s1 h4 l4 v)
theorem leds_is (F : Facts iL iT iS iI iB iP xP xM c) {a lo lo' A t : Nat} {ps : List Str} {ms : List Nm} {r : List Pt} {place q : Str} {i : Int} {d : PyData} {s : SS} {h : SH} (x : Asked h c a lo A ps ms r place q) (pt : Parts h t lo' ps ms) (hq : q ∈ ps) (y : Rgt a t A place (mR ms r) d s) (y6 : s[6]? = some (some (.int i))) (hi : (i + (mR ms r).2).natAbs < 10 ^ 40)
    (n : ∀ s' h', Le h h' → Rgt a t A place (mR ms r) d s' → N s' h') : Ist (ledsM iL iT iS iI iB iP xP xM c eP eU eN eR s h) N R B C := by
  unfold ledsM
  have tx : Tx1 (endD q (i + (mR ms r).2)) := tx_end (x.nm q hq) hi
  refine Ist.seq (Ist.set (Is.ifx (Is.bm (Is.o2 (Is.var y6 (Is.var y.s9 ⟨_, _, rfl, _, rfl, ?_⟩))))))
  by_cases cc : (mR ms r).1 ≤ i
  · rw [if_pos (decide_eq_true (show i ≥ (mR ms r).1 from cc))]
    refine Is.oa (Is.acons (Is.call (Is.acons (Is.var y.s1 (Is.acons (Is.var y.s2 (Is.acons (Is.var y.s3 (Is.anil (last_is F.es pt x.row x.rok x.walk x.hp fun h1 l1 => ?_))))))))) )
    refine Is.acons (Is.o2 (Is.var y6 (Is.var y.s10 ⟨_, _, rfl, Is.anil (tup_is (small_big (by simp)) ?_)⟩)))
    have l2 := l1.trans (Le.push h1 (.tup [.str q, .int (i + (mR ms r).2)]))
    have n2 := new_at h1 (.tup [.str q, .int (i + (mR ms r).2)])
    generalize hj : h1.length = j at n2 ⊢
    generalize h1 ++ [SO.tup [.str q, .int (i + (mR ms r).2)]] = h2 at l2 n2 ⊢
    have v := y.set (j := 12) (v := some (SV.ref j)) (.inr (by decide))
    have v6 := gs (i := 12) (x := some (SV.ref j)) y6 (by decide)
    have v12 := gx (i := 12) (x := some (SV.ref j)) y.len (by decide)
    generalize s.set 12 (some (SV.ref j)) = s1 at v v6 v12 ⊢
    refine Ist.ite (Is.band (Is.bm (Is.o2 (Is.var v6 (Is.c ⟨_, _, rfl, _, rfl, ?_⟩)))))
    by_cases c0 : i ≥ 0
    · rw [if_pos (decide_eq_true c0)]
      refine Is.bm (Is.o2 (Is.oa (Is.acons (Is.call (Is.acons (Is.var v.s0 (Is.acons (Is.var v.s2 (Is.acons (Is.var v6 (Is.acons (Is.var v.s3 (Is.anil (led_is F (x.le l2) c0 (fun lt => absurd lt (by omega)) fun _ h3 u3 l3 eu3 => ?_)))))))))))) ))
      refine Is.anil (repr_d (data_end eu3) tx (Is.oa (Is.acons (Is.var v12 (Is.anil (repr_d (data_end (l3 _ _ n2)) tx (neText tx ⟨_, rfl, ?_⟩)))))))
      rw [if_neg (by decide)]
      exact Ist.nil (n s1 h3 (l2.trans l3) v)
    · rw [if_neg (by simpa using c0), if_neg (by decide)]
      exact Ist.nil (n s1 h2 l2 v)
  · rw [if_neg (by simpa using cc)]
    refine Is.c ?_
    have v := y.set (j := 12) (v := some SV.non) (.inr (by decide))
    have v6 := gs (i := 12) (x := some SV.non) y6 (by decide)
    have v12 := gx (i := 12) (x := some SV.non) y.len (by decide)
    generalize s.set 12 (some SV.non) = s1 at v v6 v12 ⊢
    refine Ist.ite (Is.band (Is.bm (Is.o2 (Is.var v6 (Is.c ⟨_, _, rfl, _, rfl, ?_⟩)))))
    by_cases c0 : i ≥ 0
    · rw [if_pos (decide_eq_true c0)]
      refine Is.bm (Is.o2 (Is.oa (Is.acons (Is.call (Is.acons (Is.var v.s0 (Is.acons (Is.var v.s2 (Is.acons (Is.var v6 (Is.acons (Is.var v.s3 (Is.anil (led_is F x c0 (fun _ h3 l3 => ?_) fun ge => absurd ge cc)))))))))))) ))
      refine Is.anil (repr_d (d := .none) rfl tx_none (Is.oa (Is.acons (Is.var v12 (Is.anil (repr_d (d := .none) rfl tx_none (neText tx_none ⟨_, rfl, ?_⟩)))))))
      rw [if_neg (by decide)]
      exact Ist.nil (n s1 h3 l3 v)
    · rw [if_neg (by simpa using c0), if_neg (by decide)]
      exact Ist.nil (n s1 h (Le.refl _) v)
end
end Fw
namespace Fw
open PySem PySem.Spec L2
theorem cut_drop (xs : List SV) (k : Nat) (h : k ≤ xs.length) : cutS xs (some (k : Int)) none = xs.drop k := by
  unfold cutS
  have e1 : HT.sIx xs.length 0 (some (k : Int)) = k := by
    unfold HT.sIx
    simp [show ¬ ((k : Int) < 0) from by omega]
    omega
  have e2 : HT.sIx xs.length xs.length none = xs.length := by
    unfold HT.sIx; rfl
  rw [e1, e2]
  rw [List.take_of_length_le (by simp)]
theorem sh_two {a b : Int} : SeqAt.shaped (.tuple [.int a, .int b]) = true := by
  unfold SeqAt.shaped
  simp only [PyData.canLay0, PyData.canLayAll0, PyData.depth, PyData.depthAll]
  rfl
theorem TwoAt.data {h : SH} {u : Nat} {a : Int × Int} (x : TwoAt h u a) : dataOf 64 h (.ref u) = some (.tuple [.int a.1, .int a.2]) := data_tup x (data_two rfl rfl)
theorem RowOk.take {ms : List Nm} {r : List Pt} (x : RowOk ms r) (k : Nat) : RowOk ms (r.take k) :=
  ⟨by have := x.few; simp; omega, fun y hy => x.num y (List.mem_of_mem_take hy)⟩
theorem RowOk.drop {ms : List Nm} {r : List Pt} (x : RowOk ms r) (k : Nat) : RowOk ms (r.drop k) :=
  ⟨by have := x.few; simp; omega, fun y hy => x.num y (List.mem_of_mem_drop hy)⟩
def partedM : SM := (mSeq (mPar 13 14 (aCons (mCall (mFn 2 10 measM) (aCons (mVar 1) (aCons (mCut (mVar 3) pNone (pSome (mVar 7))) aNil))) (aCons (mCall (mFn 2 10 measM) (aCons (mVar 1) (aCons (mCut (mVar 3) (pSome (mVar 7)) pNone) aNil))) aNil))) (mIfS (mB (mO2 (eqD true) (mCall (mFn 2 2 behM) (aCons (mVar 13) (aCons (mVar 14) aNil))) (mOA opTup (aCons (mVar 9) (aCons (mVar 10) aNil))))) (mRet (mC (.bl false))) mNil))
section
variable {N B C : SS → SH → Prop} {R : SV → SH → Prop}
theorem parted_is {a A t lo' k : Nat} {ps : List Str} {ms : List Nm} {r : List Pt} {place : Str} {d : PyData} {s : SS} {h : SH} (pt : Parts h t lo' ps ms) (row : Row h A r) (rok : RowOk ms r) (hk : k ≤ r.length) (y : Rgt a t A place (mR ms r) d s) (y7 : s[7]? = some (some (.int (k : Nat))))
    (n : ∀ s' h', Le h h' → Rgt a t A place (mR ms r) d s' → N s' h') : Ist (partedM s h) N R B C := by
  unfold partedM
  obtain ⟨ts, eA, hts, z⟩ := row.ex
  have hk2 : k ≤ (ts.map SV.ref).length := by simp; omega
  refine Ist.seq (Ist.par (Is.acons (Is.call (Is.acons (Is.var y.s1 (Is.acons (Is.cut (Is.var y.s3 (Is.pN (Is.pS (Is.var y7 ⟨_, rfl, A, _, rfl, eA, ?_⟩)))))))))) )
  rw [cut_take _ _ hk2, ← List.map_take]
  have l1 := Le.push h (.lst ((ts.take k).map SV.ref))
  have n1 := new_at h (.lst ((ts.take k).map SV.ref))
  generalize hj : h.length = j at n1 ⊢
  generalize h ++ [SO.lst ((ts.take k).map SV.ref)] = h1 at l1 n1 ⊢
  have row1 : Row h1 j (r.take k) := ⟨ts.take k, n1, by simp [hts], fun i u eu => by
    rw [List.getElem?_take] at eu
    by_cases c : i < k
    · rw [if_pos c] at eu
      obtain ⟨x, ex, px⟩ := z i u eu
      exact ⟨x, by rw [List.getElem?_take, if_pos c]; exact ex, px.le l1⟩
    · rw [if_neg c] at eu; cases eu⟩
  refine Is.anil (measM_is (pt.le l1) row1 (rok.take k) fun h2 u2 l2 e2 => ?_)
  have l12 := l1.trans l2
  refine Is.acons (Is.call (Is.acons (Is.var y.s1 (Is.acons (Is.cut (Is.var y.s3 (Is.pS (Is.var y7 ⟨_, rfl, Is.pN ⟨A, _, rfl, l12 _ _ eA, ?_⟩⟩))))))))
  rw [cut_drop _ _ hk2, ← List.map_drop]
  have l3 := Le.push h2 (.lst ((ts.drop k).map SV.ref))
  have n3 := new_at h2 (.lst ((ts.drop k).map SV.ref))
  generalize hj2 : h2.length = j2 at n3 ⊢
  generalize h2 ++ [SO.lst ((ts.drop k).map SV.ref)] = h3 at l3 n3 ⊢
  have row3 : Row h3 j2 (r.drop k) := ⟨ts.drop k, n3, by simp [hts], fun i u eu => by
    rw [List.getElem?_drop] at eu
    obtain ⟨x, ex, px⟩ := z _ u eu
    exact ⟨x, by rw [List.getElem?_drop]; exact ex, (px.le l12).le l3⟩⟩
  have l123 := l12.trans l3
  refine Is.anil (measM_is (pt.le l123) row3 (rok.drop k) fun h4 u4 l4 e4 => Is.anil ⟨_, _, rfl, ?_⟩)
  have e2' := (e2.le l3).le l4
  have v := (y.set (j := 13) (v := some (SV.ref u2)) (.inr (by decide))).set (j := 14) (v := some (SV.ref u4)) (.inr (by decide))
  have v13 := gs (i := 14) (x := some (SV.ref u4)) (gx (i := 13) (x := some (SV.ref u2)) y.len (by decide)) (by decide)
  have v14 := gx (i := 14) (x := some (SV.ref u4)) (s := s.set 13 (some (SV.ref u2))) (n := 17) (by simp [y.len]) (by decide)
  generalize (s.set 13 (some (SV.ref u2))).set 14 (some (SV.ref u4)) = s1 at v v13 v14 ⊢
  have l5 := l123.trans l4
  refine Ist.ite (Is.bm (Is.o2 (Is.call (Is.acons (Is.var v13 (Is.acons (Is.var v14 (Is.anil (behM_is e2' e4 fun e5 => ?_)))))))))
  rw [mR_part pt.mok (fun x hx => (rok.num x hx).1) k] at e5 ⊢
  have l6 := l5.trans (Le.push h4 (.tup [.int (mR ms r).1, .int (mR ms r).2]))
  generalize h4.length = j5 at e5 ⊢
  generalize h4 ++ [SO.tup [.int (mR ms r).1, .int (mR ms r).2]] = h5 at e5 l6 ⊢
  refine Is.oa (Is.acons (Is.var v.s9 (Is.acons (Is.var v.s10 (Is.anil (tup_is (small_big (by simp)) ?_))))))
  have l7 := Le.push h5 (.tup [.int (mR ms r).1, .int (mR ms r).2])
  have e6 : TwoAt (h5 ++ [.tup [.int (mR ms r).1, .int (mR ms r).2]]) h5.length (mR ms r) := new_at _ _
  refine eqD_same (e5.le l7).data e6.data sh_two ⟨_, rfl, ?_⟩
  rw [if_neg (by decide)]
  exact Ist.nil (n s1 _ (l6.trans l7) v)
end
end Fw
namespace Fw
open PySem PySem.Spec L2
theorem canAll_of : ∀ {ds : List PyData}, (∀ d ∈ ds, d.canLay0 = true) → PyData.canLayAll0 ds = true
  | [], _ => by rw [PyData.canLayAll0]
  | d :: ds, h => by rw [PyData.canLayAll0, h d List.mem_cons_self, canAll_of fun e he => h e (List.mem_cons_of_mem _ he)]; rfl
theorem can_int {i : Int} : PyData.canLay0 (.int i) = true := by rw [PyData.canLay0]
theorem sh_row (r : List Pt) : SeqAt.shaped (rowD r) = true := by
  unfold SeqAt.shaped rowD
  have a : PyData.canLay0 (.list (r.map ptD)) = true := by
    rw [PyData.canLay0]
    refine canAll_of fun d hd => ?_
    obtain ⟨x, hx, rfl⟩ := List.mem_map.mp hd
    unfold ptD
    have b : PyData.canLay0 (.list (x.ns.map .int)) = true := by
      rw [PyData.canLay0]
      refine canAll_of fun d hd => ?_
      obtain ⟨n, hn, rfl⟩ := List.mem_map.mp hd
      exact can_int
    rw [PyData.canLay0, PyData.canLayAll0, PyData.canLayAll0, PyData.canLayAll0, can_int, b]; rfl
  have b : PyData.depth (.list (r.map ptD)) ≤ 3 := by
    rw [PyData.depth]
    have := depthAll_of (n := 2) (ds := r.map ptD) fun d hd => by
      obtain ⟨x, hx, rfl⟩ := List.mem_map.mp hd
      unfold ptD
      have := depth_ints (ns := x.ns)
      rw [PyData.depth, PyData.depthAll, PyData.depthAll, PyData.depthAll, depth_int]
      omega
    omega
  rw [a, decide_eq_true (by omega)]; rfl
theorem eqvAll_len : ∀ {ds es : List PyData}, PyData.eqvAll ds es = true → ds.length = es.length
  | [], [], _ => rfl
  | [], _ :: _, h => by rw [PyData.eqvAll] at h; cases h
  | _ :: _, [], h => by rw [PyData.eqvAll] at h; cases h
  | d :: ds, e :: es, h => by
    rw [PyData.eqvAll, Bool.and_eq_true] at h
    rw [List.length_cons, List.length_cons, eqvAll_len h.2]
def one (x : Pt) : Bool := decide (x.t = 1)
theorem filter_all {r : List Pt} (h : (rowD (r.filter one)).eqv (rowD r) = true) : ∀ x ∈ r, x.t ≤ 3 := by
  unfold rowD at h
  rw [PyData.eqv] at h
  have := eqvAll_len h
  simp only [List.length_map] at this
  have := List.length_filter_eq_length_iff.mp this
  intro x hx
  have := this x hx
  unfold one at this
  have := of_decide_eq_true this
  omega
/-- two rows against one another -/
theorem neRow {h : SH} {i j : Nat} {r r' : List Pt} (x : Row h i r) (y : Row h j r') {P : SV → SH → Prop} (p : P (.bl (!(rowD r).eqv (rowD r'))) h) : ∃ v h3, eqD true (.ref i) (.ref j) h = some (v, h3) ∧ P v h3 := by
  refine ⟨_, _, ?_, p⟩
  unfold eqD
  rw [data_row x, data_row y]
  simp only [sh_row, Bool.and_self, if_true]
def doubledM : EM := (mLc (mWalk (mVar 3)) (gTupM 2 (gsCons (gVar 15) (gsCons (gVar 16) gsNil))) (mB (mO2 (eqD false) (mVar 15) (mC (.int 1)))) (mOA opTup (aCons (mC (.int 1)) (aCons (mVar 16) aNil))) [15, 16])
theorem doubled_is {A : Nat} {r : List Pt} {s : SS} {h : SH} (row : Row h A r) (few : r.length ≤ 10) (len : s.length = 17) (s3 : s[3]? = some (some (.ref A))) {P : SV → SH → Prop} (p : ∀ h' D, Le h h' → Row h' D (r.filter one) → P (.ref D) h') : Is (doubledM s h) P := by
  unfold doubledM
  obtain ⟨ts, eA, hts, z⟩ := row.at
  refine Is.lc (Is.walkL (Is.var s3 ⟨A, _, rfl, eA, ts.length, fun k acc h' => Le h h' ∧ ∃ us : List Nat, acc = us.map SV.ref ∧ us.length = ((r.take k).filter one).length ∧ us.length ≤ k ∧ ∀ (i u : Nat), us[i]? = some u → ∃ (x : Pt) (b : Nat), ((r.take k).filter one)[i]? = some x ∧ h'[u]? = some (.tup [.int x.t, .ref b]) ∧ h[b]? = some (.lst (x.ns.map SV.int)), by unfold many; omega, ⟨Le.push _ _, [], rfl, rfl, Nat.le_refl _, fun i u e => by cases e⟩, ?_, ?_⟩))
  · rintro k acc h' hk hD ⟨le, us, rfl, hu, hu2, zz⟩
    obtain ⟨t, b, y, et, er, my, e1, e2⟩ := z k hk
    refine ⟨_, _, _, wkL_at (le _ _ eA) et, g2_is (le _ _ e1), ?_⟩
    have w15 : (((wipeS s [15, 16]).set 15 (some (SV.int y.t))).set 16 (some (SV.ref b)))[15]? = some (some (.int y.t)) := gs (gx (n := 17) (by simp [wipeS, len]) (by decide)) (by decide)
    have w16 : (((wipeS s [15, 16]).set 15 (some (SV.int y.t))).set 16 (some (SV.ref b)))[16]? = some (some (.ref b)) := gx (n := 17) (by simp [wipeS, len]) (by decide)
    generalize ((wipeS s [15, 16]).set 15 (some (SV.int y.t))).set 16 (some (SV.ref b)) = s1 at w15 w16 ⊢
    have et1 : r.take (k + 1) = r.take k ++ [y] := by rw [List.take_add_one, er]; rfl
    have lt := lt_of hD
    refine Is.bm (Is.o2 (Is.var w15 (Is.c (eqI ⟨_, rfl, ?_⟩))))
    by_cases c : y.t = 1
    · rw [if_pos (decide_eq_true c)]
      refine Is.oa (Is.acons (Is.c (Is.acons (Is.var w16 (Is.anil (tup_is (small_big (by simp)) ?_))))))
      have n1 := new_at h' (.tup [.int 1, .ref b])
      have l1 := Le.push h' (.tup [.int 1, .ref b])
      have hl1 : (h' ++ [SO.tup [.int 1, .ref b]]).length = h'.length + 1 := by simp
      generalize hw : h'.length = w at n1 hl1 lt ⊢
      generalize h' ++ [SO.tup [.int 1, .ref b]] = h2 at n1 l1 hl1 ⊢
      refine ⟨l1 _ _ hD, small_lt (by simp; omega), fun j o ej => ?_, us ++ [w], by simp, ?_, by simp; omega, fun i u eu => ?_⟩
      · have hj : h.length ≠ j := by have := lt_of ej; omega
        rw [set_ne hj]; exact l1 _ _ (le _ _ ej)
      · rw [et1, List.filter_append]
        have : [y].filter one = [y] := by simp [one, c]
        rw [this]; simp [hu]
      · have e3 : (r.take (k + 1)).filter one = (r.take k).filter one ++ [y] := by
          rw [et1, List.filter_append]
          have : [y].filter one = [y] := by simp [one, c]
          rw [this]
        rw [e3]
        by_cases hi : i < us.length
        · rw [List.getElem?_append_left hi] at eu
          obtain ⟨x, b', a1, a2, a3⟩ := zz i u eu
          have hu' : h.length ≠ u := fun w' => by rw [← w', hD] at a2; cases a2
          exact ⟨x, b', by rw [List.getElem?_append_left (by omega)]; exact a1, by rw [set_ne hu']; exact l1 _ _ a2, a3⟩
        · have hi2 : i = us.length := by have := (List.getElem?_eq_some_iff.mp eu).1; simp at this; omega
          subst hi2
          rw [List.getElem?_append_right (Nat.le_refl _)] at eu
          simp at eu
          subst eu
          refine ⟨y, b, by rw [hu, List.getElem?_append_right (Nat.le_refl _)]; simp, ?_, e2⟩
          rw [set_ne (by omega), c]; exact n1
    · rw [if_neg (by simpa using c)]
      have e3 : (r.take (k + 1)).filter one = (r.take k).filter one := by
        rw [et1, List.filter_append]
        have : [y].filter one = [] := by simp [one, c]
        rw [this, List.append_nil]
      exact ⟨hD, le, us, rfl, by rw [e3]; exact hu, by omega, by rw [e3]; exact zz⟩
  · rintro acc h' hD ⟨le, us, rfl, hu, hu2, zz⟩
    have wk' := wkL_end (le _ _ eA)
    rw [List.length_map] at wk'
    rw [hts, List.take_length] at hu zz
    exact ⟨wk', p h' _ le ⟨us, hD, hu, fun i u eu => let ⟨x, b, a1, a2, a3⟩ := zz i u eu; ⟨x, a1, b, a2, le _ _ a3⟩⟩⟩
end Fw
namespace Fw
open PySem PySem.Spec L2
def rightM (iL iT iS iI iB iP : Tag → Option Bool) (xP xM : List (Option Nat)) (c eP eU eN eR : Nat) : SM := (mSeq (mAsg (gTupM 2 (gsCons (gVar 9) (gsCons (gVar 10) gsNil))) (mCall (mFn 2 10 measM) (aCons (mVar 1) (aCons (mVar 3) aNil)))) (mSeq (mSet 4 (mOA (un1 opRepr) (aCons (mVar 3) aNil))) (mSeq (mFor (mRng1 (aCons (mC (.int 2)) aNil)) (gVar 5) (toldM iL iT iI iB iP xM c eP eR)) (mSeq (mFor (mWalk (mOA opLst (aCons (mVar 9) (aCons (mO2 opAdd (mVar 9) (mC (.int 1))) (aCons (mO2 opAdd (mVar 9) (mO2 opPow (mC (.int 10)) (mC (.int 30)))) (aCons (mO2 opSub (mVar 9) (mC (.int 1))) aNil)))))) (gVar 6) (ledsM iL iT iS iI iB iP xP xM c eP eU eN eR)) (mSeq (mFor (mRng1 (aCons (mO2 opAdd (mOA (un1 opLen) (aCons (mVar 3) aNil)) (mC (.int 1))) aNil)) (gVar 7) partedM) (mSeq (mSet 8 doubledM) (mRet (mOr (mO2 (eqD true) (mVar 8) (mVar 3)) (mCall (mFn 4 9 (smallM iL iT iS iI iB iP xP xM c eP eU eN eR)) (aCons (mVar 0) (aCons (mVar 1) (aCons (mVar 2) (aCons (mVar 3) aNil)))))))))))))
section
variable {iL iT iS iI iB iP : Tag → Option Bool} {xP xM : List (Option Nat)} {c eP eU eN eR : Nat}
theorem right_is (F : Facts iL iT iS iI iB iP xP xM c) {a lo A t lo' : Nat} {ps : List Str} {ms : List Nm} {r : List Pt} {place q : Str} {h : SH} (x : Asked h c a lo A ps ms r place q) (pt : Parts h t lo' ps ms) (hq : q ∈ ps) {P : SV → SH → Prop}
    (p : ∀ h', Le h h' → P (.bl true) h') : Is (mFn 4 17 (rightM iL iT iS iI iB iP xP xM c eP eU eN eR) [.ref a, .ref t, .str place, .ref A] h) P := by
  refine Is.fn rfl ?_
  unfold rightM
  have few := x.rok.few
  have bb := mR_b x.mok (T := 10 ^ 30) r (0, 0) 0 (by decide) (by decide) (by decide) (by decide) fun y hy => ⟨(x.rok.num y hy).1, (x.rok.num y hy).2.1, (x.rok.num y hy).2.2.2.1⟩
  change _ ≤ (mR ms r).2 ∧ (mR ms r).2 ≤ _ ∧ 0 ≤ (mR ms r).1 ∧ (mR ms r).1 ≤ _ at bb
  obtain ⟨b1, b2, b3, b4⟩ := bb
  have tn : Tx1 (nc (mR ms r).1 (mR ms r).2) := tx_nc (by omega) (by omega)
  have tr : Tx1 (rowD r) := tx_row (x.rok.pt x.few) (by omega)
  refine Ist.seq (Ist.asg (Is.call (Is.acons (Is.var (v := .ref t) rfl (Is.acons (Is.var (v := .ref A) rfl (Is.anil (measM_is pt x.row x.rok fun h1 u l1 eu => ⟨_, g2_is eu, ?_⟩))))))))
  refine Ist.seq (Ist.set (Is.oa (Is.acons (Is.var (v := .ref A) rfl (Is.anil (repr_d (data_row (x.row.le l1)) tr ?_))))))
  generalize hs : ((([SV.ref a, .ref t, .str place, .ref A].map some ++ List.replicate (17 - [SV.ref a, .ref t, .str place, .ref A].length) none).set 9 (some (SV.int (mR ms r).1))).set 10 (some (SV.int (mR ms r).2))).set 4 (some (SV.str (rowD r).shown)) = s
  have y : Rgt a t A place (mR ms r) (rowD r) s := ⟨by rw [← hs]; rfl, by rw [← hs]; rfl, by rw [← hs]; rfl, by rw [← hs]; rfl, by rw [← hs]; rfl, by rw [← hs]; rfl, by rw [← hs]; rfl, by rw [← hs]; rfl⟩
  clear hs
  refine Ist.seq (Ist.for (Is.rng1 (Is.acons (Is.c (Is.anil ⟨_, rfl, by decide, 2, fun k s h' => Le h h' ∧ Rgt a t A place (mR ms r) (rowD r) s, by decide +kernel, ⟨l1, y⟩, ?_, ?_⟩)))))
  · rintro k s h' hk ⟨le, y⟩
    refine ⟨_, _, _, wkRng_at hk, rfl, ?_⟩
    exact told_is F (x.le le) (y.set (j := 5) (.inl (by decide))) tr tn fun s' h2 l2 y2 => ⟨le.trans l2, y2⟩
  · rintro s h2 ⟨l2, y⟩
    refine ⟨wkRng_end, ?_⟩
    refine Ist.seq (Ist.for (Is.walkL (Is.oa (Is.acons (Is.var y.s9 (Is.acons (Is.o2 (Is.var y.s9 (Is.c ⟨_, _, rfl, Is.acons (Is.o2 (Is.var y.s9 (Is.o2 (Is.c (Is.c (pow_is (by decide +kernel) ⟨_, _, rfl, Is.acons (Is.o2 (Is.var y.s9 (Is.c ⟨_, _, rfl, Is.anil ?_⟩)))⟩))))))⟩)))))))) )
    refine lst_is (xs := [(mR ms r).1, (mR ms r).1 + 1, (mR ms r).1 + 10 ^ 30, (mR ms r).1 - 1].map SV.int) (small_big (by simp)) ?_
    have l3 := l2.trans (Le.push h2 (.lst ([(mR ms r).1, (mR ms r).1 + 1, (mR ms r).1 + 10 ^ 30, (mR ms r).1 - 1].map SV.int)))
    have n3 := new_at h2 (.lst ([(mR ms r).1, (mR ms r).1 + 1, (mR ms r).1 + 10 ^ 30, (mR ms r).1 - 1].map SV.int))
    generalize h2.length = j at n3 ⊢
    generalize h2 ++ [SO.lst ([(mR ms r).1, (mR ms r).1 + 1, (mR ms r).1 + 10 ^ 30, (mR ms r).1 - 1].map SV.int)] = h3 at l3 n3 ⊢
    have hv : ∀ i ∈ [(mR ms r).1, (mR ms r).1 + 1, (mR ms r).1 + 10 ^ 30, (mR ms r).1 - 1], (i + (mR ms r).2).natAbs < 10 ^ 40 := by
      intro i hi
      simp only [List.mem_cons, List.not_mem_nil, or_false] at hi
      rcases hi with rfl | rfl | rfl | rfl <;> omega
    have h4 : [(mR ms r).1, (mR ms r).1 + 1, (mR ms r).1 + 10 ^ 30, (mR ms r).1 - 1].length = 4 := rfl
    generalize [(mR ms r).1, (mR ms r).1 + 1, (mR ms r).1 + 10 ^ 30, (mR ms r).1 - 1] = vals at n3 hv h4 ⊢
    refine ⟨j, _, rfl, n3, 4, fun k s h' => Le h3 h' ∧ Rgt a t A place (mR ms r) (rowD r) s, by decide +kernel, ⟨Le.refl _, y⟩, ?_, ?_⟩
    · rintro k s h' hk ⟨le, y⟩
      have hkv : k < vals.length := by omega
      refine ⟨_, _, _, wkL_at (le _ _ n3) (by rw [List.getElem?_map, List.getElem?_eq_getElem hkv]; rfl), rfl, ?_⟩
      exact leds_is F (x.le (l3.trans le)) (pt.le (l3.trans le)) hq (y.set (j := 6) (.inl (by decide))) (gx y.len (by decide)) (hv _ (List.getElem_mem hkv)) fun s' h2 l2 y2 => ⟨le.trans l2, y2⟩
    · rintro s h4' ⟨le, y⟩
      have wk' := wkL_end (le _ _ n3)
      rw [List.length_map, h4] at wk'
      refine ⟨wk', ?_⟩
      have l4 := l3.trans le
      obtain ⟨ts, eA, hts, _⟩ := (x.row.le l4).ex
      refine Ist.seq (Ist.for (Is.rng1 (Is.acons (Is.o2 (Is.oa (Is.acons (Is.var y.s3 (Is.anil (len_is eA (Is.c ⟨_, _, rfl, Is.anil ⟨_, rfl, decide_eq_true (by simp; omega), r.length + 1, fun k s h' => Le h4' h' ∧ Rgt a t A place (mR ms r) (rowD r) s, by unfold many; omega, ⟨Le.refl _, y⟩, ?_, ?_⟩⟩))))))))))
      · rintro k s h' hk ⟨le, y⟩
        refine ⟨_, _, _, wkRng_at (by simp [hts]; omega), rfl, ?_⟩
        refine parted_is (pt.le (l4.trans le)) (x.row.le (l4.trans le)) x.rok (k := k) (by omega) (y.set (j := 7) (.inl (by decide))) ?_ fun s' h2 l2 y2 => ⟨le.trans l2, y2⟩
        rw [gx y.len (by decide), Int.zero_add]
      · rintro s h5 ⟨le, y⟩
        have e5 : ((((ts.map SV.ref).length : Nat) : Int) + 1).toNat = r.length + 1 := by simp [hts]
        rw [e5]
        refine ⟨wkRng_end, ?_⟩
        have l5 := l4.trans le
        refine Ist.seq (Ist.set (doubled_is (x.row.le l5) (by omega) y.len y.s3 fun h6 D l6 rowD' => ?_))
        have v := y.set (j := 8) (v := some (SV.ref D)) (.inl (by decide))
        have v8 := gx (i := 8) (x := some (SV.ref D)) y.len (by decide)
        generalize s.set 8 (some (SV.ref D)) = s1 at v v8 ⊢
        have l7 := l5.trans l6
        refine Ist.ret (Is.orV (Is.o2 (Is.var v8 (Is.var v.s3 (neRow rowD' (x.row.le l7) ?_)))))
        cases hb : (rowD (r.filter one)).eqv (rowD r) with
        | false => exact .inl ⟨rfl, p h6 l7⟩
        | true =>
          refine .inr ⟨rfl, Is.call (Is.acons (Is.var v.s0 (Is.acons (Is.var v.s1 (Is.acons (Is.var v.s2 (Is.acons (Is.var v.s3 (Is.anil ?_)))))))))⟩
          exact small_is F (x.le l7) (pt.le l7) hq (filter_all hb) fun h8 l8 => p h8 (l7.trans l8)
end
end Fw
namespace Fw
open PySem PySem.Spec L2
def short (x : Pt) : Pt := ⟨if 3 < x.t then 3 else x.t, x.ns⟩
def shortM : EM := (mLc (mWalk (mVar 7)) (gTupM 2 (gsCons (gVar 9) (gsCons (gVar 10) gsNil))) bYes (mOA opTup (aCons (mOA (bin2 opMin) (aCons (mVar 9) (aCons (mC (.int 3)) aNil))) (aCons (mVar 10) aNil))) [9, 10])
theorem short_is {A : Nat} {r : List Pt} {s : SS} {h : SH} (row : Row h A r) (few : r.length ≤ 10) (len : s.length = 11) (s7 : s[7]? = some (some (.ref A))) {P : SV → SH → Prop} (p : ∀ h' D, Le h h' → Row h' D (r.map short) → P (.ref D) h') : Is (shortM s h) P := by
  unfold shortM
  obtain ⟨ts, eA, hts, z⟩ := row.at
  refine Is.lc (Is.walkL (Is.var s7 ⟨A, _, rfl, eA, ts.length, fun k acc h' => Le h h' ∧ ∃ us : List Nat, acc = us.map SV.ref ∧ us.length = k ∧ ∀ (i u : Nat), us[i]? = some u → ∃ (x : Pt) (b : Nat), r[i]? = some x ∧ h'[u]? = some (.tup [.int (short x).t, .ref b]) ∧ h[b]? = some (.lst (x.ns.map SV.int)), by unfold many; omega, ⟨Le.push _ _, [], rfl, rfl, fun i u e => by cases e⟩, ?_, ?_⟩))
  · rintro k acc h' hk hD ⟨le, us, rfl, hu, zz⟩
    obtain ⟨t, b, y, et, er, my, e1, e2⟩ := z k hk
    refine ⟨_, _, _, wkL_at (le _ _ eA) et, g2_is (le _ _ e1), ?_⟩
    have w9 : (((wipeS s [9, 10]).set 9 (some (SV.int y.t))).set 10 (some (SV.ref b)))[9]? = some (some (.int y.t)) := gs (gx (n := 11) (by simp [wipeS, len]) (by decide)) (by decide)
    have w10 : (((wipeS s [9, 10]).set 9 (some (SV.int y.t))).set 10 (some (SV.ref b)))[10]? = some (some (.ref b)) := gx (n := 11) (by simp [wipeS, len]) (by decide)
    generalize ((wipeS s [9, 10]).set 9 (some (SV.int y.t))).set 10 (some (SV.ref b)) = s1 at w9 w10 ⊢
    have lt := lt_of hD
    show Is (Res.ok true h') _
    refine is_ok ?_
    rw [if_pos rfl]
    refine Is.oa (Is.acons (Is.oa (Is.acons (Is.var w9 (Is.acons (Is.c (Is.anil ⟨_, _, rfl, Is.acons (Is.var w10 (Is.anil (tup_is (small_big (by simp)) ?_)))⟩)))))))
    have es : (if 3 < y.t then 3 else y.t) = (short y).t := rfl
    rw [es]
    have n1 := new_at h' (.tup [.int (short y).t, .ref b])
    have l1 := Le.push h' (.tup [.int (short y).t, .ref b])
    have hl1 : (h' ++ [SO.tup [.int (short y).t, .ref b]]).length = h'.length + 1 := by simp
    generalize hw : h'.length = w at n1 hl1 lt ⊢
    generalize h' ++ [SO.tup [.int (short y).t, .ref b]] = h2 at n1 l1 hl1 ⊢
    refine ⟨l1 _ _ hD, small_lt (by simp; omega), fun j o ej => ?_, us ++ [w], by simp, by simp; omega, fun i u eu => ?_⟩
    · have hj : h.length ≠ j := by have := lt_of ej; omega
      rw [set_ne hj]; exact l1 _ _ (le _ _ ej)
    · by_cases hi : i < us.length
      · rw [List.getElem?_append_left hi] at eu
        obtain ⟨x, b', a1, a2, a3⟩ := zz i u eu
        have hu' : h.length ≠ u := fun w' => by rw [← w', hD] at a2; cases a2
        exact ⟨x, b', a1, by rw [set_ne hu']; exact l1 _ _ a2, a3⟩
      · have hi2 : i = us.length := by have := (List.getElem?_eq_some_iff.mp eu).1; simp at this; omega
        subst hi2
        rw [List.getElem?_append_right (Nat.le_refl _)] at eu
        simp at eu
        subst eu
        exact ⟨y, b, by rw [hu]; exact er, by rw [set_ne (by omega)]; exact n1, e2⟩
  · rintro acc h' hD ⟨le, us, rfl, hu, zz⟩
    have wk' := wkL_end (le _ _ eA)
    rw [List.length_map] at wk'
    refine ⟨wk', p h' _ le ⟨us, hD, by simp [hu, hts], fun i u eu => ?_⟩⟩
    obtain ⟨x, b, a1, a2, a3⟩ := zz i u eu
    exact ⟨short x, by rw [List.getElem?_map, a1]; rfl, b, a2, le _ _ a3⟩
theorem walk_short {ms : List Nm} : ∀ {r : List Pt} {p q : Str}, walkR ms p r = some q → walkR ms p (r.map short) = some q
  | [], _, _, e => e
  | y :: r, p, q, e => by
    obtain ⟨y1, y2, z, wz, cl, wr⟩ := walkR_cons e
    rw [List.map_cons]
    unfold walkR
    have h1 : 1 ≤ (short y).t ∧ (short y).ns ≠ [] := ⟨by unfold short; simp only; split <;> omega, y2⟩
    have h2 : walkN ms p (short y).ns = some z := wz
    have h3 : 1 < (short y).t → z = p := fun h => cl (by unfold short at h; simp only at h; split at h <;> omega)
    rw [if_pos h1, h2]
    simp only [if_pos h3]
    exact walk_short wr
theorem short_le (r : List Pt) : ∀ x ∈ r.map short, x.t ≤ 3 := fun x hx => by
  obtain ⟨y, hy, rfl⟩ := List.mem_map.mp hx
  unfold short; simp only; split <;> omega
theorem RowOk.short {ms : List Nm} {r : List Pt} (x : RowOk ms r) : RowOk ms (r.map short) :=
  ⟨by simp; exact x.few, fun y hy => by
    obtain ⟨z, hz, rfl⟩ := List.mem_map.mp hy
    obtain ⟨a, b, c, d, e⟩ := x.num z hz
    refine ⟨?_, ?_, c, d, e⟩
    · unfold Fw.short; simp only; split <;> omega
    · unfold Fw.short; simp only; split <;> omega⟩
end Fw
namespace Fw
open PySem PySem.Spec L2
/-! ### what is refused: an error leaves, the heap only grows -/
def Isx {α : Type} (r : Res α) (E : Nat → List SV → SH → Prop) : Prop := match r with
  | .ex c xs h => E c xs h
  | _ => False
theorem Isx.out {α : Type} {r : Res α} {E : Nat → List SV → SH → Prop} (x : Isx r E) : ∃ c xs h, r = .ex c xs h ∧ E c xs h := by
  cases r with
  | ex c xs h => exact ⟨c, xs, h, rfl, x⟩
  | ok a h => exact x.elim
  | stuck => exact x.elim
section
variable {E : Nat → List SV → SH → Prop} {N : SS → SH → Prop} {ss : SS} {h : SH}
theorem Isx.call {f : FM} {ma : AM} (x : Is (ma ss h) fun vs h1 => Isx (f vs h1) E) : Isx (mCall f ma ss h) E := by
  obtain ⟨vs, h1, e, y⟩ := x.out
  unfold mCall
  rw [e]; exact y
theorem Isx.fn {np n : Nat} {m : SM} {vs : List SV} (hl : vs.length = np) (x : Ise (m (vs.map some ++ List.replicate (n - vs.length) none) h) (fun _ _ => False) E) : Isx (mFn np n m vs h) E := by
  unfold mFn
  rw [if_pos hl]
  cases e : m (vs.map some ++ List.replicate (n - vs.length) none) h with
  | nx s h => rw [e] at x; exact x.elim
  | ex c xs s h => rw [e] at x; exact x
  | rt v h => rw [e] at x; exact x.elim
  | bk s h => rw [e] at x; exact x.elim
  | ct s h => rw [e] at x; exact x.elim
  | stuck => rw [e] at x; exact x.elim
theorem Ise.drop {m : EM} (x : Is (m ss h) fun _ h1 => N ss h1) : Ise (mDrop m ss h) N E := by
  obtain ⟨v, h1, e, y⟩ := x.out
  unfold mDrop
  rw [e]; exact y
theorem Ise.dropX {m : EM} (x : Isx (m ss h) E) : Ise (mDrop m ss h) N E := by
  obtain ⟨c, xs, h1, e, y⟩ := x.out
  unfold mDrop
  rw [e]; exact y
end
/-- v leaves in an error of class k -/
def Out (k : Nat) (v : SV) (h : SH) : Nat → List SV → SH → Prop := fun c xs h' => c = k ∧ xs = [v] ∧ Le h h'
section
variable {iL iT iS iI iB iP : Tag → Option Bool} {xP xM : List (Option Nat)} {c eP eU eN eR : Nat} {h : SH} {v : SV}
theorem Isx.mono {α : Type} {r : Res α} {E E' : Nat → List SV → SH → Prop} (x : Isx r E) (k : ∀ c xs h, E c xs h → E' c xs h) : Isx r E' := by
  cases r with
  | ex c xs h => exact k _ _ _ x
  | ok a h => exact x.elim
  | stuck => exact x.elim
theorem progX {t : Tag} (et : tagOf h v = some t) (n : iP t = some false) : Isx (mFn 1 1 (checkProgM iP eP) [v] h) (Out eP v h) := by
  refine Isx.fn rfl ?_
  unfold checkProgM
  refine Ise.ite (Is.bnot (Is.bm (Is.o1 (Is.var (v := v) rfl (isi_t et n ⟨false, rfl, ?_⟩)))))
  rw [if_pos (show (!false) = true from rfl)]
  exact Ise.raise (v := v) rfl ⟨rfl, rfl, Le.refl _⟩
/-- change_of, need_of of no program -/
theorem askPX {t : Tag} {w : SV} {k : Int} (et : tagOf h v = some t) (n : iP t = some false) : Isx (mFn 2 2 (askM iL iT iI iB iP xM c eP eR k) [v, w] h) (Out eP v h) := by
  refine Isx.fn rfl ?_
  unfold askM
  refine Ise.seq (Ise.dropX (Isx.call (Is.acons (Is.var (v := v) rfl (Is.acons (Is.var (v := w) rfl (Is.anil ?_)))))))
  refine Isx.fn rfl ?_
  unfold checkRowM
  exact Ise.seq (Ise.dropX (Isx.call (Is.acons (Is.var (v := v) rfl (Is.anil (progX et n))))))
theorem ledPX {t : Tag} {w1 w2 w3 : SV} (et : tagOf h v = some t) (n : iP t = some false) : Isx (mFn 4 7 (ledM iL iT iS iI iB iP xP xM c eP eU eN eR) [v, w1, w2, w3] h) (Out eP v h) := by
  refine Isx.fn rfl ?_
  unfold ledM
  refine Ise.seq (Ise.dropX (Isx.call (Is.acons (Is.var (v := v) rfl (Is.acons (Is.var (v := w1) rfl (Is.acons (Is.var (v := w2) rfl (Is.acons (Is.var (v := w3) rfl (Is.anil ?_)))))))))))
  refine Isx.fn rfl ?_
  unfold checkLedM
  refine Ise.seq (Ise.dropX (Isx.call (Is.acons (Is.var (v := v) rfl (Is.acons (Is.var (v := w1) rfl (Is.acons (Is.var (v := w2) rfl (Is.anil ?_)))))))))
  refine Isx.fn rfl ?_
  unfold checkStartM
  exact Ise.seq (Ise.dropX (Isx.call (Is.acons (Is.var (v := v) rfl (Is.anil (progX et n))))))
/-- rows that are no pressed rows -/
def NoRow (iL iT iI iB : Tag → Option Bool) (xM : List (Option Nat)) (c a : Nat) (h : SH) (v : SV) : Prop := ∀ h', Le h h' → Is (mFn 2 4 (pressM iL iT iI iB xM c) [.ref a, v] h') fun w h2 => w = .bl false ∧ Le h' h2
theorem askRX {a lo : Nat} {ps : List Str} {ms : List Nm} {k : Int} (ip : iP (.ins c) = some true) (pr : Prog h c a lo ps ms) (n : NoRow iL iT iI iB xM c a h v) : Isx (mFn 2 2 (askM iL iT iI iB iP xM c eP eR k) [.ref a, v] h) (Out eR v h) := by
  refine Isx.fn rfl ?_
  unfold askM
  refine Ise.seq (Ise.dropX (Isx.call (Is.acons (Is.var (v := .ref a) rfl (Is.acons (Is.var (v := v) rfl (Is.anil ?_)))))))
  refine Isx.fn rfl ?_
  unfold checkRowM
  refine Ise.seq (Ise.drop (Is.call (Is.acons (Is.var (v := .ref a) rfl (Is.anil (checkProg_is ip pr ?_))))))
  refine Ise.ite (Is.bnot (Is.tru (Is.call (Is.acons (Is.var (v := .ref a) rfl (Is.acons (Is.var (v := v) rfl (Is.anil ((n h (Le.refl _)).mono fun w h2 ⟨ew, l2⟩ => ?_)))))))))
  subst ew
  refine tru_is ?_
  rw [if_pos (show (!false) = true from rfl)]
  exact Ise.raise (v := v) rfl ⟨rfl, rfl, l2⟩
end
end Fw
namespace Fw
open PySem PySem.Spec L2
section
variable {iL iT iS iI iB iP : Tag → Option Bool} {xP xM : List (Option Nat)} {c eP eU eN eR : Nat} {h : SH} {v : SV}
/-- values that are no place of the program -/
def NoPlace (iS : Tag → Option Bool) (ps : List Str) (h : SH) (v : SV) : Prop := (∃ t, tagOf h v = some t ∧ iS t = some false) ∨ ∃ x, v = .str x ∧ x ∉ ps
theorem ninS2 {j : Nat} {ps : List Str} {x : Str} {h : SH} {P : SV → SH → Prop} (e : h[j]? = some (.lst (ps.map SV.str))) (hx : x ∉ ps) (p : P (.bl true) h) : ∃ w h3, opIn true (.str x) (.ref j) h = some (w, h3) ∧ P w h3 := by
  obtain ⟨w, h3, e1, e2⟩ := inS (x := x) (P := fun v h' => v = .bl false ∧ h' = h) e ⟨by rw [decide_eq_false hx], rfl⟩
  obtain ⟨rfl, rfl⟩ := e2
  refine ⟨.bl true, h3, ?_, p⟩
  unfold opIn at e1 ⊢
  simp only [e] at e1 ⊢
  split at e1 <;> first | cases e1 | skip
  all_goals simp_all
theorem placeX {a lo : Nat} {ps : List Str} {ms : List Nm} (es : iS .str = some true) (xp : xP[c]? = some (some 0)) (pr : Prog h c a lo ps ms) (n : NoPlace iS ps h v) : Isx (mFn 2 2 (checkPlaceM iS xP c eU) [.ref a, v] h) (Out eU v h) := by
  refine Isx.fn rfl ?_
  unfold checkPlaceM
  rcases n with ⟨t, et, ef⟩ | ⟨x, rfl, hx⟩
  · refine Ise.ite (Is.bor (Is.bnot (isi_of (Is.var (v := v) rfl ⟨et, ?_⟩) ef)))
    rw [if_pos (show (!false) = true from rfl), if_pos rfl]
    exact Ise.raise (v := v) rfl ⟨rfl, rfl, Le.refl _⟩
  · refine Ise.ite (Is.bor (Is.bnot (isi_of (t := .str) (Is.var (v := .str x) rfl ⟨rfl, ?_⟩) es)))
    rw [if_neg (by decide)]
    refine Is.bm (Is.o2 (Is.var (v := .str x) rfl (meth_places xp (a := a) rfl pr fun h1 A l1 pl => ninS2 pl.at_ hx ⟨true, rfl, ?_⟩)))
    rw [if_pos rfl]
    exact Ise.raise (v := .str x) rfl ⟨rfl, rfl, l1⟩
/-- values that are no counter -/
def NoCount (iI iB : Tag → Option Bool) (h : SH) (v : SV) : Prop := (∀ h', Le h h' → Is (mFn 1 1 (wholeM iI iB) [v] h') fun w h2 => w = .bl false ∧ h2 = h') ∨ ∃ i, v = .int i ∧ i < 0
theorem countX (eI : iI .int = some true) (eB : iB .int = some false) (n : NoCount iI iB h v) : Isx (mFn 1 1 (checkCountM iI iB eN) [v] h) (Out eN v h) := by
  refine Isx.fn rfl ?_
  unfold checkCountM
  rcases n with n | ⟨i, rfl, hi⟩
  · refine Ise.ite (Is.bor (Is.bnot (Is.tru (Is.call (Is.acons (Is.var (v := v) rfl (Is.anil ((n h (Le.refl _)).mono fun w h2 ⟨ew, eh⟩ => ?_))))))))
    subst ew; subst eh
    refine tru_is ?_
    rw [if_pos (show (!false) = true from rfl), if_pos rfl]
    exact Ise.raise (v := v) rfl ⟨rfl, rfl, Le.refl _⟩
  · refine Ise.ite (Is.bor (Is.bnot (Is.tru (Is.call (Is.acons (Is.var (v := .int i) rfl (Is.anil (whole_is eI eB ?_))))))))
    refine tru_is ?_
    rw [if_neg (by decide)]
    refine Is.bm (Is.o2 (Is.var (v := .int i) rfl (Is.c ⟨_, _, rfl, _, rfl, ?_⟩)))
    rw [if_pos (decide_eq_true hi)]
    exact Ise.raise (v := .int i) rfl ⟨rfl, rfl, Le.refl _⟩
theorem ledUX (F : Facts iL iT iS iI iB iP xP xM c) {a lo : Nat} {ps : List Str} {ms : List Nm} {w2 w3 : SV} (pr : Prog h c a lo ps ms) (n : NoPlace iS ps h v) : Isx (mFn 4 7 (ledM iL iT iS iI iB iP xP xM c eP eU eN eR) [.ref a, v, w2, w3] h) (Out eU v h) := by
  refine Isx.fn rfl ?_
  unfold ledM
  refine Ise.seq (Ise.dropX (Isx.call (Is.acons (Is.var (v := .ref a) rfl (Is.acons (Is.var (v := v) rfl (Is.acons (Is.var (v := w2) rfl (Is.acons (Is.var (v := w3) rfl (Is.anil ?_)))))))))))
  refine Isx.fn rfl ?_
  unfold checkLedM
  refine Ise.seq (Ise.dropX (Isx.call (Is.acons (Is.var (v := .ref a) rfl (Is.acons (Is.var (v := v) rfl (Is.acons (Is.var (v := w2) rfl (Is.anil ?_)))))))))
  refine Isx.fn rfl ?_
  unfold checkStartM
  refine Ise.seq (Ise.drop (Is.call (Is.acons (Is.var (v := .ref a) rfl (Is.anil (checkProg_is F.ip pr ?_))))))
  exact Ise.seq (Ise.dropX (Isx.call (Is.acons (Is.var (v := .ref a) rfl (Is.acons (Is.var (v := v) rfl (Is.anil (placeX F.es.S F.xp pr n))))))))
theorem ledNX (F : Facts iL iT iS iI iB iP xP xM c) {a lo : Nat} {ps : List Str} {ms : List Nm} {x : Str} {w3 : SV} (pr : Prog h c a lo ps ms) (hx : x ∈ ps) (n : ∀ h', Le h h' → NoCount iI iB h' v) : Isx (mFn 4 7 (ledM iL iT iS iI iB iP xP xM c eP eU eN eR) [.ref a, .str x, v, w3] h) (Out eN v h) := by
  refine Isx.fn rfl ?_
  unfold ledM
  refine Ise.seq (Ise.dropX (Isx.call (Is.acons (Is.var (v := .ref a) rfl (Is.acons (Is.var (v := .str x) rfl (Is.acons (Is.var (v := v) rfl (Is.acons (Is.var (v := w3) rfl (Is.anil ?_)))))))))))
  refine Isx.fn rfl ?_
  unfold checkLedM
  refine Ise.seq (Ise.dropX (Isx.call (Is.acons (Is.var (v := .ref a) rfl (Is.acons (Is.var (v := .str x) rfl (Is.acons (Is.var (v := v) rfl (Is.anil ?_)))))))))
  refine Isx.fn rfl ?_
  unfold checkStartM
  refine Ise.seq (Ise.drop (Is.call (Is.acons (Is.var (v := .ref a) rfl (Is.anil (checkProg_is F.ip pr ?_))))))
  refine Ise.seq (Ise.drop (Is.call (Is.acons (Is.var (v := .ref a) rfl (Is.acons (Is.var (v := .str x) rfl (Is.anil (checkPlace_is F.es.S F.xp pr hx fun h1 l1 => ?_))))))))
  exact Ise.dropX (Isx.call (Is.acons (Is.var (v := v) rfl (Is.anil ((countX F.es.I F.es.B (n h1 l1)).mono fun c' xs h2 ⟨a1, a2, a3⟩ => ⟨a1, a2, l1.trans a3⟩)))))
/-- rows that are none, or do not begin at the place -/
theorem ledRX (F : Facts iL iT iS iI iB iP xP xM c) {a lo : Nat} {ps : List Str} {ms : List Nm} {x : Str} {i : Int} (pr : Prog h c a lo ps ms) (hx : x ∈ ps) (hi : 0 ≤ i)
    (n : ∀ h', Le h h' → Is (mFn 2 4 (pressM iL iT iI iB xM c) [.ref a, v] h') fun w h2 => Le h' h2 ∧ (w = .bl false ∨ w = .bl true ∧ Is (mFn 3 3 (beginsM xM c) [.ref a, .str x, v] h2) fun w h3 => w = .bl false ∧ Le h2 h3)) : Isx (mFn 4 7 (ledM iL iT iS iI iB iP xP xM c eP eU eN eR) [.ref a, .str x, .int i, v] h) (Out eR v h) := by
  refine Isx.fn rfl ?_
  unfold ledM
  refine Ise.seq (Ise.dropX (Isx.call (Is.acons (Is.var (v := .ref a) rfl (Is.acons (Is.var (v := .str x) rfl (Is.acons (Is.var (v := .int i) rfl (Is.acons (Is.var (v := v) rfl (Is.anil ?_)))))))))))
  refine Isx.fn rfl ?_
  unfold checkLedM
  refine Ise.seq (Ise.drop (Is.call (Is.acons (Is.var (v := .ref a) rfl (Is.acons (Is.var (v := .str x) rfl (Is.acons (Is.var (v := .int i) rfl (Is.anil (checkStart_is F pr hx hi fun h1 l1 => ?_))))))))))
  refine Ise.ite (Is.bor (Is.bnot (Is.tru (Is.call (Is.acons (Is.var (v := .ref a) rfl (Is.acons (Is.var (v := v) rfl (Is.anil ((n h1 l1).mono fun w h2 ⟨l2, q⟩ => ?_))))))))))
  rcases q with rfl | ⟨rfl, q⟩
  · refine tru_is ?_
    rw [if_pos (show (!false) = true from rfl), if_pos rfl]
    exact Ise.raise (v := v) rfl ⟨rfl, rfl, l1.trans l2⟩
  · refine tru_is ?_
    rw [if_neg (by decide)]
    refine Is.bnot (Is.tru (Is.call (Is.acons (Is.var (v := .ref a) rfl (Is.acons (Is.var (v := .str x) rfl (Is.acons (Is.var (v := v) rfl (Is.anil (q.mono fun w h3 ⟨ew, l3⟩ => ?_)))))))))) 
    subst ew
    refine tru_is ?_
    rw [if_pos (show (!false) = true from rfl)]
    exact Ise.raise (v := v) rfl ⟨rfl, rfl, (l1.trans l2).trans l3⟩
end
end Fw
namespace Fw
open PySem PySem.Spec L2
def caughtM (sub : Nat → Option Bool) (iU iQ iN iR : Tag → Option Bool) (xn xv : List (Option Nat)) (f0 f1 f2 : FM) : SM := (mSeq (mSet 5 (mC .non)) (mSeq (mTry 6 sub (mIfS (mB (mO2 (eqD false) (mVar 0) (mC (.int 0)))) (mDrop (mCall f0 (aCons (mVar 1) (aCons (mVar 4) aNil)))) (mIfS (mB (mO2 (eqD false) (mVar 0) (mC (.int 1)))) (mDrop (mCall f1 (aCons (mVar 1) (aCons (mVar 4) aNil)))) (mDrop (mCall f2 (aCons (mVar 1) (aCons (mVar 2) (aCons (mVar 3) (aCons (mVar 4) aNil)))))))) (mSet 5 (mVar 6))) (mSeq (mIfS (mB (mO1 (opIsi iU) (mVar 5))) (mRet (mOA opLst (aCons (mC (.int 1)) (aCons (mOA (un1 opRepr) (aCons (mO1 (opExf xn) (mVar 5)) aNil)) aNil)))) mNil) (mSeq (mSet 7 (mOA opLst (aCons (mO1 (opIsi iQ) (mVar 5)) (aCons (mC (.bl false)) (aCons (mO1 (opIsi iN) (mVar 5)) aNil))))) (mSeq (mSet 7 (mO2 opAdd (mVar 7) (mOA opLst (aCons (mO1 (opIsi iR) (mVar 5)) (aCons (mC (.bl true)) aNil))))) (mRet (mOA opLst (aCons (mBm opIndex (mVar 7) (aCons (mC (.bl true)) aNil)) (aCons (mIf (mB (mO2 opIsN (mVar 5) (mC .non))) (mC .non) (mOA (un1 opRepr) (aCons (mO1 (opExf xv) (mVar 5)) aNil))) aNil)))))))))
/-- what the law's catching knows of an error's class -/
structure Kind (sub : Nat → Option Bool) (iU iQ iN iR : Tag → Option Bool) (xn xv : List (Option Nat)) (k : Nat) (o : Int) : Prop where
  s : sub k = some true
  u : iU (.exo k) = some (decide (o = 1))
  q : iQ (.exo k) = some (decide (o = 0))
  n : iN (.exo k) = some (decide (o = 2))
  r : iR (.exo k) = some (decide (o = 3))
  xn : o = 1 → xn[k]? = some (some 0)
  xv : o ≠ 1 → xv[k]? = some (some 0)
  o0 : 0 ≤ o
  o3 : o ≤ 3
theorem dropX_eq {m : EM} {ss : SS} {h : SH} {E : Nat → List SV → SH → Prop} (x : Isx (m ss h) E) : ∃ c xs h1, mDrop m ss h = .ex c xs ss h1 ∧ E c xs h1 := by
  obtain ⟨c, xs, h1, e, y⟩ := x.out
  exact ⟨c, xs, h1, by unfold mDrop; rw [e]; rfl, y⟩
theorem eqI_b {ss : SS} {h : SH} {i : Nat} {a b : Int} (e : ss[i]? = some (some (.int a))) : (mB (mO2 (eqD false) (mVar i) (mC (.int b)))) ss h = .ok (decide (a = b)) h := by
  obtain ⟨v, h3, e1, e2⟩ := eqI (i := a) (j := b) (h := h) (P := fun v h' => v = .bl (decide (a = b)) ∧ h' = h) ⟨rfl, rfl⟩
  obtain ⟨rfl, rfl⟩ := e2
  unfold mB mO2 mVar mC
  simp only [e, Res.bind, lift, e1]
theorem ite_eq {tt : BM} {m1 m2 : SM} {ss : SS} {h h1 : SH} {b : Bool} (e : tt ss h = .ok b h1) : mIfS tt m1 m2 ss h = if b = true then m1 ss h1 else m2 ss h1 := by
  unfold mIfS; rw [e]; rfl
theorem index_is {i : Nat} {h : SH} {o : Int} {P : SV → SH → Prop} (o0 : 0 ≤ o) (o3 : o ≤ 3) (o1 : o ≠ 1) (e : h[i]? = some (.lst [.bl (decide (o = 0)), .bl false, .bl (decide (o = 2)), .bl (decide (o = 3)), .bl true])) (p : P (.int o) h) : ∃ v h3, opIndex (.ref i) [.bl true] h = some (v, h3) ∧ P v h3 := by
  refine ⟨.int o, h, ?_, p⟩
  have : o = 0 ∨ o = 2 ∨ o = 3 := by omega
  unfold opIndex
  simp only [e]
  rcases this with rfl | rfl | rfl <;> rfl
theorem caught_is {sub : Nat → Option Bool} {iU iQ iN iR : Tag → Option Bool} {xn xv : List (Option Nat)} {f0 f1 f2 : FM} {k : Nat} {o dv : Int} (K : Kind sub iU iQ iN iR xn xv k o) {w1 w2 w3 w4 bv : SV} {d : PyData} {h : SH} (hd : dv = 0 ∨ dv = 1 ∨ dv = 2)
    (x0 : dv = 0 → Isx (f0 [w1, w4] h) (Out k bv h)) (x1 : dv = 1 → Isx (f1 [w1, w4] h) (Out k bv h)) (x2 : dv = 2 → Isx (f2 [w1, w2, w3, w4] h) (Out k bv h)) (ed : dataOf 64 h bv = some d) (t : Tx1 d) {P : SV → SH → Prop}
    (p : ∀ h' j, Le h h' → dataOf 64 h' (.ref j) = some (.list [.int o, .str d.shown]) → P (.ref j) h') : Is (mFn 5 8 (caughtM sub iU iQ iN iR xn xv f0 f1 f2) [.int dv, w1, w2, w3, w4] h) P := by
  refine Is.fn rfl ?_
  unfold caughtM
  refine Ist.seq (Ist.set (Is.c ?_))
  show Ist (mSeq (mTry _ _ _ _) _ [some (.int dv), some w1, some w2, some w3, some w4, some .non, none, none] h) _ _ _ _
  have call2 : ∀ (f : FM), Isx (f [w1, w4] h) (Out k bv h) → Isx (mCall f (aCons (mVar 1) (aCons (mVar 4) aNil)) [some (.int dv), some w1, some w2, some w3, some w4, some .non, none, none] h) (Out k bv h) := fun f x =>
    Isx.call (Is.acons (Is.var (v := w1) rfl (Is.acons (Is.var (v := w4) rfl (Is.anil x)))))
  have body : ∃ h1, (mIfS (mB (mO2 (eqD false) (mVar 0) (mC (.int 0)))) (mDrop (mCall f0 (aCons (mVar 1) (aCons (mVar 4) aNil)))) (mIfS (mB (mO2 (eqD false) (mVar 0) (mC (.int 1)))) (mDrop (mCall f1 (aCons (mVar 1) (aCons (mVar 4) aNil)))) (mDrop (mCall f2 (aCons (mVar 1) (aCons (mVar 2) (aCons (mVar 3) (aCons (mVar 4) aNil)))))))) [some (.int dv), some w1, some w2, some w3, some w4, some .non, none, none] h = .ex k [bv] [some (.int dv), some w1, some w2, some w3, some w4, some .non, none, none] h1 ∧ Le h h1 := by
    rcases hd with rfl | rfl | rfl
    · rw [ite_eq (eqI_b (a := 0) (b := 0) rfl), if_pos (by decide)]
      obtain ⟨c, xs, h1, e, rfl, rfl, l⟩ := dropX_eq (call2 f0 (x0 rfl))
      exact ⟨h1, e, l⟩
    · rw [ite_eq (eqI_b (a := 1) (b := 0) rfl), if_neg (by decide), ite_eq (eqI_b (a := 1) (b := 1) rfl), if_pos (by decide)]
      obtain ⟨c, xs, h1, e, rfl, rfl, l⟩ := dropX_eq (call2 f1 (x1 rfl))
      exact ⟨h1, e, l⟩
    · rw [ite_eq (eqI_b (a := 2) (b := 0) rfl), if_neg (by decide), ite_eq (eqI_b (a := 2) (b := 1) rfl), if_neg (by decide)]
      have q : Isx (mCall f2 (aCons (mVar 1) (aCons (mVar 2) (aCons (mVar 3) (aCons (mVar 4) aNil)))) [some (.int 2), some w1, some w2, some w3, some w4, some .non, none, none] h) (Out k bv h) := by
        refine Isx.call (Is.acons (Is.var (v := w1) rfl (Is.acons (Is.var (v := w2) rfl (Is.acons (Is.var (v := w3) rfl (Is.acons (Is.var (v := w4) rfl (Is.anil (x2 rfl))))))))))
      obtain ⟨c, xs, h1, e, rfl, rfl, l⟩ := dropX_eq q
      exact ⟨h1, e, l⟩
  obtain ⟨h0, ec, le0⟩ := body
  refine Ist.seq (Ist.tryC ec K.s (Ist.set (Is.var rfl ?_)))
  have le1 := le0.trans (Le.push h0 (.exo k [bv]))
  have n1 := new_at h0 (.exo k [bv])
  generalize hj : h0.length = j at n1 ⊢
  generalize h0 ++ [SO.exo k [bv]] = h1 at le1 n1 ⊢
  have tg : tagOf h1 (.ref j) = some (.exo k) := by unfold tagOf; simp only [n1]
  show Ist (mSeq _ _ [some (.int dv), some w1, some w2, some w3, some w4, some (.ref j), none, none] h1) _ _ _ _
  refine Ist.seq (Ist.ite (isi_of (Is.var (v := .ref j) rfl ⟨tg, ?_⟩) K.u))
  by_cases c : o = 1
  · rw [if_pos (decide_eq_true c)]
    refine Ist.ret (Is.oa (Is.acons (Is.c (Is.acons (Is.oa (Is.acons (Is.o1 (Is.var (v := .ref j) rfl ⟨bv, h1, by unfold opExf; simp only [n1, K.xn c]; rfl, Is.anil (repr_d (dataOf_le le1 64 _ _ ed) t (Is.anil (lst_is (small_big (by simp)) ?_)))⟩))))))))
    rw [← c]
    exact p _ _ (le1.trans (Le.push _ _)) (dataOf_lst (new_at _ _) rfl)
  · rw [if_neg (by simpa using c)]
    refine Ist.nil (Ist.seq (Ist.set (Is.oa (Is.acons (Is.o1 (Is.var (v := .ref j) rfl (isi_t tg K.q (Is.acons (Is.c (Is.acons (Is.o1 (Is.var (v := .ref j) rfl (isi_t tg K.n (Is.anil (lst_is (small_big (by simp)) ?_)))))))))))))) )
    have l2 := Le.push h1 (.lst [.bl (decide (o = 0)), .bl false, .bl (decide (o = 2))])
    have n2 := new_at h1 (.lst [.bl (decide (o = 0)), .bl false, .bl (decide (o = 2))])
    generalize h1.length = j2 at n2 ⊢
    generalize h1 ++ [SO.lst [.bl (decide (o = 0)), .bl false, .bl (decide (o = 2))]] = h2 at l2 n2 ⊢
    show Ist (mSeq _ _ [some (.int dv), some w1, some w2, some w3, some w4, some (.ref j), none, some (.ref j2)] h2) _ _ _ _
    refine Ist.seq (Ist.set (Is.o2 (Is.var (v := .ref j2) rfl (Is.oa (Is.acons (Is.o1 (Is.var (v := .ref j) rfl (isi_t (t := .exo k) (by unfold tagOf; simp only [l2 _ _ n1]) K.r (Is.acons (Is.c (Is.anil (lst_is (small_big (by simp)) (add_is (Le.push _ _ _ _ n2) (new_at _ _) (small_big (by simp)) ?_)))))))))))) )
    have l3 := (Le.push h2 (.lst [.bl (decide (o = 3)), .bl true])).trans (Le.push (h2 ++ [.lst [.bl (decide (o = 3)), .bl true]]) (.lst [.bl (decide (o = 0)), .bl false, .bl (decide (o = 2)), .bl (decide (o = 3)), .bl true]))
    have n3 := new_at (h2 ++ [.lst [.bl (decide (o = 3)), .bl true]]) (.lst [.bl (decide (o = 0)), .bl false, .bl (decide (o = 2)), .bl (decide (o = 3)), .bl true])
    show Ist (mRet _ [some (.int dv), some w1, some w2, some w3, some w4, some (.ref j), none, some (.ref (h2 ++ [SO.lst [.bl (decide (o = 3)), .bl true]]).length)] ((h2 ++ [SO.lst [.bl (decide (o = 3)), .bl true]]) ++ [SO.lst [.bl (decide (o = 0)), .bl false, .bl (decide (o = 2)), .bl (decide (o = 3)), .bl true]])) _ _ _ _
    generalize (h2 ++ [SO.lst [.bl (decide (o = 3)), .bl true]]).length = j3 at n3 ⊢
    generalize (h2 ++ [SO.lst [.bl (decide (o = 3)), .bl true]]) ++ [SO.lst [.bl (decide (o = 0)), .bl false, .bl (decide (o = 2)), .bl (decide (o = 3)), .bl true]] = h3 at l3 n3 ⊢
    have l13 := l2.trans l3
    refine Ist.ret (Is.oa (Is.acons (Is.bmL (Is.var (v := .ref j3) rfl ⟨lstB n3, Is.acons (Is.c (Is.anil (index_is K.o0 K.o3 c n3 ?_)))⟩))))
    refine Is.acons (Is.ifx (Is.bm (Is.o2 (Is.var (v := .ref j) rfl (Is.c ⟨.bl false, h3, rfl, false, rfl, ?_⟩)))))
    rw [if_neg Bool.false_ne_true]
    refine Is.oa (Is.acons (Is.o1 (Is.var (v := .ref j) rfl ⟨bv, h3, by unfold opExf; simp only [l13 _ _ n1, K.xv c]; rfl, Is.anil (repr_d (dataOf_le (le1.trans l13) 64 _ _ ed) t (Is.anil (lst_is (small_big (by simp)) ?_)))⟩)))
    exact p _ _ ((le1.trans l13).trans (Le.push _ _)) (dataOf_lst (new_at _ _) rfl)
end Fw
namespace Fw
open PySem PySem.Spec L2
def refM (f : FM) (a : AM) (o : Int) (r : EM) : SM := mIfS (mB (mO2 (eqD true) (mCall f a) (mOA opLst (aCons (mC (.int o)) (aCons (mOA (un1 opRepr) (aCons r aNil)) aNil))))) (mRet (mC (.bl false))) mNil
theorem ref_is {N B C : SS → SH → Prop} {R : SV → SH → Prop} {sub : Nat → Option Bool} {iU iQ iN iR : Tag → Option Bool} {xn xv : List (Option Nat)} {f0 f1 f2 : FM} {ss : SS} {h : SH} {a : AM} {o : Int} {i : Nat} {bv : SV} {d : PyData} (eb : ss[i]? = some (some bv)) (t : Tx1 d)
    (ha : Is (a ss h) fun vs h1 => ∃ (dv : Int) (w1 w2 w3 w4 : SV) (k : Nat), vs = [.int dv, w1, w2, w3, w4] ∧ Le h h1 ∧ Kind sub iU iQ iN iR xn xv k o ∧ (dv = 0 ∨ dv = 1 ∨ dv = 2) ∧ (dv = 0 → Isx (f0 [w1, w4] h1) (Out k bv h1)) ∧ (dv = 1 → Isx (f1 [w1, w4] h1) (Out k bv h1)) ∧ (dv = 2 → Isx (f2 [w1, w2, w3, w4] h1) (Out k bv h1)) ∧ dataOf 64 h1 bv = some d) (n : ∀ h', Le h h' → N ss h') :
    Ist (refM (mFn 5 8 (caughtM sub iU iQ iN iR xn xv f0 f1 f2)) a o (mVar i) ss h) N R B C := by
  unfold refM
  refine Ist.ite (Is.bm (Is.o2 (Is.call (ha.mono fun vs h1 ⟨dv, w1, w2, w3, w4, k, ev, le, K, hd, x0, x1, x2, ed⟩ => ?_))))
  subst ev
  refine caught_is K hd x0 x1 x2 ed t fun h2 j le2 e2 => ?_
  refine Is.oa (Is.acons (Is.c (Is.acons (Is.oa (Is.acons (Is.var eb (Is.anil (repr_d (dataOf_le le2 64 _ _ ed) t (Is.anil (lst_is (small_big (by simp)) ?_))))))))))
  refine eqD_same (dataOf_le (Le.push _ _) 64 _ _ e2) (dataOf_lst (new_at _ _) rfl) (sh_pair t.ok) ⟨_, rfl, ?_⟩
  rw [if_neg (by decide)]
  exact Ist.nil (n _ ((le.trans le2).trans (Le.push _ _)))
/-! ### the law's bad values -/
section
variable {iL iT iS iI iB iP : Tag → Option Bool} {xP xM : List (Option Nat)} {c : Nat}
/-- a value with a text and a kind that both stay -/
def Val (f : Tag → Option Bool) (h : SH) (v : SV) : Prop := ∃ d t, Tx1 d ∧ f t = some false ∧ ∀ h', Le h h' → dataOf 64 h' v = some d ∧ tagOf h' v = some t
theorem staV {f : Tag → Option Bool} : Sta (Val f) := fun h h' v l ⟨d, t, a, b, c⟩ => ⟨d, t, a, b, fun h2 l2 => c h2 (l.trans l2)⟩
/-- a value with a text that stays, and what is said of it in every later heap -/
def Bad (Q : SH → SV → Prop) (h : SH) (v : SV) : Prop := ∃ d, Tx1 d ∧ ∀ h', Le h h' → dataOf 64 h' v = some d ∧ Q h' v
theorem staB {Q : SH → SV → Prop} : Sta (Bad Q) := fun h h' v l ⟨d, a, c⟩ => ⟨d, a, fun h2 l2 => c h2 (l.trans l2)⟩
/-- no list: no row -/
theorem press_nl (F : Facts iL iT iS iI iB iP xP xM c) {a lo : Nat} {ps : List Str} {ms : List Nm} {h : SH} {v : SV} {t : Tag} (pr : Prog h c a lo ps ms) (et : ∀ h', Le h h' → tagOf h' v = some t) (n : iL t = some false) : Is (mFn 2 4 (pressM iL iT iI iB xM c) [.ref a, v] h) fun w h2 => w = .bl false ∧ Le h h2 := by
  refine Is.fn rfl ?_
  unfold pressM
  refine Ist.seq (Ist.set (meth_moves F.xm (a := a) rfl pr fun h1 M l1 mv => ?_))
  refine Ist.seq (Ist.ite (Is.bor (Is.bnot (isi_of (Is.var (v := v) rfl ⟨et h1 l1, ?_⟩) n))))
  rw [if_pos (show (!false) = true from rfl), if_pos rfl]
  exact Ist.ret (Is.c ⟨rfl, l1⟩)
/-- a list of one that is no part -/
theorem press_one (F : Facts iL iT iS iI iB iP xP xM c) {a lo A : Nat} {ps : List Str} {ms : List Nm} {h : SH} {x : SV} (pr : Prog h c a lo ps ms) (eA : h[A]? = some (.lst [x])) (n : ∀ h', Le h h' → Is (mFn 2 5 (partM iL iT iI iB) [x, .int (ms.length : Nat)] h') fun w h2 => w = .bl false ∧ Le h' h2) : Is (mFn 2 4 (pressM iL iT iI iB xM c) [.ref a, .ref A] h) fun w h2 => w = .bl false ∧ Le h h2 := by
  refine Is.fn rfl ?_
  unfold pressM
  refine Ist.seq (Ist.set (meth_moves F.xm (a := a) rfl pr fun h1 M l1 mv => ?_))
  obtain ⟨us, eM, hus, zm⟩ := mv
  have eA1 := l1 _ _ eA
  refine Ist.seq (Ist.ite (Is.bor (Is.bnot (isi_of (Is.var (v := .ref A) rfl ⟨tag_lst eA1, ?_⟩) F.es.L))))
  rw [if_neg (by decide)]
  refine Is.bnot (Is.bm (Is.oa (Is.acons (Is.lc (Is.walkL (Is.var (v := .ref A) rfl ⟨A, _, rfl, eA1, 1, fun k acc h' => Le h1 h' ∧ acc = List.replicate k (.bl false), by decide +kernel, ⟨Le.push _ _, rfl⟩, ?_, ?_⟩))))))
  · rintro k acc h' hk hD ⟨le, rfl⟩
    have k0 : k = 0 := by omega
    subst k0
    refine ⟨x, _, _, wkL_at (le _ _ eA1) rfl, rfl, ?_⟩
    show Is (Res.ok true h') _
    refine is_ok ?_
    rw [if_pos rfl]
    refine Is.call (Is.acons (Is.var (v := x) rfl (Is.acons (Is.oa (Is.acons (Is.var (v := .ref M) rfl (Is.anil (len_is (le _ _ eM) (Is.anil ?_)))))))))
    rw [List.length_map, hus]
    refine (n h' (l1.trans le)).mono fun w h2 ⟨ew, l2⟩ => ?_
    subst ew
    refine ⟨l2 _ _ hD, by decide, fun j o ej => ?_, rfl⟩
    have hj : h1.length ≠ j := by have := lt_of ej; omega
    rw [set_ne hj]; exact l2 _ _ (le _ _ ej)
  · rintro acc h' hD ⟨le, rfl⟩
    refine ⟨wkL_end (le _ _ eA1), Is.anil ⟨.bl false, h', ?_, false, rfl, ?_⟩⟩
    · show opAll (.ref h1.length) h' = _
      unfold opAll
      simp only [hD]
      rfl
    · rw [if_pos (show (!false) = true from rfl)]
      exact Ist.ret (Is.c ⟨rfl, l1.trans le⟩)
end
end Fw
namespace Fw
open PySem PySem.Spec L2
/-! ### parts that are none -/
section
variable {iL iT iS iI iB iP : Tag → Option Bool} {xP xM : List (Option Nat)} {c : Nat} {h : SH} {n : Int}
/-- what is_whole says of True, and of others -/
structure Whs (iL iT iI iB : Tag → Option Bool) : Prop where
  non : iI .non = some false
  bl : iI .bl = some true
  bb : iB .bl = some true
  str : iI .str = some false
  lst : iI .lst = some false
  tup : iI .tup = some false
  dct : iI .dct = some false
  tn : iT .non = some false
  tl : iT .lst = some false
  ll : iL .non = some false
theorem whole_no {v : SV} {t : Tag} (et : tagOf h v = some t) (n : iI t = some false) : Is (mFn 1 1 (wholeM iI iB) [v] h) fun w h2 => w = .bl false ∧ h2 = h := by
  refine Is.fn rfl ?_
  unfold wholeM
  exact Ist.ret (Is.andV (Is.o1 (Is.var (v := v) rfl (isi_t et n (.inr ⟨rfl, rfl, rfl⟩)))))
theorem whole_bl {b : Bool} (W : Whs iL iT iI iB) : Is (mFn 1 1 (wholeM iI iB) [.bl b] h) fun w h2 => w = .bl false ∧ h2 = h := by
  refine Is.fn rfl ?_
  unfold wholeM
  refine Ist.ret (Is.andV (Is.o1 (Is.var (v := .bl b) rfl (isi_t (t := .bl) rfl W.bl (.inl ⟨rfl, Is.notV (Is.o1 (Is.var (v := .bl b) rfl (isi_t (t := .bl) rfl W.bb ⟨true, rfl, ?_⟩)))⟩)))))
  exact ⟨rfl, rfl⟩
theorem part_nt {x : SV} {t : Tag} (et : tagOf h x = some t) (n' : iT t = some false) : Is (mFn 2 5 (partM iL iT iI iB) [x, .int n] h) fun w h2 => w = .bl false ∧ Le h h2 := by
  refine Is.fn rfl ?_
  unfold partM
  refine Ist.seq (Ist.ite (Is.bor (Is.bnot (isi_of (Is.var (v := x) rfl ⟨et, ?_⟩) n'))))
  rw [if_pos (show (!false) = true from rfl), if_pos rfl]
  exact Ist.ret (Is.c ⟨rfl, Le.refl _⟩)
theorem part_len {t : Nat} {xs : List SV} (es : Isis iL iT iS iI iB) (et : h[t]? = some (.tup xs)) (hl : xs.length ≠ 2) : Is (mFn 2 5 (partM iL iT iI iB) [.ref t, .int n] h) fun w h2 => w = .bl false ∧ Le h h2 := by
  refine Is.fn rfl ?_
  unfold partM
  refine Ist.seq (Ist.ite (Is.bor (Is.bnot (isi_of (Is.var (v := .ref t) rfl ⟨tag_tup et, ?_⟩) es.T))))
  rw [if_neg (by decide)]
  refine Is.bm (Is.o2 (Is.oa (Is.acons (Is.var (v := .ref t) rfl (Is.anil (lenT_is et (Is.c (neI ⟨_, rfl, ?_⟩))))))))
  rw [if_pos (by simp; omega)]
  exact Ist.ret (Is.c ⟨rfl, Le.refl _⟩)
/-- (times, numbers): what is wrong with them -/
theorem part_two {t : Nat} {x y : SV} (es : Isis iL iT iS iI iB) (W : Whs iL iT iI iB) (et : h[t]? = some (.tup [x, y]))
    (bad : (∃ b, x = .bl b) ∨ (∃ i, x = .int i ∧ (i < 1 ∨ ∃ b ns, y = .ref b ∧ 1 ≤ i ∧ h[b]? = some (.lst ns) ∧ (ns = [] ∨ ∃ z, ns = [z] ∧ ((∃ b, z = .bl b) ∨ ∃ k, z = .int k ∧ ¬ (0 ≤ k ∧ k < n)))))) : Is (mFn 2 5 (partM iL iT iI iB) [.ref t, .int n] h) fun w h2 => w = .bl false ∧ Le h h2 := by
  refine Is.fn rfl ?_
  unfold partM
  refine Ist.seq (Ist.ite (Is.bor (Is.bnot (isi_of (Is.var (v := .ref t) rfl ⟨tag_tup et, ?_⟩) es.T))))
  rw [if_neg (by decide)]
  refine Is.bm (Is.o2 (Is.oa (Is.acons (Is.var (v := .ref t) rfl (Is.anil (lenT_is et (Is.c (neI ⟨_, rfl, ?_⟩))))))))
  rw [if_neg (by simp)]
  refine Ist.nil (Ist.seq (Ist.asg (Is.var (v := .ref t) rfl ⟨_, g2_is et, ?_⟩)))
  rcases bad with ⟨b, rfl⟩ | ⟨i, rfl, bad⟩
  · refine Ist.seq (Ist.ite (Is.bor (Is.bnot (Is.tru (Is.call (Is.acons (Is.var (v := .bl b) rfl (Is.anil ((whole_bl W).mono fun w h2 ⟨ew, eh⟩ => ?_)))))))))
    subst ew; subst eh
    refine tru_is ?_
    rw [if_pos (show (!false) = true from rfl), if_pos rfl]
    exact Ist.ret (Is.c ⟨rfl, Le.refl _⟩)
  · refine Ist.seq (Ist.ite (Is.bor (Is.bnot (Is.tru (Is.call (Is.acons (Is.var (v := .int i) rfl (Is.anil (whole_is es.I es.B ?_)))))))))
    refine tru_is ?_
    rw [if_neg (by decide)]
    refine Is.bor (Is.bm (Is.o2 (Is.var (v := .int i) rfl (Is.c ⟨_, _, rfl, _, rfl, ?_⟩))))
    rcases bad with hi | ⟨b, ns, rfl, hi, eb, bad⟩
    · rw [if_pos (decide_eq_true hi), if_pos rfl]
      exact Ist.ret (Is.c ⟨rfl, Le.refl _⟩)
    · rw [if_neg (by simpa using hi)]
      refine Is.bor (Is.bnot (isi_of (Is.var (v := .ref b) rfl ⟨tag_lst eb, ?_⟩) es.L))
      rw [if_neg (by decide)]
      refine Is.bnot (Is.tru (Is.var (v := .ref b) rfl (truL eb ?_)))
      rcases bad with rfl | ⟨z, rfl, bad⟩
      · rw [if_pos (by rfl)]
        exact Ist.ret (Is.c ⟨rfl, Le.refl _⟩)
      · rw [if_neg (by simp)]
        refine Ist.nil (Ist.ret (Is.oa (Is.acons (Is.lc (Is.walkL (Is.var (v := .ref b) rfl ⟨b, _, rfl, eb, 1, fun k acc h' => Le h h' ∧ acc = List.replicate k (.bl false), by decide +kernel, ⟨Le.push _ _, rfl⟩, ?_, ?_⟩))))))
        · rintro k acc h' hk hD ⟨le, rfl⟩
          have k0 : k = 0 := by omega
          subst k0
          refine ⟨z, _, _, wkL_at (le _ _ eb) rfl, rfl, ?_⟩
          show Is (Res.ok true h') _
          refine is_ok ?_
          rw [if_pos rfl]
          refine Is.call (Is.acons (Is.var (v := z) rfl (Is.acons (Is.c (Is.acons (Is.o2 (Is.var (v := .int n) rfl (Is.c ⟨_, _, rfl, Is.anil ?_⟩))))))))
          have done : ∀ h2, h2 = h' → h2[h.length]? = some (.lst (List.replicate 0 (SV.bl false))) ∧ (List.replicate 0 (SV.bl false)).length < big ∧ Le h (h2.set h.length (.lst (List.replicate 0 (SV.bl false) ++ [.bl false]))) ∧ List.replicate 0 (SV.bl false) ++ [.bl false] = List.replicate (0 + 1) (.bl false) := fun h2 e => by
            subst e
            refine ⟨hD, by decide, fun j o ej => ?_, rfl⟩
            have hj : h.length ≠ j := by have := lt_of ej; omega
            rw [set_ne hj]; exact le _ _ ej
          refine Is.fn rfl ?_
          unfold betwM
          rcases bad with ⟨b', rfl⟩ | ⟨k', rfl, nk⟩
          · refine Ist.ret (Is.andV (Is.call (Is.acons (Is.var (v := .bl b') rfl (Is.anil ((whole_bl W).mono fun w h2 ⟨ew, eh⟩ => .inr ⟨ew, done h2 eh⟩))))))
          · refine Ist.ret (Is.andV (Is.call (Is.acons (Is.var (v := .int k') rfl (Is.anil (whole_is es.I es.B (.inl ⟨rfl, ?_⟩)))))))
            refine Is.chain (Is.var (v := .int 0) rfl (Is.var (v := .int k') rfl ⟨_, _, rfl, ?_⟩))
            by_cases c0 : 0 ≤ k'
            · refine .inl ⟨by rw [decide_eq_true c0], Is.var (v := .int (n - 1)) rfl ⟨_, _, rfl, ?_⟩⟩
              have : ¬ k' ≤ n - 1 := by omega
              rw [decide_eq_false this]
              exact done h' rfl
            · exact .inr ⟨by rw [decide_eq_false c0], done h' rfl⟩
        · rintro acc h' hD ⟨le, rfl⟩
          refine ⟨wkL_end (le _ _ eb), Is.anil ⟨.bl false, h', ?_, rfl, le⟩⟩
          show opAll (.ref h.length) h' = _
          unfold opAll
          simp only [hD]
          rfl
end
end Fw
namespace Fw
open PySem PySem.Spec L2
/-! ### values written in a law: their data and kind, which stay -/
def Sd (k : Nat) (h : SH) (v : SV) (d : PyData) (t : Tag) : Prop := ∀ (h' : SH) (m : Nat), Le h h' → dataOf (m + k) h' v = some d ∧ tagOf h' v = some t
section
variable {h : SH} {k j : Nat}
theorem Sd.le {h' : SH} {v : SV} {d : PyData} {t : Tag} (x : Sd k h v d t) (l : Le h h') : Sd k h' v d t := fun h2 m l2 => x h2 m (l.trans l2)
theorem Sd.up {v : SV} {d : PyData} {t : Tag} {k' : Nat} (x : Sd k h v d t) (hk : k ≤ k') : Sd k' h v d t := fun h2 m l2 => by
  have := x h2 (m + (k' - k)) l2
  have e : m + (k' - k) + k = m + k' := by omega
  rw [e] at this
  exact this
theorem sd_non : Sd 1 h .non .none .non := fun _ _ _ => ⟨rfl, rfl⟩
theorem sd_int {i : Int} : Sd 1 h (.int i) (.int i) .int := fun _ _ _ => ⟨rfl, rfl⟩
theorem sd_bl {b : Bool} : Sd 1 h (.bl b) (.bool b) .bl := fun _ _ _ => ⟨rfl, rfl⟩
theorem sd_str {x : Str} : Sd 1 h (.str x) (.str x) .str := fun _ _ _ => ⟨rfl, rfl⟩
theorem sd_lst {xs : List SV} {ds : List PyData} (e : h[j]? = some (.lst xs)) (hl : xs.length = ds.length) (z : ∀ (i : Nat) (x : SV), xs[i]? = some x → ∃ d t, ds[i]? = some d ∧ Sd k h x d t) : Sd (k + 1) h (.ref j) (.list ds) .lst := fun h' m l =>
  ⟨dataOf_lst (n := m + k) (l _ _ e) (dataAll_of hl fun i x ex => let ⟨d, t, ed, sd⟩ := z i x ex; ⟨d, ed, (sd h' m l).1⟩), tag_lst (l _ _ e)⟩
theorem sd_tup {xs : List SV} {ds : List PyData} (e : h[j]? = some (.tup xs)) (hl : xs.length = ds.length) (z : ∀ (i : Nat) (x : SV), xs[i]? = some x → ∃ d t, ds[i]? = some d ∧ Sd k h x d t) : Sd (k + 1) h (.ref j) (.tuple ds) .tup := fun h' m l =>
  ⟨data_tup (n := m + k) (l _ _ e) (dataAll_of hl fun i x ex => let ⟨d, t, ed, sd⟩ := z i x ex; ⟨d, ed, (sd h' m l).1⟩), tag_tup (l _ _ e)⟩
theorem sd_lst0 (e : h[j]? = some (.lst [])) : Sd 2 h (.ref j) (.list []) .lst := sd_lst (k := 1) e rfl fun _ _ z => nomatch z
theorem sd_tup0 (e : h[j]? = some (.tup [])) : Sd 2 h (.ref j) (.tuple []) .tup := sd_tup (k := 1) e rfl fun _ _ z => nomatch z
theorem sd_dct0 (e : h[j]? = some (.dK [])) : Sd 2 h (.ref j) (.dict []) .dct := fun h' m l =>
  ⟨data_dct (n := m + 1) (l _ _ e) rfl, tag_dct (l _ _ e)⟩
theorem sd_lst1 {x : SV} {d : PyData} {t : Tag} (e : h[j]? = some (.lst [x])) (sd : Sd k h x d t) : Sd (k + 1) h (.ref j) (.list [d]) .lst := sd_lst e rfl fun i y ey => by
  match i, ey with
  | 0, ey => cases ey; exact ⟨d, t, rfl, sd⟩
  | i + 1, ey => cases ey
theorem sd_tup1 {x : SV} {d : PyData} {t : Tag} (e : h[j]? = some (.tup [x])) (sd : Sd k h x d t) : Sd (k + 1) h (.ref j) (.tuple [d]) .tup := sd_tup e rfl fun i y ey => by
  match i, ey with
  | 0, ey => cases ey; exact ⟨d, t, rfl, sd⟩
  | i + 1, ey => cases ey
theorem sd_tup2 {x y : SV} {d d' : PyData} {t t' : Tag} (e : h[j]? = some (.tup [x, y])) (sx : Sd k h x d t) (sy : Sd k h y d' t') : Sd (k + 1) h (.ref j) (.tuple [d, d']) .tup := sd_tup e rfl fun i z ez => by
  match i, ez with
  | 0, ez => cases ez; exact ⟨d, t, rfl, sx⟩
  | 1, ez => cases ez; exact ⟨d', t', rfl, sy⟩
  | i + 2, ez => cases ez
theorem sd_lst2 {x y : SV} {d d' : PyData} {t t' : Tag} (e : h[j]? = some (.lst [x, y])) (sx : Sd k h x d t) (sy : Sd k h y d' t') : Sd (k + 1) h (.ref j) (.list [d, d']) .lst := sd_lst e rfl fun i z ez => by
  match i, ez with
  | 0, ez => cases ez; exact ⟨d, t, rfl, sx⟩
  | 1, ez => cases ez; exact ⟨d', t', rfl, sy⟩
  | i + 2, ez => cases ez
theorem Sd.val {v : SV} {d : PyData} {t : Tag} {f : Tag → Option Bool} (x : Sd k h v d t) (hk : k ≤ 64) (tx : Tx1 d) (n : f t = some false) : Val f h v :=
  ⟨d, t, tx, n, fun h' l => by
    have := (x.up hk) h' 0 l
    rw [Nat.zero_add] at this
    exact this⟩
theorem Sd.bad {v : SV} {d : PyData} {t : Tag} {Q : SH → SV → Prop} (x : Sd k h v d t) (hk : k ≤ 64) (tx : Tx1 d) (q : ∀ h', Le h h' → Q h' v) : Bad Q h v :=
  ⟨d, tx, fun h' l => ⟨by
    have := ((x.up hk) h' 0 l).1
    rw [Nat.zero_add] at this
    exact this, q h' l⟩⟩
end
theorem tx_int {i : Int} (h : i.natAbs < 10 ^ 40) : Tx1 (.int i) :=
  Tx1.of (n := 50) (show_int h) (by rw [depth_int]; decide) (by rw [shown_int]; exact num40 h) (by decide)
end Fw
namespace Fw
open PySem PySem.Spec L2
section
variable {iL iT iS iI iB iP : Tag → Option Bool} {xP xM : List (Option Nat)} {c eP eU eN eR : Nat} {h : SH}
/-- a row of one move that does not begin at the place -/
theorem begins_no (F : Facts iL iT iS iI iB iP xP xM c) {a lo A t b : Nat} {ps : List Str} {ms : List Nm} {x : Str} {n : Int} {m : Nm} (pr : Prog h c a lo ps ms) (nm : ∀ p ∈ ps, NmOk p) (mok : ∀ m ∈ ms, Nm.Ok ps m) (hx : x ∈ ps) (eA : h[A]? = some (.lst [.ref t])) (et : h[t]? = some (.tup [.int 1, .ref b])) (eb : h[b]? = some (.lst [.int n])) (n0 : 0 ≤ n) (n1 : n < ms.length) (em : ms[n.toNat]? = some m) (ne : m.p ≠ x) :
    Is (mFn 3 3 (beginsM xM c) [.ref a, .str x, .ref A] h) fun w h2 => w = .bl false ∧ Le h h2 := by
  refine Is.fn rfl ?_
  unfold beginsM
  refine Ist.ret (Is.orV (Is.notT (Is.var (v := .ref A) rfl (truL eA ?_))))
  refine .inr ⟨rfl, Is.o2 (Is.o2 (Is.o2 (meth_moves F.xm (a := a) rfl pr fun h1 M l1 mv => ?_)))⟩
  obtain ⟨m', u, xs, em', eM, hxs, ei, eu⟩ := mv.at n0 n1
  rw [em] at em'; cases em'
  have mo := mok m (List.mem_of_getElem? em)
  refine Is.o2 (Is.o2 (Is.o2 (Is.var (v := .ref A) rfl (Is.c (ix_is (l1 _ _ eA) (x := .ref t) rfl (Is.c (ixT (l1 _ _ et) (x := .ref b) rfl (Is.c (ix_is (l1 _ _ eb) (x := .int n) rfl ?_)))))))))
  refine ix_is eM ei (Is.c (ixT eu rfl (Is.var (v := .str x) rfl (eqStr (neg := false) (nm m.p mo.hp).ok (nm x hx).ok ?_))))
  show (SV.bl (decide (m.p = x)) = SV.bl false) ∧ _
  rw [decide_eq_false ne]
  exact ⟨rfl, l1⟩
/-- it is a row all the same -/
theorem press_away (F : Facts iL iT iS iI iB iP xP xM c) {a lo A t b : Nat} {ps : List Str} {ms : List Nm} {n : Int} {m : Nm} (pr : Prog h c a lo ps ms) (nm : ∀ p ∈ ps, NmOk p) (mok : ∀ m ∈ ms, Nm.Ok ps m) (few : ms.length ≤ 10) (eA : h[A]? = some (.lst [.ref t])) (et : h[t]? = some (.tup [.int 1, .ref b])) (eb : h[b]? = some (.lst [.int n])) (n0 : 0 ≤ n) (n1 : n < ms.length) (em : ms[n.toNat]? = some m) :
    Is (mFn 2 4 (pressM iL iT iI iB xM c) [.ref a, .ref A] h) fun w h2 => w = .bl true ∧ Le h h2 := by
  have mo := mok m (List.mem_of_getElem? em)
  have w : walkR ms m.p [⟨1, [n]⟩] = some m.o := by
    unfold walkR
    have q : walkN ms m.p [n] = some m.o := by
      unfold walkN
      rw [if_pos n0, em]
      simp only [if_true]
      unfold walkN; rfl
    rw [if_pos ⟨Int.le_refl 1, fun z => nomatch z⟩, q]
    simp only [show (1 < (1 : Int) → m.o = m.p) = True from by simp, if_true]
    unfold walkR; rfl
  refine press_is F.es F.xm (r := [⟨1, [n]⟩]) (place := m.p) (q := m.o) ⟨pr, nm, mok, few, ⟨[t], eA, rfl, fun i u eu => ?_⟩, RowOk.of w (by simp) fun y hy => ?_, w, mo.hp⟩ fun h' l => ⟨rfl, l⟩
  · match i, eu with
    | 0, eu => cases eu; exact ⟨_, rfl, b, et, eb⟩
    | i + 1, eu => cases eu
  · rw [List.mem_singleton.mp hy]
    exact ⟨show (1 : Int) ≤ 10 ^ 30 by decide +kernel, by simp⟩
end
end Fw
namespace Fw
open PySem PySem.Spec L2
/-- a kind of value that f tells nothing but objects of the package -/
structure NoOwn (f : Tag → Option Bool) : Prop where
  non : f .non = some false
  bl : f .bl = some false
  int : f .int = some false
  str : f .str = some false
  lst : f .lst = some false
  tup : f .tup = some false
  dct : f .dct = some false
section
variable {Q : SH → SV → Prop} {ss : SS} {h : SH} {r : AM} {n : Nat}
theorem IsD.lst0 (st : Sta Q) (q : ∀ h1 j, Le h h1 → h1[j]? = some (.lst []) → Q h1 (.ref j)) (y : ∀ h1, Le h h1 → IsD Q r ss h1 n) : IsD Q (aCons (mOA opLst aNil) r) ss h (n + 1) :=
  IsD.cons st (Is.oa (Is.anil (lst_is (small_big (by simp)) ⟨Le.push _ _, q _ _ (Le.push _ _) (new_at _ _)⟩))) y
theorem IsD.tup0 (st : Sta Q) (q : ∀ h1 j, Le h h1 → h1[j]? = some (.tup []) → Q h1 (.ref j)) (y : ∀ h1, Le h h1 → IsD Q r ss h1 n) : IsD Q (aCons (mOA opTup aNil) r) ss h (n + 1) :=
  IsD.cons st (Is.oa (Is.anil (tup_is (small_big (by simp)) ⟨Le.push _ _, q _ _ (Le.push _ _) (new_at _ _)⟩))) y
theorem IsD.dct0 (st : Sta Q) (q : ∀ h1 j, Le h h1 → h1[j]? = some (.dK []) → Q h1 (.ref j)) (y : ∀ h1, Le h h1 → IsD Q r ss h1 n) : IsD Q (aCons mDict0 r) ss h (n + 1) :=
  IsD.cons st (Is.dict0 ⟨Le.push _ _, q _ _ (Le.push _ _) (new_at _ _)⟩) y
end
def badP : AM := (aCons (mC .non) (aCons (mC (.int 3)) (aCons (mOA opLst aNil) (aCons (mOA opTup aNil) (aCons mDict0 (aCons (mC (.str "program")) (aCons (mC (.bl true)) aNil)))))))
theorem badP_is {f : Tag → Option Bool} (no : NoOwn f) {ss : SS} {h : SH} : IsD (Val f) badP ss h 7 := by
  unfold badP
  refine IsD.c staV (sd_non.val (by decide) tx_none no.non) fun h1 _ => ?_
  refine IsD.c staV (sd_int.val (by decide) (tx_int (by decide)) no.int) fun h2 _ => ?_
  refine IsD.lst0 staV (fun h3 j _ e => (sd_lst0 e).val (by decide) (tx_c (by decide +kernel)) no.lst) fun h3 _ => ?_
  refine IsD.tup0 staV (fun h3 j _ e => (sd_tup0 e).val (by decide) (tx_c (by decide +kernel)) no.tup) fun h4 _ => ?_
  refine IsD.dct0 staV (fun h3 j _ e => (sd_dct0 e).val (by decide) (tx_c (by decide +kernel)) no.dct) fun h5 _ => ?_
  refine IsD.c staV (sd_str.val (by decide) (tx_c (by decide +kernel)) no.str) fun h6 _ => ?_
  refine IsD.c staV (sd_bl.val (by decide) tx_bool no.bl) fun h7 _ => ?_
  exact IsD.nil
end Fw
namespace Fw
open PySem PySem.Spec L2
structure NoStr (f : Tag → Option Bool) : Prop where
  non : f .non = some false
  bl : f .bl = some false
  int : f .int = some false
  lst : f .lst = some false
  tup : f .tup = some false
  dct : f .dct = some false
section
variable {Q : SH → SV → Prop} {ss : SS} {h : SH} {r : AM} {n : Nat}
theorem IsD.lst1 {x : SV} (st : Sta Q) (q : ∀ h1 j, Le h h1 → h1[j]? = some (.lst [x]) → Q h1 (.ref j)) (y : ∀ h1, Le h h1 → IsD Q r ss h1 n) : IsD Q (aCons (mOA opLst (aCons (mC x) aNil)) r) ss h (n + 1) :=
  IsD.cons st (Is.oa (Is.acons (Is.c (Is.anil (lst_is (small_big (by simp)) ⟨Le.push _ _, q _ _ (Le.push _ _) (new_at _ _)⟩))))) y
theorem IsD.tup1 {x : SV} (st : Sta Q) (q : ∀ h1 j, Le h h1 → h1[j]? = some (.tup [x]) → Q h1 (.ref j)) (y : ∀ h1, Le h h1 → IsD Q r ss h1 n) : IsD Q (aCons (mOA opTup (aCons (mC x) aNil)) r) ss h (n + 1) :=
  IsD.cons st (Is.oa (Is.acons (Is.c (Is.anil (tup_is (small_big (by simp)) ⟨Le.push _ _, q _ _ (Le.push _ _) (new_at _ _)⟩))))) y
end
def badU : AM := (aCons (mC .non) (aCons (mC (.int 3)) (aCons (mC (.str "")) (aCons (mC (.str "zz")) (aCons (mOA opLst (aCons (mC (.str "up")) aNil)) (aCons (mOA opTup aNil) (aCons mDict0 (aCons (mC (.bl true)) aNil))))))))
theorem badU_is {iS : Tag → Option Bool} (no : NoStr iS) {ps : List Str} (fr : ∀ p ∈ ps, p ∈ four) {ss : SS} {h : SH} : IsD (Bad (NoPlace iS ps)) badU ss h 8 := by
  unfold badU
  have out : ∀ x : Str, x ∉ four → x ∉ ps := fun x hx hp => hx (fr x hp)
  refine IsD.c staB (sd_non.bad (by decide) tx_none fun h' l => .inl ⟨_, rfl, no.non⟩) fun h1 _ => ?_
  refine IsD.c staB (sd_int.bad (by decide) (tx_int (by decide)) fun h' l => .inl ⟨_, rfl, no.int⟩) fun h2 _ => ?_
  refine IsD.c staB (sd_str.bad (by decide) (tx_c (by decide +kernel)) fun h' l => .inr ⟨_, rfl, out _ (by decide +kernel)⟩) fun h3 _ => ?_
  refine IsD.c staB (sd_str.bad (by decide) (tx_c (by decide +kernel)) fun h' l => .inr ⟨_, rfl, out _ (by decide +kernel)⟩) fun h4 _ => ?_
  refine IsD.lst1 staB (fun h3 j _ e => (sd_lst1 e sd_str).bad (by decide) (tx_c (by decide +kernel)) fun h' l => .inl ⟨_, tag_lst (l _ _ e), no.lst⟩) fun h5 _ => ?_
  refine IsD.tup0 staB (fun h3 j _ e => (sd_tup0 e).bad (by decide) (tx_c (by decide +kernel)) fun h' l => .inl ⟨_, tag_tup (l _ _ e), no.tup⟩) fun h6 _ => ?_
  refine IsD.dct0 staB (fun h3 j _ e => (sd_dct0 e).bad (by decide) (tx_c (by decide +kernel)) fun h' l => .inl ⟨_, tag_dct (l _ _ e), no.dct⟩) fun h7 _ => ?_
  refine IsD.c staB (sd_bl.bad (by decide) tx_bool fun h' l => .inl ⟨_, rfl, no.bl⟩) fun h8 _ => ?_
  exact IsD.nil
def badN : AM := (aCons (mC .non) (aCons (mO1 opNeg (mC (.int 1))) (aCons (mC (.bl true)) (aCons (mC (.str "1")) (aCons (mOA opLst (aCons (mC (.int 1)) aNil)) (aCons (mOA opTup (aCons (mC (.int 1)) aNil)) (aCons mDict0 (aCons (mO1 opNeg (mO2 opPow (mC (.int 10)) (mC (.int 30)))) aNil))))))))
theorem badN_is {iL iT iI iB : Tag → Option Bool} (W : Whs iL iT iI iB) {ss : SS} {h : SH} : IsD (Bad (NoCount iI iB)) badN ss h 8 := by
  unfold badN
  have no : ∀ {h : SH} {v : SV} {t : Tag}, (∀ h', Le h h' → tagOf h' v = some t) → iI t = some false → NoCount iI iB h v := fun et n => .inl fun h' l => whole_no (et h' l) n
  refine IsD.c staB (sd_non.bad (by decide) tx_none fun h' l => no (fun _ _ => rfl) W.non) fun h1 _ => ?_
  refine IsD.cons staB (Is.o1 (Is.c ⟨.int (-1), _, rfl, Le.refl _, sd_int.bad (by decide) (tx_int (by decide)) fun h' l => .inr ⟨_, rfl, by decide⟩⟩)) fun h2 _ => ?_
  refine IsD.c staB (sd_bl.bad (by decide) tx_bool fun h' l => .inl fun h2 l2 => whole_bl W) fun h3 _ => ?_
  refine IsD.c staB (sd_str.bad (by decide) (tx_c (by decide +kernel)) fun h' l => no (fun _ _ => rfl) W.str) fun h4 _ => ?_
  refine IsD.lst1 staB (fun h3 j _ e => (sd_lst1 e sd_int).bad (by decide) (tx_c (by decide +kernel)) fun h' l => no (fun h2 l2 => tag_lst (l2 _ _ (l _ _ e))) W.lst) fun h5 _ => ?_
  refine IsD.tup1 staB (fun h3 j _ e => (sd_tup1 e sd_int).bad (by decide) (tx_c (by decide +kernel)) fun h' l => no (fun h2 l2 => tag_tup (l2 _ _ (l _ _ e))) W.tup) fun h6 _ => ?_
  refine IsD.dct0 staB (fun h3 j _ e => (sd_dct0 e).bad (by decide) (tx_c (by decide +kernel)) fun h' l => no (fun h2 l2 => tag_dct (l2 _ _ (l _ _ e))) W.dct) fun h7 _ => ?_
  refine IsD.cons staB (Is.o1 (Is.o2 (Is.c (Is.c (pow_is (by decide +kernel) ⟨.int (-(10 ^ 30)), _, rfl, Le.refl _, sd_int.bad (by decide) (tx_int (by decide +kernel)) fun h' l => .inr ⟨_, rfl, by decide +kernel⟩⟩))))) fun h8 _ => ?_
  exact IsD.nil
end Fw
namespace Fw
open PySem PySem.Spec L2
section
variable {iL iT iS iI iB iP : Tag → Option Bool} {xP xM : List (Option Nat)} {c : Nat}
/-- [(x, [y])], written -/
theorem row_made {ss : SS} {h : SH} {x y : SV} {X Y : EM} (ex : ∀ h, Is (X ss h) fun v h1 => v = x ∧ h1 = h) (ey : ∀ h', Le h h' → Is (Y ss h') fun v h1 => v = y ∧ h1 = h') {P : SV → SH → Prop}
    (p : ∀ h' j t b, Le h h' → h'[b]? = some (.lst [y]) → h'[t]? = some (.tup [x, .ref b]) → h'[j]? = some (.lst [.ref t]) → P (.ref j) h') :
    Is (mOA opLst (aCons (mOA opTup (aCons X (aCons (mOA opLst (aCons Y aNil)) aNil))) aNil) ss h) P := by
  refine Is.oa (Is.acons (Is.oa (Is.acons ((ex h).mono fun v h1 ⟨e1, e2⟩ => ?_))))
  subst e1; subst e2
  refine Is.acons (Is.oa (Is.acons ((ey h1 (Le.refl _)).mono fun v h2 ⟨e1, e2⟩ => ?_)))
  subst e1; subst e2
  refine Is.anil (lst_is (small_big (by simp)) (Is.anil (tup_is (small_big (by simp)) (Is.anil (lst_is (small_big (by simp)) ?_)))))
  refine p _ _ (List.length (h2 ++ [_])) h2.length (((Le.push _ _).trans (Le.push _ _)).trans (Le.push _ _)) ?_ ?_ (new_at _ _)
  · exact Le.push _ _ _ _ (Le.push _ _ _ _ (new_at _ _))
  · exact Le.push _ _ _ _ (new_at _ _)
theorem noRow_nl (F : Facts iL iT iS iI iB iP xP xM c) {a lo : Nat} {ps : List Str} {ms : List Nm} {h : SH} {v : SV} {t : Tag} (pr : Prog h c a lo ps ms) (et : ∀ h', Le h h' → tagOf h' v = some t) (n : iL t = some false) : NoRow iL iT iI iB xM c a h v := fun h' l => press_nl F (pr.le l) (fun h2 l2 => et h2 (l.trans l2)) n
theorem noRow_one (F : Facts iL iT iS iI iB iP xP xM c) {a lo A : Nat} {ps : List Str} {ms : List Nm} {h : SH} {x : SV} (pr : Prog h c a lo ps ms) (eA : h[A]? = some (.lst [x])) (n : ∀ h', Le h h' → Is (mFn 2 5 (partM iL iT iI iB) [x, .int (ms.length : Nat)] h') fun w h2 => w = .bl false ∧ Le h' h2) : NoRow iL iT iI iB xM c a h (.ref A) := fun h' l => press_one F (pr.le l) (l _ _ eA) fun h2 l2 => n h2 (l.trans l2)
/-- a row of one tuple that is wrong -/
theorem bad_two (F : Facts iL iT iS iI iB iP xP xM c) (W : Whs iL iT iI iB) {a lo j t b : Nat} {ps : List Str} {ms : List Nm} {h : SH} {x y : SV} {dx dy : PyData} {tx ty : Tag} (pr : Prog h c a lo ps ms) (eb : h[b]? = some (.lst [y])) (et : h[t]? = some (.tup [x, .ref b])) (ej : h[j]? = some (.lst [.ref t]))
    (sx : ∀ h, Sd 1 h x dx tx) (sy : ∀ h, Sd 1 h y dy ty) (tt : Tx1 (.list [.tuple [dx, .list [dy]]]))
    (bad : (∃ b, x = .bl b) ∨ (∃ i, x = .int i ∧ (i < 1 ∨ 1 ≤ i ∧ ((∃ b, y = .bl b) ∨ ∃ k, y = .int k ∧ ¬ (0 ≤ k ∧ k < (ms.length : Nat)))))) : Bad (NoRow iL iT iI iB xM c a) h (.ref j) := by
  refine (sd_lst1 ej (sd_tup2 et ((sx h).up (k' := 2) (by decide)) (sd_lst1 eb (sy h)))).bad (by decide) tt fun h' l => noRow_one F (pr.le l) (l _ _ ej) fun h2 l2 => part_two F.es W (l2 _ _ (l _ _ et)) ?_
  rcases bad with ⟨z, rfl⟩ | ⟨i, rfl, hi | ⟨hi, q⟩⟩
  · exact .inl ⟨z, rfl⟩
  · exact .inr ⟨i, rfl, .inl hi⟩
  · exact .inr ⟨i, rfl, .inr ⟨b, [y], rfl, hi, l2 _ _ (l _ _ eb), .inr ⟨y, rfl, q⟩⟩⟩
end
def badR1 : AM := (aCons (mC .non) (aCons (mC (.int 3)) (aCons (mOA opTup aNil) (aCons (mC (.str "row")) (aCons mDict0 (aCons (mC (.bl true)) (aCons (mOA opLst (aCons (mC .non) aNil)) (aCons (mOA opLst (aCons (mOA opTup (aCons (mC (.int 1)) (aCons (mOA opLst aNil) aNil))) aNil)) (aCons (mOA opLst (aCons (mOA opTup (aCons (mC (.int 0)) (aCons (mOA opLst (aCons (mC (.int 0)) aNil)) aNil))) aNil)) (aCons (mOA opLst (aCons (mOA opTup (aCons (mC (.int 1)) (aCons (mOA opLst (aCons (mOA (un1 opLen) (aCons (mO2 opIx (mVar 1) (mC (.int 1))) aNil)) aNil)) aNil))) aNil)) (aCons (mOA opLst (aCons (mOA opLst (aCons (mC (.int 1)) (aCons (mOA opLst (aCons (mC (.int 0)) aNil)) aNil))) aNil)) aNil)))))))))))
def badR2 : AM := (aCons (mOA opLst (aCons (mOA opTup (aCons (mC (.bl true)) (aCons (mOA opLst (aCons (mC (.int 0)) aNil)) aNil))) aNil)) (aCons (mOA opLst (aCons (mOA opTup (aCons (mC (.int 1)) (aCons (mOA opLst (aCons (mC (.bl true)) aNil)) aNil))) aNil)) (aCons (mOA opLst (aCons (mOA opTup (aCons (mC (.int 1)) (aCons (mOA opLst (aCons (mO1 opNeg (mC (.int 1))) aNil)) aNil))) aNil)) (aCons (mOA opLst (aCons (mOA opTup (aCons (mC (.int 1)) (aCons (mOA opLst (aCons (mC (.int 0)) aNil)) (aCons (mC (.int 0)) aNil)))) aNil)) aNil))))
section
variable {iL iT iS iI iB iP : Tag → Option Bool} {xP xM : List (Option Nat)} {c : Nat}
theorem tx_row10 {n : Nat} (h : n ≤ 10) : Tx1 (.list [.tuple [.int 1, .list [.int (n : Nat)]]]) := by
  have all : ∀ k : Fin 11, ((fun d : PyData => d.showable && decide (d.depth ≤ 60) && decide (d.shown.length ≤ 16777216) && PyData.strOk d.shown) (.list [.tuple [.int 1, .list [.int ((k.1 : Nat) : Int)]]])) = true := by decide +kernel
  exact tx_c (all ⟨n, by omega⟩)
theorem badR1_is (F : Facts iL iT iS iI iB iP xP xM c) (W : Whs iL iT iI iB) (nl : iL .str = some false) (nl2 : iL .int = some false) (nl3 : iL .tup = some false) (nl4 : iL .dct = some false) (nl5 : iL .bl = some false) {a lo t lo' : Nat} {ps : List Str} {ms : List Nm} {ss : SS} {h : SH} (pr : Prog h c a lo ps ms) (pt : Parts h t lo' ps ms) (s1 : ss[1]? = some (some (.ref t))) : IsD (Bad (NoRow iL iT iI iB xM c a)) badR1 ss h 11 := by
  unfold badR1
  have few := pt.few
  refine IsD.c staB (sd_non.bad (by decide) tx_none fun h' l => noRow_nl F (pr.le l) (t := .non) (fun _ _ => rfl) W.ll) fun h1 l1 => ?_
  refine IsD.c staB (sd_int.bad (by decide) (tx_int (by decide)) fun h' l => noRow_nl F ((pr.le l1).le l) (t := .int) (fun _ _ => rfl) nl2) fun h2 l2 => ?_
  have p2 := (pr.le l1).le l2
  refine IsD.tup0 staB (fun h3 j l e => (sd_tup0 e).bad (by decide) (tx_c (by decide +kernel)) fun h' l' => noRow_nl F ((p2.le l).le l') (t := .tup) (fun h4 l4 => tag_tup (l4 _ _ (l' _ _ e))) nl3) fun h3 l3 => ?_
  have p3 := p2.le l3
  refine IsD.c staB (sd_str.bad (by decide) (tx_c (by decide +kernel)) fun h' l => noRow_nl F (p3.le l) (t := .str) (fun _ _ => rfl) nl) fun h4 l4 => ?_
  have p4 := p3.le l4
  refine IsD.dct0 staB (fun h5 j l e => (sd_dct0 e).bad (by decide) (tx_c (by decide +kernel)) fun h' l' => noRow_nl F ((p4.le l).le l') (t := .dct) (fun h6 l6 => tag_dct (l6 _ _ (l' _ _ e))) nl4) fun h5 l5 => ?_
  have p5 := p4.le l5
  refine IsD.c staB (sd_bl.bad (by decide) tx_bool fun h' l => noRow_nl F (p5.le l) (t := .bl) (fun _ _ => rfl) nl5) fun h6 l6 => ?_
  have p6 := p5.le l6
  have t6 := (((((pt.le l1).le l2).le l3).le l4).le l5).le l6
  refine IsD.lst1 staB (fun h7 j l e => (sd_lst1 e sd_non).bad (by decide) (tx_c (by decide +kernel)) fun h' l' => noRow_one F ((p6.le l).le l') (l' _ _ e) fun h8 l8 => part_nt (t := .non) rfl W.tn) fun h7 l7 => ?_
  have p7 := p6.le l7
  have t7 := t6.le l7
  refine IsD.cons staB (Is.oa (Is.acons (Is.oa (Is.acons (Is.c (Is.acons (Is.oa (Is.anil (lst_is (small_big (by simp)) (Is.anil (tup_is (small_big (by simp)) (Is.anil (lst_is (small_big (by simp)) ?_))))))))))))) fun h8 l8 => ?_
  · have l : Le h7 (((h7 ++ [SO.lst []]) ++ [SO.tup [.int 1, .ref h7.length]]) ++ [SO.lst [.ref (h7 ++ [SO.lst []]).length]]) := ((Le.push _ _).trans (Le.push _ _)).trans (Le.push _ _)
    have eb : (((h7 ++ [SO.lst []]) ++ [SO.tup [.int 1, .ref h7.length]]) ++ [SO.lst [.ref (h7 ++ [SO.lst []]).length]])[h7.length]? = some (.lst []) := Le.push _ _ _ _ (Le.push _ _ _ _ (new_at _ _))
    have et : (((h7 ++ [SO.lst []]) ++ [SO.tup [.int 1, .ref h7.length]]) ++ [SO.lst [.ref (h7 ++ [SO.lst []]).length]])[(h7 ++ [SO.lst []]).length]? = some (.tup [.int 1, .ref h7.length]) := Le.push _ _ _ _ (new_at _ _)
    have ej := new_at ((h7 ++ [SO.lst []]) ++ [SO.tup [.int 1, .ref h7.length]]) (.lst [.ref (h7 ++ [SO.lst []]).length])
    refine ⟨l, (sd_lst1 ej (sd_tup2 et ((sd_int (h := _)).up (k' := 2) (by decide)) (sd_lst0 eb))).bad (by decide) (tx_c (by decide +kernel)) fun h' l' => noRow_one F ((p7.le l).le l') (l' _ _ ej) fun h2 l2 => part_two F.es W (l2 _ _ (l' _ _ et)) (.inr ⟨1, rfl, .inr ⟨_, [], rfl, by decide, l2 _ _ (l' _ _ eb), .inl rfl⟩⟩)⟩
  have p8 := p7.le l8
  have t8 := t7.le l8
  refine IsD.cons staB (row_made (x := .int 0) (y := .int 0) (fun _ => Is.c ⟨rfl, rfl⟩) (fun _ _ => Is.c ⟨rfl, rfl⟩) fun h' j t b l eb et ej => ⟨l, bad_two F W (p8.le l) eb et ej (fun _ => sd_int) (fun _ => sd_int) (tx_c (by decide +kernel)) (.inr ⟨0, rfl, .inl (by decide)⟩)⟩) fun h9 l9 => ?_
  have p9 := p8.le l9
  have t9 := t8.le l9
  refine IsD.cons staB (row_made (x := .int 1) (y := .int (ms.length : Nat)) (fun _ => Is.c ⟨rfl, rfl⟩) (fun h' l => ?_) fun h' j t b l eb et ej => ⟨l, bad_two F W (p9.le l) eb et ej (fun _ => sd_int) (fun _ => sd_int) (tx_row10 few) (.inr ⟨1, rfl, .inr ⟨by decide, .inr ⟨_, rfl, by omega⟩⟩⟩)⟩) fun h10 l10 => ?_
  · obtain ⟨⟨A, M, e, _, _, _, pl, ts, eM, hts, z⟩, _⟩ := t9.le l
    refine Is.oa (Is.acons (Is.o2 (Is.var s1 (Is.c (ix_is e rfl (Is.anil (len_is eM ⟨?_, rfl⟩)))))))
    rw [List.length_map, hts]
  have p10 := p9.le l10
  refine IsD.cons staB (Is.oa (Is.acons (Is.oa (Is.acons (Is.c (Is.acons (Is.oa (Is.acons (Is.c (Is.anil (lst_is (small_big (by simp)) (Is.anil (lst_is (small_big (by simp)) (Is.anil (lst_is (small_big (by simp)) ?_))))))))))))))) fun h11 l11 => IsD.nil
  have l : Le h10 (((h10 ++ [SO.lst [.int 0]]) ++ [SO.lst [.int 1, .ref h10.length]]) ++ [SO.lst [.ref (h10 ++ [SO.lst [.int 0]]).length]]) := ((Le.push _ _).trans (Le.push _ _)).trans (Le.push _ _)
  have eb : (((h10 ++ [SO.lst [.int 0]]) ++ [SO.lst [.int 1, .ref h10.length]]) ++ [SO.lst [.ref (h10 ++ [SO.lst [.int 0]]).length]])[h10.length]? = some (.lst [.int 0]) := Le.push _ _ _ _ (Le.push _ _ _ _ (new_at _ _))
  have et : (((h10 ++ [SO.lst [.int 0]]) ++ [SO.lst [.int 1, .ref h10.length]]) ++ [SO.lst [.ref (h10 ++ [SO.lst [.int 0]]).length]])[(h10 ++ [SO.lst [.int 0]]).length]? = some (.lst [.int 1, .ref h10.length]) := Le.push _ _ _ _ (new_at _ _)
  have ej := new_at ((h10 ++ [SO.lst [.int 0]]) ++ [SO.lst [.int 1, .ref h10.length]]) (.lst [.ref (h10 ++ [SO.lst [.int 0]]).length])
  exact ⟨l, (sd_lst1 ej (sd_lst2 et ((sd_int (h := _)).up (k' := 2) (by decide)) (sd_lst1 eb sd_int))).bad (by decide) (tx_c (by decide +kernel)) fun h' l' => noRow_one F ((p10.le l).le l') (l' _ _ ej) fun h2 l2 => part_nt (t := .lst) (tag_lst (l2 _ _ (l' _ _ et))) W.tl⟩
theorem badR2_is (F : Facts iL iT iS iI iB iP xP xM c) (W : Whs iL iT iI iB) {a lo : Nat} {ps : List Str} {ms : List Nm} {ss : SS} {h : SH} (pr : Prog h c a lo ps ms) : IsD (Bad (NoRow iL iT iI iB xM c a)) badR2 ss h 4 := by
  unfold badR2
  refine IsD.cons staB (row_made (x := .bl true) (y := .int 0) (fun _ => Is.c ⟨rfl, rfl⟩) (fun _ _ => Is.c ⟨rfl, rfl⟩) fun h' j t b l eb et ej => ⟨l, bad_two F W (pr.le l) eb et ej (fun _ => sd_bl) (fun _ => sd_int) (tx_c (by decide +kernel)) (.inl ⟨_, rfl⟩)⟩) fun h1 l1 => ?_
  have p1 := pr.le l1
  refine IsD.cons staB (row_made (x := .int 1) (y := .bl true) (fun _ => Is.c ⟨rfl, rfl⟩) (fun _ _ => Is.c ⟨rfl, rfl⟩) fun h' j t b l eb et ej => ⟨l, bad_two F W (p1.le l) eb et ej (fun _ => sd_int) (fun _ => sd_bl) (tx_c (by decide +kernel)) (.inr ⟨1, rfl, .inr ⟨by decide, .inl ⟨_, rfl⟩⟩⟩)⟩) fun h2 l2 => ?_
  have p2 := p1.le l2
  refine IsD.cons staB (row_made (x := .int 1) (y := .int (-1)) (fun _ => Is.c ⟨rfl, rfl⟩) (fun _ _ => Is.o1 (Is.c ⟨_, _, rfl, rfl, rfl⟩)) fun h' j t b l eb et ej => ⟨l, bad_two F W (p2.le l) eb et ej (fun _ => sd_int) (fun _ => sd_int) (tx_c (by decide +kernel)) (.inr ⟨1, rfl, .inr ⟨by decide, .inr ⟨_, rfl, by omega⟩⟩⟩)⟩) fun h3 l3 => ?_
  have p3 := p2.le l3
  refine IsD.cons staB (Is.oa (Is.acons (Is.oa (Is.acons (Is.c (Is.acons (Is.oa (Is.acons (Is.c (Is.anil (lst_is (small_big (by simp)) (Is.acons (Is.c (Is.anil (tup_is (small_big (by simp)) (Is.anil (lst_is (small_big (by simp)) ?_))))))))))))))))) fun h4 l4 => IsD.nil
  have l : Le h3 (((h3 ++ [SO.lst [.int 0]]) ++ [SO.tup [.int 1, .ref h3.length, .int 0]]) ++ [SO.lst [.ref (h3 ++ [SO.lst [.int 0]]).length]]) := ((Le.push _ _).trans (Le.push _ _)).trans (Le.push _ _)
  have eb : (((h3 ++ [SO.lst [.int 0]]) ++ [SO.tup [.int 1, .ref h3.length, .int 0]]) ++ [SO.lst [.ref (h3 ++ [SO.lst [.int 0]]).length]])[h3.length]? = some (.lst [.int 0]) := Le.push _ _ _ _ (Le.push _ _ _ _ (new_at _ _))
  have et : (((h3 ++ [SO.lst [.int 0]]) ++ [SO.tup [.int 1, .ref h3.length, .int 0]]) ++ [SO.lst [.ref (h3 ++ [SO.lst [.int 0]]).length]])[(h3 ++ [SO.lst [.int 0]]).length]? = some (.tup [.int 1, .ref h3.length, .int 0]) := Le.push _ _ _ _ (new_at _ _)
  have ej := new_at ((h3 ++ [SO.lst [.int 0]]) ++ [SO.tup [.int 1, .ref h3.length, .int 0]]) (.lst [.ref (h3 ++ [SO.lst [.int 0]]).length])
  refine ⟨l, (sd_lst1 ej (sd_tup (k := 2) (ds := [.int 1, .list [.int 0], .int 0]) et rfl fun i z ez => ?_)).bad (by decide) (tx_c (by decide +kernel)) fun h' l' => noRow_one F ((p3.le l).le l') (l' _ _ ej) fun h2 l2 => part_len F.es (l2 _ _ (l' _ _ et)) (by simp)⟩
  match i, ez with
  | 0, ez => cases ez; exact ⟨_, _, rfl, (sd_int (h := _)).up (k' := 2) (by decide)⟩
  | 1, ez => cases ez; exact ⟨_, _, rfl, sd_lst1 eb sd_int⟩
  | 2, ez => cases ez; exact ⟨_, _, rfl, (sd_int (h := _)).up (k' := 2) (by decide)⟩
  | i + 3, ez => cases ez
end
end Fw
namespace Fw
open PySem PySem.Spec L2
def p0M : EM := mO2 opIx (mO2 opIx (mVar 1) (mC (.int 0))) (mC (.int 0))
theorem p0_is {h : SH} {t lo : Nat} {ps : List Str} {ms : List Nm} {ss : SS} {P : SV → SH → Prop} {x0 : Str} (pt : Parts h t lo ps ms) (e0 : ps.head? = some x0) (s1 : ss[1]? = some (some (.ref t))) (p : P (.str x0) h) : Is (p0M ss h) P := by
  obtain ⟨A, M, e, _, _, _, pl, _⟩ := pt.ex
  unfold p0M
  refine Is.o2 (Is.o2 (Is.var s1 (Is.c (ix_is e rfl (Is.c (ix_is pl.at_ ?_ p))))))
  cases ps with
  | nil => cases e0
  | cons y r => cases e0; simp [L2.atI, L2.ixN]
def awayM : EM := mLc (mRng1 (aCons (mOA (un1 opLen) (aCons (mO2 opIx (mVar 1) (mC (.int 1))) aNil)) aNil)) (gVar 6) (mB (mO2 (eqD true) (mO2 opIx (mO2 opIx (mO2 opIx (mVar 1) (mC (.int 1))) (mVar 6)) (mC (.int 0))) p0M)) (mVar 6) [6]
theorem away_is {h : SH} {t lo : Nat} {ps : List Str} {ms : List Nm} {ss : SS} {P : SV → SH → Prop} {x : Str} (hl : ss.length = 7) (pt : Parts h t lo ps ms) (s1 : ss[1]? = some (some (.ref t))) (e0 : ps.head? = some x) (hx : x ∈ ps)
    (p : ∀ h' D (ns : List Int), Le h h' → h'[D]? = some (.lst (ns.map SV.int)) → (∀ n ∈ ns, 0 ≤ n ∧ n < ms.length ∧ ∃ m, ms[n.toNat]? = some m ∧ m.p ≠ x) → P (.ref D) h') : Is (awayM ss h) P := by
  unfold awayM
  have few := pt.few
  refine Is.lc (Is.rng1 (Is.acons (Is.oa (Is.acons (pm_is pt s1 fun M mv => ?_)))))
  obtain ⟨ts, e, hts, z⟩ := mv
  refine Is.anil (len_is e (Is.anil ⟨_, rfl, decide_eq_true (by simp; omega), ms.length, fun k acc h' => Le h h' ∧ ∃ ns : List Int, acc = ns.map SV.int ∧ ns.length ≤ k ∧ ∀ n ∈ ns, 0 ≤ n ∧ n < ms.length ∧ ∃ m, ms[n.toNat]? = some m ∧ m.p ≠ x, by unfold many; omega, ⟨Le.push _ _, [], rfl, Nat.le_refl _, fun _ z => nomatch z⟩, ?_, ?_⟩))
  · rintro k acc h' hk hD ⟨le, ns, rfl, hn, zz⟩
    have w6 : ((wipeS ss [6]).set 6 (some (SV.int (0 + (k : Int)))))[6]? = some (some (.int (0 + (k : Int)))) := gx (n := 7) (by simp [wipeS, hl]) (by decide)
    have w1 : ((wipeS ss [6]).set 6 (some (SV.int (0 + (k : Int)))))[1]? = some (some (.ref t)) := gs (by show (ss.set 6 none)[1]? = _; exact gs s1 (by decide)) (by decide)
    refine ⟨_, _, _, wkRng_at (by simpa [hts] using hk), rfl, ?_⟩
    generalize (wipeS ss [6]).set 6 (some (SV.int (0 + (k : Int)))) = s at w6 w1 ⊢
    refine Is.bm (Is.o2 (Is.o2 (Is.o2 (pm_is (pt.le le) w1 fun M' mv' => ?_))))
    obtain ⟨m, u, xs, em, eM, hxs, ei, eu⟩ := mv'.at (n := 0 + (k : Int)) (by omega) (by omega)
    refine Is.var w6 (ix_is eM ei (Is.c (ixT eu rfl (p0_is (pt.le le) e0 w1 ?_))))
    have mo := pt.mok m (List.mem_of_getElem? em)
    refine eqStr (neg := true) (pt.nm m.p mo.hp).ok (pt.nm x hx).ok ⟨_, rfl, ?_⟩
    show if (!decide (m.p = x)) = true then _ else _
    by_cases c : m.p = x
    · rw [if_neg (by simp [c])]
      exact ⟨hD, le, ns, rfl, by omega, zz⟩
    · rw [if_pos (by simp [c])]
      refine Is.var w6 ⟨hD, small_lt (by simp; omega), fun j o ej => ?_, ns ++ [0 + (k : Int)], by simp, by simp; omega, fun n hn' => ?_⟩
      · have hj : h.length ≠ j := by have := lt_of ej; omega
        rw [set_ne hj]; exact le _ _ ej
      · rcases List.mem_append.mp hn' with hn' | hn'
        · exact zz n hn'
        · rw [List.mem_singleton.mp hn']
          exact ⟨by omega, by omega, m, em, c⟩
  · rintro acc h' hD ⟨le, ns, rfl, hn, zz⟩
    refine ⟨?_, p h' _ ns le hD zz⟩
    have e1 : (((ts.map SV.ref).length : Nat) : Int).toNat = ms.length := by simp [hts]
    rw [e1]
    exact wkRng_end
def a1M : AM := (aCons (mVar 2) (aCons (mVar 3) (aCons (mC .non) (aCons (mC .non) (aCons (mC .non) aNil)))))
def a2M : AM := (aCons (mVar 2) (aCons (mVar 0) (aCons p0M (aCons (mC (.int 0)) (aCons (mVar 3) aNil)))))
def a3M : AM := (aCons (mC (.int 2)) (aCons (mVar 0) (aCons (mVar 3) (aCons (mC .non) (aCons (mC .non) aNil)))))
def a4M : AM := (aCons (mC (.int 2)) (aCons (mVar 0) (aCons p0M (aCons (mVar 3) (aCons (mC .non) aNil)))))
def a5M : AM := (aCons (mC (.int 2)) (aCons (mVar 0) (aCons p0M (aCons (mC (.int 0)) (aCons (mVar 3) aNil)))))
def turn1M (f : FM) : SM := (mSeq (mFor (mWalk (mOA opLst badP)) (gVar 3) (refM f a1M 0 (mVar 3))) (mSeq (mSet 5 (mOA opLst badR1)) (mFor (mWalk (mO2 opAdd (mVar 5) (mOA opLst badR2))) (gVar 3) (refM f a2M 3 (mVar 3)))))
def awaysM (f : FM) : SM := (mSeq (mSet 4 awayM) (mSeq (mSet 3 (mOA opLst (aCons (mOA opTup (aCons (mC (.int 1)) (aCons (mCut (mVar 4) pNone (pSome (mC (.int 1)))) aNil))) aNil))) (mSeq (mIfS (mB (mO2 (eqD false) (mVar 4) (mOA opLst aNil))) (mRet (mC (.bl true))) mNil) (mRet (mO2 (eqD false) (mCall f a5M) (mOA opLst (aCons (mC (.int 3)) (aCons (mOA (un1 opRepr) (aCons (mVar 3) aNil)) aNil))))))))
def refusedM (f : FM) : SM := (mSeq (mFor (mRng1 (aCons (mC (.int 3)) aNil)) (gVar 2) (turn1M f)) (mSeq (mFor (mWalk (mOA opLst badU)) (gVar 3) (refM f a3M 1 (mVar 3))) (mSeq (mFor (mWalk (mOA opLst badN)) (gVar 3) (refM f a4M 2 (mVar 3))) (awaysM f))))
/-- what the law's refusals know of the kinds -/
structure Kinds (iL iT iS iI iB iP : Tag → Option Bool) (xP xM : List (Option Nat)) (c eP eU eN eR : Nat) (sub : Nat → Option Bool) (iU iQ iN iR : Tag → Option Bool) (xn xv : List (Option Nat)) : Prop where
  F : Facts iL iT iS iI iB iP xP xM c
  W : Whs iL iT iI iB
  no : NoOwn iP
  nS : NoStr iS
  l1 : iL .str = some false
  l2 : iL .int = some false
  l3 : iL .tup = some false
  l4 : iL .dct = some false
  l5 : iL .bl = some false
  K0 : Kind sub iU iQ iN iR xn xv eP 0
  K1 : Kind sub iU iQ iN iR xn xv eU 1
  K2 : Kind sub iU iQ iN iR xn xv eN 2
  K3 : Kind sub iU iQ iN iR xn xv eR 3
structure Rfs (a t : Nat) (s : SS) : Prop where
  len : s.length = 7
  s0 : s[0]? = some (some (.ref a))
  s1 : s[1]? = some (some (.ref t))
theorem Rfs.set {a t : Nat} {s : SS} (x : Rfs a t s) {j : Nat} {v : Option SV} (h : 2 ≤ j) : Rfs a t (s.set j v) := ⟨by simp [x.len], gs x.s0 (by omega), gs x.s1 (by omega)⟩
section
variable {iL iT iS iI iB iP : Tag → Option Bool} {xP xM : List (Option Nat)} {c eP eU eN eR : Nat} {sub : Nat → Option Bool} {iU iQ iN iR : Tag → Option Bool} {xn xv : List (Option Nat)}
def cauM (iL iT iS iI iB iP : Tag → Option Bool) (xP xM : List (Option Nat)) (c eP eU eN eR : Nat) (sub : Nat → Option Bool) (iU iQ iN iR : Tag → Option Bool) (xn xv : List (Option Nat)) : FM := mFn 5 8 (caughtM sub iU iQ iN iR xn xv (mFn 2 2 (askM iL iT iI iB iP xM c eP eR 1)) (mFn 2 2 (askM iL iT iI iB iP xM c eP eR 0)) (mFn 4 7 (ledM iL iT iS iI iB iP xP xM c eP eU eN eR)))
theorem turn1_is (k : Kinds iL iT iS iI iB iP xP xM c eP eU eN eR sub iU iQ iN iR xn xv) {a lo t lo' : Nat} {ps : List Str} {ms : List Nm} {s : SS} {h : SH} {dv : Int} {x0 : Str} (pr : Prog h c a lo ps ms) (pt : Parts h t lo' ps ms) (e0 : ps.head? = some x0) (hx : x0 ∈ ps) (rs : Rfs a t s) (s2 : s[2]? = some (some (.int dv))) (hd : dv = 0 ∨ dv = 1 ∨ dv = 2) {R : SV → SH → Prop} :
    Ist (turn1M (cauM iL iT iS iI iB iP xP xM c eP eU eN eR sub iU iQ iN iR xn xv) s h) (fun s' h' => Rfs a t s' ∧ Le h h') R (fun _ _ => False) (fun _ _ => False) := by
  unfold turn1M
  refine Ist.seq (loopQ (Q := Val iP) (n := 7) (fun s => Rfs a t s ∧ s[2]? = some (some (.int dv))) staV (by decide) ⟨rs, s2⟩ (IsD.lst staV (badP_is k.no) (by decide) fun h' j vs l e hl q => ⟨j, vs, rfl, l, e, hl, q⟩) ?_ ?_)
  · rintro s h' v ⟨r, s2⟩ l ⟨d, tg, tx, ef, z⟩
    have q2 := gs (i := 3) (x := some v) s2 (by decide)
    have q3 := gx (i := 3) (x := some v) r.len (by decide)
    have r' := r.set (j := 3) (v := some v) (by decide)
    obtain ⟨ed, et⟩ := z h' (Le.refl _)
    refine ref_is q3 tx ?_ fun h2 l2 => ⟨⟨r', q2⟩, l2⟩
    exact Is.acons (Is.var q2 (Is.acons (Is.var q3 (Is.acons (Is.c (Is.acons (Is.c (Is.acons (Is.c (Is.anil ⟨dv, v, .non, .non, .non, eP, rfl, Le.refl _, k.K0, hd, fun _ => askPX et ef, fun _ => askPX et ef, fun _ => ledPX et ef, ed⟩))))))))))
  · rintro s h1 ⟨r, s2⟩ l1
    refine Ist.seq (Ist.set (IsD.lst staB (badR1_is k.F k.W k.l1 k.l2 k.l3 k.l4 k.l5 (pr.le l1) (pt.le l1) r.s1) (by decide) fun h2 j vs l2 e2 hl q => ?_))
    have q5 := gx (i := 5) (x := some (SV.ref j)) r.len (by decide)
    have q2 := gs (i := 5) (x := some (SV.ref j)) s2 (by decide)
    have r' := r.set (j := 5) (v := some (SV.ref j)) (by decide)
    generalize s.set 5 (some (SV.ref j)) = s' at q5 q2 r' ⊢
    have l12 := l1.trans l2
    refine loopQ (Q := Bad (NoRow iL iT iI iB xM c a)) (n := 15) (fun s => Rfs a t s ∧ s[2]? = some (some (.int dv))) staB (by decide) ⟨r', q2⟩ ?_ ?_ ?_
    · refine Is.o2 (Is.var q5 (IsD.lst staB (badR2_is k.F k.W (pr.le l12)) (by decide) fun h3 j3 vs3 l3 e3 hl3 q3 => add_is (l3 _ _ e2) e3 (small_big (by omega)) ⟨_, _, rfl, l3.trans (Le.push _ _), new_at _ _, by simp [hl, hl3], fun v hv => ?_⟩))
      rcases List.mem_append.mp hv with hv | hv
      · exact staB _ _ _ (l3.trans (Le.push _ _)) (q v hv)
      · exact staB _ _ _ (Le.push _ _) (q3 v hv)
    · rintro s h' v ⟨r, s2⟩ l ⟨d, tx, z⟩
      have q2 := gs (i := 3) (x := some v) s2 (by decide)
      have q3 := gx (i := 3) (x := some v) r.len (by decide)
      have r' := r.set (j := 3) (v := some v) (by decide)
      obtain ⟨ed, nr⟩ := z h' (Le.refl _)
      have p' := pr.le (l12.trans l)
      have t' := pt.le (l12.trans l)
      refine ref_is q3 tx ?_ fun h2 l2 => ⟨⟨r', q2⟩, l2⟩
      exact Is.acons (Is.var q2 (Is.acons (Is.var r'.s0 (Is.acons (p0_is t' e0 r'.s1 (Is.acons (Is.c (Is.acons (Is.var q3 (Is.anil ⟨dv, .ref a, .str x0, .int 0, v, eR, rfl, Le.refl _, k.K3, hd, fun _ => askRX k.F.ip p' nr, fun _ => askRX k.F.ip p' nr, fun _ => ledRX k.F p' hx (by decide) fun h2 l2 => (nr h2 l2).mono fun w h3 ⟨ew, l3⟩ => ⟨l3, .inl ew⟩, ed⟩))))))))))
    · rintro s h' ⟨r, _⟩ l
      exact ⟨r, l12.trans l⟩
end
end Fw
namespace Fw
open PySem PySem.Spec L2
section
variable {iL iT iS iI iB iP : Tag → Option Bool} {xP xM : List (Option Nat)} {c eP eU eN eR : Nat} {sub : Nat → Option Bool} {iU iQ iN iR : Tag → Option Bool} {xn xv : List (Option Nat)}
theorem aways_is (k : Kinds iL iT iS iI iB iP xP xM c eP eU eN eR sub iU iQ iN iR xn xv) {a lo t lo' : Nat} {ps : List Str} {ms : List Nm} {s : SS} {h : SH} {x0 : Str} (pr : Prog h c a lo ps ms) (pt : Parts h t lo' ps ms) (e0 : ps.head? = some x0) (hx : x0 ∈ ps) (r : Rfs a t s) {R : SV → SH → Prop} (p : ∀ h', Le h h' → R (.bl true) h') {N B C : SS → SH → Prop} :
    Ist (awaysM (cauM iL iT iS iI iB iP xP xM c eP eU eN eR sub iU iQ iN iR xn xv) s h) N R B C := by
  unfold awaysM
  refine Ist.seq (Ist.set (away_is r.len pt r.s1 e0 hx fun h1 D ns l1 eD hn => ?_))
  have q4 := gx (i := 4) (x := some (SV.ref D)) r.len (by decide)
  have r1 := r.set (j := 4) (v := some (SV.ref D)) (by decide)
  generalize s.set 4 (some (SV.ref D)) = s1 at q4 r1 ⊢
  refine Ist.seq (Ist.set (Is.oa (Is.acons (Is.oa (Is.acons (Is.c (Is.acons (Is.cut (Is.var q4 (Is.pN (Is.pS (Is.c ⟨_, rfl, D, _, rfl, eD, ?_⟩))))))))))))
  refine Is.anil (tup_is (small_big (by simp)) (Is.anil (lst_is (small_big (by simp)) ?_)))
  have hX : ∀ n rest, ns = n :: rest → cutS (ns.map SV.int) none (some 1) = [.int n] := fun n rest e => by rw [e]; exact cut_take _ 1 (by simp)
  generalize cutS (ns.map SV.int) none (some 1) = X at hX ⊢
  have l : Le h1 (((h1 ++ [SO.lst X]) ++ [SO.tup [.int 1, .ref h1.length]]) ++ [SO.lst [.ref (h1 ++ [SO.lst X]).length]]) := ((Le.push _ _).trans (Le.push _ _)).trans (Le.push _ _)
  have eb : (((h1 ++ [SO.lst X]) ++ [SO.tup [.int 1, .ref h1.length]]) ++ [SO.lst [.ref (h1 ++ [SO.lst X]).length]])[h1.length]? = some (.lst X) := Le.push _ _ _ _ (Le.push _ _ _ _ (new_at _ _))
  have et : (((h1 ++ [SO.lst X]) ++ [SO.tup [.int 1, .ref h1.length]]) ++ [SO.lst [.ref (h1 ++ [SO.lst X]).length]])[(h1 ++ [SO.lst X]).length]? = some (.tup [.int 1, .ref h1.length]) := Le.push _ _ _ _ (new_at _ _)
  have ej := new_at ((h1 ++ [SO.lst X]) ++ [SO.tup [.int 1, .ref h1.length]]) (.lst [.ref (h1 ++ [SO.lst X]).length])
  generalize ((h1 ++ [SO.lst X]) ++ [SO.tup [.int 1, .ref h1.length]]).length = A at ej ⊢
  generalize h1.length = b at eb et ej l ⊢
  generalize (h1 ++ [SO.lst X]).length = T at eb et ej l ⊢
  generalize ((h1 ++ [SO.lst X]) ++ [SO.tup [.int 1, .ref b]]) ++ [SO.lst [.ref T]] = h2 at eb et ej l ⊢
  have q3 := gx (i := 3) (x := some (SV.ref A)) r1.len (by decide)
  have q4' := gs (i := 3) (x := some (SV.ref A)) q4 (by decide)
  have r2 := r1.set (j := 3) (v := some (SV.ref A)) (by decide)
  generalize s1.set 3 (some (SV.ref A)) = s2 at q3 q4' r2 ⊢
  have l12 := l1.trans l
  refine Ist.seq (Ist.ite (Is.bm (Is.o2 (Is.var q4' (Is.oa (Is.anil (lst_is (small_big (by simp)) (eqNil (Le.push _ _ _ _ (l _ _ eD)) (new_at _ _) ⟨_, rfl, ?_⟩))))))))
  have l3 := Le.push h2 (.lst [])
  generalize h2 ++ [SO.lst []] = h3 at l3 ⊢
  cases ns with
  | nil =>
    rw [if_pos (show ([] : List Int).isEmpty = true from rfl)]
    exact Ist.ret (Is.c (p _ (l12.trans l3)))
  | cons n rest =>
    rw [if_neg (by simp)]
    have eX := hX n rest rfl
    subst eX
    refine Ist.nil ?_
    obtain ⟨n0, n1, m, em, ne⟩ := hn n (by simp)
    obtain ⟨j, rfl⟩ := Int.eq_ofNat_of_zero_le n0
    have few := pt.few
    have ej3 := l3 _ _ ej
    have et3 := l3 _ _ et
    have eb3 := l3 _ _ eb
    have p3 := pr.le (l12.trans l3)
    have t3 := pt.le (l12.trans l3)
    have sd := sd_lst1 ej3 (sd_tup2 et3 ((sd_int (h := _)).up (k' := 2) (by decide)) (sd_lst1 eb3 sd_int))
    have tx := tx_row10 (n := j) (by omega)
    refine Ist.ret (Is.o2 (Is.call (Is.acons (Is.c (Is.acons (Is.var r2.s0 (Is.acons (p0_is t3 e0 r2.s1 (Is.acons (Is.c (Is.acons (Is.var q3 (Is.anil ?_)))))))))))))
    refine caught_is k.K3 (.inr (.inr rfl)) (fun z => absurd z (by decide)) (fun z => absurd z (by decide)) (fun _ => ledRX k.F p3 hx (by decide) fun h4 l4 => ?_) ((sd.up (k' := 64) (by decide)) h3 0 (Le.refl _)).1 tx fun h4 j4 l4 e4 => ?_
    · refine (press_away k.F (p3.le l4) pt.nm pt.mok few (l4 _ _ ej3) (l4 _ _ et3) (l4 _ _ eb3) n0 n1 em).mono fun w h5 ⟨ew, l5⟩ => ⟨l5, .inr ⟨ew, ?_⟩⟩
      exact begins_no k.F ((p3.le l4).le l5) pt.nm pt.mok hx (l5 _ _ (l4 _ _ ej3)) (l5 _ _ (l4 _ _ et3)) (l5 _ _ (l4 _ _ eb3)) n0 n1 em ne
    · refine Is.oa (Is.acons (Is.c (Is.acons (Is.oa (Is.acons (Is.var q3 (Is.anil (repr_d ((sd.up (k' := 64) (by decide)) h4 0 l4).1 tx (Is.anil (lst_is (small_big (by simp)) ?_))))))))))
      refine eqD_same (dataOf_le (Le.push _ _) 64 _ _ e4) (dataOf_lst (new_at _ _) rfl) (sh_pair tx.ok) ?_
      exact p _ (((l12.trans l3).trans l4).trans (Le.push _ _))
theorem refused_is (k : Kinds iL iT iS iI iB iP xP xM c eP eU eN eR sub iU iQ iN iR xn xv) {a lo t lo' : Nat} {ps : List Str} {ms : List Nm} {h : SH} (pr : Prog h c a lo ps ms) (pt : Parts h t lo' ps ms) {P : SV → SH → Prop} (p : ∀ h', Le h h' → P (.bl true) h') :
    Is (mFn 2 7 (refusedM (cauM iL iT iS iI iB iP xP xM c eP eU eN eR sub iU iQ iN iR xn xv)) [.ref a, .ref t] h) P := by
  refine Is.fn rfl ?_
  unfold refusedM
  obtain ⟨x0, e0, hx⟩ : ∃ x0, ps.head? = some x0 ∧ x0 ∈ ps := by
    have one := pt.ok.one
    cases ps with
    | nil => exact absurd one (by decide)
    | cons y r => exact ⟨y, rfl, by simp⟩
  have rs0 : Rfs a t ([SV.ref a, .ref t].map some ++ List.replicate (7 - [SV.ref a, .ref t].length) none) := ⟨rfl, rfl, rfl⟩
  generalize [SV.ref a, .ref t].map some ++ List.replicate (7 - [SV.ref a, .ref t].length) none = s0 at rs0 ⊢
  refine Ist.seq (Ist.for (Is.rng1 (Is.acons (Is.c (Is.anil ⟨3, rfl, by decide, 3, fun k s h' => Rfs a t s ∧ Le h h', by unfold many; omega, ⟨rs0, Le.refl _⟩, ?_, ?_⟩)))))
  · rintro j s h' hj ⟨r, l⟩
    refine ⟨_, _, _, wkRng_at hj, rfl, ?_⟩
    exact (turn1_is k (pr.le l) (pt.le l) e0 hx (r.set (by decide)) (gx r.len (by decide)) (by omega)).mono (fun s2 h2 ⟨a, b⟩ => ⟨a, l.trans b⟩) (fun _ _ z => z) (fun _ _ z => z.elim) fun _ _ z => z.elim
  · rintro s h1 ⟨rs, l1⟩
    refine ⟨wkRng_end, ?_⟩
    refine Ist.seq (loopQ (Q := Bad (NoPlace iS ps)) (n := 8) (fun s => Rfs a t s) staB (by decide) rs (IsD.lst staB (badU_is k.nS pt.fr) (by decide) fun h' j vs l e hl q => ⟨j, vs, rfl, l, e, hl, q⟩) ?_ ?_)
    · rintro s h' v r l ⟨d, tx, z⟩
      have q3 := gx (i := 3) (x := some v) r.len (by decide)
      have r' := r.set (j := 3) (v := some v) (by decide)
      obtain ⟨ed, np⟩ := z h' (Le.refl _)
      refine ref_is q3 tx ?_ fun h2 l2 => ⟨r', l2⟩
      exact Is.acons (Is.c (Is.acons (Is.var r'.s0 (Is.acons (Is.var q3 (Is.acons (Is.c (Is.acons (Is.c (Is.anil ⟨2, .ref a, v, .non, .non, eU, rfl, Le.refl _, k.K1, .inr (.inr rfl), fun z => absurd z (by decide), fun z => absurd z (by decide), fun _ => ledUX k.F (pr.le (l1.trans l)) np, ed⟩))))))))))
    · rintro s h2 rs l2
      have l12 := l1.trans l2
      refine Ist.seq (loopQ (Q := Bad (NoCount iI iB)) (n := 8) (fun s => Rfs a t s) staB (by decide) rs (IsD.lst staB (badN_is k.W) (by decide) fun h' j vs l e hl q => ⟨j, vs, rfl, l, e, hl, q⟩) ?_ ?_)
      · rintro s h' v r l ⟨d, tx, z⟩
        have q3 := gx (i := 3) (x := some v) r.len (by decide)
        have r' := r.set (j := 3) (v := some v) (by decide)
        obtain ⟨ed, _⟩ := z h' (Le.refl _)
        refine ref_is q3 tx ?_ fun h2 l2 => ⟨r', l2⟩
        exact Is.acons (Is.c (Is.acons (Is.var r'.s0 (Is.acons (p0_is (pt.le (l12.trans l)) e0 r'.s1 (Is.acons (Is.var q3 (Is.acons (Is.c (Is.anil ⟨2, .ref a, .str x0, v, .non, eN, rfl, Le.refl _, k.K2, .inr (.inr rfl), fun z => absurd z (by decide), fun z => absurd z (by decide), fun _ => ledNX k.F (pr.le (l12.trans l)) hx fun h3 l3 => (z h3 l3).2, ed⟩))))))))))
      · rintro s h3 r l3
        exact aways_is k (pr.le (l12.trans l3)) (pt.le (l12.trans l3)) e0 hx r fun h' l' => p h' ((l12.trans l3).trans l')
end
end Fw
namespace Fw
open PySem PySem.Spec L2
/-- a place, drawn -/
def placeM (g t : Nat) : EM := mO2 opIx (mO2 opIx (mVar t) (mC (.int 0))) (mCall (mFn 2 4 randM) (aCons (mVar g) (aCons (mOA (un1 opLen) (aCons (mO2 opIx (mVar t) (mC (.int 0))) aNil)) aNil)))
theorem place_is {g t lo : Nat} {ps : List Str} {ms : List Nm} {h : SH} {B : Int} {s : SS} {i j : Nat} (G : GenOk h g B) (hB : B ≤ 900000000) (pt : Parts h t lo ps ms) (hg : g < lo) (sg : s[i]? = some (some (.ref g))) (st : s[j]? = some (some (.ref t))) {P : SV → SH → Prop}
    (p : ∀ h' x, x ∈ ps → Kp g h h' → h'.length = h.length → GenOk h' g (B + 4000) → P (.str x) h') : Is (placeM i j s h) P := by
  unfold placeM
  obtain ⟨A, M, e, hA, _, _, pl, _⟩ := pt.ex
  refine Is.o2 (Is.o2 (Is.var st (Is.c (ix_is e rfl ?_))))
  refine Is.call (Is.acons (Is.var sg (Is.acons (Is.oa (Is.acons (Is.o2 (Is.var st (Is.c (ix_is e rfl (Is.anil (len_is pl.at_ (Is.anil ?_))))))))))))
  have f4 := pt.ok.four
  have o1 := pt.ok.one
  refine draw100 G (by omega) (by simp; omega) (by simp; omega) fun r h2 r0 r1 kp hl G2 => ?_
  have hr : r.toNat < ps.length := by simp at r1; omega
  have er : ps[r.toNat]? = some ps[r.toNat] := List.getElem?_eq_getElem hr
  refine ix_is (kp _ _ (by omega) pl.at_) (x := .str ps[r.toNat]) ?_ (p h2 _ (List.getElem_mem hr) kp hl G2)
  unfold L2.atI L2.ixN
  rw [if_pos (by omega), if_pos (by simp; omega)]
  simp [List.getElem?_map, er]
end Fw
namespace Fw
open PySem PySem.Spec L2
section
variable {iL iT iS iI iB iP : Tag → Option Bool} {xA xW xT xC xP xM xK : List (Option Nat)} {cW c eP eU eN eR : Nat} {sub : Nat → Option Bool} {iU iQ iN iR : Tag → Option Bool} {xn xv : List (Option Nat)}
def rowTurnM (iL iT iS iI iB iP : Tag → Option Bool) (xP xM : List (Option Nat)) (c eP eU eN eR : Nat) : SM := (mSeq (mSet 6 (placeM 2 3)) (mSeq (mSet 7 (mCall (mFn 4 13 lawRowM) (aCons (mVar 2) (aCons (mVar 3) (aCons (mVar 6) (aCons (mC (.int 4)) aNil)))))) (mSeq (mIfS (bNot (mTru (mCall (mFn 4 17 (rightM iL iT iS iI iB iP xP xM c eP eU eN eR)) (aCons (mVar 4) (aCons (mVar 3) (aCons (mVar 6) (aCons (mVar 7) aNil))))))) (mRet (mC (.bl false))) mNil) (mSeq (mSet 8 shortM) (mIfS (bNot (mTru (mCall (mFn 4 9 (smallM iL iT iS iI iB iP xP xM c eP eU eN eR)) (aCons (mVar 4) (aCons (mVar 3) (aCons (mVar 6) (aCons (mVar 8) aNil))))))) (mRet (mC (.bl false))) mNil)))))
structure Mst (g t a : Nat) (lo : Nat) (ps : List Str) (ms : List Nm) (c : Nat) (B : Int) (s : SS) (h : SH) : Prop where
  len : s.length = 11
  s2 : s[2]? = some (some (.ref g))
  s3 : s[3]? = some (some (.ref t))
  s4 : s[4]? = some (some (.ref a))
  gen : GenOk h g B
  pt : Parts h t lo ps ms
  pr : Prog h c a lo ps ms
  hg : g < lo
  hl : g < h.length
theorem Mst.set {g t a lo : Nat} {ps : List Str} {ms : List Nm} {c : Nat} {B : Int} {s : SS} {h : SH} (x : Mst g t a lo ps ms c B s h) {j : Nat} {v : Option SV} (hj : j = 0 ∨ j = 1 ∨ 5 ≤ j) : Mst g t a lo ps ms c B (s.set j v) h :=
  { x with len := by simp [x.len], s2 := gs x.s2 (by omega), s3 := gs x.s3 (by omega), s4 := gs x.s4 (by omega) }
theorem Mst.le {g t a lo : Nat} {ps : List Str} {ms : List Nm} {c : Nat} {B B' : Int} {s : SS} {h h' : SH} (x : Mst g t a lo ps ms c B s h) (l : Le h h') (hB : B ≤ B') : Mst g t a lo ps ms c B' s h' := by
  obtain ⟨gl, e⟩ := x.gen.at
  exact { x with gen := x.gen.le l hB, pt := x.pt.le l, pr := x.pr.le l, hl := lt_of (l _ _ e) }
theorem Mst.kp {g t a lo : Nat} {ps : List Str} {ms : List Nm} {c : Nat} {B B' : Int} {s : SS} {h h' : SH} (x : Mst g t a lo ps ms c B s h) (k : Kp g h h') (hl : h.length ≤ h'.length) (G : GenOk h' g B') : Mst g t a lo ps ms c B' s h' := by
  obtain ⟨gl, e⟩ := x.gen.at
  exact { x with gen := G, pt := x.pt.kp k x.hg e, pr := x.pr.kp k x.hg e, hl := Nat.lt_of_lt_of_le x.hl hl }
theorem rowTurn_is (F : Facts iL iT iS iI iB iP xP xM c) {g t a lo : Nat} {ps : List Str} {ms : List Nm} {B : Int} {s : SS} {h : SH} (x : Mst g t a lo ps ms c B s h) (hB : B ≤ 500000000) {R : SV → SH → Prop} {C D : SS → SH → Prop} {s0 : SV} (z0 : s[0]? = some (some s0)) :
    Ist (rowTurnM iL iT iS iI iB iP xP xM c eP eU eN eR s h) (fun s' h' => Mst g t a lo ps ms c (B + 130000) s' h' ∧ s'[0]? = some (some s0)) R C D := by
  unfold rowTurnM
  refine Ist.seq (Ist.set (place_is x.gen (by omega) x.pt x.hg x.s2 x.s3 fun h1 place hp kp1 l1 G1 => ?_))
  have y := (x.kp kp1 (by omega) G1).set (j := 6) (v := some (.str place)) (by decide)
  have q6 := gx (i := 6) (x := some (SV.str place)) x.len (by decide)
  have z1 := gs (i := 6) (x := some (SV.str place)) z0 (by decide)
  generalize s.set 6 (some (SV.str place)) = s1 at y q6 z1 ⊢
  obtain ⟨gl, egl⟩ := y.gen.at
  refine Ist.seq (Ist.set (Is.call (Is.acons (Is.var y.s2 (Is.acons (Is.var y.s3 (Is.acons (Is.var q6 (Is.acons (Is.c (Is.anil ?_)))))))))))
  refine lawRow_is y.gen y.pt y.hg egl (by omega) hp fun h2 A r q kp2 l2 G2 rb few w hq num => ?_
  have y2 := (y.kp kp2 l2 G2).set (j := 7) (v := some (.ref A)) (by decide)
  have q6' := gs (i := 7) (x := some (SV.ref A)) q6 (by decide)
  have q7 := gx (i := 7) (x := some (SV.ref A)) y.len (by decide)
  have z2 := gs (i := 7) (x := some (SV.ref A)) z1 (by decide)
  generalize s1.set 7 (some (SV.ref A)) = s2 at y2 q6' q7 z2 ⊢
  have rok := RowOk.of w few num
  have ask : Asked h2 c a lo A ps ms r place q := ⟨y2.pr, y2.pt.nm, y2.pt.mok, y2.pt.few, rb.row, rok, w, hp⟩
  refine Ist.seq (Ist.ite (Is.bnot (Is.tru (Is.call (Is.acons (Is.var y2.s4 (Is.acons (Is.var y2.s3 (Is.acons (Is.var q6' (Is.acons (Is.var q7 (Is.anil (right_is F ask y2.pt hq fun h3 l3 => ?_))))))))))))))
  refine tru_is ?_
  rw [if_neg (by decide)]
  refine Ist.nil ?_
  have y3 := y2.le l3 (Int.le_refl _)
  refine Ist.seq (Ist.set (short_is (rb.row.le l3) (by omega) y2.len q7 fun h4 D l4 rw4 => ?_))
  have y4 := (y3.le l4 (Int.le_refl _)).set (j := 8) (v := some (.ref D)) (by decide)
  have q6'' := gs (i := 8) (x := some (SV.ref D)) q6' (by decide)
  have q8 := gx (i := 8) (x := some (SV.ref D)) y2.len (by decide)
  have z3 := gs (i := 8) (x := some (SV.ref D)) z2 (by decide)
  generalize s2.set 8 (some (SV.ref D)) = s3 at y4 q6'' q8 z3 ⊢
  have ask4 : Asked h4 c a lo D ps ms (r.map short) place q := ⟨y4.pr, y4.pt.nm, y4.pt.mok, y4.pt.few, rw4, rok.short, walk_short w, hp⟩
  refine Ist.ite (Is.bnot (Is.tru (Is.call (Is.acons (Is.var y4.s4 (Is.acons (Is.var y4.s3 (Is.acons (Is.var q6'' (Is.acons (Is.var q8 (Is.anil (small_is F ask4 y4.pt hq (short_le r) fun h5 l5 => ?_)))))))))))))
  refine tru_is ?_
  rw [if_neg (by decide)]
  exact Ist.nil ⟨y4.le l5 (by omega), z3⟩
def law16M (iL iT iS iI iB iP : Tag → Option Bool) (xA xW xT xC xP xM xK : List (Option Nat)) (cW c eP eU eN eR : Nat) (sub : Nat → Option Bool) (iU iQ iN iR : Tag → Option Bool) (xn xv : List (Option Nat)) : SM :=
  (mSeq (mFor (mRng1 (aCons (mC (.int 5)) aNil)) (gVar 1) (mSeq (mSet 2 (mCall (mFn 2 3 genM) (aCons (mVar 0) (aCons (mVar 1) aNil)))) (mSeq (mSet 3 (mCall (mFn 4 7 lawPartsM) (aCons (mVar 2) (aCons (mC (.int 4)) (aCons (mC (.int 10)) (aCons (mC (.int 4)) aNil)))))) (mSeq (mSet 4 (mCall (mFn 1 1 (lawProgramM iL iT iS iI iB xA xW xT xC xP xM xK cW c)) (aCons (mVar 3) aNil))) (mSeq (mFor (mRng1 (aCons (mC (.int 6)) aNil)) (gVar 5) (rowTurnM iL iT iS iI iB iP xP xM c eP eU eN eR)) (mIfS (bNot (mTru (mCall (mFn 2 7 (refusedM (cauM iL iT iS iI iB iP xP xM c eP eU eN eR sub iU iQ iN iR xn xv))) (aCons (mVar 4) (aCons (mVar 3) aNil))))) (mRet (mC (.bl false))) mNil)))))) (mRet (mC (.bl true))))
theorem law16_is (k : Kinds iL iT iS iI iB iP xP xM c eP eU eN eR sub iU iQ iN iR xn xv) (xs : Ixs xA xW xT xC xP xM xK cW c) (ns : List Int) :
    ∃ h2, Fw.mFn 1 11 (law16M iL iT iS iI iB iP xA xW xT xC xP xM xK cW c eP eU eN eR sub iU iQ iN iR xn xv) [.scr ns] [] = .ok (.bl true) h2 := by
  have main : Is (Fw.mFn 1 11 (law16M iL iT iS iI iB iP xA xW xT xC xP xM xK cW c eP eU eN eR sub iU iQ iN iR xn xv) [.scr ns] []) fun v _ => v = .bl true := by
    refine Is.fn rfl ?_
    unfold law16M
    refine Ist.seq (Ist.for (Is.rng1 (Is.acons (Is.c (Is.anil ⟨5, rfl, by decide, 5, fun k s h => s.length = 11 ∧ s[0]? = some (some (.scr ns)), by unfold many; omega, ⟨rfl, rfl⟩, ?_, ?_⟩)))))
    · rintro j s h hj ⟨q1, q2⟩
      refine ⟨_, _, _, wkRng_at hj, rfl, ?_⟩
      have t0 := gs (i := 1) (x := some (SV.int (0 + (j : Int)))) q2 (by decide)
      have t1 := gx (i := 1) (x := some (SV.int (0 + (j : Int)))) q1 (by decide)
      have tl : (s.set 1 (some (SV.int (0 + (j : Int))))).length = 11 := by simp [q1]
      generalize s.set 1 (some (SV.int (0 + (j : Int)))) = s1 at t0 t1 tl ⊢
      rw [show (0 : Int) + (j : Int) = (j : Nat) from by omega] at t1
      refine Ist.seq (Ist.set (Is.call (Is.acons (Is.var t0 (Is.acons (Is.var t1 (Is.anil ?_)))))))
      refine gen_is fun a b a0 b0 b1 => ?_
      have G0 : GenOk (h ++ [.lst [.int a, .int b, .int (1000 * (j : Int))]]) h.length 6000 := ⟨a, b, _, new_at _ _, a0, by omega, by omega⟩
      have hg : h.length < (h ++ [SO.lst [.int a, .int b, .int (1000 * (j : Int))]]).length := by simp
      generalize h.length = g at G0 hg ⊢
      generalize h ++ [SO.lst [.int a, .int b, .int (1000 * (j : Int))]] = h0 at G0 hg ⊢
      have u0 := gs (i := 2) (x := some (SV.ref g)) t0 (by decide)
      have u2 := gx (i := 2) (x := some (SV.ref g)) tl (by decide)
      have ul : (s1.set 2 (some (SV.ref g))).length = 11 := by simp [tl]
      generalize s1.set 2 (some (SV.ref g)) = s2 at u0 u2 ul ⊢
      refine Ist.seq (Ist.set (Is.call (Is.acons (Is.var u2 (Is.acons (Is.c (Is.acons (Is.c (Is.acons (Is.c (Is.anil ?_)))))))))))
      refine parts_draw G0 (by omega) fun h1 t ps ms kp1 l1 G1 pt => ?_
      have v0 := gs (i := 3) (x := some (SV.ref t)) u0 (by decide)
      have v2 := gs (i := 3) (x := some (SV.ref t)) u2 (by decide)
      have v3 := gx (i := 3) (x := some (SV.ref t)) ul (by decide)
      have vl : (s2.set 3 (some (SV.ref t))).length = 11 := by simp [ul]
      generalize s2.set 3 (some (SV.ref t)) = s3 at v0 v2 v3 vl ⊢
      refine Ist.seq (Ist.set (Is.call (Is.acons (Is.var v3 (Is.anil (lawProgram_is k.F.es xs pt fun h2 a l2 la pr => ?_))))))
      have w0 := gs (i := 4) (x := some (SV.ref a)) v0 (by decide)
      have w2 := gs (i := 4) (x := some (SV.ref a)) v2 (by decide)
      have w3 := gs (i := 4) (x := some (SV.ref a)) v3 (by decide)
      have w4 := gx (i := 4) (x := some (SV.ref a)) vl (by decide)
      have wl : (s3.set 4 (some (SV.ref a))).length = 11 := by simp [vl]
      generalize s3.set 4 (some (SV.ref a)) = s4 at w0 w2 w3 w4 wl ⊢
      have pt2 := pt.le l2
      obtain ⟨gl, egl⟩ := G1.at
      have M0 : Mst g t a h0.length ps ms c 300000 s4 h2 := ⟨wl, w2, w3, w4, G1.le l2 (by omega), pt2, ⟨let ⟨P, M, W, e, hP, hM, z⟩ := pr.ex; ⟨P, M, W, e, by omega, by omega, z⟩⟩, hg, lt_of (l2 _ _ egl)⟩
      refine Ist.seq (Ist.for (Is.rng1 (Is.acons (Is.c (Is.anil ⟨6, rfl, by decide, 6, fun i s h => Mst g t a h0.length ps ms c (300000 + 130000 * i) s h ∧ s[0]? = some (some (.scr ns)), by unfold many; omega, ⟨M0.le (Le.refl _) (by omega), w0⟩, ?_, ?_⟩)))))
      · rintro i s h hi ⟨x, z0⟩
        refine ⟨_, _, _, wkRng_at hi, rfl, ?_⟩
        exact (rowTurn_is k.F (x.set (by decide)) (by omega) (gs z0 (by decide))).mono (fun s' h' ⟨y, z⟩ => ⟨y.le (Le.refl _) (by omega), z⟩) (fun _ _ z => z) (fun _ _ z => z) fun _ _ z => z
      · rintro s h ⟨x, z0⟩
        refine ⟨wkRng_end, ?_⟩
        refine Ist.ite (Is.bnot (Is.tru (Is.call (Is.acons (Is.var x.s4 (Is.acons (Is.var x.s3 (Is.anil (refused_is k x.pr x.pt fun h' l => ?_)))))))))
        refine tru_is ?_
        rw [if_neg (by decide)]
        exact Ist.nil ⟨x.len, z0⟩
    · rintro s h ⟨q1, q2⟩
      exact ⟨wkRng_end, Ist.ret (Is.c rfl)⟩
  obtain ⟨v, h2, e, rfl⟩ := main.out
  exact ⟨h2, e⟩
end
end Fw
namespace Gn
open PySem PySem.Spec L2 Fw
theorem facts : Facts is_list is_tuple is_str is_int is_bool is_Program x__places x__moves 9 := ⟨⟨rfl, rfl, rfl, rfl, rfl⟩, rfl, rfl, rfl⟩
theorem kinds : Kinds is_list is_tuple is_str is_int is_bool is_Program x__places x__moves 9 4 6 1 5 sub_WalkError is_UnknownName is_InvalidProgram is_InvalidNumber is_InvalidRow x_name x_value :=
  ⟨facts, ⟨rfl, rfl, rfl, rfl, rfl, rfl, rfl, rfl, rfl, rfl⟩, ⟨rfl, rfl, rfl, rfl, rfl, rfl, rfl⟩, ⟨rfl, rfl, rfl, rfl, rfl, rfl⟩, rfl, rfl, rfl, rfl, rfl,
   ⟨rfl, rfl, rfl, rfl, rfl, fun h => absurd h (by decide), fun _ => rfl, by decide, by decide⟩,
   ⟨rfl, rfl, rfl, rfl, rfl, fun _ => rfl, fun h => absurd rfl h, by decide, by decide⟩,
   ⟨rfl, rfl, rfl, rfl, rfl, fun h => absurd h (by decide), fun _ => rfl, by decide, by decide⟩,
   ⟨rfl, rfl, rfl, rfl, rfl, fun h => absurd h (by decide), fun _ => rfl, by decide, by decide⟩⟩
theorem ixs : Ixs x__at x__ways x__tables x__common x__places x__moves x__walks 8 9 := by constructor <;> rfl
theorem law_true : ∀ ns : List Int, ns.length ≤ 63 → (∀ z ∈ ns, PySem.Builtin.Int.intBits z ≤ 1048576) → ∃ h2, Fw.mFn 1 11 Gn.m80 [.scr ns] [] = .ok (.bl true) h2 := by
  intro ns _ _
  exact law16_is kinds ixs ns
end Gn
open PySem PySem.W PyProof.Rows in
set_option maxRecDepth 100000 in
set_option maxHeartbeats 0 in
theorem PySem.Challenge.cw_floorwalks_k16_rows_measured_holds : PySem.Challenge.rw_floorwalks_k16_rows_measured.Holds := by
  w_on; o_law; k_head; (case hw => w_witness2)
  k_fill
  refine Fw.walk_ofG (l := PySem.Challenge.rw_floorwalks_k16_rows_measured) (m := Gn.m80) (nn := 11) (k := 9) (x := "_law_script") rfl (by decide) rfl ⟨rfl, by decide, by decide⟩ (by decide +kernel) (fun w h Y => PySem.W.kIn_of Y) ?F Gn.law_true
  case F =>
    intro w mg fa h KX G hmg
    refine' Gn.all_mk KX G hmg ?aC0 ?ga0 ?gg0 ?kC0 ?ex0 ?ty0 ?hd0 ?ic0 ?ha0 ?mo0 ?aC1 ?ga1 ?gg1 ?kC1 ?ex1 ?ty1 ?hd1 ?ic1 ?ha1 ?mo1 ?xL1 ?rv1 ?al1 ?sa1 ?no1 ?iC1 ?tF1 ?ve1 ?mr1 ?lF1 ?cF1 ?lD1 ?hv1 ?hf1 ?lcc1 ?lT1 ?aC2 ?ga2 ?gg2 ?kC2 ?ex2 ?ty2 ?hd2 ?ic2 ?ha2 ?mo2 ?xL2 ?rv2 ?al2 ?sa2 ?no2 ?iC2 ?tF2 ?ve2 ?mr2 ?lF2 ?cF2 ?lD2 ?hv2 ?hf2 ?lcc2 ?lT2 ?aC3 ?ga3 ?gg3 ?kC3 ?ex3 ?ty3 ?hd3 ?ic3 ?ha3 ?mo3 ?xL3 ?rv3 ?al3 ?sa3 ?no3 ?iC3 ?tF3 ?ve3 ?mr3 ?lF3 ?cF3 ?lD3 ?hv3 ?hf3 ?lcc3 ?lT3 ?aC4 ?ga4 ?gg4 ?kC4 ?ex4 ?ty4 ?hd4 ?ic4 ?ha4 ?mo4 ?xL4 ?rv4 ?al4 ?sa4 ?no4 ?iC4 ?tF4 ?ve4 ?mr4 ?lF4 ?cF4 ?lD4 ?hv4 ?hf4 ?lcc4 ?lT4 ?aC5 ?ga5 ?gg5 ?kC5 ?ex5 ?ty5 ?hd5 ?ic5 ?ha5 ?mo5 ?xL5 ?rv5 ?al5 ?sa5 ?no5 ?iC5 ?tF5 ?ve5 ?mr5 ?lF5 ?cF5 ?lD5 ?hv5 ?hf5 ?lcc5 ?lT5 ?aC6 ?ga6 ?gg6 ?kC6 ?ex6 ?ty6 ?hd6 ?ic6 ?ha6 ?mo6 ?xL6 ?rv6 ?al6 ?sa6 ?no6 ?iC6 ?tF6 ?ve6 ?mr6 ?lF6 ?cF6 ?lD6 ?hv6 ?hf6 ?lcc6 ?lT6 ?aC8 ?pg8 ?hd8 ?po8 ?sa8 ?mk8 ?kc8 ?ha8 ?mo8 ?no8_0 ?no8_1 ?no8_2 ?no8_3 ?aC9 ?pg9 ?hd9 ?po9 ?sa9 ?mk9 ?kc9 ?ha9 ?mo9 ?no9_0 ?no9_1 ?no9_2 ?opq ?sup ?hn ?ht ?htop ?m_gcd ?m_lcm ?b_all ?b_bool ?b_enumerate ?b_int ?b_isinstance ?b_len ?b_list ?b_max ?b_min ?b_range ?b_repr ?b_str ?b_tuple ?k_LONGEST_NAME ?k_MOST_CHANGE ?k_MOST_LEAST ?k_MOST_MOVES ?k_MOST_PLACES ?o0_InvalidNumber ?o1_InvalidNumber ?o2_InvalidNumber ?o3_InvalidNumber ?o4_InvalidNumber ?o5_InvalidNumber ?o6_InvalidNumber ?o0_InvalidProgram ?o1_InvalidProgram ?o2_InvalidProgram ?o3_InvalidProgram ?o4_InvalidProgram ?o5_InvalidProgram ?o6_InvalidProgram ?o0_InvalidRow ?o1_InvalidRow ?o2_InvalidRow ?o3_InvalidRow ?o4_InvalidRow ?o5_InvalidRow ?o6_InvalidRow ?o0_UnknownName ?o1_UnknownName ?o2_UnknownName ?o3_UnknownName ?o4_UnknownName ?o5_UnknownName ?o6_UnknownName ?on_non_Program ?on_bl_Program ?on_int_Program ?on_str_Program ?on_lst_Program ?on_tup_Program ?on_dct_Program ?os8_Program ?os9_Program ?u0_WalkError ?u1_WalkError ?u2_WalkError ?u3_WalkError ?u4_WalkError ?u5_WalkError ?u6_WalkError ?a63d ?l63d ?c63d ?k63d ?a65d ?l65d ?c65d ?k65d ?a64d ?l64d ?c64d ?k64d ?a66d ?l66d ?c66d ?k66d ?a67d ?l67d ?c67d ?k67d ?a68d ?l68d ?c68d ?k68d ?a14d ?l14d ?c14d ?k14d ?a42d ?l42d ?c42d ?k42d ?a41d ?l41d ?c41d ?k41d ?a12d ?l12d ?c12d ?k12d ?a13d ?l13d ?c13d ?k13d ?a40d ?l40d ?c40d ?k40d ?a43d ?l43d ?c43d ?k43d ?a18d ?l18d ?c18d ?k18d ?a17d ?l17d ?c17d ?k17d ?a16d ?l16d ?c16d ?k16d ?a_Walks___init__d ?i_Walks___init__d ?l_Walks___init__d ?c_Walks___init__d ?k_Walks___init__d ?a_Program___init__d ?i_Program___init__d ?l_Program___init__d ?c_Program___init__d ?k_Program___init__d ?a69d ?l69d ?c69d ?k69d ?a74d ?l74d ?c74d ?k74d ?a70d ?l70d ?c70d ?k70d ?a71d ?l71d ?c71d ?k71d ?a45d ?l45d ?c45d ?k45d ?a_Program_movesd ?i_Program_movesd ?l_Program_movesd ?c_Program_movesd ?k_Program_movesd ?a56d ?l56d ?c56d ?k56d ?a57d ?l57d ?c57d ?k57d ?a55d ?l55d ?c55d ?k55d ?a54d ?l54d ?c54d ?k54d ?a61d ?l61d ?c61d ?k61d ?a60d ?l60d ?c60d ?k60d ?a50d ?l50d ?c50d ?k50d ?a51d ?l51d ?c51d ?k51d ?a73d ?l73d ?c73d ?k73d ?a72d ?l72d ?c72d ?k72d ?a_Program_placesd ?i_Program_placesd ?l_Program_placesd ?c_Program_placesd ?k_Program_placesd ?a46d ?l46d ?c46d ?k46d ?a47d ?l47d ?c47d ?k47d ?a48d ?l48d ?c48d ?k48d ?a58d ?l58d ?c58d ?k58d ?a53d ?l53d ?c53d ?k53d ?a59d ?l59d ?c59d ?k59d ?a52d ?l52d ?c52d ?k52d ?a75d ?l75d ?c75d ?k75d ?a76d ?l76d ?c76d ?k76d ?a77d ?l77d ?c77d ?k77d ?a78d ?l78d ?c78d ?k78d ?a79d ?l79d ?c79d ?k79d ?a80d ?l80d ?c80d ?k80d
    (case aC0 => k_is)
    (case ga0 => k_is)
    (case gg0 => k_is)
    (case kC0 => k_is)
    (case ex0 => k_is)
    (case ty0 => k_is)
    (case hd0 => k_is)
    (case ic0 => k_is)
    (case ha0 => k_is)
    (case mo0 => k_is)
    (case aC1 => k_is)
    (case ga1 => k_is)
    (case gg1 => k_is)
    (case kC1 => k_is)
    (case ex1 => k_is)
    (case ty1 => k_is)
    (case hd1 => k_is)
    (case ic1 => k_is)
    (case ha1 => k_is)
    (case mo1 => k_is)
    (case xL1 => k_is)
    (case rv1 => first | rfl | decide +kernel | k_is)
    (case al1 => ks_is)
    (case sa1 => k_is)
    (case no1 => k_is)
    (case iC1 => k_is)
    (case tF1 => k_is)
    (case ve1 => k_is)
    (case mr1 => k_is)
    (case lF1 => k_is)
    (case cF1 => k_is)
    (case lD1 => k_is)
    (case hv1 => first | rfl | k_is)
    (case hf1 => first | rfl | decide +kernel | k_is)
    (case lcc1 => k_is)
    (case lT1 => k_is)
    (case aC2 => k_is)
    (case ga2 => k_is)
    (case gg2 => k_is)
    (case kC2 => k_is)
    (case ex2 => k_is)
    (case ty2 => k_is)
    (case hd2 => k_is)
    (case ic2 => k_is)
    (case ha2 => k_is)
    (case mo2 => k_is)
    (case xL2 => k_is)
    (case rv2 => first | rfl | decide +kernel | k_is)
    (case al2 => ks_is)
    (case sa2 => k_is)
    (case no2 => k_is)
    (case iC2 => k_is)
    (case tF2 => k_is)
    (case ve2 => k_is)
    (case mr2 => k_is)
    (case lF2 => k_is)
    (case cF2 => k_is)
    (case lD2 => k_is)
    (case hv2 => first | rfl | k_is)
    (case hf2 => first | rfl | decide +kernel | k_is)
    (case lcc2 => k_is)
    (case lT2 => k_is)
    (case aC3 => k_is)
    (case ga3 => k_is)
    (case gg3 => k_is)
    (case kC3 => k_is)
    (case ex3 => k_is)
    (case ty3 => k_is)
    (case hd3 => k_is)
    (case ic3 => k_is)
    (case ha3 => k_is)
    (case mo3 => k_is)
    (case xL3 => k_is)
    (case rv3 => first | rfl | decide +kernel | k_is)
    (case al3 => ks_is)
    (case sa3 => k_is)
    (case no3 => k_is)
    (case iC3 => k_is)
    (case tF3 => k_is)
    (case ve3 => k_is)
    (case mr3 => k_is)
    (case lF3 => k_is)
    (case cF3 => k_is)
    (case lD3 => k_is)
    (case hv3 => first | rfl | k_is)
    (case hf3 => first | rfl | decide +kernel | k_is)
    (case lcc3 => k_is)
    (case lT3 => k_is)
    (case aC4 => k_is)
    (case ga4 => k_is)
    (case gg4 => k_is)
    (case kC4 => k_is)
    (case ex4 => k_is)
    (case ty4 => k_is)
    (case hd4 => k_is)
    (case ic4 => k_is)
    (case ha4 => k_is)
    (case mo4 => k_is)
    (case xL4 => k_is)
    (case rv4 => first | rfl | decide +kernel | k_is)
    (case al4 => ks_is)
    (case sa4 => k_is)
    (case no4 => k_is)
    (case iC4 => k_is)
    (case tF4 => k_is)
    (case ve4 => k_is)
    (case mr4 => k_is)
    (case lF4 => k_is)
    (case cF4 => k_is)
    (case lD4 => k_is)
    (case hv4 => first | rfl | k_is)
    (case hf4 => first | rfl | decide +kernel | k_is)
    (case lcc4 => k_is)
    (case lT4 => k_is)
    (case aC5 => k_is)
    (case ga5 => k_is)
    (case gg5 => k_is)
    (case kC5 => k_is)
    (case ex5 => k_is)
    (case ty5 => k_is)
    (case hd5 => k_is)
    (case ic5 => k_is)
    (case ha5 => k_is)
    (case mo5 => k_is)
    (case xL5 => k_is)
    (case rv5 => first | rfl | decide +kernel | k_is)
    (case al5 => ks_is)
    (case sa5 => k_is)
    (case no5 => k_is)
    (case iC5 => k_is)
    (case tF5 => k_is)
    (case ve5 => k_is)
    (case mr5 => k_is)
    (case lF5 => k_is)
    (case cF5 => k_is)
    (case lD5 => k_is)
    (case hv5 => first | rfl | k_is)
    (case hf5 => first | rfl | decide +kernel | k_is)
    (case lcc5 => k_is)
    (case lT5 => k_is)
    (case aC6 => k_is)
    (case ga6 => k_is)
    (case gg6 => k_is)
    (case kC6 => k_is)
    (case ex6 => k_is)
    (case ty6 => k_is)
    (case hd6 => k_is)
    (case ic6 => k_is)
    (case ha6 => k_is)
    (case mo6 => k_is)
    (case xL6 => k_is)
    (case rv6 => first | rfl | decide +kernel | k_is)
    (case al6 => ks_is)
    (case sa6 => k_is)
    (case no6 => k_is)
    (case iC6 => k_is)
    (case tF6 => k_is)
    (case ve6 => k_is)
    (case mr6 => k_is)
    (case lF6 => k_is)
    (case cF6 => k_is)
    (case lD6 => k_is)
    (case hv6 => first | rfl | k_is)
    (case hf6 => first | rfl | decide +kernel | k_is)
    (case lcc6 => k_is)
    (case lT6 => k_is)
    (case aC8 => k_is)
    (case pg8 => k_is)
    (case hd8 => k_is)
    (case po8 => k_is)
    (case sa8 => k_is)
    (case mk8 => k_is)
    (case kc8 => k_is)
    (case ha8 => k_is)
    (case mo8 => k_is)
    (case no8_0 => k_is)
    (case no8_1 => k_is)
    (case no8_2 => k_is)
    (case no8_3 => k_is)
    (case aC9 => k_is)
    (case pg9 => k_is)
    (case hd9 => k_is)
    (case po9 => k_is)
    (case sa9 => k_is)
    (case mk9 => k_is)
    (case kc9 => k_is)
    (case ha9 => k_is)
    (case mo9 => k_is)
    (case no9_0 => k_is)
    (case no9_1 => k_is)
    (case no9_2 => k_is)
    (case opq => k_is)
    (case sup => k_is)
    (case hn => k_is)
    (case ht => k_is)
    (case htop => first | rfl | decide +kernel)
    (case m_gcd => k_is)
    (case m_lcm => k_is)
    (case b_all => k_is)
    (case b_bool => k_is)
    (case b_enumerate => k_is)
    (case b_int => k_is)
    (case b_isinstance => k_is)
    (case b_len => k_is)
    (case b_list => k_is)
    (case b_max => k_is)
    (case b_min => k_is)
    (case b_range => k_is)
    (case b_repr => k_is)
    (case b_str => k_is)
    (case b_tuple => k_is)
    (case k_LONGEST_NAME => k_is)
    (case k_MOST_CHANGE => k_is)
    (case k_MOST_LEAST => k_is)
    (case k_MOST_MOVES => k_is)
    (case k_MOST_PLACES => k_is)
    (case o0_InvalidNumber => kit_is)
    (case o1_InvalidNumber => kit_is)
    (case o2_InvalidNumber => kit_is)
    (case o3_InvalidNumber => kit_is)
    (case o4_InvalidNumber => kit_is)
    (case o5_InvalidNumber => kit_is)
    (case o6_InvalidNumber => kit_is)
    (case o0_InvalidProgram => kit_is)
    (case o1_InvalidProgram => kit_is)
    (case o2_InvalidProgram => kit_is)
    (case o3_InvalidProgram => kit_is)
    (case o4_InvalidProgram => kit_is)
    (case o5_InvalidProgram => kit_is)
    (case o6_InvalidProgram => kit_is)
    (case o0_InvalidRow => kit_is)
    (case o1_InvalidRow => kit_is)
    (case o2_InvalidRow => kit_is)
    (case o3_InvalidRow => kit_is)
    (case o4_InvalidRow => kit_is)
    (case o5_InvalidRow => kit_is)
    (case o6_InvalidRow => kit_is)
    (case o0_UnknownName => kit_is)
    (case o1_UnknownName => kit_is)
    (case o2_UnknownName => kit_is)
    (case o3_UnknownName => kit_is)
    (case o4_UnknownName => kit_is)
    (case o5_UnknownName => kit_is)
    (case o6_UnknownName => kit_is)
    (case on_non_Program => kit_is)
    (case on_bl_Program => kit_is)
    (case on_int_Program => kit_is)
    (case on_str_Program => kit_is)
    (case on_lst_Program => kit_is)
    (case on_tup_Program => kit_is)
    (case on_dct_Program => kit_is)
    (case os8_Program => kit_is)
    (case os9_Program => kit_is)
    (case u0_WalkError => k_is)
    (case u1_WalkError => k_is)
    (case u2_WalkError => k_is)
    (case u3_WalkError => k_is)
    (case u4_WalkError => k_is)
    (case u5_WalkError => k_is)
    (case u6_WalkError => k_is)
    (case a63d => k_is)
    (case l63d => k_is)
    (case c63d => k_is)
    (case k63d => k_is)
    (case a65d => k_is)
    (case l65d => k_is)
    (case c65d => k_is)
    (case k65d => k_is)
    (case a64d => k_is)
    (case l64d => k_is)
    (case c64d => k_is)
    (case k64d => k_is)
    (case a66d => k_is)
    (case l66d => k_is)
    (case c66d => k_is)
    (case k66d => k_is)
    (case a67d => k_is)
    (case l67d => k_is)
    (case c67d => k_is)
    (case k67d => k_is)
    (case a68d => k_is)
    (case l68d => k_is)
    (case c68d => k_is)
    (case k68d => k_is)
    (case a14d => k_is)
    (case l14d => k_is)
    (case c14d => k_is)
    (case k14d => k_is)
    (case a42d => k_is)
    (case l42d => k_is)
    (case c42d => k_is)
    (case k42d => k_is)
    (case a41d => k_is)
    (case l41d => k_is)
    (case c41d => k_is)
    (case k41d => k_is)
    (case a12d => k_is)
    (case l12d => k_is)
    (case c12d => k_is)
    (case k12d => k_is)
    (case a13d => k_is)
    (case l13d => k_is)
    (case c13d => k_is)
    (case k13d => k_is)
    (case a40d => k_is)
    (case l40d => k_is)
    (case c40d => k_is)
    (case k40d => k_is)
    (case a43d => k_is)
    (case l43d => k_is)
    (case c43d => k_is)
    (case k43d => k_is)
    (case a18d => k_is)
    (case l18d => k_is)
    (case c18d => k_is)
    (case k18d => k_is)
    (case a17d => k_is)
    (case l17d => k_is)
    (case c17d => k_is)
    (case k17d => k_is)
    (case a16d => k_is)
    (case l16d => k_is)
    (case c16d => k_is)
    (case k16d => k_is)
    (case a_Walks___init__d => k_is)
    (case i_Walks___init__d => k_is)
    (case l_Walks___init__d => k_is)
    (case c_Walks___init__d => k_is)
    (case k_Walks___init__d => k_is)
    (case a_Program___init__d => k_is)
    (case i_Program___init__d => k_is)
    (case l_Program___init__d => k_is)
    (case c_Program___init__d => k_is)
    (case k_Program___init__d => k_is)
    (case a69d => k_is)
    (case l69d => k_is)
    (case c69d => k_is)
    (case k69d => k_is)
    (case a74d => k_is)
    (case l74d => k_is)
    (case c74d => k_is)
    (case k74d => k_is)
    (case a70d => k_is)
    (case l70d => k_is)
    (case c70d => k_is)
    (case k70d => k_is)
    (case a71d => k_is)
    (case l71d => k_is)
    (case c71d => k_is)
    (case k71d => k_is)
    (case a45d => k_is)
    (case l45d => k_is)
    (case c45d => k_is)
    (case k45d => k_is)
    (case a_Program_movesd => k_is)
    (case i_Program_movesd => k_is)
    (case l_Program_movesd => k_is)
    (case c_Program_movesd => k_is)
    (case k_Program_movesd => k_is)
    (case a56d => k_is)
    (case l56d => k_is)
    (case c56d => k_is)
    (case k56d => k_is)
    (case a57d => k_is)
    (case l57d => k_is)
    (case c57d => k_is)
    (case k57d => k_is)
    (case a55d => k_is)
    (case l55d => k_is)
    (case c55d => k_is)
    (case k55d => k_is)
    (case a54d => k_is)
    (case l54d => k_is)
    (case c54d => k_is)
    (case k54d => k_is)
    (case a61d => k_is)
    (case l61d => k_is)
    (case c61d => k_is)
    (case k61d => k_is)
    (case a60d => k_is)
    (case l60d => k_is)
    (case c60d => k_is)
    (case k60d => k_is)
    (case a50d => k_is)
    (case l50d => k_is)
    (case c50d => k_is)
    (case k50d => k_is)
    (case a51d => k_is)
    (case l51d => k_is)
    (case c51d => k_is)
    (case k51d => k_is)
    (case a73d => k_is)
    (case l73d => k_is)
    (case c73d => k_is)
    (case k73d => k_is)
    (case a72d => k_is)
    (case l72d => k_is)
    (case c72d => k_is)
    (case k72d => k_is)
    (case a_Program_placesd => k_is)
    (case i_Program_placesd => k_is)
    (case l_Program_placesd => k_is)
    (case c_Program_placesd => k_is)
    (case k_Program_placesd => k_is)
    (case a46d => k_is)
    (case l46d => k_is)
    (case c46d => k_is)
    (case k46d => k_is)
    (case a47d => k_is)
    (case l47d => k_is)
    (case c47d => k_is)
    (case k47d => k_is)
    (case a48d => k_is)
    (case l48d => k_is)
    (case c48d => k_is)
    (case k48d => k_is)
    (case a58d => k_is)
    (case l58d => k_is)
    (case c58d => k_is)
    (case k58d => k_is)
    (case a53d => k_is)
    (case l53d => k_is)
    (case c53d => k_is)
    (case k53d => k_is)
    (case a59d => k_is)
    (case l59d => k_is)
    (case c59d => k_is)
    (case k59d => k_is)
    (case a52d => k_is)
    (case l52d => k_is)
    (case c52d => k_is)
    (case k52d => k_is)
    (case a75d => k_is)
    (case l75d => k_is)
    (case c75d => k_is)
    (case k75d => k_is)
    (case a76d => k_is)
    (case l76d => k_is)
    (case c76d => k_is)
    (case k76d => k_is)
    (case a77d => k_is)
    (case l77d => k_is)
    (case c77d => k_is)
    (case k77d => k_is)
    (case a78d => k_is)
    (case l78d => k_is)
    (case c78d => k_is)
    (case k78d => k_is)
    (case a79d => k_is)
    (case l79d => k_is)
    (case c79d => k_is)
    (case k79d => k_is)
    (case a80d => k_is)
    (case l80d => k_is)
    (case c80d => k_is)
    (case k80d => k_is)

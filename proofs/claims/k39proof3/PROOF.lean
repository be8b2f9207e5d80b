import PyProof.Rows.All
import Wide.All
import OpenK.AllK
import Wide.FinOn
import HandS.ForMost
import HandS.ForExc
import HandS.Wide
import HandS.TupAny
import HandS.IsInst
import HandS.Property
import HandS.OwnEq
import HandS.FStr
import HandS.Conv
import HandS.Style
import HandS.TryMany
import HandS.ExcField
import HandS.ExcInit
import HandS.RaiseMore
import HandS.ExcIs
import HandS.ExcValue
import HandS.Small
import PyProof.ReprLen
import PySem.Challenge.RW_beadshares_k39_errors_and_bounds
set_option Elab.async false
set_option linter.all false
set_option maxRecDepth 100000
set_option maxHeartbeats 4000000
/-! RI: a plain evaluator over data, and that the machine follows it. -/
namespace RI
open PySem PySem.Spec PyProof.Rows L2

/-- data: no addresses; ob n is the n-th object of the store -/
inductive D where
  | non | bl (b : Bool) | int (i : Int) | str (x : Str) | tup (xs : List D) | ob (n : Nat)
  deriving Inhabited

inductive SO where
  | lst (xs : List D) | frl (xs : List D) | dct (kvs : List (Key × D)) | ins (c : Str) (fs : List (Str × D)) | exn (c : Str) (d : Option Nat) | xdo (fs : List (Str × D))

abbrev Store := List SO
abbrev Env1 := List (Option D)

inductive Out (α : Type) where
  | ok (a : α) (M : Store) | exc (c : Str) (fs : List (Str × D)) (M : Store) | no

def Out.bind {α β : Type} (x : Out α) (f : α → Store → Out β) : Out β := match x with
  | .ok a M => f a M
  | .exc c fs M => .exc c fs M
  | .no => .no
@[simp] theorem Out.bind_ok {α β : Type} (a : α) (M : Store) (f : α → Store → Out β) : (Out.ok a M).bind f = f a M := rfl
@[simp] theorem Out.bind_exc {α β : Type} (c : Str) (fs : List (Str × D)) (M : Store) (f : α → Store → Out β) : (Out.exc c fs M : Out α).bind f = .exc c fs M := rfl
@[simp] theorem Out.bind_no {α β : Type} (f : α → Store → Out β) : (Out.no : Out α).bind f = .no := rfl
/-- an option as an outcome -/
def Out.of {α : Type} (x : Option α) (M : Store) : Out α := match x with
  | some a => .ok a M
  | none => .no

/-! ### what stands for what -/
section
variable (K : PySem.W.Frag) (θ : List Addr) (H : Hp)
mutual
inductive Rp : V → D → Prop where
  | non : Rp .non .non
  | bl (b : Bool) : Rp (.bl b) (.bl b)
  | int (i : Int) : Rp (.int i) (.int i)
  | str (x : Str) : Rp (.str x) (.str x)
  | tup {a : Addr} {vs : List V} {ds : List D} : SqT K H a vs → RpA vs ds → Rp (.ref a) (.tup ds)
  | ob {a : Addr} {n : Nat} : θ[n]? = some a → Rp (.ref a) (.ob n)
inductive RpA : List V → List D → Prop where
  | nil : RpA [] []
  | cons {v : V} {vs : List V} {d : D} {ds : List D} : Rp v d → RpA vs ds → RpA (v :: vs) (d :: ds)
end
/-- attributes by name -/
inductive RpF : List (Str × V) → List (Str × D) → Prop where
  | nil : RpF [] []
  | cons {f : Str} {v : V} {d : D} {fs : List (Str × V)} {gs : List (Str × D)} : Rp K θ H v d → RpF fs gs → RpF ((f, v) :: fs) ((f, d) :: gs)
/-- entries of a dict -/
inductive RpK : List (Key × V) → List (Key × D) → Prop where
  | nil : RpK [] []
  | cons {k : Key} {v : V} {d : D} {fs : List (Key × V)} {gs : List (Key × D)} : Rp K θ H v d → RpK fs gs → RpK ((k, v) :: fs) ((k, d) :: gs)
end

/-- where the classes stand -/
abbrev ClsA := Str → Option Addr
def RpS (K : PySem.W.Frag) (cl : ClsA) (θ : List Addr) (H : Hp) (a : Addr) : SO → Prop
  | .lst ds => ∃ vs, H a = some (.lst vs) ∧ RpA K θ H vs ds
  | .frl ds => ∃ o vs, H a = some (.frz o (.lst vs)) ∧ RpA K θ H vs ds
  | .dct kvs => ∃ ws, H a = some (.dK ws) ∧ RpK K θ H ws kvs
  | .ins c fs => ∃ C dx gs, cl c = some C ∧ H a = some (.ins C dx gs) ∧ RpF K θ H gs fs
  | .exn c none => ∃ C, cl c = some C ∧ H a = some (exo a C none)
  | .exn c (some m) => ∃ C dx, cl c = some C ∧ θ[m]? = some dx ∧ H a = some (exo a C (some dx))
  | .xdo fs => ∃ gs, H a = some (exd a gs) ∧ RpF K θ H gs fs
structure Rep (K : PySem.W.Frag) (cl : ClsA) (θ : List Addr) (H : Hp) (M : Store) : Prop where
  len : θ.length = M.length
  nd : θ.Nodup
  at_ : ∀ (n : Nat) (a : Addr) (o : SO), θ[n]? = some a → M[n]? = some o → RpS K cl θ H a o
structure RelE (K : PySem.W.Frag) (θ : List Addr) (H : Hp) (σ : L2.St) (ρ : Env1) : Prop where
  len : σ.length = ρ.length
  at_ : ∀ (i : Nat) (d : D), ρ[i]? = some (some d) → ∃ v, σ[i]? = some (some v) ∧ Rp K θ H v d
/-- the store has grown; tuples stand -/
structure Ext (K : PySem.W.Frag) (θ : List Addr) (H : Hp) (θ' : List Addr) (H' : Hp) : Prop where
  pre : ∀ (n : Nat) (a : Addr), θ[n]? = some a → θ'[n]? = some a
  tup : ∀ (a : Addr) (vs : List V), SqT K H a vs → SqT K H' a vs

section
variable {K : PySem.W.Frag} {cl : ClsA} {θ θ' θ2 : List Addr} {H H' H2 : Hp}
theorem Ext.refl : Ext K θ H θ H := ⟨fun _ _ h => h, fun _ _ h => h⟩
theorem Ext.trans (a : Ext K θ H θ' H') (b : Ext K θ' H' θ2 H2) : Ext K θ H θ2 H2 := ⟨fun n x h => b.pre n x (a.pre n x h), fun x vs h => b.tup x vs (a.tup x vs h)⟩
mutual
theorem Rp.ext (e : Ext K θ H θ' H') : ∀ {v : V} {d : D}, Rp K θ H v d → Rp K θ' H' v d
  | _, _, .non => .non
  | _, _, .bl b => .bl b
  | _, _, .int i => .int i
  | _, _, .str x => .str x
  | _, _, .tup h hs => .tup (e.tup _ _ h) (RpA.ext e hs)
  | _, _, .ob h => .ob (e.pre _ _ h)
theorem RpA.ext (e : Ext K θ H θ' H') : ∀ {vs : List V} {ds : List D}, RpA K θ H vs ds → RpA K θ' H' vs ds
  | _, _, .nil => .nil
  | _, _, .cons h hs => .cons (Rp.ext e h) (RpA.ext e hs)
end
theorem RpF.ext (e : Ext K θ H θ' H') : ∀ {fs : List (Str × V)} {gs : List (Str × D)}, RpF K θ H fs gs → RpF K θ' H' fs gs
  | _, _, .nil => .nil
  | _, _, .cons h hs => .cons (h.ext e) (RpF.ext e hs)
theorem RpK.ext (e : Ext K θ H θ' H') : ∀ {fs : List (Key × V)} {gs : List (Key × D)}, RpK K θ H fs gs → RpK K θ' H' fs gs
  | _, _, .nil => .nil
  | _, _, .cons h hs => .cons (h.ext e) (RpK.ext e hs)
theorem RelE.ext {σ : L2.St} {ρ : Env1} (r : RelE K θ H σ ρ) (e : Ext K θ H θ' H') : RelE K θ' H' σ ρ := ⟨r.len, fun i d h => let ⟨v, h1, h2⟩ := r.at_ i d h; ⟨v, h1, h2.ext e⟩⟩
theorem RpA.length : ∀ {vs : List V} {ds : List D}, RpA K θ H vs ds → vs.length = ds.length
  | _, _, .nil => rfl
  | _, _, .cons _ hs => by simp [RpA.length hs]
theorem RpA.get : ∀ {vs : List V} {ds : List D}, RpA K θ H vs ds → ∀ {i : Nat} {d : D}, ds[i]? = some d → ∃ v, vs[i]? = some v ∧ Rp K θ H v d
  | _, _, .nil, i, d, h => by simp at h
  | _, _, .cons r _, 0, d, h => by
    simp at h
    subst h
    exact ⟨_, rfl, r⟩
  | _, _, .cons _ hs, i + 1, d, h => by
    obtain ⟨v, h1, h2⟩ := RpA.get hs (i := i) (d := d) (by simpa using h)
    exact ⟨v, by simpa using h1, h2⟩
theorem RpA.app : ∀ {vs : List V} {ds : List D} {ws : List V} {es : List D}, RpA K θ H vs ds → RpA K θ H ws es → RpA K θ H (vs ++ ws) (ds ++ es)
  | _, _, _, _, .nil, h => h
  | _, _, _, _, .cons r t, h => .cons r (RpA.app t h)
theorem RpA.take : ∀ {vs : List V} {ds : List D} (n : Nat), RpA K θ H vs ds → RpA K θ H (vs.take n) (ds.take n)
  | _, _, 0, _ => by simp only [List.take_zero]; exact .nil
  | _, _, _ + 1, .nil => .nil
  | _, _, n + 1, .cons r t => .cons r (RpA.take n t)
theorem RpA.drop : ∀ {vs : List V} {ds : List D} (n : Nat), RpA K θ H vs ds → RpA K θ H (vs.drop n) (ds.drop n)
  | _, _, 0, h => h
  | _, _, _ + 1, .nil => .nil
  | _, _, n + 1, .cons r t => RpA.drop n t
theorem RpA.set {v : V} {d : D} (r : Rp K θ H v d) : ∀ {vs : List V} {ds : List D} (n : Nat), RpA K θ H vs ds → RpA K θ H (vs.set n v) (ds.set n d)
  | _, _, _, .nil => .nil
  | _, _, 0, .cons _ t => .cons r t
  | _, _, n + 1, .cons q t => .cons q (RpA.set r n t)
theorem RpA.erase : ∀ {vs : List V} {ds : List D} (n : Nat), RpA K θ H vs ds → RpA K θ H (vs.eraseIdx n) (ds.eraseIdx n)
  | _, _, _, .nil => .nil
  | _, _, 0, .cons _ t => t
  | _, _, n + 1, .cons q t => .cons q (RpA.erase n t)
theorem RpA.rev : ∀ {vs : List V} {ds : List D}, RpA K θ H vs ds → RpA K θ H vs.reverse ds.reverse
  | _, _, .nil => .nil
  | _, _, .cons q t => by
    rw [List.reverse_cons, List.reverse_cons]
    exact (RpA.rev t).app (.cons q .nil)
theorem RpA.nil_iff {vs : List V} {ds : List D} (h : RpA K θ H vs ds) : vs = [] ↔ ds = [] := by cases h <;> simp

/-! ### the heap changes -/
theorem sqT_upd {a p : Addr} {vs : List V} {o : HO} (h : SqT K H a vs) (hp : ∀ u xs, H p = some (.frz u (.tup xs)) → False) (ht : ∀ xs, H p = some (.tup xs) → False) : SqT K (upd H p o) a vs := by
  rcases h with h | h
  · refine .inl ?_
    rcases h with h | ⟨u, h⟩
    · exact .inl (by rw [upd_ne (fun e => ht _ (e ▸ h))]; exact h)
    · exact .inr ⟨u, by rw [upd_ne (fun e => hp _ _ (e ▸ h))]; exact h⟩
  · exact .inr h
/-- an object may be laid at p or changed there -/
def Free (H : Hp) (p : Addr) : Prop := ∀ o, H p = some o → (∀ xs, o ≠ .tup xs) ∧ ∀ u z, o ≠ .frz u z
theorem Free.none {p : Addr} (h : H p = none) : Free H p := fun o e => by rw [h] at e; cases e
theorem Ext.upd {p : Addr} {o : HO} (h : Free H p) : Ext K θ H θ (upd H p o) :=
  ⟨fun _ _ h => h, fun a vs q => sqT_upd q (fun u xs e => (h _ e).2 u _ rfl) (fun xs e => (h _ e).1 xs rfl)⟩
theorem Ext.more (l : List Addr) : Ext K θ H (θ ++ l) H := ⟨fun n a h => by
    rw [List.getElem?_append_left (List.getElem?_eq_some_iff.mp h).1]
    exact h, fun _ _ h => h⟩

/-- what RpS asks of the heap: at a alone -/
theorem RpS.mono {a : Addr} {o : SO} (h : RpS K cl θ H a o) (e : Ext K θ H θ' H') (k : ∀ u, H a = some u → H' a = some u) : RpS K cl θ' H' a o := by
  cases o with
  | lst ds => obtain ⟨vs, h1, h2⟩ := h; exact ⟨vs, k _ h1, h2.ext e⟩
  | frl ds => obtain ⟨o, vs, h1, h3⟩ := h; exact ⟨o, vs, k _ h1, h3.ext e⟩
  | dct kvs => obtain ⟨vs, h1, h2⟩ := h; exact ⟨vs, k _ h1, h2.ext e⟩
  | ins c fs => obtain ⟨C, dx, gs, h0, h1, h2⟩ := h; exact ⟨C, dx, gs, h0, k _ h1, h2.ext e⟩
  | exn c d =>
    cases d with
    | none => obtain ⟨C, h0, h1⟩ := h; exact ⟨C, h0, k _ h1⟩
    | some m => obtain ⟨C, dx, h0, h1, h2⟩ := h; exact ⟨C, dx, h0, e.pre _ _ h1, k _ h2⟩
  | xdo fs => obtain ⟨gs, h1, h2⟩ := h; exact ⟨gs, k _ h1, h2.ext e⟩
theorem RpS.ex {a : Addr} {o : SO} (h : RpS K cl θ H a o) : ∃ u, H a = some u := by
  cases o with
  | lst ds => obtain ⟨vs, h1, _⟩ := h; exact ⟨_, h1⟩
  | frl ds => obtain ⟨o, vs, h1, _⟩ := h; exact ⟨_, h1⟩
  | dct kvs => obtain ⟨vs, h1, _⟩ := h; exact ⟨_, h1⟩
  | ins c fs => obtain ⟨C, dx, gs, h0, h1, _⟩ := h; exact ⟨_, h1⟩
  | exn c d =>
    cases d with
    | none => obtain ⟨C, h0, h1⟩ := h; exact ⟨_, h1⟩
    | some m => obtain ⟨C, dx, h0, h1, h2⟩ := h; exact ⟨_, h2⟩
  | xdo fs => obtain ⟨gs, h1, _⟩ := h; exact ⟨_, h1⟩
theorem Rep.atn {M : Store} (r : Rep K cl θ H M) {n : Nat} {a : Addr} (h : θ[n]? = some a) : ∃ o, M[n]? = some o ∧ RpS K cl θ H a o := by
  have hl := (List.getElem?_eq_some_iff.mp h).1
  rw [r.len] at hl
  exact ⟨M[n], List.getElem?_eq_getElem hl, r.at_ n a _ h (List.getElem?_eq_getElem hl)⟩
theorem Rep.addr {M : Store} (r : Rep K cl θ H M) {n : Nat} {o : SO} (h : M[n]? = some o) : ∃ a, θ[n]? = some a ∧ RpS K cl θ H a o := by
  have hl := (List.getElem?_eq_some_iff.mp h).1
  rw [← r.len] at hl
  exact ⟨θ[n], List.getElem?_eq_getElem hl, r.at_ n _ o (List.getElem?_eq_getElem hl) h⟩
theorem Rep.out {M : Store} (r : Rep K cl θ H M) {p : Addr} (h : H p = none) : p ∉ θ := fun hm => by
  obtain ⟨n, hn⟩ := List.getElem?_of_mem hm
  obtain ⟨o, _, ho⟩ := r.atn hn
  obtain ⟨u, hu⟩ := ho.ex
  rw [h] at hu
  cases hu
/-- a new object -/
theorem Rep.new {M : Store} (r : Rep K cl θ H M) {p : Addr} {u : HO} {o : SO} (hp : H p = none) (ho : RpS K cl (θ ++ [p]) (upd H p u) p o) : Rep K cl (θ ++ [p]) (upd H p u) (M ++ [o]) := by
  have ex : Ext K θ H (θ ++ [p]) (upd H p u) := (Ext.more [p]).trans (Ext.upd (Free.none hp))
  have pn := r.out hp
  refine ⟨by rw [List.length_append, List.length_append, r.len] <;> rfl, ?_, fun n a o' h1 h2 => ?_⟩
  · rw [List.nodup_append]
    exact ⟨r.nd, by simp, fun a ha b hb e => pn (by rw [List.mem_singleton] at hb; rw [← hb, ← e]; exact ha)⟩
  · by_cases hn : n < θ.length
    · rw [List.getElem?_append_left hn] at h1
      rw [List.getElem?_append_left (by rw [← r.len]; exact hn)] at h2
      have q := r.at_ n a o' h1 h2
      refine q.mono ex fun w hw => ?_
      rw [upd_ne (ne_of_none hw hp)]
      exact hw
    · have hl : n = θ.length := by
        have := (List.getElem?_eq_some_iff.mp h1).1
        rw [List.length_append, List.length_singleton] at this
        omega
      subst hl
      rw [List.getElem?_append_right (Nat.le_refl _), Nat.sub_self] at h1
      rw [r.len, List.getElem?_append_right (Nat.le_refl _), Nat.sub_self] at h2
      simp at h1 h2
      subst h1
      subst h2
      exact ho
/-- a new thing that the store does not hold -/
theorem Rep.keep {M : Store} (r : Rep K cl θ H M) {p : Addr} {u : HO} (hp : H p = none) : Rep K cl θ (upd H p u) M :=
  ⟨r.len, r.nd, fun n a o h1 h2 => (r.at_ n a o h1 h2).mono (Ext.upd (Free.none hp)) fun w hw => by rw [upd_ne (ne_of_none hw hp)]; exact hw⟩
/-- an object changed -/
theorem Rep.put {M : Store} (r : Rep K cl θ H M) {n : Nat} {a : Addr} {u' : HO} {o : SO} (ha : θ[n]? = some a) (fr : Free H a) (ho : RpS K cl θ (upd H a u') a o) : Rep K cl θ (upd H a u') (M.set n o) := by
  have ex : Ext K θ H θ (upd H a u') := Ext.upd fr
  refine ⟨by rw [List.length_set]; exact r.len, r.nd, fun m b o' h1 h2 => ?_⟩
  by_cases hm : m = n
  · subst hm
    rw [ha] at h1
    cases h1
    have hl : m < M.length := by rw [← r.len]; exact (List.getElem?_eq_some_iff.mp ha).1
    rw [List.getElem?_set_self hl] at h2
    cases h2
    exact ho
  · rw [List.getElem?_set_ne (Ne.symm hm)] at h2
    have ne : b ≠ a := fun e => by
      subst e
      exact hm (nd_ix r.nd h1 ha)
    refine (r.at_ m b o' h1 h2).mono ex fun w hw => ?_
    rw [upd_ne ne]
    exact hw
end
end RI

namespace RI
open PySem PySem.Spec PyProof.Rows L2
/-- what an exception bears: its own dict's address -/
def XAt (K : PySem.W.Frag) (θ : List Addr) (H : Hp) (dd : Option Addr) (fs : List (Str × D)) : Prop :=
  (fs = [] ∧ dd = none) ∨ ∃ dx gs, dd = some dx ∧ H dx = some (.xd gs) ∧ RpF K θ H gs fs ∧ dx ∉ θ

section
variable {α β γ δ : Type} (K : PySem.W.Frag) (cl : ClsA)
def PostG (Rv : List Addr → Hp → β → α → Prop) (W : WX) (Q : β → Hp → Prop) (σ : L2.St) (θ : List Addr) (H : Hp) : Out α → Prop
  | .ok a M => ∀ θ' H' v, Ext K θ H θ' H' → Rep K cl θ' H' M → Rv θ' H' v a → Q v H'
  | .exc c fs M => ∀ θ' H' C dd, Ext K θ H θ' H' → Rep K cl θ' H' M → cl c = some C → XAt K θ' H' dd fs → W (.ref C) dd σ H'
  | .no => False
abbrev Den (α : Type) := Env1 → Store → Out α
def rdG (Rv : List Addr → Hp → β → α → Prop) (W : WX) (f : Den α) (σ : L2.St) (H : Hp) (Q : β → Hp → Prop) : Prop :=
  ∃ θ ρ M, RelE K θ H σ ρ ∧ Rep K cl θ H M ∧ PostG K cl Rv W Q σ θ H (f ρ M)
end
section
variable {α β γ δ : Type} {K : PySem.W.Frag} {cl : ClsA} {Rv : List Addr → Hp → β → α → Prop} {Rw : List Addr → Hp → δ → γ → Prop} {W : WX} {σ : L2.St} {θ θ1 : List Addr} {H H1 : Hp} {Q : β → Hp → Prop}
theorem PostG.ext {o : Out α} (h : PostG K cl Rv W Q σ θ H o) (e : Ext K θ H θ1 H1) : PostG K cl Rv W Q σ θ1 H1 o := by
  cases o with
  | ok a M => exact fun θ' H' v e' r rv => h θ' H' v (e.trans e') r rv
  | exc c fs M => exact fun θ' H' C dd e' r hc x => h θ' H' C dd (e.trans e') r hc x
  | no => exact h
theorem PostG.bind {x : Out γ} {f : γ → Store → Out α} {Q1 : δ → Hp → Prop} (h : PostG K cl Rv W Q σ θ H (x.bind f))
    (k : ∀ a M θ1 H1 v, Ext K θ H θ1 H1 → Rep K cl θ1 H1 M → Rw θ1 H1 v a → PostG K cl Rv W Q σ θ1 H1 (f a M) → Q1 v H1) : PostG K cl Rw W Q1 σ θ H x := by
  cases x with
  | ok a M => exact fun θ1 H1 v e r rv => k a M θ1 H1 v e r rv (h.ext e)
  | exc c fs M => exact h
  | no => exact h
theorem PostG.ok_ {a : α} {M : Store} {v : β} (h : PostG K cl Rv W Q σ θ H (.ok a M)) (r : Rep K cl θ H M) (rv : Rv θ H v a) : Q v H := h θ H v .refl r rv
end

section
variable {X : Cx} (cl : ClsA) (W : WX)
abbrev rd (K : PySem.W.Frag) (f : Den D) : TE := rdG K cl (Rp K) W f
abbrev rdA (K : PySem.W.Frag) (f : Den (List D)) : TA := rdG K cl (RpA K) W f
abbrev rdT (K : PySem.W.Frag) (f : Den Bool) : TT := rdG K cl (fun _ _ b c => b = c) W f
abbrev rdO (K : PySem.W.Frag) (f : Den (Option Int)) : TO := rdG K cl (fun _ _ b c => b = c) W f
end
theorem PE.imp {X : Cx} {e : Expr} {t t' : TE} (h : PE X e t) (k : ∀ σ H Q, t' σ H Q → t σ H Q) : PE X e t' := ⟨fun pins s σ H Q I q => h.run pins s σ H Q I (k σ H Q q)⟩
theorem PT.imp {X : Cx} {e : Expr} {t t' : TT} (h : PT X e t) (k : ∀ σ H Q, t' σ H Q → t σ H Q) : PT X e t' := ⟨fun pins s σ H Q I q => h.run pins s σ H Q I (k σ H Q q)⟩
theorem PA.imp {X : Cx} {e : List Expr} {t t' : TA} (h : PA X e t) (k : ∀ σ H Q, t' σ H Q → t σ H Q) : PA X e t' := ⟨fun pos pins s σ H Q I q => h.run pos pins s σ H Q I (k σ H Q q)⟩
theorem PS.imp {X : Cx} {e : Stmt} {t t' : TS} (h : PS X e t) (k : ∀ D σ H, t' D σ H → t D σ H) : PS X e t' := ⟨fun pins s σ H D I q => h.run pins s σ H D I (k D σ H q)⟩
theorem PSs.imp {X : Cx} {e : List Stmt} {t t' : TS} (h : PSs X e t) (k : ∀ D σ H, t' D σ H → t D σ H) : PSs X e t' := ⟨fun pins s σ H D I q => h.run pins s σ H D I (k D σ H q)⟩

/-! ### data as the library's plain data -/
def optAll {α β : Type} (f : α → Option β) : List α → Option (List β)
  | [] => some []
  | x :: r => (f x).bind fun y => (optAll f r).map (y :: ·)
def keyPy : Key → PyData
  | .inl i => .int i
  | .inr x => .str x
/-- lists and tuples of plain things -/
def toPy : Nat → Store → D → Option PyData
  | 0, _, _ => none
  | n + 1, M, d => match d with
    | .non => some .none
    | .bl b => some (.bool b)
    | .int i => some (.int i)
    | .str x => some (.str x)
    | .tup ds => (optAll (toPy n M) ds).map .tuple
    | .ob k => match M[k]? with
      | some (.lst ds) => (optAll (toPy n M) ds).map .list
      | some (.frl ds) => (optAll (toPy n M) ds).map .list
      | _ => none
section
variable {K : PySem.W.Frag} {cl : ClsA} {θ : List Addr} {H : Hp} {M : Store}
theorem dpAll_of {f : D → Option PyData} (h : ∀ v d p, Rp K θ H v d → f d = some p → Dp K H v p) : ∀ {vs : List V} {ds : List D} {ps : List PyData}, RpA K θ H vs ds → optAll f ds = some ps → DpAll K H vs ps
  | _, _, _, .nil, e => by
    simp [optAll] at e
    subst e
    exact .nil
  | _, _, _, .cons r t, e => by
    simp only [optAll, Option.bind_eq_some_iff, Option.map_eq_some_iff] at e
    obtain ⟨y, hy, l, hl, rfl⟩ := e
    exact .cons (h _ _ _ r hy) (dpAll_of h t hl)
theorem dp_of (r : Rep K cl θ H M) : ∀ (n : Nat) {v : V} {d : D} {p : PyData}, Rp K θ H v d → toPy n M d = some p → Dp K H v p
  | 0, _, _, _, _, e => by simp [toPy] at e
  | n + 1, _, _, p, .non, e => by simp [toPy] at e; subst e; exact .non
  | n + 1, _, _, p, .bl b, e => by simp [toPy] at e; subst e; exact .bl b
  | n + 1, _, _, p, .int b, e => by simp [toPy] at e; subst e; exact .int b
  | n + 1, _, _, p, .str b, e => by simp [toPy] at e; subst e; exact .str b
  | n + 1, _, _, p, .tup h hs, e => by
    simp only [toPy, Option.map_eq_some_iff] at e
    obtain ⟨l, hl, rfl⟩ := e
    exact .tup h (dpAll_of (fun v d p => dp_of r n) hs hl)
  | n + 1, _, _, p, .ob h, e => by
    obtain ⟨o, ho, hr⟩ := r.atn h
    simp only [toPy, ho] at e
    cases o with
    | lst ds =>
      simp only [Option.map_eq_some_iff] at e
      obtain ⟨l, hl, rfl⟩ := e
      obtain ⟨vs, h1, h2⟩ := hr
      exact .lst (SqL.of h1) (dpAll_of (fun v d p => dp_of r n) h2 hl)
    | frl ds =>
      simp only [Option.map_eq_some_iff] at e
      obtain ⟨l, hl, rfl⟩ := e
      obtain ⟨o, vs, h1, h2⟩ := hr
      exact .lst (.inl (.inr ⟨_, h1⟩)) (dpAll_of (fun v d p => dp_of r n) h2 hl)
    | dct _ => simp at e
    | ins _ _ => simp at e
    | exn _ _ => simp at e
    | xdo _ => simp at e
end

/-! ### operators on data -/
def line : Nat := 100000
theorem line_ok {n : Nat} (h : n ≤ line) : n ≤ sizeLine := Nat.le_trans h (by decide)
def newL (xs : List D) (M : Store) : Out D := if xs.length ≤ line then .ok (.ob M.length) (M ++ [.lst xs]) else .no
def listAt (M : Store) (k : Nat) : Option (List D) := match M[k]? with
  | some (.lst ds) => some ds
  | _ => none
/-- a list that may be read -/
def readAt (M : Store) (k : Nat) : Option (List D) := match M[k]? with
  | some (.lst ds) => some ds
  | some (.frl ds) => some ds
  | _ => none
def mulOk (i j : Int) : Bool := decide (-(2 ^ 64) < i ∧ i < 2 ^ 64) || decide (-(2 ^ 64) < j ∧ j < 2 ^ 64)
def opD (op : Operator) (x y : D) (M : Store) : Out D := match op, x, y with
  | .Add, .int i, .int j => .ok (.int (i + j)) M
  | .Add, .str a, .str b => if a.length + b.length ≤ line then .ok (.str (a ++ b)) M else .no
  | .Add, .tup xs, .tup ys => if xs.length + ys.length ≤ line then .ok (.tup (xs ++ ys)) M else .no
  | .Add, .ob a, .ob b => match listAt M a, listAt M b with
    | some xs, some ys => newL (xs ++ ys) M
    | _, _ => .no
  | .Sub, .int i, .int j => .ok (.int (i - j)) M
  | .Mult, .int i, .int j => if mulOk i j then .ok (.int (i * j)) M else .no
  | .Mult, .ob a, .int k => match listAt M a with
    | some xs => if 0 ≤ k ∧ k ≤ 100000 then newL (List.replicate k.toNat xs).flatten M else .no
    | _ => .no
  | .FloorDiv, .int i, .int j => if 0 < j ∧ j.natAbs.log2 < 9000 then .ok (.int (i / j)) M else .no
  | .Mod, .int i, .int j => if 0 < j then .ok (.int (i % j)) M else .no
  | .Pow, .int i, .int j => if 0 ≤ j ∧ j ≤ 1000000 ∧ i.natAbs < 2 ^ 64 then .ok (.int (i ^ j.toNat)) M else .no
  | _, _, _ => .no

section
variable {X : Cx} {cl : ClsA} {W : WX} {σ : L2.St} {θ : List Addr} {H : Hp} {M : Store} {Q : VK}
theorem lst_at {K : PySem.W.Frag} (r : Rep K cl θ H M) {a : Addr} {k : Nat} {xs : List D} (h : θ[k]? = some a) (e : listAt M k = some xs) : ∃ vs, H a = some (.lst vs) ∧ RpA K θ H vs xs := by
  obtain ⟨o, ho, hr⟩ := r.atn h
  unfold listAt at e
  rw [ho] at e
  cases o with
  | lst ds =>
    simp at e
    subst e
    exact hr
  | _ => simp at e
theorem read_at {K : PySem.W.Frag} (r : Rep K cl θ H M) {a : Addr} {k : Nat} {xs : List D} (h : θ[k]? = some a) (e : readAt M k = some xs) : ∃ vs, SqL K H a vs ∧ RpA K θ H vs xs := by
  obtain ⟨o, ho, hr⟩ := r.atn h
  unfold readAt at e
  rw [ho] at e
  cases o with
  | lst ds =>
    simp at e
    subst e
    obtain ⟨vs, h1, h2⟩ := hr
    exact ⟨vs, SqL.of h1, h2⟩
  | frl ds =>
    simp at e
    subst e
    obtain ⟨o, vs, h1, h2⟩ := hr
    exact ⟨vs, .inl (.inr ⟨_, h1⟩), h2⟩
  | _ => simp at e
/-- a new list of xs is laid -/
theorem newL_ok (r : Rep X.K cl θ H M) {vs : List V} {xs : List D} (hx : RpA X.K θ H vs xs) (h : PostG X.K cl (Rp X.K) W Q σ θ H (newL xs M)) : vs.length ≤ sizeLine ∧ ∀ p, H p = none → Q (.ref p) (upd H p (.lst vs)) := by
  unfold newL at h
  split at h
  · rename_i hl
    refine ⟨by rw [hx.length]; exact line_ok hl, fun p hp => ?_⟩
    have ex : Ext X.K θ H (θ ++ [p]) (upd H p (.lst vs)) := (Ext.more [p]).trans (Ext.upd (Free.none hp))
    exact h _ _ _ ex (r.new hp ⟨vs, upd_same, hx.ext ex⟩) (.ob (by rw [← r.len]; simp))
  · exact h.elim
/-- the operators: what is told of op by opD -/
def opR (K : PySem.W.Frag) (cl : ClsA) (W : WX) (σ : L2.St) (g : D → D → Store → Out D) : R2 := fun x y H Q =>
  ∃ θ M dx dy, Rep K cl θ H M ∧ Rp K θ H x dx ∧ Rp K θ H y dy ∧ PostG K cl (Rp K) W Q σ θ H (g dx dy M)
theorem OpR.imp {f : Value → Value → Sem Value} {r r' : R2} (h : OpR X f r) (k : ∀ x y H Q, r' x y H Q → r x y H Q) : OpR X f r' := fun pins s σ H x y v u Q I rx ry q => h pins s σ H x y v u Q I rx ry (k x y H Q q)
theorem RpA.flat_rep {K : PySem.W.Frag} {vs : List V} {xs : List D} (h : RpA K θ H vs xs) : ∀ k : Nat, RpA K θ H (List.replicate k vs).flatten (List.replicate k xs).flatten
  | 0 => .nil
  | k + 1 => by
    rw [List.replicate_succ, List.replicate_succ, List.flatten_cons, List.flatten_cons]
    exact h.app (RpA.flat_rep h k)
theorem op_D (σ : L2.St) (op : Operator) : OpR X (binaryOp op) (opR X.K cl W σ (opD op)) := by
  intro pins s σ' H x y v u Q I rx ry q
  obtain ⟨θ, M, dx, dy, r, px, py, q⟩ := q
  unfold opD at q
  split at q
  · cases px; cases py
    exact op_add pins s σ' H _ _ v u Q I rx ry ⟨_, _, rfl, rfl, q.ok_ r (.int _)⟩
  · cases px; cases py
    split at q
    · rename_i hl
      exact op_add_str pins s σ' H _ _ v u Q I rx ry ⟨_, _, rfl, rfl, line_ok hl, q.ok_ r (.str _)⟩
    · exact q.elim
  · cases px; cases py
    rename_i a vs h1 h2 b ws g1 g2
    split at q
    · rename_i hl
      refine op_catA pins s σ' H _ _ v u Q I rx ry ⟨_, _, _, _, rfl, rfl, h1, g1, line_ok (by rw [h2.length, g2.length]; exact hl), fun e => ?_, fun _ e => ?_, fun _ _ p hp => ?_⟩
      · have e' := (h2.nil_iff).mp e
        subst e'
        exact q.ok_ r (.tup g1 g2)
      · have e' := (g2.nil_iff).mp e
        subst e'
        exact q.ok_ r (.tup h1 (by simpa using h2))
      · have ex : Ext X.K θ H θ (upd H p (.tup (vs ++ ws))) := Ext.upd (Free.none hp)
        exact q θ _ _ ex (r.keep hp) (.tup (SqT.of upd_same) ((h2.app g2).ext ex))
    · exact q.elim
  · cases px; cases py
    rename_i a g1 b g2
    split at q
    · rename_i e1 e2
      obtain ⟨vs, h1, h2⟩ := lst_at r g1 e1
      obtain ⟨ws, h3, h4⟩ := lst_at r g2 e2
      have z := newL_ok r (h2.app h4) q
      exact op_cat pins s σ' H _ _ v u Q I rx ry ⟨_, _, _, _, rfl, rfl, h1, h3, by rw [← List.length_append]; exact z.1, z.2⟩
    · exact q.elim
  · cases px; cases py
    exact op_sub pins s σ' H _ _ v u Q I rx ry ⟨_, _, rfl, rfl, q.ok_ r (.int _)⟩
  · cases px; cases py
    split at q
    · rename_i hl
      refine op_mul pins s σ' H _ _ v u Q I rx ry ⟨_, _, rfl, rfl, ?_, q.ok_ r (.int _)⟩
      unfold mulOk at hl
      simp only [Bool.or_eq_true, decide_eq_true_eq] at hl
      exact hl
    · exact q.elim
  · cases px; cases py
    rename_i a g1
    split at q
    · rename_i e1
      split at q
      · rename_i hk
        obtain ⟨vs, h1, h2⟩ := lst_at r g1 e1
        have z := newL_ok r (h2.flat_rep _) q
        refine op_rep pins s σ' H _ _ v u Q I rx ry ⟨_, _, _, rfl, rfl, h1, by omega, by omega, ?_, z.2⟩
        have z1 := z.1
        rw [List.length_flatten, List.map_replicate, List.sum_replicate_nat, Nat.mul_comm] at z1
        exact z1
      · exact q.elim
    · exact q.elim
  · cases px; cases py
    split at q
    · rename_i hl
      exact op_fdivW pins s σ' H _ _ v u Q I rx ry ⟨_, _, rfl, rfl, hl, q.ok_ r (.int _)⟩
    · exact q.elim
  · cases px; cases py
    split at q
    · rename_i hl
      exact op_mod pins s σ' H _ _ v u Q I rx ry ⟨_, _, rfl, rfl, hl, q.ok_ r (.int _)⟩
    · exact q.elim
  · cases px; cases py
    split at q
    · rename_i hl
      exact op_pow pins s σ' H _ _ v u Q I rx ry ⟨_, _, rfl, rfl, hl, q.ok_ r (.int _)⟩
    · exact q.elim
  · exact q.elim
end
end RI

namespace RI
open PySem PySem.Spec PyProof.Rows L2

/-! ### comparisons on data -/
def isNonD : D → Bool
  | .non => true
  | _ => false
def flatD : D → Bool
  | .non | .bl _ | .int _ | .str _ => true
  | _ => false
def vOf : D → V
  | .bl b => .bl b
  | .int i => .int i
  | .str x => .str x
  | _ => .non
def seqD (M : Store) : D → Option (List D)
  | .tup xs => some xs
  | .ob k => readAt M k
  | _ => none
def blO (b : Bool) (M : Store) : Out D := .ok (.bl b) M
def cmpD (op : CmpOp) (x y : D) (M : Store) : Out D := match op with
  | .Eq => match x, y with
    | .str a, .str b => blO (decide (a = b)) M
    | x, y => match toPy 8 M x, toPy 8 M y with
      | some p, some q => if SeqAt.shaped p && SeqAt.shaped q then blO (PyData.eqv p q) M else .no
      | _, _ => .no
  | .NotEq => match x, y with
    | .str a, .str b => blO (!decide (a = b)) M
    | x, y => match toPy 8 M x, toPy 8 M y with
      | some p, some q => if SeqAt.shaped p && SeqAt.shaped q then blO (!PyData.eqv p q) M else .no
      | _, _ => .no
  | .Lt => match x, y with
    | .int i, .int j => blO (decide (i < j)) M
    | _, _ => .no
  | .LtE => match x, y with
    | .int i, .int j => blO (decide (i ≤ j)) M
    | _, _ => .no
  | .Gt => match x, y with
    | .int i, .int j => blO (decide (j < i)) M
    | _, _ => .no
  | .GtE => match x, y with
    | .int i, .int j => blO (decide (j ≤ i)) M
    | _, _ => .no
  | .Is => match y with
    | .non => blO (isNonD x) M
    | _ => .no
  | .IsNot => match y with
    | .non => blO (!isNonD x) M
    | _ => .no
  | .In => match seqD M y with
    | some ds => if flatD x && ds.all flatD then blO (inV (vOf x) (ds.map vOf)) M else .no
    | none => .no
  | .NotIn => match seqD M y with
    | some ds => if flatD x && ds.all flatD then blO (!inV (vOf x) (ds.map vOf)) M else .no
    | none => .no

section
variable {X : Cx} {cl : ClsA} {W : WX} {σ : L2.St} {θ : List Addr} {H : Hp} {M : Store} {Q : VK} {K : PySem.W.Frag}
theorem Rp.flat {v : V} {d : D} (h : Rp K θ H v d) (f : flatD d = true) : v = vOf d ∧ flatV v = true := by
  cases h with
  | tup _ _ => simp [flatD] at f
  | ob _ => simp [flatD] at f
  | _ => exact ⟨rfl, rfl⟩
theorem RpA.flat : ∀ {vs : List V} {ds : List D}, RpA K θ H vs ds → ds.all flatD = true → vs = ds.map vOf ∧ vs.all flatV = true
  | _, _, .nil, _ => ⟨rfl, rfl⟩
  | _, _, .cons r t, f => by
    rw [List.all_cons, Bool.and_eq_true] at f
    obtain ⟨e1, e2⟩ := r.flat f.1
    obtain ⟨e3, e4⟩ := RpA.flat t f.2
    refine ⟨by rw [List.map_cons, ← e1, ← e3], ?_⟩
    rw [List.all_cons, e2, e4] <;> rfl
theorem Rp.non_iff {v : V} {d : D} (h : Rp K θ H v d) : decide (v = .non) = isNonD d := by
  cases h <;> rfl
theorem seq_at (r : Rep K cl θ H M) {v : V} {d : D} {ds : List D} (h : Rp K θ H v d) (e : seqD M d = some ds) : ∃ a vs, v = .ref a ∧ (SqL K H a vs ∨ SqT K H a vs) ∧ RpA K θ H vs ds := by
  cases h with
  | tup h1 h2 =>
    simp [seqD] at e
    subst e
    exact ⟨_, _, rfl, .inr h1, h2⟩
  | ob h1 =>
    obtain ⟨o, ho, hr⟩ := r.atn h1
    simp only [seqD, readAt, ho] at e
    cases o with
    | lst ds' =>
      simp at e
      subst e
      obtain ⟨vs, h3, h4⟩ := hr
      exact ⟨_, vs, rfl, .inl (SqL.of h3), h4⟩
    | frl ds' =>
      simp at e
      subst e
      obtain ⟨o, vs, h3, h4⟩ := hr
      exact ⟨_, vs, rfl, .inl (.inl (.inr ⟨_, h3⟩)), h4⟩
    | _ => simp at e
  | _ => simp [seqD] at e
theorem dec_strV {i j : Str} : decide (V.str i = V.str j) = decide (i = j) := by
  rw [Bool.eq_iff_iff]
  simp
theorem op_C (σ : L2.St) (op : CmpOp) (hu : X.A.units + 64 < cLine) : OpR X (compareOp op) (opR X.K cl W σ (cmpD op)) := by
  intro pins s σ' H x y v u Q I rx ry q
  obtain ⟨θ, M, dx, dy, r, px, py, q⟩ := q
  cases op with
  | Eq =>
    simp only [cmpD] at q
    split at q
    · cases px; cases py
      exact op_eq pins s σ' H _ _ v u Q I rx ry ⟨rfl, by rw [dec_strV]; exact q.ok_ r (.bl _)⟩
    split at q
    · rename_i p p' e1 e2
      split at q
      · rename_i hs
        rw [Bool.and_eq_true] at hs
        exact op_eqD hu pins s σ' H _ _ v u Q I rx ry ⟨p, p', dp_of r 8 px e1, dp_of r 8 py e2, hs.1, hs.2, q.ok_ r (.bl _)⟩
      · exact q.elim
    · exact q.elim
  | NotEq =>
    simp only [cmpD] at q
    split at q
    · cases px; cases py
      exact op_ne pins s σ' H _ _ v u Q I rx ry ⟨rfl, by rw [dec_strV]; exact q.ok_ r (.bl _)⟩
    split at q
    · rename_i p p' e1 e2
      split at q
      · rename_i hs
        rw [Bool.and_eq_true] at hs
        exact op_neD hu pins s σ' H _ _ v u Q I rx ry ⟨p, p', dp_of r 8 px e1, dp_of r 8 py e2, hs.1, hs.2, q.ok_ r (.bl _)⟩
      · exact q.elim
    · exact q.elim
  | Lt =>
    simp only [cmpD] at q
    split at q
    · cases px; cases py
      exact op_lt pins s σ' H _ _ v u Q I rx ry ⟨_, _, rfl, rfl, q.ok_ r (.bl _)⟩
    · exact q.elim
  | LtE =>
    simp only [cmpD] at q
    split at q
    · cases px; cases py
      exact op_le pins s σ' H _ _ v u Q I rx ry ⟨_, _, rfl, rfl, q.ok_ r (.bl _)⟩
    · exact q.elim
  | Gt =>
    simp only [cmpD] at q
    split at q
    · cases px; cases py
      exact op_gt pins s σ' H _ _ v u Q I rx ry ⟨_, _, rfl, rfl, q.ok_ r (.bl _)⟩
    · exact q.elim
  | GtE =>
    simp only [cmpD] at q
    split at q
    · cases px; cases py
      exact op_ge pins s σ' H _ _ v u Q I rx ry ⟨_, _, rfl, rfl, q.ok_ r (.bl _)⟩
    · exact q.elim
  | Is =>
    simp only [cmpD] at q
    split at q
    · cases py
      refine op_isN pins s σ' H _ _ v u Q I rx ry ⟨rfl, ?_⟩
      rw [px.non_iff]
      exact q.ok_ r (.bl _)
    · exact q.elim
  | IsNot =>
    simp only [cmpD] at q
    split at q
    · cases py
      refine op_notN pins s σ' H _ _ v u Q I rx ry ⟨rfl, ?_⟩
      rw [px.non_iff]
      exact q.ok_ r (.bl _)
    · exact q.elim
  | In =>
    simp only [cmpD] at q
    split at q
    · rename_i ds e
      split at q
      · rename_i hf
        rw [Bool.and_eq_true] at hf
        obtain ⟨a, vs, rfl, hs, ha⟩ := seq_at r py e
        obtain ⟨e1, e2⟩ := px.flat hf.1
        obtain ⟨e3, e4⟩ := ha.flat hf.2
        refine op_in_seq pins s σ' H _ _ v u Q I rx ry ⟨a, vs, rfl, hs, e2, e4, ?_⟩
        have z := q.ok_ r (.bl _)
        rw [← e1, ← e3] at z
        exact z
      · exact q.elim
    · exact q.elim
  | NotIn =>
    simp only [cmpD] at q
    split at q
    · rename_i ds e
      split at q
      · rename_i hf
        rw [Bool.and_eq_true] at hf
        obtain ⟨a, vs, rfl, hs, ha⟩ := seq_at r py e
        obtain ⟨e1, e2⟩ := px.flat hf.1
        obtain ⟨e3, e4⟩ := ha.flat hf.2
        refine op_notIn_seq pins s σ' H _ _ v u Q I rx ry ⟨a, vs, rfl, hs, e2, e4, ?_⟩
        have z := q.ok_ r (.bl _)
        rw [← e1, ← e3] at z
        exact z
      · exact q.elim
    · exact q.elim
end

/-! ### subscripts on data -/
def keyOf : D → Option Key
  | .int i => some (.inl i)
  | .str x => some (.inr x)
  | _ => none
def dctAt (M : Store) (k : Nat) : Option (List (Key × D)) := match M[k]? with
  | some (.dct kvs) => some kvs
  | _ => none
def valD (kvs : List (Key × D)) (k : Key) : Option D := (kvs.find? fun kv => decide (kv.1 = k)).map (·.2)
def ixD (x y : D) (M : Store) : Out D := match seqD M x, y with
  | some ds, .int i => Out.of (atI ds i) M
  | _, _ => match x, keyOf y with
    | .ob k, some key => match dctAt M k with
      | some kvs => Out.of (valD kvs key) M
      | none => .no
    | _, _ => .no
def cutD (ds : List D) (lo hi : Option Int) : List D := (ds.drop (HT.sIx ds.length 0 lo)).take (HT.sIx ds.length ds.length hi - HT.sIx ds.length 0 lo)
def slD (x : D) (lo hi : Option Int) (M : Store) : Out D := match x with
  | .tup ds => .ok (.tup (cutD ds lo hi)) M
  | .ob k => match readAt M k with
    | some ds => newL (cutD ds lo hi) M
    | none => .no
  | _ => .no
def revD (x : D) (M : Store) : Out D := match x with
  | .ob k => match readAt M k with
    | some ds => newL ds.reverse M
    | none => .no
  | .tup ds => .ok (.tup ds.reverse) M
  | _ => .no

section
variable {X : Cx} {cl : ClsA} {W : WX} {σ : L2.St} {θ : List Addr} {H : Hp} {M : Store} {Q : VK} {K : PySem.W.Frag}
theorem RpA.atI {vs : List V} {ds : List D} (h : RpA K θ H vs ds) {i : Int} {d : D} (e : atI ds i = some d) : ∃ v, L2.atI vs i = some v ∧ Rp K θ H v d := by
  unfold L2.atI at e ⊢
  rw [h.length]
  cases q : ixN ds.length i with
  | none => rw [q] at e; simp at e
  | some j =>
    rw [q] at e
    simp only [Option.bind_some] at e ⊢
    exact h.get e
theorem RpK.val : ∀ {ws : List (Key × V)} {kvs : List (Key × D)}, RpK K θ H ws kvs → ∀ {k : Key} {d : D}, valD kvs k = some d → ∃ v, valV ws k = some v ∧ Rp K θ H v d
  | _, _, .nil, k, d, e => by simp [valD] at e
  | _, _, .cons (k := k0) r t, k, d, e => by
    by_cases hk : k0 = k
    · subst hk
      simp [valD] at e
      subst e
      exact ⟨_, valV_pos rfl, r⟩
    · unfold valD at e
      rw [List.find?_cons_of_neg (by simpa using hk)] at e
      obtain ⟨v, h1, h2⟩ := RpK.val t (k := k) (d := d) e
      exact ⟨v, by rw [valV_neg hk]; exact h1, h2⟩
theorem dct_at (r : Rep K cl θ H M) {a : Addr} {k : Nat} {kvs : List (Key × D)} (h : θ[k]? = some a) (e : dctAt M k = some kvs) : ∃ ws, H a = some (.dK ws) ∧ RpK K θ H ws kvs := by
  obtain ⟨o, ho, hr⟩ := r.atn h
  unfold dctAt at e
  rw [ho] at e
  cases o with
  | dct ds =>
    simp at e
    subst e
    exact hr
  | _ => simp at e
/-- a dict's item, by values -/
def rIxDK : R2 := fun x y H Q => ∃ a v, x = .ref a ∧ DGet H a y (some v) ∧ Q v H
theorem ix_dK (hu : X.A.units + 1 < cLine) : IxR X rIxDK := by
  intro value slice pins s σ H x y v u Q I rx ry h hs
  obtain ⟨a, w', rfl, g, q⟩ := h
  cases (show v = Value.ref a from rx)
  exact tail_any (dict_typeIs I g) slot_dict_getitem.lookup (d_getItem hu I g ry fun w2 s' I' r' => ⟨w', H, I', r', q⟩) hs
theorem ix_D (σ : L2.St) (hu : X.A.units + 1 < cLine) : IxR X (opR X.K cl W σ ixD) := by
  intro value slice pins s σ' H x y v u Q I rx ry q hs
  obtain ⟨θ, M, dx, dy, r, px, py, q⟩ := q
  unfold ixD at q
  split at q
  · rename_i ds i e
    cases py
    obtain ⟨a, vs, rfl, hq, ha⟩ := seq_at r px e
    cases h : atI ds i with
    | none => rw [h] at q; exact q.elim
    | some d =>
      rw [h] at q
      obtain ⟨v', h1, h2⟩ := ha.atI h
      rcases hq with hq | hq
      · exact ix_list value slice pins s σ' H _ _ v u Q I rx ry ⟨a, vs, _, v', rfl, rfl, hq, h1, q.ok_ r h2⟩ hs
      · exact ix_tup value slice pins s σ' H _ _ v u Q I rx ry ⟨a, vs, _, v', rfl, rfl, hq, h1, q.ok_ r h2⟩ hs
  · split at q
    · rename_i k key hk hz
      split at q
      · rename_i kvs e
        cases px with
        | ob h1 =>
          obtain ⟨ws, h2, h3⟩ := dct_at r h1 e
          cases hv : valD kvs key with
          | none => rw [hv] at q; exact q.elim
          | some d =>
            rw [hv] at q
            obtain ⟨v', h4, h5⟩ := h3.val hv
            have ey : y = kV key := by
              cases py <;> simp [keyOf] at hk <;> (subst hk; rfl)
            subst ey
            exact ix_dK hu value slice pins s σ' H _ _ v u Q I rx ry ⟨_, v', rfl, by have g := DGet.k (k := key) h2; rw [h4] at g; exact g, q.ok_ r h5⟩ hs
      · exact q.elim
    · exact q.elim

theorem cut_D {K : PySem.W.Frag} {vs : List V} {ds : List D} (h : RpA K θ H vs ds) (lo hi : Option Int) : RpA K θ H (cutV vs lo hi) (cutD ds lo hi) := by
  unfold cutV cutD
  rw [h.length]
  exact RpA.take _ (RpA.drop _ h)
theorem cutD_len (ds : List D) (lo hi : Option Int) : (cutD ds lo hi).length ≤ ds.length := by
  unfold cutD
  rw [List.length_take, List.length_drop]
  omega
/-- a slice's reading over data -/
def slR (K : PySem.W.Frag) (cl : ClsA) (W : WX) (σ : L2.St) : V → Option Int → Option Int → Hp → VK → Prop := fun x lo hi H Q =>
  ∃ θ M dx, Rep K cl θ H M ∧ Rp K θ H x dx ∧ PostG K cl (Rp K) W Q σ θ H (slD dx lo hi M)
theorem SlR.imp {r r' : V → Option Int → Option Int → Hp → VK → Prop} (h : SlR X r) (k : ∀ x lo hi H Q, r' x lo hi H Q → r x lo hi H Q) : SlR X r' := fun pins s σ H x v vl vu lo hi sl Q I rx h1 h2 h3 q => h pins s σ H x v vl vu lo hi sl Q I rx h1 h2 h3 (k x lo hi H Q q)
theorem sl_D (σ : L2.St) : SlR X (slR X.K cl W σ) := by
  refine SlR.imp (sl_list.or sl_tupA) fun x lo hi H Q q => ?_
  obtain ⟨θ, M, dx, r, px, q⟩ := q
  unfold slD at q
  split at q
  · cases px
    rename_i a vs h1 h2
    refine .inr ⟨_, _, rfl, h1, fun e => ?_, fun e p hp => ?_⟩
    · refine q.ok_ r (.tup h1 ?_)
      have z := cut_D h2 lo hi
      have e2 : cutV vs lo hi = vs := by
        unfold cutV
        rw [e.1, e.2]
        simp
      rw [e2] at z
      exact z
    · have ex : Ext X.K θ H θ (upd H p (.tup (cutV vs lo hi))) := Ext.upd (Free.none hp)
      exact q θ _ _ ex (r.keep hp) (.tup (SqT.of upd_same) ((cut_D h2 lo hi).ext ex))
  · cases px
    rename_i a h1
    split at q
    · rename_i ds e
      obtain ⟨vs, h2, h3⟩ := read_at r h1 e
      exact .inl ⟨_, _, rfl, h2, (newL_ok r (cut_D h3 lo hi) q).2⟩
    · exact q.elim
  · exact q.elim

/-! ### the rules -/
variable {a b c : Expr} {es : List Expr} {fa fb fc : Den D} {fs : Den (List D)} {pos : Pos}
abbrev RD (X : Cx) (cl : ClsA) (W : WX) (e : Expr) (f : Den D) : Prop := PE X e (rd cl W X.K f)
abbrev RT (X : Cx) (cl : ClsA) (W : WX) (e : Expr) (f : Den Bool) : Prop := PT X e (rdT cl W X.K f)
abbrev RA (X : Cx) (cl : ClsA) (W : WX) (es : List Expr) (f : Den (List D)) : Prop := PA X es (rdA cl W X.K f)

theorem rd_no : RD X cl W a (fun _ _ => .no) := ⟨fun _ _ _ _ _ _ q => by
  obtain ⟨_, _, _, _, _, q⟩ := q
  exact q.elim⟩
theorem rt_no : RT X cl W a (fun _ _ => .no) := ⟨fun _ _ _ _ _ _ q => by
  obtain ⟨_, _, _, _, _, q⟩ := q
  exact q.elim⟩
theorem ra_no : RA X cl W es (fun _ _ => .no) := ⟨fun _ _ _ _ _ _ _ q => by
  obtain ⟨_, _, _, _, _, q⟩ := q
  exact q.elim⟩
/-- a constant that is flat -/
theorem rd_c {v : V} {d : D} (h : PE X a (tC v)) (k : ∀ θ H, Rp X.K θ H v d) : RD X cl W a (fun _ M => .ok d M) := PE.imp h fun σ H Q q => by
  obtain ⟨θ, ρ, M, hE, r, q⟩ := q
  exact q.ok_ r (k θ H)
theorem rd_var {i : Nat} {x : Str} (hN : X.N[i]? = some x) (hv : Vis X.env.scope x) (hd : (x == ("__debug__" : Str)) = false) (hcd : (x == ("__classdict__" : Str)) = false) :
    RD X cl W (.Name x pos) (fun ρ M => Out.of (ρ[i]?).join M) := PE.imp (pe_var hN hv hd hcd) fun σ H Q q => by
  obtain ⟨θ, ρ, M, hE, r, q⟩ := q
  dsimp only at q
  cases e : (ρ[i]?).join with
  | none => rw [e] at q; exact q.elim
  | some d =>
    rw [e] at q
    have e2 : ρ[i]? = some (some d) := by
      cases h : ρ[i]? with
      | none => rw [h] at e; simp at e
      | some o => rw [h] at e; simp at e; rw [e]
    obtain ⟨v, h1, h2⟩ := hE.at_ i d e2
    exact ⟨v, h1, q.ok_ r h2⟩
/-- two expressions, then an operation by values -/
def den2 (fa fb : Den D) (g : D → D → Store → Out D) : Den D := fun ρ M => (fa ρ M).bind fun x M => (fb ρ M).bind fun y M => g x y M
theorem rd_two {ro : R2} {g : D → D → Store → Out D} {σ : L2.St} {H : Hp} {Q : VK} (hr : ∀ x y H Q, opR X.K cl W σ g x y H Q → ro x y H Q) (q : rd cl W X.K (den2 fa fb g) σ H Q) : tOp ro (rd cl W X.K fa) (rd cl W X.K fb) σ H Q := by
  obtain ⟨θ, ρ, M, hE, r, q⟩ := q
  refine ⟨θ, ρ, M, hE, r, q.bind fun x M1 θ1 H1 v e1 r1 p1 q1 => ?_⟩
  refine ⟨θ1, ρ, M1, hE.ext e1, r1, q1.bind fun y M2 θ2 H2 v2 e2 r2 p2 q2 => ?_⟩
  exact hr _ _ _ _ ⟨θ2, M2, x, y, r2, p1.ext e2, p2, q2⟩
theorem rd_bin (op : Operator) (ha : RD X cl W a fa) (hb : RD X cl W b fb) : RD X cl W (.BinOp a op b pos) (den2 fa fb (opD op)) :=
  ⟨fun pins s σ H Q I q => (pe_op (op_D (cl := cl) (W := W) σ op) ha hb).run pins s σ H Q I (rd_two (fun x y H Q h => h) q)⟩
theorem rd_cmp (op : CmpOp) (hu : X.A.units + 64 < cLine) (hm : behindInMarks op b = false) (ha : RD X cl W a fa) (hb : RD X cl W b fb) : RD X cl W (.Compare a [op] [b] pos) (den2 fa fb (cmpD op)) :=
  ⟨fun pins s σ H Q I q => (pe_cmpR (op_C (cl := cl) (W := W) σ op hu) ha hb hm).run pins s σ H Q I (rd_two (fun x y H Q h => h) q)⟩
/-- a value as a test -/
def asB (f : Den D) : Den Bool := fun ρ M => (f ρ M).bind fun d M => match d with
  | .bl b => .ok b M
  | _ => .no
theorem rdT_of {t : TE} {f : Den D} {σ : L2.St} {H : Hp} {Q : Bool → Hp → Prop} (h : ∀ Q : VK, rd cl W X.K f σ H Q → t σ H Q) (q : rdT cl W X.K (asB f) σ H Q) : t σ H fun x H' => ∃ k, x = .bl k ∧ Q k H' := by
  refine h _ ?_
  obtain ⟨θ, ρ, M, hE, r, q⟩ := q
  refine ⟨θ, ρ, M, hE, r, q.bind fun x M1 θ1 H1 v e1 r1 p1 q1 => ?_⟩
  cases p1 with
  | bl b => exact ⟨b, rfl, q1.ok_ r1 rfl⟩
  | _ => exact q1.elim
theorem rt_cmp (op : CmpOp) (hu : X.A.units + 64 < cLine) (hm : behindInMarks op b = false) (ha : RD X cl W a fa) (hb : RD X cl W b fb) : RT X cl W (.Compare a [op] [b] pos) (asB (den2 fa fb (cmpD op))) :=
  ⟨fun pins s σ H Q I q => (pt_cmpR (op_C (cl := cl) (W := W) σ op hu) ha hb hm).run pins s σ H Q I (rdT_of (t := tOp (opR X.K cl W σ (cmpD op)) (rd cl W X.K fa) (rd cl W X.K fb)) (fun Q q => rd_two (fun x y H Q h => h) q) q)⟩
/-- a < b < c -/
def den3 (fa fb fc : Den D) (op op' : CmpOp) : Den D := fun ρ M => (fa ρ M).bind fun x M => (fb ρ M).bind fun y M => (cmpD op x y M).bind fun k M => match k with
  | .bl true => (fc ρ M).bind fun z M => cmpD op' y z M
  | .bl false => .ok (.bl false) M
  | _ => .no
theorem rd_three {op op' : CmpOp} {σ : L2.St} {H : Hp} {Q : VK} (q : rd cl W X.K (den3 fa fb fc op op') σ H Q) : tChain (opR X.K cl W σ (cmpD op)) (opR X.K cl W σ (cmpD op')) (rd cl W X.K fa) (rd cl W X.K fb) (rd cl W X.K fc) σ H Q := by
  obtain ⟨θ, ρ, M, hE, r, q⟩ := q
  refine ⟨θ, ρ, M, hE, r, q.bind fun x M1 θ1 H1 v e1 r1 p1 q1 => ?_⟩
  refine ⟨θ1, ρ, M1, hE.ext e1, r1, q1.bind fun y M2 θ2 H2 v2 e2 r2 p2 q2 => ?_⟩
  refine ⟨θ2, M2, x, y, r2, p1.ext e2, p2, q2.bind fun k M3 θ3 H3 v3 e3 r3 p3 q3 => ?_⟩
  cases p3 with
  | bl b =>
    refine ⟨b, rfl, ?_⟩
    cases b with
    | true =>
      refine iteT ⟨θ3, ρ, M3, hE.ext (e1.trans (e2.trans e3)), r3, PostG.bind q3 fun z M4 θ4 H4 v4 e4 r4 p4 q4 => ?_⟩
      exact ⟨θ4, M4, y, z, r4, p2.ext (e3.trans e4), p4, q4⟩
    | false => exact iteF (PostG.ok_ q3 r3 (.bl false))
  | _ => exact q3.elim
theorem rd_chain (op op' : CmpOp) (hu : X.A.units + 64 < cLine) (hm : lastMarks [op, op'] [b, c] = false) (ha : RD X cl W a fa) (hb : RD X cl W b fb) (hc : RD X cl W c fc) : RD X cl W (.Compare a [op, op'] [b, c] pos) (den3 fa fb fc op op') :=
  ⟨fun pins s σ H Q I q => (pe_chain (op_C (cl := cl) (W := W) σ op hu) (op_C (cl := cl) (W := W) σ op' hu) ha hb hc hm).run pins s σ H Q I (rd_three q)⟩
theorem rt_chain (op op' : CmpOp) (hu : X.A.units + 64 < cLine) (hm : lastMarks [op, op'] [b, c] = false) (ha : RD X cl W a fa) (hb : RD X cl W b fb) (hc : RD X cl W c fc) : RT X cl W (.Compare a [op, op'] [b, c] pos) (asB (den3 fa fb fc op op')) :=
  ⟨fun pins s σ H Q I q => (pt_chain (op_C (cl := cl) (W := W) σ op hu) (op_C (cl := cl) (W := W) σ op' hu) ha hb hc hm).run pins s σ H Q I (rdT_of (t := tChain (opR X.K cl W σ (cmpD op)) (opR X.K cl W σ (cmpD op')) (rd cl W X.K fa) (rd cl W X.K fb) (rd cl W X.K fc)) (fun Q q => rd_three q) q)⟩
theorem rt_val (ha : RD X cl W a fa) (he : ∀ whole, isTrue a X.env whole = (do let v ← whole; standAt a.pos; holding [v] (truthy v))) : RT X cl W a (asB fa) :=
  ⟨fun pins s σ H Q I q => (pt_val ha he).run pins s σ H Q I (rdT_of (t := rd cl W X.K fa) (fun Q q => q) q)⟩

/-! ### and, or, not, if -/
def denAnd (fa fb : Den Bool) : Den Bool := fun ρ M => (fa ρ M).bind fun k M => if k then fb ρ M else .ok false M
def denOr (fa fb : Den Bool) : Den Bool := fun ρ M => (fa ρ M).bind fun k M => if k then .ok true M else fb ρ M
def denNot (fa : Den Bool) : Den Bool := fun ρ M => (fa ρ M).bind fun k M => .ok (!k) M
variable {ga gb : Den Bool} {rest : List Expr}
abbrev RW (X : Cx) (cl : ClsA) (W : WX) (e : Expr) (f : Den Bool) : Prop := PW X e (rdT cl W X.K f)
theorem PW.imp' {X : Cx} {e : Expr} {t t' : TT} (h : PW X e t) (k : ∀ σ H Q, t' σ H Q → t σ H Q) : PW X e t' := ⟨fun wh pins s σ H Q I q => h.run wh pins s σ H Q I (k σ H Q q)⟩
theorem rw_and (ha : RT X cl W a ga) (hb : RW X cl W (.BoolOp .And (b :: rest) pos) gb) : RW X cl W (.BoolOp .And (a :: b :: rest) pos) (denAnd ga gb) := PW.imp' (pw_and ha hb) fun σ H Q q => by
  obtain ⟨θ, ρ, M, hE, r, q⟩ := q
  refine ⟨θ, ρ, M, hE, r, q.bind fun x M1 θ1 H1 v e1 r1 p1 q1 => ?_⟩
  subst p1
  cases v with
  | true => exact iteT ⟨θ1, ρ, M1, hE.ext e1, r1, q1⟩
  | false => exact iteF (PostG.ok_ q1 r1 rfl)
theorem rw_or (ha : RT X cl W a ga) (hb : RW X cl W (.BoolOp .Or (b :: rest) pos) gb) : RW X cl W (.BoolOp .Or (a :: b :: rest) pos) (denOr ga gb) := PW.imp' (pw_or ha hb) fun σ H Q q => by
  obtain ⟨θ, ρ, M, hE, r, q⟩ := q
  refine ⟨θ, ρ, M, hE, r, q.bind fun x M1 θ1 H1 v e1 r1 p1 q1 => ?_⟩
  subst p1
  cases v with
  | true => exact iteT (PostG.ok_ q1 r1 rfl)
  | false => exact iteF ⟨θ1, ρ, M1, hE.ext e1, r1, q1⟩
theorem rt_not (ha : RT X cl W a ga) : RT X cl W (.UnaryOp .Not a pos) (denNot ga) := PT.imp (pt_not ha) fun σ H Q q => by
  obtain ⟨θ, ρ, M, hE, r, q⟩ := q
  refine ⟨θ, ρ, M, hE, r, q.bind fun x M1 θ1 H1 v e1 r1 p1 q1 => ?_⟩
  subst p1
  exact PostG.ok_ q1 r1 rfl
/-- as values: all but the last a bool -/
def denAndV (fa fb : Den D) : Den D := fun ρ M => (fa ρ M).bind fun k M => match k with
  | .bl true => fb ρ M
  | .bl false => .ok (.bl false) M
  | _ => .no
def denOrV (fa fb : Den D) : Den D := fun ρ M => (fa ρ M).bind fun k M => match k with
  | .bl true => .ok (.bl true) M
  | .bl false => fb ρ M
  | _ => .no
def denNotV (fa : Den D) : Den D := fun ρ M => (fa ρ M).bind fun k M => match k with
  | .bl b => .ok (.bl (!b)) M
  | _ => .no
def denIf (g : Den Bool) (fa fb : Den D) : Den D := fun ρ M => (g ρ M).bind fun k M => if k then fa ρ M else fb ρ M
theorem rd_and (ha : RD X cl W a fa) (hb : RD X cl W (.BoolOp .And (b :: rest) pos) fb) : RD X cl W (.BoolOp .And (a :: b :: rest) pos) (denAndV fa fb) := PE.imp (pe_and ha hb) fun σ H Q q => by
  obtain ⟨θ, ρ, M, hE, r, q⟩ := q
  refine ⟨θ, ρ, M, hE, r, q.bind fun x M1 θ1 H1 v e1 r1 p1 q1 => ?_⟩
  cases p1 with
  | bl k =>
    refine ⟨k, rfl, ?_⟩
    cases k with
    | true => exact iteT ⟨θ1, ρ, M1, hE.ext e1, r1, q1⟩
    | false => exact iteF (PostG.ok_ q1 r1 (.bl false))
  | _ => exact q1.elim
theorem rd_or (ha : RD X cl W a fa) (hb : RD X cl W (.BoolOp .Or (b :: rest) pos) fb) : RD X cl W (.BoolOp .Or (a :: b :: rest) pos) (denOrV fa fb) := PE.imp (pe_or ha hb) fun σ H Q q => by
  obtain ⟨θ, ρ, M, hE, r, q⟩ := q
  refine ⟨θ, ρ, M, hE, r, q.bind fun x M1 θ1 H1 v e1 r1 p1 q1 => ?_⟩
  cases p1 with
  | bl k =>
    refine ⟨k, rfl, ?_⟩
    cases k with
    | true => exact iteT (PostG.ok_ q1 r1 (.bl true))
    | false => exact iteF ⟨θ1, ρ, M1, hE.ext e1, r1, q1⟩
  | _ => exact q1.elim
theorem rd_not (ha : RD X cl W a fa) : RD X cl W (.UnaryOp .Not a pos) (denNotV fa) := PE.imp (pe_not ha) fun σ H Q q => by
  obtain ⟨θ, ρ, M, hE, r, q⟩ := q
  refine ⟨θ, ρ, M, hE, r, q.bind fun x M1 θ1 H1 v e1 r1 p1 q1 => ?_⟩
  cases p1 with
  | bl k => exact ⟨k, rfl, PostG.ok_ q1 r1 (.bl _)⟩
  | _ => exact q1.elim
theorem rd_ifx (hc : RT X cl W c ga) (ha : RD X cl W a fa) (hb : RD X cl W b fb) : RD X cl W (.IfExp c a b pos) (denIf ga fa fb) := PE.imp (pe_ifExp hc ha hb) fun σ H Q q => by
  obtain ⟨θ, ρ, M, hE, r, q⟩ := q
  refine ⟨θ, ρ, M, hE, r, q.bind fun x M1 θ1 H1 v e1 r1 p1 q1 => ?_⟩
  subst p1
  cases v with
  | true => exact iteT ⟨θ1, ρ, M1, hE.ext e1, r1, q1⟩
  | false => exact iteF ⟨θ1, ρ, M1, hE.ext e1, r1, q1⟩
def denNeg (fa : Den D) : Den D := fun ρ M => (fa ρ M).bind fun k M => match k with
  | .int i => .ok (.int (-i)) M
  | _ => .no
theorem rd_neg (ha : RD X cl W a fa) : RD X cl W (.UnaryOp .USub a pos) (denNeg fa) := PE.imp (pe_un un_neg ha) fun σ H Q q => by
  obtain ⟨θ, ρ, M, hE, r, q⟩ := q
  refine ⟨θ, ρ, M, hE, r, q.bind fun x M1 θ1 H1 v e1 r1 p1 q1 => ?_⟩
  cases p1 with
  | int k => exact ⟨k, rfl, PostG.ok_ q1 r1 (.int _)⟩
  | _ => exact q1.elim

/-! ### lists of expressions, displays -/
def isStar : Expr → Bool
  | .Starred _ _ => true
  | _ => false
theorem star_one (e : Expr) (es : List Expr) (env : Env) (h : isStar e = false) : starEach (e :: es) env = (false, eval e env) :: starEach es env := by
  cases e <;> first | rfl | (simp [isStar] at h)
theorem star_no (pos : Pos) (env : Env) : ∀ es : List Expr, es.any isStar = false → (backTo pos (starEach es env)).any (·.1) = false
  | [], _ => rfl
  | e :: es, h => by
    rw [List.any_cons, Bool.or_eq_false_iff] at h
    rw [star_one e es env h.1]
    show (false || (backTo pos (starEach es env)).any (·.1)) = false
    rw [star_no pos env es h.2] <;> rfl
def denNil : Den (List D) := fun _ M => .ok [] M
def denCons (fa : Den D) (fs : Den (List D)) : Den (List D) := fun ρ M => (fa ρ M).bind fun x M => (fs ρ M).bind fun xs M => .ok (x :: xs) M
theorem ra_nil : RA X cl W [] denNil := PA.imp pa_nil fun σ H Q q => by
  obtain ⟨θ, ρ, M, hE, r, q⟩ := q
  exact PostG.ok_ q r .nil
theorem ra_cons (ha : RD X cl W a fa) (hs : isStar a = false) (hr : RA X cl W es fs) : RA X cl W (a :: es) (denCons fa fs) := PA.imp (pa_cons ha hr (star_one a es X.env hs)) fun σ H Q q => by
  obtain ⟨θ, ρ, M, hE, r, q⟩ := q
  refine ⟨θ, ρ, M, hE, r, q.bind fun x M1 θ1 H1 v e1 r1 p1 q1 => ?_⟩
  refine ⟨θ1, ρ, M1, hE.ext e1, r1, q1.bind fun xs M2 θ2 H2 vs e2 r2 p2 q2 => ?_⟩
  exact PostG.ok_ q2 r2 (.cons (p1.ext e2) p2)
def denTup (fs : Den (List D)) : Den D := fun ρ M => (fs ρ M).bind fun xs M => if xs.length ≤ line then .ok (.tup xs) M else .no
def denLst (fs : Den (List D)) : Den D := fun ρ M => (fs ρ M).bind fun xs M => newL xs M
/-- a new tuple of xs -/
theorem newT_ok {K : PySem.W.Frag} (r : Rep K cl θ H M) {vs : List V} {xs : List D} (hx : RpA K θ H vs xs) (h : PostG K cl (Rp K) W Q σ θ H (.ok (.tup xs) M)) {p : Addr} (hp : H p = none) : Q (.ref p) (upd H p (.tup vs)) := by
  have ex : Ext K θ H θ (upd H p (.tup vs)) := Ext.upd (Free.none hp)
  exact h θ _ _ ex (r.keep hp) (.tup (SqT.of upd_same) (hx.ext ex))
theorem rd_tup {k : Nat} (h : RA X cl W es fs) : RD X cl W (.Tuple es k pos) (denTup fs) := PE.imp (pe_tup h) fun σ H Q q => by
  obtain ⟨θ, ρ, M, hE, r, q⟩ := q
  refine ⟨θ, ρ, M, hE, r, q.bind fun x M1 θ1 H1 v e1 r1 p1 q1 => ?_⟩
  split at q1
  · rename_i hl
    exact ⟨by rw [p1.length]; exact line_ok hl, fun p hp => newT_ok r1 p1 q1 hp⟩
  · exact q1.elim
theorem rd_lst (h : RA X cl W es fs) : RD X cl W (.List es pos) (denLst fs) := PE.imp (pe_lst h) fun σ H Q q => by
  obtain ⟨θ, ρ, M, hE, r, q⟩ := q
  refine ⟨θ, ρ, M, hE, r, q.bind fun x M1 θ1 H1 v e1 r1 p1 q1 => ?_⟩
  exact newL_ok r1 p1 q1

/-! ### subscripts -/
def isSlice : Expr → Bool
  | .Slice _ _ _ _ => true
  | _ => false
theorem plainIx (b : Expr) (h : isSlice b = false) : PlainIx b := fun o i => by
  cases b <;> first | rfl | (simp [isSlice] at h)
theorem rd_ix (hu : X.A.units + 1 < cLine) (hs : isSlice b = false) (ha : RD X cl W a fa) (hb : RD X cl W b fb) : RD X cl W (.Subscript a b pos) (den2 fa fb ixD) :=
  ⟨fun pins s σ H Q I q => (pe_ix (ix_D (cl := cl) (W := W) σ hu) ha hb (plainIx b hs)).run pins s σ H Q I (rd_two (fun x y H Q h => h) q)⟩
def denNoPart : Den (Option Int) := fun _ M => .ok none M
def denPart (fa : Den D) : Den (Option Int) := fun ρ M => (fa ρ M).bind fun d M => match d with
  | .int i => .ok (some i) M
  | _ => .no
abbrev RO (X : Cx) (cl : ClsA) (W : WX) (e : Option Expr) (f : Den (Option Int)) : Prop := PO X e (rdO cl W X.K f)
theorem PO.imp' {X : Cx} {e : Option Expr} {t t' : TO} (h : PO X e t) (k : ∀ σ H Q, t' σ H Q → t σ H Q) : PO X e t' := ⟨fun pins s σ H Q I q => h.run pins s σ H Q I (k σ H Q q)⟩
theorem ro_none : RO X cl W none denNoPart := PO.imp' po_none fun σ H Q q => by
  obtain ⟨θ, ρ, M, hE, r, q⟩ := q
  exact PostG.ok_ q r rfl
theorem ro_some (ha : RD X cl W a fa) : RO X cl W (some a) (denPart fa) := PO.imp' (po_some ha) fun σ H Q q => by
  obtain ⟨θ, ρ, M, hE, r, q⟩ := q
  refine ⟨θ, ρ, M, hE, r, q.bind fun x M1 θ1 H1 v e1 r1 p1 q1 => ?_⟩
  cases p1 with
  | int i => exact ⟨i, rfl, PostG.ok_ q1 r1 rfl⟩
  | _ => exact q1.elim
def denSl (fa : Den D) (fl fh : Den (Option Int)) : Den D := fun ρ M => (fa ρ M).bind fun x M => (fl ρ M).bind fun lo M => (fh ρ M).bind fun hi M => slD x lo hi M
theorem rd_sl {lo hi : Option Expr} {fl fh : Den (Option Int)} {p2 : Pos} (ha : RD X cl W a fa) (hl : RO X cl W lo fl) (hh : RO X cl W hi fh) : RD X cl W (.Subscript a (.Slice lo hi none p2) pos) (denSl fa fl fh) :=
  ⟨fun pins s σ H Q I q => (pe_slice (sl_D (cl := cl) (W := W) σ) ha hl hh).run pins s σ H Q I (by
    obtain ⟨θ, ρ, M, hE, r, q⟩ := q
    refine ⟨θ, ρ, M, hE, r, q.bind fun x M1 θ1 H1 v e1 r1 p1 q1 => ?_⟩
    refine ⟨θ1, ρ, M1, hE.ext e1, r1, q1.bind fun lo M2 θ2 H2 v2 e2 r2 p2 q2 => ?_⟩
    refine ⟨θ2, ρ, M2, hE.ext (e1.trans e2), r2, q2.bind fun hi M3 θ3 H3 v3 e3 r3 p3 q3 => ?_⟩
    subst p2
    subst p3
    exact ⟨θ3, M3, x, r3, p1.ext (e2.trans e3), q3⟩)⟩
end
end RI

/-! repr of data that may hold dicts -/
namespace RI
open PySem PySem.Spec PyProof.Rows L2

mutual
/-- what stands at v is d, and no dict of it is the table of modules -/
inductive Sh (h : Heap) : PyData → Value → Prop
  | non : Sh h .none .none
  | bl (b : Bool) : Sh h (.bool b) (.bool b)
  | int (i : Int) (t : Tok) : Sh h (.int i) (.int i t)
  | str (x : Str) (t : Tok) : Sh h (.str x) (.str x t)
  | list {a : Addr} {o : Obj} {l : List Value} {n : Nat} {ds : List PyData} (g : h.get? a = some o) (c : o.cls = .type "list") (q : o.data = .seq l.toArray n) (p : ShA h ds l) : Sh h (.list ds) (.ref a)
  | tuple {a : Addr} {o : Obj} {l : List Value} {n : Nat} {ds : List PyData} (g : h.get? a = some o) (c : o.cls = .type "tuple") (q : o.data = .seq l.toArray n) (p : ShA h ds l) : Sh h (.tuple ds) (.ref a)
  | dict {a : Addr} {o : Obj} {l : List DictEntry} {n : Nat} {kvs : List (PyData × PyData)} (g : h.get? a = some o) (c : o.cls = .type "dict") (q : o.data = .dict l.toArray n) (y : (a == sysModules) = false)
      (p : ShK h kvs l) : Sh h (.dict kvs) (.ref a)
inductive ShA (h : Heap) : List PyData → List Value → Prop
  | nil : ShA h [] []
  | cons {d : PyData} {v : Value} {ds : List PyData} {vs : List Value} (x : Sh h d v) (t : ShA h ds vs) : ShA h (d :: ds) (v :: vs)
inductive ShK (h : Heap) : List (PyData × PyData) → List DictEntry → Prop
  | nil : ShK h [] []
  | cons {kv : PyData × PyData} {e : DictEntry} {ds : List (PyData × PyData)} {vs : List DictEntry} (x : Sh h kv.1 e.key) (y : Sh h kv.2 e.val) (t : ShK h ds vs) : ShK h (kv :: ds) (e :: vs)
end
theorem ShA.pr {h : Heap} : ∀ {ds : List PyData} {l : List Value}, ShA h ds l → Paired (Sh h) ds l
  | _, _, .nil => .nil
  | _, _, .cons x t => .cons x t.pr
theorem ShK.pr {h : Heap} : ∀ {ds : List (PyData × PyData)} {l : List DictEntry}, ShK h ds l → Paired (fun (kv : PyData × PyData) (e : DictEntry) => Sh h kv.1 e.key ∧ Sh h kv.2 e.val) ds l
  | _, _, .nil => .nil
  | _, _, .cons x y t => .cons ⟨x, y⟩ t.pr

theorem Paired.imp {α β : Type} {F G : α → β → Prop} : ∀ {xs : List α} {ys : List β}, Paired F xs ys → (∀ x y, x ∈ xs → F x y → G x y) → Paired G xs ys
  | _, _, .nil, _ => .nil
  | _, _, .cons h t, k => .cons (k _ _ List.mem_cons_self h) (Paired.imp t fun x y m => k x y (List.mem_cons_of_mem _ m))
theorem readsAll_of {h : Heap} : ∀ {ds : List PyData} {l : List Value}, Paired (fun d v => ∃ as, Reads h v d as) ds l → ∃ as, ReadsAll h l ds as
  | _, _, .nil => ⟨[], .nil⟩
  | _, _, .cons ⟨a1, h1⟩ t => let ⟨a2, h2⟩ := readsAll_of t; ⟨a1 ++ a2, .cons h1 h2⟩
theorem paired_map {α β γ δ : Type} {F : γ → δ → Prop} (f : α → γ) (g : β → δ) : ∀ {xs : List α} {ys : List β}, Paired (fun x y => F (f x) (g y)) xs ys → Paired F (xs.map f) (ys.map g)
  | _, _, .nil => .nil
  | _, _, .cons h t => .cons h (paired_map f g t)
theorem dAll_mem : ∀ {ds : List PyData} {d : PyData}, d ∈ ds → d.depth ≤ PyData.depthAll ds
  | x :: r, d, h => by
    simp only [PyData.depthAll]
    rcases List.mem_cons.mp h with rfl | h
    · exact Nat.le_max_left _ _
    · exact Nat.le_trans (dAll_mem h) (Nat.le_max_right _ _)
theorem dKv_mem : ∀ {ds : List (PyData × PyData)} {d : PyData × PyData}, d ∈ ds → d.1.depth ≤ PyData.depthKv ds ∧ d.2.depth ≤ PyData.depthKv ds
  | (a, b) :: r, d, h => by
    simp only [PyData.depthKv]
    rcases List.mem_cons.mp h with rfl | h
    · exact ⟨by dsimp only; omega, by dsimp only; omega⟩
    · have := dKv_mem h
      exact ⟨by omega, by omega⟩
theorem sh_reads {h : Heap} (n : Nat) : ∀ {d : PyData} {v : Value}, d.depth ≤ n → Sh h d v → ∃ as, Reads h v d as := by
  induction n with
  | zero =>
    intro d v hn z
    cases z with
    | non => exact ⟨_, .none⟩
    | bl b => exact ⟨_, .bool b⟩
    | int i t => exact ⟨_, .int i t⟩
    | str x t => exact ⟨_, .str x t⟩
    | list g c q p => simp only [PyData.depth] at hn; omega
    | tuple g c q p => simp only [PyData.depth] at hn; omega
    | dict g c q y p => simp only [PyData.depth] at hn; omega
  | succ n ih =>
    intro d v hn z
    cases z with
    | non => exact ⟨_, .none⟩
    | bl b => exact ⟨_, .bool b⟩
    | int i t => exact ⟨_, .int i t⟩
    | str x t => exact ⟨_, .str x t⟩
    | list g c q p =>
      simp only [PyData.depth] at hn
      obtain ⟨as, r⟩ := readsAll_of (Paired.imp p.pr fun d v m hs => ih (by have := dAll_mem m; omega) hs)
      exact ⟨_, .list g c q r⟩
    | tuple g c q p =>
      simp only [PyData.depth] at hn
      obtain ⟨as, r⟩ := readsAll_of (Paired.imp p.pr fun d v m hs => ih (by have := dAll_mem m; omega) hs)
      exact ⟨_, .tuple g c q r⟩
    | dict g c q y p =>
      rename_i a o l m kvs
      simp only [PyData.depth] at hn
      have p1 : Paired (fun (kv : PyData × PyData) (e : DictEntry) => ∃ as, Reads h e.key kv.1 as) kvs l := Paired.imp p.pr fun d v m hs => ih (by have := dKv_mem m; omega) hs.1
      have p2 : Paired (fun (kv : PyData × PyData) (e : DictEntry) => ∃ as, Reads h e.val kv.2 as) kvs l := Paired.imp p.pr fun d v m hs => ih (by have := dKv_mem m; omega) hs.2
      obtain ⟨as, r1⟩ := readsAll_of (paired_map (F := fun d v => ∃ as, Reads h v d as) (fun kv : PyData × PyData => kv.1) (fun e : DictEntry => e.key) p1)
      obtain ⟨bs, r2⟩ := readsAll_of (paired_map (F := fun d v => ∃ as, Reads h v d as) (fun kv : PyData × PyData => kv.2) (fun e : DictEntry => e.val) p2)
      exact ⟨_, .dict g c q (by simpa using r1) (by simpa using r2)⟩

section
variable {prog : Program} {w : World} {h : Heap}
/-- one's repr within a greater one -/
def In1 (prog : Program) (w : World) (h : Heap) (d : PyData) (v : Value) : Prop := ∃ bs, ReadAtMost h d.depth bs ∧ ReprK prog w bs h d.depth v d.shown
theorem all_of {m : Nat} : ∀ {ds : List PyData} {l : List Value}, Paired (fun d v => d.depth ≤ m ∧ In1 prog w h d v) ds l → ∃ bs, ReadAtMost h m bs ∧ ReprAllK prog w bs h m l (PyData.shownAll ds)
  | _, _, .nil => ⟨[], (fun _ z => nomatch z), by simp only [PyData.shownAll]; exact .nil⟩
  | _, _, .cons ⟨hm, b1, h1, k1⟩ t => by
    obtain ⟨b2, h2, k2⟩ := all_of t
    refine ⟨b1 ++ b2, (h1.mono hm).append h2, ?_⟩
    simp only [PyData.shownAll]
    exact .cons ((k1.more fun b hb => List.mem_append_left _ hb).level_le hm) (k2.more_le (fun b hb => List.mem_append_right _ hb) (Nat.le_refl _))
theorem kv_of {m : Nat} : ∀ {kvs : List (PyData × PyData)} {l : List DictEntry}, Paired (fun (kv : PyData × PyData) (e : DictEntry) => (kv.1.depth ≤ m ∧ In1 prog w h kv.1 e.key) ∧ kv.2.depth ≤ m ∧ In1 prog w h kv.2 e.val) kvs l →
    ∃ bs, ReadAtMost h m bs ∧ ReprEntriesK prog w bs h m l (PyData.shownKv kvs)
  | _, _, .nil => ⟨[], (fun _ z => nomatch z), by simp only [PyData.shownKv]; exact .nil⟩
  | (k, v) :: _, _, .cons ⟨⟨hk, bk, rk, kk⟩, hm, b1, h1, k1⟩ t => by
    obtain ⟨b2, h2, k2⟩ := kv_of t
    have up : ∀ {l : List DictEntry} {ps : List Str}, ReprEntriesK prog w b2 h m l ps → ReprEntriesK prog w (bk ++ b1 ++ b2) h m l ps := by
      intro l ps q
      induction q with
      | nil => exact .nil
      | cons x y _ ih => exact .cons (x.more fun b hb => List.mem_append_right _ hb) (y.more fun b hb => List.mem_append_right _ hb) ih
    refine ⟨bk ++ b1 ++ b2, ((rk.mono hk).append (h1.mono hm)).append h2, ?_⟩
    simp only [PyData.shownKv]
    exact .cons ((kk.more fun b hb => List.mem_append_left _ (List.mem_append_left _ hb)).level_le hk) ((k1.more fun b hb => List.mem_append_left _ (List.mem_append_right _ hb)).level_le hm) (up k2)
theorem sAll_mem : ∀ {ds : List PyData} {d : PyData}, d ∈ ds → d.shown ∈ PyData.shownAll ds ∧ (PyData.showableAll ds = true → d.showable = true)
  | x :: r, d, hm => by
    simp only [PyData.shownAll, PyData.showableAll, Bool.and_eq_true]
    rcases List.mem_cons.mp hm with rfl | hm
    · exact ⟨List.mem_cons_self, fun z => z.1⟩
    · have := sAll_mem hm
      exact ⟨List.mem_cons_of_mem _ this.1, fun z => this.2 z.2⟩
theorem sKv_mem : ∀ {ds : List (PyData × PyData)} {d : PyData × PyData}, d ∈ ds → (∃ p ∈ PyData.shownKv ds, d.1.shown.length ≤ p.length ∧ d.2.shown.length ≤ p.length) ∧ (PyData.showableKv ds = true → d.1.showable = true ∧ d.2.showable = true)
  | (a, b) :: r, d, hm => by
    simp only [PyData.shownKv, PyData.showableKv, Bool.and_eq_true]
    rcases List.mem_cons.mp hm with rfl | hm
    · exact ⟨⟨_, List.mem_cons_self, by rw [strLen_append, strLen_append]; dsimp only; omega, by rw [strLen_append, strLen_append]; dsimp only; omega⟩, fun z => z.1⟩
    · obtain ⟨⟨p, h1, h2⟩, h3⟩ := sKv_mem hm
      exact ⟨⟨p, List.mem_cons_of_mem _ h1, h2⟩, fun z => h3 z.2⟩
theorem in1_of (n : Nat) : ∀ {d : PyData} {v : Value}, d.depth ≤ n → Sh h d v → d.showable = true → d.shown.length ≤ sizeLine → In1 prog w h d v := by
  induction n with
  | zero =>
    intro d v hn z hs hz
    cases z with
    | non => exact ⟨[], (fun _ z => nomatch z), by simp only [PyData.shown]; exact .of_is ReprIs.none _ _ _⟩
    | bl b => exact ⟨[], (fun _ z => nomatch z), by simp only [PyData.shown]; exact .of_is (ReprIs.bool b) _ _ _⟩
    | int i t => exact ⟨[], (fun _ z => nomatch z), by simp only [PyData.shown]; exact .of_is (ReprIs.int t (by simpa [PyData.showable] using hs)) _ _ _⟩
    | str x t => exact ⟨[], (fun _ z => nomatch z), by simp only [PyData.shown]; exact .of_is (ReprIs.str x t (by simpa only [PyData.shown] using hz)) _ _ _⟩
    | list g c q p => simp only [PyData.depth] at hn; omega
    | tuple g c q p => simp only [PyData.depth] at hn; omega
    | dict g c q y p => simp only [PyData.depth] at hn; omega
  | succ n ih =>
    intro d v hn z hs hz
    cases z with
    | non => exact ⟨[], (fun _ z => nomatch z), by simp only [PyData.shown]; exact .of_is ReprIs.none _ _ _⟩
    | bl b => exact ⟨[], (fun _ z => nomatch z), by simp only [PyData.shown]; exact .of_is (ReprIs.bool b) _ _ _⟩
    | int i t => exact ⟨[], (fun _ z => nomatch z), by simp only [PyData.shown]; exact .of_is (ReprIs.int t (by simpa [PyData.showable] using hs)) _ _ _⟩
    | str x t => exact ⟨[], (fun _ z => nomatch z), by simp only [PyData.shown]; exact .of_is (ReprIs.str x t (by simpa only [PyData.shown] using hz)) _ _ _⟩
    | list g c q p =>
      rename_i a o l m ds
      obtain ⟨as, r⟩ := sh_reads (n + 1) hn (.list g c q p)
      simp only [PyData.depth] at hn
      simp only [PyData.showable] at hs
      simp only [PyData.shown] at hz
      obtain ⟨bs, hb, hk⟩ := all_of (prog := prog) (w := w) (Paired.imp p.pr fun d v m z => ⟨dAll_mem m, ih (by have := dAll_mem m; omega) z ((sAll_mem m).2 hs) (Nat.le_trans (listText_mem_le (sAll_mem m).1) hz)⟩)
      have hna : a ∉ bs := not_mem_of_deeper r (by simp only [PyData.depth]; omega) hb
      refine ⟨a :: bs, ReadAtMost.cons r (by simp only [PyData.depth]; omega) hb, ?_⟩
      simp only [PyData.depth, PyData.shown]
      cases l with
      | nil =>
        cases p
        simp only [PyData.shownAll, listText_nil]
        exact ReprK.listEmpty g c q
      | cons x l => exact ReprK.list g c q hna (by simpa using hk.length_eq) fun i y e => hk.item i y (by simpa using e)
    | tuple g c q p =>
      rename_i a o l m ds
      obtain ⟨as, r⟩ := sh_reads (n + 1) hn (.tuple g c q p)
      simp only [PyData.depth] at hn
      simp only [PyData.showable] at hs
      simp only [PyData.shown] at hz
      obtain ⟨bs, hb, hk⟩ := all_of (prog := prog) (w := w) (Paired.imp p.pr fun d v m z => ⟨dAll_mem m, ih (by have := dAll_mem m; omega) z ((sAll_mem m).2 hs) (Nat.le_trans (tupleText_mem_le (sAll_mem m).1) hz)⟩)
      have hna : a ∉ bs := not_mem_of_deeper r (by simp only [PyData.depth]; omega) hb
      refine ⟨a :: bs, ReadAtMost.cons r (by simp only [PyData.depth]; omega) hb, ?_⟩
      simp only [PyData.depth, PyData.shown]
      exact ReprK.tuple g c q hna (by simpa using hk)
    | dict g c q y p =>
      rename_i a o l m kvs
      obtain ⟨as, r⟩ := sh_reads (n + 1) hn (.dict g c q y p)
      simp only [PyData.depth] at hn
      simp only [PyData.showable] at hs
      simp only [PyData.shown] at hz
      have big : ∀ kv ∈ kvs, kv.1.shown.length ≤ sizeLine ∧ kv.2.shown.length ≤ sizeLine := fun kv m => by
        obtain ⟨⟨t, h1, h2, h3⟩, _⟩ := sKv_mem m
        have := dictText_mem_le h1
        exact ⟨by omega, by omega⟩
      obtain ⟨bs, hb, hk⟩ := kv_of (prog := prog) (w := w) (Paired.imp p.pr fun kv e m z => ⟨⟨(dKv_mem m).1, ih (by have := dKv_mem m; omega) z.1 ((sKv_mem m).2 hs).1 (big kv m).1⟩, (dKv_mem m).2, ih (by have := dKv_mem m; omega) z.2 ((sKv_mem m).2 hs).2 (big kv m).2⟩)
      have hna : a ∉ bs := not_mem_of_deeper r (by simp only [PyData.depth]; omega) hb
      refine ⟨a :: bs, ReadAtMost.cons r (by simp only [PyData.depth]; omega) hb, ?_⟩
      simp only [PyData.depth, PyData.shown]
      exact ReprK.dict g c q y hna (by simpa using hk)
/-- repr(v) -/
theorem call_repr {A : Around} {E : Value → Shared → Prop} {s : Shared} {Q : Value → Shared → Prop} {d : PyData} {v : Value} (z : Sh s.heap d v) (hs : d.showable = true) (hz : d.shown.length ≤ sizeLine) (hg : A.guards = some []) (hd : d.depth ≤ 40) (hu : A.units + 64 < cLine)
    (hQ : ∀ h' u tk, (∀ b o, s.heap.get? b = some o → h'.get? b = some o) → Q (.str d.shown u) { s with heap := h', toks := tk }) : wpAny (model prog w) A (call (.builtin "repr") [v]) Q E s := by
  cases z with
  | non => exact P.repr_of_none (by simp only [PyData.shown] at hQ; exact hQ s.heap _ _ fun _ _ e => e)
  | bl b => exact P.repr_of_bool (by simp only [PyData.shown] at hQ; exact hQ s.heap _ _ fun _ _ e => e)
  | int i t => exact P.repr_of_int (by simpa [PyData.showable] using hs) (by simp only [PyData.shown] at hQ; exact hQ s.heap _ _ fun _ _ e => e)
  | str x t => exact P.repr_of_str (by simp only [PyData.shown] at hQ; exact hQ s.heap _ _ fun _ _ e => e) (by simpa only [PyData.shown] using hz)
  | list g c q p =>
    rename_i a o l n ds
    obtain ⟨as, r⟩ := sh_reads 40 hd (.list g c q p)
    simp only [PyData.depth] at hd
    simp only [PyData.showable] at hs
    simp only [PyData.shown] at hz hQ
    obtain ⟨bs, hb, hk⟩ := all_of (prog := prog) (w := w) (Paired.imp p.pr fun d v m z => ⟨dAll_mem m, in1_of 40 (by have := dAll_mem m; omega) z ((sAll_mem m).2 hs) (Nat.le_trans (listText_mem_le (sAll_mem m).1) hz)⟩)
    have hna : a ∉ bs := not_mem_of_deeper r (by simp only [PyData.depth]; omega) hb
    refine call_repr_slot (T := "list") (idr := "list.__repr__") (by omega) ⟨o, g, c⟩ F.slot_list_repr.toG ?_
    cases l with
    | nil =>
      cases p
      refine call_list_repr_empty ⟨o, g, c⟩ g q ⟨_, _, rfl, ?_⟩
      simp only [PyData.shownAll, listText_nil] at hQ
      exact hQ s.heap _ _ fun _ _ e => e
    | cons x l =>
      exact call_list_reprK g c q hna (by simpa using hk.length_eq) (fun i y e => hk.item i y (by simpa using e)) hg (fun b _ => Clear.nil b) (by show A.units + 1 + _ < cLine; omega) (fun _ _ e => e) (fun h' u tk k => ⟨_, _, rfl, hQ h' u tk k⟩) hz
  | tuple g c q p =>
    rename_i a o l n ds
    obtain ⟨as, r⟩ := sh_reads 40 hd (.tuple g c q p)
    simp only [PyData.depth] at hd
    simp only [PyData.showable] at hs
    simp only [PyData.shown] at hz hQ
    obtain ⟨bs, hb, hk⟩ := all_of (prog := prog) (w := w) (Paired.imp p.pr fun d v m z => ⟨dAll_mem m, in1_of 40 (by have := dAll_mem m; omega) z ((sAll_mem m).2 hs) (Nat.le_trans (tupleText_mem_le (sAll_mem m).1) hz)⟩)
    have hna : a ∉ bs := not_mem_of_deeper r (by simp only [PyData.depth]; omega) hb
    refine call_repr_slot (T := "tuple") (idr := "tuple.__repr__") (by omega) ⟨o, g, c⟩ F.slot_tuple_repr ?_
    exact call_tuple_reprK g c q hna (by simpa using hk) hg (fun b _ => Clear.nil b) (by show A.units + 1 + _ < cLine; omega) (fun _ _ e => e) (fun h' u tk k => ⟨_, _, rfl, hQ h' u tk k⟩) hz
  | dict g c q y p =>
    rename_i a o l n kvs
    obtain ⟨as, r⟩ := sh_reads 40 hd (.dict g c q y p)
    simp only [PyData.depth] at hd
    simp only [PyData.showable] at hs
    simp only [PyData.shown] at hz hQ
    have big : ∀ kv ∈ kvs, kv.1.shown.length ≤ sizeLine ∧ kv.2.shown.length ≤ sizeLine := fun kv m => by
      obtain ⟨⟨t, h1, h2, h3⟩, _⟩ := sKv_mem m
      have := dictText_mem_le h1
      exact ⟨by omega, by omega⟩
    obtain ⟨bs, hb, hk⟩ := kv_of (prog := prog) (w := w) (Paired.imp p.pr fun kv e m z => ⟨⟨(dKv_mem m).1, in1_of 40 (by have := dKv_mem m; omega) z.1 ((sKv_mem m).2 hs).1 (big kv m).1⟩, (dKv_mem m).2, in1_of 40 (by have := dKv_mem m; omega) z.2 ((sKv_mem m).2 hs).2 (big kv m).2⟩)
    have hna : a ∉ bs := not_mem_of_deeper r (by simp only [PyData.depth]; omega) hb
    refine call_repr_slot (T := "dict") (idr := "dict.__repr__") (by omega) ⟨o, g, c⟩ F.slot_dict_repr ?_
    exact call_dict_reprK g c q y hna (by simpa using hk) hg (fun b _ => Clear.nil b) (by show A.units + 1 + _ < cLine; omega) (fun _ _ e => e) (fun h' u tk k => ⟨_, _, rfl, hQ h' u tk k⟩) hz
end
end RI

/-! built-in calls over data -/
namespace RI
open PySem PySem.Spec PyProof.Rows L2

/-- plain data, dicts too -/
def kvAll (f : D → Option PyData) : List (Key × D) → Option (List (PyData × PyData))
  | [] => some []
  | (k, x) :: r => (f x).bind fun y => (kvAll f r).map ((keyPy k, y) :: ·)
def toPyR : Nat → Store → D → Option PyData
  | 0, _, _ => none
  | n + 1, M, d => match d with
    | .non => some .none
    | .bl b => some (.bool b)
    | .int i => some (.int i)
    | .str x => some (.str x)
    | .tup ds => (optAll (toPyR n M) ds).map .tuple
    | .ob k => match M[k]? with
      | some (.lst ds) => (optAll (toPyR n M) ds).map .list
      | some (.frl ds) => (optAll (toPyR n M) ds).map .list
      | some (.dct kvs) => (kvAll (toPyR n M) kvs).map .dict
      | _ => none
section
variable {X : Cx} {cl : ClsA} {W : WX} {σ : L2.St} {θ : List Addr} {H : Hp} {M : Store} {Q : VK} {pins : List (Addr × Obj)} {s : Shared} {σ' : L2.St}
theorem shA_of {h : Heap} {f : D → Option PyData} (k : ∀ v d p u, Rp X.K θ H v d → RelV v u → f d = some p → Sh h p u) : ∀ {vs : List V} {ds : List D} {us : List Value} {ps : List PyData}, RpA X.K θ H vs ds → Vals vs us → optAll f ds = some ps → ShA h ps us
  | _, _, _, _, .nil, .nil, e => by
    simp [optAll] at e
    subst e
    exact .nil
  | _, _, _, _, .cons r t, .cons rv tv, e => by
    simp only [optAll, Option.bind_eq_some_iff, Option.map_eq_some_iff] at e
    obtain ⟨y, hy, l, hl, rfl⟩ := e
    exact .cons (k _ _ _ _ r rv hy) (shA_of k t tv hl)
theorem sh_key {h : Heap} {k : Key} {u : Value} (e : keyIs k u = true) : Sh h (keyPy k) u := by
  rcases keyIs_shape e with ⟨i, t, rfl, rfl⟩ | ⟨x, t, rfl, rfl⟩
  · exact .int i t
  · exact .str x t
theorem shK_of {h : Heap} {f : D → Option PyData} (k : ∀ v d p u, Rp X.K θ H v d → RelV v u → f d = some p → Sh h p u) : ∀ {ws : List (Key × V)} {kvs : List (Key × D)} {vs : List (Key × Value)} {es : List DictEntry} {ps : List (PyData × PyData)},
    RpK X.K θ H ws kvs → KV ws vs → Pairs (mixKind X.prog X.w) es vs → kvAll f kvs = some ps → ShK h ps es
  | _, _, _, _, _, .nil, .nil, .nil, e => by
    simp [kvAll] at e
    subst e
    exact .nil
  | _, _, _, _, _, .cons r t, .cons rv tv, .cons h1 h2 tp, e => by
    simp only [kvAll, Option.bind_eq_some_iff, Option.map_eq_some_iff] at e
    obtain ⟨y, hy, l, hl, rfl⟩ := e
    obtain ⟨ek, rv⟩ := rv
    dsimp only at ek rv
    subst ek
    exact .cons (sh_key h1) (k _ _ _ _ r (by rw [h2]; exact rv) hy) (shK_of k t tv tp hl)
theorem sh_of (I : Inv X pins σ' H s) (r : Rep X.K cl θ H M) : ∀ (n : Nat) {v : V} {d : D} {p : PyData} {u : Value}, Rp X.K θ H v d → RelV v u → toPyR n M d = some p → Sh s.heap p u
  | 0, _, _, _, _, _, _, e => by simp [toPyR] at e
  | n + 1, _, _, p, _, .non, rv, e => by simp [toPyR] at e; subst e; cases rv; exact .non
  | n + 1, _, _, p, _, .bl b, rv, e => by simp [toPyR] at e; subst e; cases rv; exact .bl b
  | n + 1, _, _, p, _, .int b, rv, e => by simp [toPyR] at e; subst e; obtain ⟨t, rfl⟩ := rv; exact .int b t
  | n + 1, _, _, p, _, .str b, rv, e => by simp [toPyR] at e; subst e; obtain ⟨t, rfl⟩ := rv; exact .str b t
  | n + 1, _, _, p, _, .tup h hs, rv, e => by
    simp only [toPyR, Option.map_eq_some_iff] at e
    obtain ⟨l, hl, rfl⟩ := e
    cases rv
    obtain ⟨its, r1, ⟨o, g, c, m, q⟩, _⟩ := I.tuple h
    exact .tuple g c q (shA_of (fun v d p u a b c => sh_of I r n a b c) hs r1 hl)
  | n + 1, _, _, p, _, .ob h, rv, e => by
    obtain ⟨o, ho, hr⟩ := r.atn h
    simp only [toPyR, ho] at e
    cases rv
    cases o with
    | lst ds =>
      simp only [Option.map_eq_some_iff] at e
      obtain ⟨l, hl, rfl⟩ := e
      obtain ⟨vs, h1, h2⟩ := hr
      obtain ⟨its, r1, ⟨ob, m, g, c, _, q⟩, _⟩ := I.list (SqL.of h1)
      exact .list g c q (shA_of (fun v d p u a b c => sh_of I r n a b c) h2 r1 hl)
    | frl ds =>
      simp only [Option.map_eq_some_iff] at e
      obtain ⟨l, hl, rfl⟩ := e
      obtain ⟨o, vs, h1, h2⟩ := hr
      obtain ⟨its, r1, ⟨ob, m, g, c, _, q⟩, _⟩ := I.list (xs := vs) (.inl (.inr ⟨_, h1⟩))
      exact .list g c q (shA_of (fun v d p u a b c => sh_of I r n a b c) h2 r1 hl)
    | dct kvs =>
      simp only [Option.map_eq_some_iff] at e
      obtain ⟨l, hl, rfl⟩ := e
      obtain ⟨ws, h1, h2⟩ := hr
      obtain ⟨_, y, vs, kv, ob, es, ep, g, ed, q, _, pr, _⟩ := I.hok _ _ h1
      exact .dict g ed.1 (by rw [q, Array.toArray_toList]) y (shK_of (fun v d p u a b c => sh_of I r n a b c) h2 kv pr hl)
    | ins _ _ => simp at e
    | exn _ _ => simp at e
    | xdo _ => simp at e

/-- a call of a built-in, over data -/
def cR (K : PySem.W.Frag) (cl : ClsA) (W : WX) (σ : L2.St) (g : List D → Store → Out D) : List V → Hp → VK → Prop := fun xs H Q =>
  ∃ θ M ds, Rep K cl θ H M ∧ RpA K θ H xs ds ∧ PostG K cl (Rp K) W Q σ θ H (g ds M)
def reprD (ds : List D) (M : Store) : Out D := match ds with
  | [d] => match toPyR 12 M d with
    | some p => if p.showable && decide (p.shown.length ≤ line) && decide (p.depth ≤ 40) then .ok (.str p.shown) M else .no
    | none => .no
  | _ => .no
def lenD (ds : List D) (M : Store) : Out D := match ds with
  | [.str x] => if x.length ≤ line then .ok (.int x.length) M else .no
  | [d] => match seqD M d with
    | some xs => .ok (.int xs.length) M
    | none => .no
  | _ => .no
def absD (ds : List D) (M : Store) : Out D := match ds with
  | [.int i] => .ok (.int (if i < 0 then -i else i)) M
  | _ => .no
def intD (ds : List D) (M : Store) : Out D := match ds with
  | [.int i] => .ok (.int i) M
  | [.bl b] => .ok (.int (if b then 1 else 0)) M
  | _ => .no
def strD (ds : List D) (M : Store) : Out D := match ds with
  | [.int i] => if i.natAbs.log2 < 1920 then .ok (.str (toString i)) M else .no
  | [.str x] => .ok (.str x) M
  | _ => .no
def maxD (ds : List D) (M : Store) : Out D := match ds with
  | [.int i, .int j] => .ok (.int (if j > i then j else i)) M
  | _ => .no
def minD (ds : List D) (M : Store) : Out D := match ds with
  | [.int i, .int j] => .ok (.int (if j < i then j else i)) M
  | _ => .no
def listD (ds : List D) (M : Store) : Out D := match ds with
  | [d] => match seqD M d with
    | some xs => newL xs M
    | none => .no
  | _ => .no
def tupleD (ds : List D) (M : Store) : Out D := match ds with
  | [.tup xs] => .ok (.tup xs) M
  | [.ob k] => match readAt M k with
    | some xs => .ok (.tup xs) M
    | none => .no
  | _ => .no
def intsOf : List D → Option (List Int)
  | [] => some []
  | .int i :: r => (intsOf r).map (i :: ·)
  | _ => none
def sumD (ds : List D) (M : Store) : Out D := match ds with
  | [.ob k] => match readAt M k with
    | some xs => match intsOf xs with
      | some ns => .ok (.int ns.sum) M
      | none => .no
    | none => .no
  | _ => .no
def sortD (ds : List D) (M : Store) : Out D := match ds with
  | [.ob k] => match readAt M k with
    | some xs => match intsOf xs with
      | some ns => if ns.length < 64 then newL ((ns.mergeSort (fun a b => decide (a ≤ b))).map D.int) M else .no
      | none => .no
    | none => .no
  | _ => .no

theorem ints_rp {K : PySem.W.Frag} : ∀ {vs : List V} {xs : List D} {ns : List Int}, RpA K θ H vs xs → intsOf xs = some ns → vs = ns.map V.int
  | _, _, _, .nil, e => by
    simp [intsOf] at e
    subst e
    rfl
  | _, _, _, .cons (d := d) r t, e => by
    cases r with
    | int i =>
      simp only [intsOf, Option.map_eq_some_iff] at e
      obtain ⟨l, hl, rfl⟩ := e
      rw [ints_rp t hl] <;> rfl
    | _ => simp [intsOf] at e
theorem rp_ints {K : PySem.W.Frag} : ∀ ns : List Int, RpA K θ H (ns.map V.int) (ns.map D.int)
  | [] => .nil
  | i :: r => .cons (.int i) (rp_ints r)
theorem sorted_eq {a b : List Int} (p : a.Perm b) (ha : a.Pairwise (· ≤ ·)) : a = b.mergeSort (fun x y => decide (x ≤ y)) := by
  refine (p.trans (List.mergeSort_perm b _).symm).eq_of_pairwise (le := (· ≤ ·)) (fun _ _ _ _ h1 h2 => Int.le_antisymm h1 h2) ha ?_
  have h := List.pairwise_mergeSort (le := fun x y : Int => decide (x ≤ y)) (fun a b c h1 h2 => by simp only [decide_eq_true_eq] at *; omega) (fun a b => by simp only [Bool.or_eq_true, decide_eq_true_eq]; omega) b
  exact h.imp fun h => by simpa using h
theorem CallR.imp' {f : Value} {r r' : List V → Hp → VK → Prop} (h : CallR X f r) (k : ∀ xs H Q, r' xs H Q → r xs H Q) : CallR X f r' := fun pins s σ H xs us Q I rv q => h pins s σ H xs us Q I rv (k xs H Q q)

theorem c_repr (hg : X.A.guards = some []) (hu : X.A.units + 64 < cLine) : CallR X (.builtin "repr") (cR X.K cl W σ reprD) := by
  intro pins s σ' H xs us Q I rv q
  obtain ⟨θ, M, ds, r, ra, q⟩ := q
  unfold reprD at q
  split at q
  · cases ra with
    | cons rx t =>
      cases t
      cases rv with
      | cons rv tv =>
        cases tv
        split at q
        · rename_i p e
          split at q
          · rename_i hc
            simp only [Bool.and_eq_true, decide_eq_true_eq] at hc
            obtain ⟨⟨h1, h2⟩, h3⟩ := hc
            exact call_repr (sh_of I r 12 rx rv e) h1 (line_ok h2) hg h3 hu fun h' u tk k => ⟨.str p.shown, H, I.kept k, ⟨u, rfl⟩, q.ok_ r (.str _)⟩
          · exact q.elim
        · exact q.elim
  · exact q.elim
theorem c_len : CallR X (.builtin "len") (cR X.K cl W σ lenD) := CallR.imp' call_len fun xs H Q q => by
  obtain ⟨θ, M, ds, r, ra, q⟩ := q
  unfold lenD at q
  split at q
  · split at q
    · rename_i hl
      cases ra with
      | cons rx t =>
        cases t
        cases rx
        exact ⟨_, _, rfl, ⟨line_ok hl, rfl⟩, q.ok_ r (.int _)⟩
    · exact q.elim
  · cases ra with
    | cons rx t =>
      cases t
      split at q
      · rename_i ys e
        obtain ⟨a, vs, rfl, hs, ha⟩ := seq_at r rx e
        refine ⟨_, vs.length, rfl, ?_, ?_⟩
        · rcases hs with hs | hs
          · exact .inl ⟨vs, hs, rfl⟩
          · exact .inr ⟨vs, hs, rfl⟩
        · rw [ha.length]
          exact q.ok_ r (.int _)
      · exact q.elim
  · exact q.elim
theorem c_abs : CallR X (.builtin "abs") (cR X.K cl W σ absD) := CallR.imp' call_abs fun xs H Q q => by
  obtain ⟨θ, M, ds, r, ra, q⟩ := q
  unfold absD at q
  split at q
  · cases ra with
    | cons rx t =>
      cases t
      cases rx
      exact ⟨_, rfl, q.ok_ r (.int _)⟩
  · exact q.elim
theorem c_int : CallR X (.type "int") (cR X.K cl W σ intD) := CallR.imp' call_int1 fun xs H Q q => by
  obtain ⟨θ, M, ds, r, ra, q⟩ := q
  unfold intD at q
  split at q
  · cases ra with
    | cons rx t =>
      cases t
      cases rx
      exact .inl ⟨_, rfl, q.ok_ r (.int _)⟩
  · cases ra with
    | cons rx t =>
      cases t
      cases rx
      exact .inr ⟨_, rfl, q.ok_ r (.int _)⟩
  · exact q.elim
theorem c_str : CallR X (.type "str") (cR X.K cl W σ strD) := CallR.imp' (call_str_int.or SkE.call_str_str) fun xs H Q q => by
  obtain ⟨θ, M, ds, r, ra, q⟩ := q
  unfold strD at q
  split at q
  · split at q
    · rename_i hl
      cases ra with
      | cons rx t =>
        cases t
        cases rx
        exact .inl ⟨_, rfl, hl, q.ok_ r (.str _)⟩
    · exact q.elim
  · cases ra with
    | cons rx t =>
      cases t
      cases rx
      exact .inr ⟨_, rfl, q.ok_ r (.str _)⟩
  · exact q.elim
theorem c_max (hc : X.calm = true) : CallR X (.builtin "max") (cR X.K cl W σ maxD) := CallR.imp' (call_max2 hc) fun xs H Q q => by
  obtain ⟨θ, M, ds, r, ra, q⟩ := q
  unfold maxD at q
  split at q
  · cases ra with
    | cons rx t =>
      cases t with
      | cons ry t =>
        cases t
        cases rx
        cases ry
        exact ⟨_, _, rfl, q.ok_ r (.int _)⟩
  · exact q.elim
theorem c_min (hc : X.calm = true) : CallR X (.builtin "min") (cR X.K cl W σ minD) := CallR.imp' (call_min2 hc) fun xs H Q q => by
  obtain ⟨θ, M, ds, r, ra, q⟩ := q
  unfold minD at q
  split at q
  · cases ra with
    | cons rx t =>
      cases t with
      | cons ry t =>
        cases t
        cases rx
        cases ry
        exact ⟨_, _, rfl, q.ok_ r (.int _)⟩
  · exact q.elim
theorem c_list : CallR X (.type "list") (cR X.K cl W σ listD) := CallR.imp' call_list_of fun xs H Q q => by
  obtain ⟨θ, M, ds, r, ra, q⟩ := q
  unfold listD at q
  split at q
  · cases ra with
    | cons rx t =>
      cases t
      split at q
      · rename_i ys e
        obtain ⟨a, vs, rfl, hs, ha⟩ := seq_at r rx e
        exact ⟨_, vs, rfl, hs, (newL_ok r ha q).2⟩
      · exact q.elim
  · exact q.elim
theorem c_tuple : CallR X (.type "tuple") (cR X.K cl W σ tupleD) := CallR.imp' call_tuple_of fun xs H Q q => by
  obtain ⟨θ, M, ds, r, ra, q⟩ := q
  unfold tupleD at q
  split at q
  · cases ra with
    | cons rx t =>
      cases t
      cases rx with
      | tup h1 h2 => exact ⟨_, _, rfl, .inr ⟨h1, q.ok_ r (.tup h1 h2)⟩⟩
  · cases ra with
    | cons rx t =>
      cases t
      cases rx with
      | ob h =>
        split at q
        · rename_i ys e
          obtain ⟨vs, h1, h2⟩ := read_at r h e
          exact ⟨_, vs, rfl, .inl ⟨h1, fun l hl => newT_ok r h2 q hl⟩⟩
        · exact q.elim
  · exact q.elim
theorem c_sum (hc : X.calm = true) : CallR X (.builtin "sum") (cR X.K cl W σ sumD) := CallR.imp' (cr_sum hc) fun xs H Q q => by
  obtain ⟨θ, M, ds, r, ra, q⟩ := q
  unfold sumD at q
  split at q
  · cases ra with
    | cons rx t =>
      cases t
      cases rx with
      | ob h =>
        split at q
        · rename_i ys e
          split at q
          · rename_i ns e2
            obtain ⟨vs, h1, h2⟩ := read_at r h e
            have ev := ints_rp h2 e2
            subst ev
            exact ⟨_, ns, rfl, h1, q.ok_ r (.int _)⟩
          · exact q.elim
        · exact q.elim
  · exact q.elim
theorem c_sorted : CallR X (.builtin "sorted") (cR X.K cl W σ sortD) := CallR.imp' cr_sorted fun xs H Q q => by
  obtain ⟨θ, M, ds, r, ra, q⟩ := q
  unfold sortD at q
  split at q
  · cases ra with
    | cons rx t =>
      cases t
      cases rx with
      | ob h =>
        split at q
        · rename_i ys e
          split at q
          · rename_i ns e2
            split at q
            · rename_i hl
              obtain ⟨vs, h1, h2⟩ := read_at r h e
              have ev := ints_rp h2 e2
              subst ev
              refine ⟨_, ns, rfl, h1, hl, fun ns' p hp hs hn => ?_⟩
              rw [sorted_eq hp hs]
              exact (newL_ok r (rp_ints _) q).2 p hn
            · exact q.elim
          · exact q.elim
        · exact q.elim
  · exact q.elim
end
end RI

/-! statements' outcomes; defs of one's own and their calls -/
namespace RI
open PySem PySem.Spec PyProof.Rows L2

inductive Fl where
  | nx | brk | ct | ret (d : D)
inductive SOut where
  | fl (f : Fl) (ρ : Env1) (M : Store) | exc (c : Str) (fs : List (Str × D)) (ρ : Env1) (M : Store) | no
abbrev DenS := Env1 → Store → SOut
def PostS (K : PySem.W.Frag) (cl : ClsA) (W : WX) (E : Ends) (θ : List Addr) (H : Hp) : SOut → Prop
  | .fl .nx ρ M => ∀ θ' H' σ', Ext K θ H θ' H' → Rep K cl θ' H' M → RelE K θ' H' σ' ρ → E.nx σ' H'
  | .fl .brk ρ M => ∀ θ' H' σ', Ext K θ H θ' H' → Rep K cl θ' H' M → RelE K θ' H' σ' ρ → E.bk σ' H'
  | .fl .ct ρ M => ∀ θ' H' σ', Ext K θ H θ' H' → Rep K cl θ' H' M → RelE K θ' H' σ' ρ → E.ct σ' H'
  | .fl (.ret d) _ M => ∀ θ' H' v, Ext K θ H θ' H' → Rep K cl θ' H' M → Rp K θ' H' v d → E.rt v H'
  | .exc c fs ρ M => ∀ θ' H' σ' C dd, Ext K θ H θ' H' → Rep K cl θ' H' M → RelE K θ' H' σ' ρ → cl c = some C → XAt K θ' H' dd fs → W (.ref C) dd σ' H'
  | .no => False
def rdS (cl : ClsA) (W : WX) (K : PySem.W.Frag) (g : DenS) : TS := fun E σ H => ∃ θ ρ M, RelE K θ H σ ρ ∧ Rep K cl θ H M ∧ PostS K cl W E θ H (g ρ M)
section
variable {K : PySem.W.Frag} {cl : ClsA} {W : WX} {E E' : Ends} {θ θ1 : List Addr} {H H1 : Hp}
theorem PostS.ext {o : SOut} (h : PostS K cl W E θ H o) (e : Ext K θ H θ1 H1) : PostS K cl W E θ1 H1 o := by
  cases o with
  | fl f ρ M =>
    cases f with
    | nx => exact fun θ' H' σ' e' r rv => h θ' H' σ' (e.trans e') r rv
    | brk => exact fun θ' H' σ' e' r rv => h θ' H' σ' (e.trans e') r rv
    | ct => exact fun θ' H' σ' e' r rv => h θ' H' σ' (e.trans e') r rv
    | ret d => exact fun θ' H' v e' r rv => h θ' H' v (e.trans e') r rv
  | exc c fs ρ M => exact fun θ' H' σ' C dd e' r rv hc x => h θ' H' σ' C dd (e.trans e') r rv hc x
  | no => exact h
end
/-- an outcome of an expression carried on -/
def bindS {α : Type} (x : Out α) (ρ : Env1) (f : α → Store → SOut) : SOut := match x with
  | .ok a M => f a M
  | .exc c fs M => .exc c fs ρ M
  | .no => .no
@[simp] theorem bindS_ok {α : Type} (a : α) (M : Store) (ρ : Env1) (f : α → Store → SOut) : bindS (.ok a M) ρ f = f a M := rfl
@[simp] theorem bindS_exc {α : Type} (c : Str) (fs : List (Str × D)) (M : Store) (ρ : Env1) (f : α → Store → SOut) : bindS (.exc c fs M : Out α) ρ f = .exc c fs ρ M := rfl
@[simp] theorem bindS_no {α : Type} (ρ : Env1) (f : α → Store → SOut) : bindS (.no : Out α) ρ f = .no := rfl
/-- one statement, then the rest -/
def andThen (x : SOut) (f : Env1 → Store → SOut) : SOut := match x with
  | .fl .nx ρ M => f ρ M
  | o => o
section
variable {α β : Type} {K : PySem.W.Frag} {cl : ClsA} {W : WX} {E : Ends} {θ : List Addr} {H : Hp} {Rv : List Addr → Hp → β → α → Prop} {σ : L2.St} {ρ : Env1}
theorem PostS.bind {x : Out α} {f : α → Store → SOut} {Q : β → Hp → Prop} (h : PostS K cl W E θ H (bindS x ρ f)) (hE : RelE K θ H σ ρ)
    (k : ∀ a M θ1 H1 v, Ext K θ H θ1 H1 → Rep K cl θ1 H1 M → Rv θ1 H1 v a → PostS K cl W E θ1 H1 (f a M) → Q v H1) : PostG K cl Rv W Q σ θ H x := by
  cases x with
  | ok a M => exact fun θ1 H1 v e r rv => k a M θ1 H1 v e r rv (h.ext e)
  | exc c fs M => exact fun θ' H' C dd e' r hc x => h θ' H' σ C dd e' r (hE.ext e') hc x
  | no => exact h
theorem PostS.seq {x : SOut} {f : Env1 → Store → SOut} {nx : L2.St → Hp → Prop} (h : PostS K cl W E θ H (andThen x f))
    (k : ∀ ρ M θ1 H1 σ1, Ext K θ H θ1 H1 → Rep K cl θ1 H1 M → RelE K θ1 H1 σ1 ρ → PostS K cl W E θ1 H1 (f ρ M) → nx σ1 H1) : PostS K cl W { E with nx := nx } θ H x := by
  cases x with
  | fl fl ρ M =>
    cases fl with
    | nx => exact fun θ1 H1 σ1 e r rv => k ρ M θ1 H1 σ1 e r rv (PostS.ext h e)
    | brk => exact h
    | ct => exact h
    | ret d => exact h
  | exc c fs ρ M => exact h
  | no => exact h
end

/-! ### a def -/
/-- what a def does, over data: called with so many values -/
def FnG (P : Program) (w : World) (K : PySem.W.Frag) (mg : Str → Option Value) (base : Heap) (cl : ClsA) (k : Nat) (f : Addr) (fd : FuncData) (ps : List Str) (g : List D → Store → Out D) : Prop :=
  ∀ (A : Around) (outer : List Env) (s : Shared) (H : Hp) (args : Args) (us : List Value) (vs : List V) (θ : List Addr) (M : Store) (ds : List D) (Q : VK) (E : XK), Room k A → A.guards = some [] → Env0 P w K mg base A outer s H →
    BindsTo s fd args (ps.zip us) → Vals vs us → Rep K cl θ H M → RpA K θ H vs ds → ds.length = ps.length → PostG K cl (Rp K) (fun c d _ h => E c d h) Q [] θ H (g ds M) →
    codeAny (model P w) A (.call (.ref f) args) (CR (L2.CX P w) outer P w H s Q E) s
theorem FnG.up {P : Program} {w : World} {K : PySem.W.Frag} {mg : Str → Option Value} {base : Heap} {cl : ClsA} {j k : Nat} {f : Addr} {fd : FuncData} {ps : List Str} {g : List D → Store → Out D} (F : FnG P w K mg base cl j f fd ps g) (h : j ≤ k) : FnG P w K mg base cl k f fd ps g :=
  fun A outer s H args us vs θ M ds Q E hr => F A outer s H args us vs θ M ds Q E (hr.mono h)
/-- a def's end -/
def finD (o : SOut) : Out D := match o with
  | .fl .nx _ M => .ok .non M
  | .fl (.ret d) _ M => .ok d M
  | .fl _ _ _ => .no
  | .exc c fs _ M => .exc c fs M
  | .no => .no
def startE (n : Nat) (ds : List D) : Env1 := ds.map some ++ List.replicate (n - ds.length) none
theorem relE_start {K : PySem.W.Frag} {θ : List Addr} {H : Hp} {N : List Str} {vs : List V} {ds : List D} (h : RpA K θ H vs ds) : RelE K θ H (L2.start N vs) (startE N.length ds) := by
  refine ⟨?_, fun i d e => ?_⟩
  · unfold L2.start startE
    simp [h.length]
  · unfold startE at e
    by_cases hi : i < ds.length
    · rw [List.getElem?_append_left (by simpa using hi), List.getElem?_map, Option.map_eq_some_iff] at e
      obtain ⟨d', h1, h2⟩ := e
      obtain ⟨v, h3, h4⟩ := h.get h1
      have h2' := Option.some.inj h2
      subst h2'
      refine ⟨v, ?_, h4⟩
      unfold L2.start
      rw [List.getElem?_append_left (by simpa [h.length] using hi), List.getElem?_map, h3] <;> rfl
    · rw [List.getElem?_append_right (by simpa using hi)] at e
      have := List.mem_of_getElem? e
      rw [List.mem_replicate] at this
      simp at this
section
variable {P : Program} {w : World} {K : PySem.W.Frag} {mg : Str → Option Value} {base : Heap} {cl : ClsA} {k : Nat}
/-- a def from its body -/
theorem fnG_of {f : Addr} {x qual : Str} {st : Stmt} {fd : FuncData} {N ps : List Str} {g : DenS} (F : Fun K x qual st f fd) (S : FnScope N ps (defScope st))
    (hb : ∀ (cdv : Value) (A : Around) (outer : List Env) (s : Shared) (H : Hp) (E : XK), Room k (A.deeper (envOfC qual (defScope st) s.heap.objs.size f cdv)) → A.guards = some [] →
      PSs (cxOf (L2.CX P w) P w K mg base N qual (defScope st) f cdv A outer s H E) (defBody st) (rdS cl (fun c d _ h => E c d h) K g)) :
    FnG P w K mg base cl (k + 1) f fd ps (fun ds M => finD (g (startE N.length ds) M)) := by
  obtain ⟨oc, od, kV, doc, pm, an, cdv, ct, osl, rfl, lk, hcd⟩ := F.ex
  intro A outer s H args us vs θ M ds Q E hr hg e0 hbt rv rp ra hl q
  have hlen : vs.length = ps.length := by rw [ra.length]; exact hl
  have stay : ∀ b o, base.get? b = some o → s.heap.get? b = some o := fun b o e => (e0.bs b o e).1
  have KX : K.In s.heap := e0.mod.kin.keeps stay
  have lim : s.heap.NoLimit := e0.mod.nolimit.keeps stay
  have par : ∀ y ∈ ps.zip us, (defScope st).names.lookup y.1 = some .local ∨
      ((defScope st).names.lookup y.1 = some .cell ∧ ((cellsFrom (s.heap.objs.size + 1) (defScope st).names []).lookup y.1).isSome = true) := by
    intro y hy
    rcases S.par y.1 (List.of_mem_zip hy).1 with z | z
    · exact .inl z
    · exact .inr ⟨z, PySem.W.cellsFrom_some _ _ _ (.inl z)⟩
  refine codeAny_call_function hr.depth (KX f _ lk) rfl S.co S.gen rfl (PySem.W.codeRec_of KX hcd) (hbt _ _ _ _ ?_)
  refine wpAny_newFunctionEnv_cells S.kind par fun env ee s1 x1 => ?_
  subst ee
  refine ⟨lim.keeps x1.toInCall.keep, codeAny_func ?_⟩
  have I : Inv (cxOf (L2.CX P w) P w K mg base N qual (defScope st) f cdv A outer s H E) [] (L2.start N vs) H s1 :=
    inv_start S hr.hd e0 hlen rv x1
  have body := hb cdv A outer s H E (hr.deeper _) hg
  have q' : rdS cl (fun c d _ h => E c d h) K g { nx := fun _ H' => Q .non H', rt := Q } (L2.start N vs) H := by
    refine ⟨θ, startE N.length ds, M, relE_start ra, rp, ?_⟩
    dsimp only at q
    cases e : g (startE N.length ds) M with
    | fl fl ρ M' =>
      rw [e] at q
      cases fl with
      | nx => exact fun θ' H' σ' e1 r1 _ => q θ' H' .non e1 r1 .non
      | brk => exact q.elim
      | ct => exact q.elim
      | ret d => exact q
    | exc c fs ρ M' =>
      rw [e] at q
      exact fun θ' H' σ' C dd e1 r1 _ hc hx => q θ' H' C dd e1 r1 hc hx
    | no =>
      rw [e] at q
      exact q.elim
  refine wpAny_mono (body.run [] s1 _ H _ I q') (fun fl s' hs => ?_) fun e s' hs => hs
  cases fl with
  | ret u =>
    obtain ⟨v, σ', H', J, r, z⟩ := hs
    exact ⟨v, H', J.os, J.bare, J.base, J.hok, r, z⟩
  | next =>
    obtain ⟨σ', H', J, z⟩ := hs
    exact ⟨.non, H', J.os, J.bare, J.base, J.hok, rfl, z⟩
  | brk =>
    obtain ⟨_, _, _, z⟩ := hs
    exact False.elim z
  | cont =>
    obtain ⟨_, _, _, z⟩ := hs
    exact False.elim z
end

/-! ### calls -/
section
variable {X : Cx} {cl : ClsA} {W : WX} {k : Nat} {f : Addr} {fd : FuncData} {ps : List Str} {g : List D → Store → Out D} {x : Str} {p pos : Pos} {e : Expr} {es : List Expr} {fs : Den (List D)}
/-- what a def answers where it is called -/
theorem runG {pins : List (Addr × Obj)} {σ : L2.St} {H : Hp} {s : Shared} {Q : VK} {us : List Value} {vs : List V} {θ : List Addr} {M : Store} {ds : List D} (F : FnG X.prog X.w X.K X.mg X.base cl k f fd ps g) (hr : Room k X.A) (hg : X.A.guards = some [])
    (hb : Binds X.K fd ps []) (tk : Takes X W) (I : Inv X pins σ H s) (rv : Vals vs us) (rp : Rep X.K cl θ H M) (ra : RpA X.K θ H vs ds) (hl : ds.length = ps.length) (q : PostG X.K cl (Rp X.K) W Q σ θ H (g ds M)) :
    wpAny (model X.prog X.w) X.A (call (.ref f) us) (EP X pins σ Q) X.xe s := by
  have n1 : us.length = ps.length := by rw [← rv.length, ra.length]; exact hl
  have b := hb s us I.kIn (by rw [List.append_nil]; exact n1)
  rw [List.append_nil] at b
  have q' : PostG X.K cl (Rp X.K) (fun c d _ h => WE W σ c d h) Q [] θ H (g ds M) := by
    cases e : g ds M with
    | ok a M' => rw [e] at q; exact q
    | exc c fs M' => rw [e] at q; exact q
    | no => rw [e] at q; exact q
  refine wpAny_call (codeAny_mono (F X.A X.stack s H ⟨us, []⟩ us vs θ M ds Q (WE W σ) hr hg I.env0 b rv rp ra hl q') fun r s' z => ?_)
  cases r with
  | error er => exact passAt tk σ pins H s er s' I z
  | ok fl =>
    cases fl with
    | ret u => exact I.after z
    | next => exact False.elim z
    | brk => exact False.elim z
    | cont => exact False.elim z
/-- with the right number of values -/
def arity (n : Nat) (g : List D → Store → Out D) : List D → Store → Out D := fun ds M => if ds.length = n then g ds M else .no
def denCall (fs : Den (List D)) (g : List D → Store → Out D) : Den D := fun ρ M => (fs ρ M).bind g
theorem rd_call (F : FnG X.prog X.w X.K X.mg X.base cl k f fd ps g) (hr : Room k X.A) (hgd : X.A.guards = some []) (hb : Binds X.K fd ps []) (tk : Takes X W) (hg : Gl X x) (hm : X.mg x = some (.ref f)) (hk : PySem.W.keepIn X.K (.ref f) = true)
    (hdb : (x == ("__debug__" : Str)) = false) (ha : RA X cl W (e :: es) fs) (h1 : isStar e = false) (h2 : es.any isStar = false) : RD X cl W (.Call (.Name x p) (e :: es) [] pos) (denCall fs (arity ps.length g)) := by
  refine ⟨fun pins s σ H Q I q => ?_⟩
  obtain ⟨θ, ρ, M, hE, r, q⟩ := q
  refine wpAny_Call_Name_kw (ld_glob I hg hm ?_ hdb)
  refine PySem.W.callWith_K (h₀ := X.base) I.ok.mod.kin hk ?_ (star_one e es X.env h1) (star_no pos X.env es h2)
  refine thn (ha.run pos pins s σ H (fun vs H1 => ∃ θ1 M1 ds, Rep X.K cl θ1 H1 M1 ∧ RpA X.K θ1 H1 vs ds ∧ PostG X.K cl (Rp X.K) W Q σ θ1 H1 (arity ps.length g ds M1)) I
    ⟨θ, ρ, M, hE, r, PostG.bind q fun ds M1 θ1 H1 vs e1 r1 p1 q1 => ⟨θ1, M1, ds, r1, p1, q1⟩⟩) fun us s1 ⟨vs, H1, I1, rv, θ1, M1, ds, r1, p1, q1⟩ => ⟨I1.kIn, ?_⟩
  unfold arity at q1
  split at q1
  · rename_i hl
    exact runG F hr hgd hb tk I1 rv r1 p1 hl q1
  · exact q1.elim
/-- a built-in function, a built-in class -/
theorem rd_bi {id : String} {gD : List D → Store → Out D} (hc : ∀ σ, CallR X (.builtin id) (cR X.K cl W σ gD)) (hg : Gl X x) (hm : X.mg x = none) (hv : bootBuiltins x = some (.builtin id)) (ha : RA X cl W (e :: es) fs) (h1 : isStar e = false) (h2 : es.any isStar = false)
    (hn : x ≠ "__name__") (hdb : (x == ("__debug__" : Str)) = false) : RD X cl W (.Call (.Name x p) (e :: es) [] pos) (denCall fs gD) :=
  ⟨fun pins s σ H Q I q => (pe_callB (hc σ) hg hm hv ha hn hdb (star_one e es X.env h1) (star_no pos X.env es h2)).run pins s σ H Q I (by
    obtain ⟨θ, ρ, M, hE, r, q⟩ := q
    exact ⟨θ, ρ, M, hE, r, PostG.bind q fun ds M1 θ1 H1 vs e1 r1 p1 q1 => ⟨θ1, M1, ds, r1, p1, q1⟩⟩)⟩
theorem rd_ty {T : String} {gD : List D → Store → Out D} (hc : ∀ σ, CallR X (.type T) (cR X.K cl W σ gD)) (hg : Gl X x) (hm : X.mg x = none) (hv : bootBuiltins x = some (.type T)) (ha : RA X cl W (e :: es) fs) (h1 : isStar e = false) (h2 : es.any isStar = false)
    (hn : x ≠ "__name__") (hdb : (x == ("__debug__" : Str)) = false) : RD X cl W (.Call (.Name x p) (e :: es) [] pos) (denCall fs gD) :=
  ⟨fun pins s σ H Q I q => (pe_callTy (hc σ) hg hm hv ha hn hdb (star_one e es X.env h1) (star_no pos X.env es h2)).run pins s σ H Q I (by
    obtain ⟨θ, ρ, M, hE, r, q⟩ := q
    exact ⟨θ, ρ, M, hE, r, PostG.bind q fun ds M1 θ1 H1 vs e1 r1 p1 q1 => ⟨θ1, M1, ds, r1, p1, q1⟩⟩)⟩
end
end RI

/-! targets, walks, loops, comprehensions -/
namespace RI
open PySem PySem.Spec PyProof.Rows L2

/-! ### targets -/
inductive Tgt where
  | name (i : Nat) | tup (is : List Nat)
def setAll : List Nat → List D → Env1 → Env1
  | i :: is, d :: ds, ρ => setAll is ds (ρ.set i (some d))
  | _, _, ρ => ρ
def setT (t : Tgt) (d : D) (ρ : Env1) : Option Env1 := match t, d with
  | .name i, d => some (ρ.set i (some d))
  | .tup is, .tup ds => if is.length = ds.length then some (setAll is ds ρ) else none
  | _, _ => none
theorem RelE.set {K : PySem.W.Frag} {θ : List Addr} {H : Hp} {σ : L2.St} {ρ : Env1} (h : RelE K θ H σ ρ) {v : V} {d : D} (r : Rp K θ H v d) (i : Nat) : RelE K θ H (σ.set i (some v)) (ρ.set i (some d)) := by
  refine ⟨by rw [List.length_set, List.length_set]; exact h.len, fun j d' e => ?_⟩
  by_cases hj : j = i
  · subst hj
    by_cases hl : j < ρ.length
    · rw [List.getElem?_set_self hl] at e
      cases e
      exact ⟨v, List.getElem?_set_self (by rw [h.len]; exact hl), r⟩
    · rw [List.getElem?_eq_none_iff.mpr (by rw [List.length_set]; omega)] at e
      cases e
  · rw [List.getElem?_set_ne (Ne.symm hj)] at e
    obtain ⟨v', h1, h2⟩ := h.at_ j d' e
    exact ⟨v', by rw [List.getElem?_set_ne (Ne.symm hj)]; exact h1, h2⟩
/-- a target's reading -/
def rdG1 (K : PySem.W.Frag) (t : Tgt) : TG := fun v σ H Q => ∃ θ ρ d ρ', RelE K θ H σ ρ ∧ Rp K θ H v d ∧ setT t d ρ = some ρ' ∧ ∀ σ', RelE K θ H σ' ρ' → (∀ j, (σ'[j]? = σ[j]?) ∨ (∃ i, j = i ∧ (t = .name i ∨ ∃ is, t = .tup is ∧ i ∈ is))) → Q σ' H
def rdGs (K : PySem.W.Frag) (is : List Nat) : TGs := fun vs σ H Q => ∃ θ ρ ds, RelE K θ H σ ρ ∧ RpA K θ H vs ds ∧ is.length = ds.length ∧ ∀ σ', RelE K θ H σ' (setAll is ds ρ) → (∀ j, j ∉ is → σ'[j]? = σ[j]?) → Q σ' H
theorem PG.imp {X : Cx} {e : Expr} {t t' : TG} (h : PG X e t) (k : ∀ v σ H Q, t' v σ H Q → t v σ H Q) : PG X e t' := ⟨fun pins s σ H v u Q I r q => h.run pins s σ H v u Q I r (k v σ H Q q)⟩
theorem PGs.imp {X : Cx} {e : List Expr} {t t' : TGs} (h : PGs X e t) (k : ∀ v σ H Q, t' v σ H Q → t v σ H Q) : PGs X e t' := ⟨fun pins s σ H v u Q I r q => h.run pins s σ H v u Q I r (k v σ H Q q)⟩
/-- the slot of a local name -/
def slotL (N : List Str) (sc : Scope) (x : Str) : Option Nat := match sc.names.lookup x with
  | some .local => N.idxOf? x
  | some .cell => N.idxOf? x
  | _ => none
theorem idx_get {N : List Str} {x : Str} {i : Nat} (h : N.idxOf? x = some i) : N[i]? = some x := by
  unfold List.idxOf? at h
  rw [List.findIdx?_eq_some_iff_getElem] at h
  obtain ⟨hl, he, _⟩ := h
  rw [List.getElem?_eq_getElem hl]
  simpa using he
theorem slotL_ok {N : List Str} {sc : Scope} {x : Str} {i : Nat} (h : slotL N sc x = some i) : N[i]? = some x ∧ Loc sc x := by
  unfold slotL at h
  split at h
  · rename_i e
    exact ⟨idx_get h, .inl e⟩
  · rename_i e
    exact ⟨idx_get h, .inr e⟩
  · cases h
def namesT (N : List Str) (sc : Scope) : List Expr → Option (List Nat)
  | [] => some []
  | .Name x _ :: r => match slotL N sc x, namesT N sc r with
    | some i, some is => some (i :: is)
    | _, _ => none
  | _ :: _ => none
def tgtOf (N : List Str) (sc : Scope) : Expr → Option Tgt
  | .Name x _ => (slotL N sc x).map .name
  | .Tuple es _ _ => (namesT N sc es).map .tup
  | _ => none
section
variable {X : Cx} {cl : ClsA}
theorem pg_nm (hN : X.N.Nodup) {x : Str} {pos : Pos} {i : Nat} (h : slotL X.N X.env.scope x = some i) (hf : X.fn x = true ∨ X.env.scope.names.lookup x = some .local) : PG X (.Name x pos) (rdG1 X.K (.name i)) := by
  obtain ⟨h1, h2⟩ := slotL_ok h
  refine PG.imp (pg_name hN h1 h2 hf) fun v σ H Q q => ?_
  obtain ⟨θ, ρ, d, ρ', hE, r, e, q⟩ := q
  have e' : ρ' = ρ.set i (some d) := by
    unfold setT at e
    exact (Option.some.inj e).symm
  subst e'
  refine q _ (hE.set r i) fun j => ?_
  by_cases hj : j = i
  · exact .inr ⟨i, hj, .inl rfl⟩
  · exact .inl (List.getElem?_set_ne (Ne.symm hj))
/-- the names that a target holds -/
def fnOk (X : Cx) (x : Str) : Prop := X.fn x = true ∨ X.env.scope.names.lookup x = some .local
def nameIn : Expr → List Str
  | .Name x _ => [x]
  | _ => []
theorem pgs_nms (hN : X.N.Nodup) : ∀ (es : List Expr) (is : List Nat), namesT X.N X.env.scope es = some is → (∀ x ∈ es.flatMap nameIn, fnOk X x) → PGs X es (rdGs X.K is) ∧ (assignEach es X.env).length = es.length ∧ (assignEach es X.env).findIdx? (·.1) = none ∧ is.length = es.length
  | [], is, h, _ => by
    simp [namesT] at h
    subst h
    refine ⟨PGs.imp pgs_nil fun v σ H Q q => ?_, rfl, rfl, rfl⟩
    obtain ⟨θ, ρ, ds, hE, r, e, q⟩ := q
    cases ds with
    | nil =>
      cases r
      exact ⟨rfl, q σ hE fun _ _ => rfl⟩
    | cons _ _ => simp at e
  | .Name x pos :: r, is, h, hf => by
    unfold namesT at h
    split at h
    · rename_i i js h1 h2
      have h' := Option.some.inj h
      subst h'
      obtain ⟨p1, p2, p3, p4⟩ := pgs_nms hN r js h2 fun y hy => hf y (by rw [List.flatMap_cons]; exact List.mem_append_right _ hy)
      have hx : fnOk X x := hf x (by rw [List.flatMap_cons]; exact List.mem_append_left _ (List.mem_singleton.mpr rfl))
      refine ⟨PGs.imp (pgs_cons (pg_nm hN h1 hx) p1 rfl) fun vs σ H Q q => ?_, ?_, ?_, by rw [List.length_cons, List.length_cons, p4]⟩
      · obtain ⟨θ, ρ, ds, hE, ra, e, q⟩ := q
        cases ra with
        | nil => simp at e
        | cons rv t =>
          rename_i v vs d ds
          refine ⟨_, _, rfl, θ, ρ, d, _, hE, rv, rfl, fun σ' hE' hs => ?_⟩
          refine ⟨θ, ρ.set i (some d), ds, hE', t, by simpa using e, fun σ2 hE2 hs2 => q σ2 hE2 fun j hj => ?_⟩
          rw [List.mem_cons, not_or] at hj
          rw [hs2 j hj.2]
          rcases hs j with z | ⟨k, rfl, z⟩
          · exact z
          · rcases z with z | ⟨_, z, _⟩
            · exact absurd (Tgt.name.inj z).symm hj.1
            · cases z
      · show ((false, assign (.Name x pos) X.env) :: assignEach r X.env).length = _
        rw [List.length_cons, p2, List.length_cons]
      · show ((false, assign (.Name x pos) X.env) :: assignEach r X.env).findIdx? (·.1) = none
        rw [List.findIdx?_cons, p3] <;> rfl
    · cases h
theorem pg_of (hc : X.calm = true) (hN : X.N.Nodup) {e : Expr} {t : Tgt} (h : tgtOf X.N X.env.scope e = some t) (hf : ∀ x, fnOk X x) : PG X e (rdG1 X.K t) := by
  unfold tgtOf at h
  split at h
  · rw [Option.map_eq_some_iff] at h
    obtain ⟨i, h1, rfl⟩ := h
    exact pg_nm hN h1 (hf _)
  · rw [Option.map_eq_some_iff] at h
    obtain ⟨is, h1, rfl⟩ := h
    obtain ⟨p1, p2, p3, p4⟩ := pgs_nms hN _ is h1 fun x _ => hf x
    refine PG.imp (pg_tup (n := is.length) hc p1 (by rw [p2, p4]) p3) fun v σ H Q q => ?_
    obtain ⟨θ, ρ, d, ρ', hE, r, e, q⟩ := q
    cases r with
    | tup h2 h3 =>
      simp only [setT] at e
      split at e
      · rename_i hl
        have e' := Option.some.inj e
        subst e'
        refine ⟨_, _, rfl, h2, by rw [h3.length]; exact hl.symm, θ, ρ, _, hE, h3, hl, fun σ' hE' hs => q σ' hE' fun j => ?_⟩
        by_cases hj : j ∈ is
        · exact .inr ⟨j, rfl, .inr ⟨is, rfl, hj⟩⟩
        · exact .inl (hs j hj)
      · cases e
    | _ => simp [setT] at e
  · cases h
end

/-! ### walks -/
/-- what is walked: the items, and the list of the store that stands meanwhile -/
structure ItD where
  ds : List D
  chk : Option (Nat × List D)
def chkM (c : Option (Nat × List D)) (M : Store) : Prop := match c with
  | none => True
  | some (k, l) => readAt M k = some l
def ItOk (K : PySem.W.Frag) (cl : ClsA) (θ1 : List Addr) (H1 : Hp) (J : It) (it : ItD) : Prop :=
  ∀ θ H M, Ext K θ1 H1 θ H → Rep K cl θ H M → chkM it.chk M →
    (∀ i, it.ds.length ≤ i → J.stop i H) ∧ ∀ i d, it.ds[i]? = some d → J.go i H ∧ ∀ x H', J.yld i H x H' → Ext K θ H θ H' ∧ Rep K cl θ H' M ∧ Rp K θ H' x d
def rdI (cl : ClsA) (W : WX) (K : PySem.W.Frag) (f : Den ItD) : TI := rdG K cl (fun θ H J it => ItOk K cl θ H J it) W f
theorem PI.imp {X : Cx} {tg e : Expr} {t t' : TI} (h : PI X tg e t) (k : ∀ σ H Q, t' σ H Q → t σ H Q) : PI X tg e t' := ⟨fun pins s σ H R I q => h.run pins s σ H R I (k σ H R q)⟩
section
variable {X : Cx} {cl : ClsA} {W : WX} {a b : Expr} {fa fb : Den D} {fs : Den (List D)} {tg : Expr} {p pos : Pos}
/-- a list or a tuple -/
def itOf (d : D) (M : Store) : Out ItD := match d with
  | .tup ds => .ok ⟨ds, none⟩ M
  | .ob k => match readAt M k with
    | some l => .ok ⟨l, some (k, l)⟩ M
    | none => .no
  | _ => .no
def denIt (fa : Den D) : Den ItD := fun ρ M => (fa ρ M).bind itOf
theorem itl_ok {K : PySem.W.Frag} {θ : List Addr} {H : Hp} {a : Addr} {k : Nat} {l : List D} (h : θ[k]? = some a) : ItOk K cl θ H (Itl K a) ⟨l, some (k, l)⟩ := by
  intro θ2 H2 M e r hc
  obtain ⟨vs, h1, h2⟩ := (show ∃ vs, SqL K H2 a vs ∧ RpA K θ2 H2 vs l by
    obtain ⟨o, ho, hr⟩ := r.atn (e.pre k a h)
    simp only [chkM, readAt, ho] at hc
    cases o with
    | lst ds =>
      simp at hc
      subst hc
      obtain ⟨vs, q1, q2⟩ := hr
      exact ⟨vs, SqL.of q1, q2⟩
    | frl ds =>
      simp at hc
      subst hc
      obtain ⟨o, vs, q1, q2⟩ := hr
      exact ⟨vs, .inl (.inr ⟨_, q1⟩), q2⟩
    | _ => simp at hc)
  refine ⟨fun i hi => ⟨vs, h1, by rw [h2.length]; exact hi⟩, fun i d hd => ?_⟩
  obtain ⟨v, h3, h4⟩ := h2.get hd
  refine ⟨⟨vs, v, h1, h3⟩, fun x H' q => ?_⟩
  obtain ⟨rfl, q⟩ := q
  have e2 := q vs h1
  rw [h3] at e2
  cases e2
  exact ⟨.refl, r, h4⟩
theorem itt_ok {K : PySem.W.Frag} {θ : List Addr} {H : Hp} {a : Addr} {vs : List V} {l : List D} (h : SqT K H a vs) (hr : RpA K θ H vs l) : ItOk K cl θ H (Itt K a) ⟨l, none⟩ := by
  intro θ2 H2 M e r _
  have h1 := e.tup a vs h
  have h2 := hr.ext e
  refine ⟨fun i hi => ⟨vs, h1, by rw [h2.length]; exact hi⟩, fun i d hd => ?_⟩
  obtain ⟨v, h3, h4⟩ := h2.get hd
  refine ⟨⟨vs, v, h1, h3⟩, fun x H' q => ?_⟩
  obtain ⟨rfl, q⟩ := q
  have e2 := q vs h1
  rw [h3] at e2
  cases e2
  exact ⟨.refl, r, h4⟩
theorem pi_seq (ha : RD X cl W a fa) : PI X tg a (rdI cl W X.K (denIt fa)) := by
  refine ⟨fun pins s σ H R I q => ?_⟩
  obtain ⟨θ, ρ, M, hE, r, q⟩ := q
  have both : rd cl W X.K fa σ H fun x H1 => (∃ a, x = .ref a ∧ (∃ xs, SqL X.K H1 a xs) ∧ R (Itl X.K a) H1) ∨ ∃ a, x = .ref a ∧ (∃ xs, SqT X.K H1 a xs) ∧ R (Itt X.K a) H1 := by
    refine ⟨θ, ρ, M, hE, r, PostG.bind q fun d M1 θ1 H1 v e1 r1 p1 q1 => ?_⟩
    unfold itOf at q1
    split at q1
    · cases p1 with
      | tup h1 h2 => exact .inr ⟨_, rfl, ⟨_, h1⟩, PostG.ok_ q1 r1 (itt_ok h1 h2)⟩
    · cases p1 with
      | ob h1 =>
        split at q1
        · rename_i l e
          obtain ⟨vs, h2, _⟩ := read_at r1 h1 e
          exact .inl ⟨_, rfl, ⟨vs, h2⟩, PostG.ok_ q1 r1 (itl_ok h1)⟩
        · exact q1.elim
    · exact q1.elim
  refine thn (ha.run pins s σ H _ I both) fun v s1 ⟨x, H1, I1, r1, q1⟩ => ?_
  have fresh : FpOk X pins H1 s1.heap.objs.size := I1.fpOk (Nat.le_refl _) (I1.hok.fresh (Nat.le_refl _))
  rcases q1 with ⟨c, e, ⟨xs, hq⟩, q⟩ | ⟨c, e, ⟨xs, hq⟩, q⟩
  · subst e
    cases r1
    obtain ⟨its, rv, pl, _⟩ := I1.list hq
    exact wpAny_pyIter_list pl.isList ⟨_, [s1.heap.objs.size], _, _, H1, rfl, I1.kept (t' := s1.toks) (fun b o e => Heap.get?_push_of_some _ e), turn_list c _, ⟨_, Heap.get?_push_size _ rfl, rfl, rfl⟩, fun b hb => by rw [List.mem_singleton] at hb; rw [hb]; exact fresh, q⟩
  · subst e
    cases r1
    obtain ⟨its, rv, pl, _⟩ := I1.tuple hq
    exact wpAny_pyIter_tuple (show s1.heap.IsTuple c its.toArray from pl) ⟨_, [s1.heap.objs.size], _, _, H1, rfl, I1.kept (t' := s1.toks) (fun b o e => Heap.get?_push_of_some _ e), turn_tuple c _, ⟨_, Heap.get?_push_size _ rfl, rfl, rfl⟩, fun b hb => by rw [List.mem_singleton] at hb; rw [hb]; exact fresh, q⟩
/-- range(n), range(a, b) -/
def rangeD (lo : Int) (n : Nat) : List D := (List.range n).map fun i => .int (lo + (i : Nat))
def itRange1 (ds : List D) (M : Store) : Out ItD := match ds with
  | [.int n] => if -(2 ^ 62) ≤ n ∧ n < 2 ^ 62 then .ok ⟨rangeD 0 n.toNat, none⟩ M else .no
  | _ => .no
def itRange2 (ds : List D) (M : Store) : Out ItD := match ds with
  | [.int i, .int j] => if -(2 ^ 62) ≤ i ∧ i < 2 ^ 62 ∧ -(2 ^ 62) ≤ j ∧ j < 2 ^ 62 then .ok ⟨rangeD i (j - i).toNat, none⟩ M else .no
  | _ => .no
def denRange1 (fs : Den (List D)) : Den ItD := fun ρ M => (fs ρ M).bind itRange1
def denRange2 (fs : Den (List D)) : Den ItD := fun ρ M => (fs ρ M).bind itRange2
theorem itr_ok {K : PySem.W.Frag} {θ : List Addr} {H : Hp} (lo : Int) (n : Nat) : ItOk K cl θ H (Itr lo n) ⟨rangeD lo n, none⟩ := by
  intro θ2 H2 M e r _
  refine ⟨fun i hi => (show n ≤ i by simpa [rangeD] using hi), fun i d hd => ?_⟩
  have hi : i < n := by
    have := (List.getElem?_eq_some_iff.mp hd).1
    simpa [rangeD] using this
  refine ⟨hi, fun x H' q => ?_⟩
  obtain ⟨rfl, rfl⟩ := q
  unfold rangeD at hd
  rw [List.getElem?_map, List.getElem?_range hi] at hd
  have e2 := Option.some.inj hd
  rw [← e2]
  exact ⟨.refl, r, .int _⟩
theorem pi_rng1 (hg : Gl X "range") (hm : X.mg "range" = none) (hs : isStar a = false) (ha : RA X cl W [a] fs) : PI X tg (.Call (.Name "range" p) [a] [] pos) (rdI cl W X.K (denRange1 fs)) :=
  PI.imp (pi_range1 hg hm ha (star_one a [] X.env hs)) fun σ H R q => by
    obtain ⟨θ, ρ, M, hE, r, q⟩ := q
    refine ⟨θ, ρ, M, hE, r, PostG.bind q fun ds M1 θ1 H1 vs e1 r1 p1 q1 => ?_⟩
    unfold itRange1 at q1
    split at q1
    · split at q1
      · rename_i hl
        cases p1 with
        | cons x t =>
          cases t
          cases x
          exact ⟨_, rfl, hl.1, hl.2, PostG.ok_ q1 r1 (itr_ok 0 _)⟩
      · exact q1.elim
    · exact q1.elim
theorem pi_rng2 (hg : Gl X "range") (hm : X.mg "range" = none) (hs : isStar a = false) (hs2 : isStar b = false) (ha : RA X cl W [a, b] fs) : PI X tg (.Call (.Name "range" p) [a, b] [] pos) (rdI cl W X.K (denRange2 fs)) :=
  PI.imp (pi_range2 hg hm ha (by rw [star_one a [b] X.env hs, star_one b [] X.env hs2] <;> rfl) (star_one b [] X.env hs2)) fun σ H R q => by
    obtain ⟨θ, ρ, M, hE, r, q⟩ := q
    refine ⟨θ, ρ, M, hE, r, PostG.bind q fun ds M1 θ1 H1 vs e1 r1 p1 q1 => ?_⟩
    unfold itRange2 at q1
    split at q1
    · split at q1
      · rename_i hl
        cases p1 with
        | cons x t =>
          cases t with
          | cons y t =>
            cases t
            cases x
            cases y
            exact ⟨_, _, rfl, hl, PostG.ok_ q1 r1 (itr_ok _ _)⟩
      · exact q1.elim
    · exact q1.elim
/-- enumerate of a list -/
def pairsD : Nat → List D → List D
  | _, [] => []
  | i, d :: r => .tup [.int (i : Nat), d] :: pairsD (i + 1) r
theorem pairs_get : ∀ (ds : List D) (k i : Nat) (d : D), (pairsD k ds)[i]? = some d → ∃ x, ds[i]? = some x ∧ d = .tup [.int ((k + i : Nat)), x]
  | [], k, i, d, h => by simp [pairsD] at h
  | x :: r, k, 0, d, h => by
    simp [pairsD] at h
    exact ⟨x, rfl, h.symm⟩
  | x :: r, k, i + 1, d, h => by
    obtain ⟨y, h1, h2⟩ := pairs_get r (k + 1) i d (by simpa [pairsD] using h)
    exact ⟨y, by simpa using h1, by rw [h2, Nat.add_right_comm, Nat.add_assoc]⟩
theorem pairs_len : ∀ (ds : List D) (k : Nat), (pairsD k ds).length = ds.length
  | [], _ => rfl
  | _ :: r, k => by simp [pairsD, pairs_len r (k + 1)]
def itEnum (ds : List D) (M : Store) : Out ItD := match ds with
  | [.ob k] => match readAt M k with
    | some l => .ok ⟨pairsD 0 l, some (k, l)⟩ M
    | none => .no
  | _ => .no
def denEnum (fs : Den (List D)) : Den ItD := fun ρ M => (fs ρ M).bind itEnum
theorem ite_ok {K : PySem.W.Frag} {θ : List Addr} {H : Hp} {a : Addr} {k : Nat} {l : List D} (h : θ[k]? = some a) : ItOk K cl θ H (Ite K a) ⟨pairsD 0 l, some (k, l)⟩ := by
  intro θ2 H2 M e r hc
  obtain ⟨vs, h1, h2⟩ := read_at r (e.pre k a h) hc
  refine ⟨fun i hi => ⟨vs, h1, by rw [h2.length]; rw [pairs_len] at hi; exact hi⟩, fun i d hd => ?_⟩
  obtain ⟨y, hy, rfl⟩ := pairs_get l 0 i d hd
  obtain ⟨v, h3, h4⟩ := h2.get hy
  refine ⟨⟨vs, v, h1, h3⟩, fun x H' q => ?_⟩
  obtain ⟨T, z, rfl, hT, rfl, q⟩ := q
  have e2 := q vs h1
  rw [h3] at e2
  cases e2
  have ex : Ext K θ2 H2 θ2 (upd H2 T (.tup [.int (i : Nat), v])) := Ext.upd (Free.none hT)
  refine ⟨ex, r.keep hT, .tup (SqT.of upd_same) (.cons ?_ (.cons (h4.ext ex) .nil))⟩
  rw [Nat.zero_add]
  exact .int _
theorem pi_en {elts : List Expr} {kk : Nat} {tpos : Pos} (hg : Gl X "enumerate") (hm : X.mg "enumerate" = none) (hs : isStar a = false) (ha : RA X cl W [a] fs) : PI X (.Tuple elts kk tpos) (.Call (.Name "enumerate" p) [a] [] pos) (rdI cl W X.K (denEnum fs)) :=
  PI.imp (pi_enum hg hm ha (star_one a [] X.env hs)) fun σ H R q => by
    obtain ⟨θ, ρ, M, hE, r, q⟩ := q
    refine ⟨θ, ρ, M, hE, r, PostG.bind q fun ds M1 θ1 H1 vs e1 r1 p1 q1 => ?_⟩
    unfold itEnum at q1
    split at q1
    · split at q1
      · rename_i l e
        cases p1 with
        | cons x t =>
          cases t
          cases x with
          | ob h1 =>
            obtain ⟨vs, h2, _⟩ := read_at r1 h1 e
            exact ⟨_, vs, rfl, h2, PostG.ok_ q1 r1 (ite_ok h1)⟩
      · exact q1.elim
    · exact q1.elim
end

/-! ### for -/
open Classical in
/-- a loop over data -/
noncomputable def forD (c : Option (Nat × List D)) (body : D → Env1 → Store → SOut) : List D → Env1 → Store → SOut
  | [], ρ, M => if chkM c M then .fl .nx ρ M else .no
  | d :: r, ρ, M => if chkM c M then (match body d ρ M with
      | .fl .nx ρ' M' => forD c body r ρ' M'
      | .fl .ct ρ' M' => forD c body r ρ' M'
      | .fl .brk ρ' M' => .fl .nx ρ' M'
      | o => o) else .no
/-- a target set, then a block -/
def onT (t : Tgt) (b : DenS) (d : D) (ρ : Env1) (M : Store) : SOut := match setT t d ρ with
  | some ρ' => b ρ' M
  | none => .no
noncomputable def denFor (f : Den ItD) (t : Tgt) (b : DenS) : DenS := fun ρ M => bindS (f ρ M) ρ fun it M => forD it.chk (onT t b) it.ds ρ M
abbrev RS (X : Cx) (cl : ClsA) (W : WX) (st : Stmt) (g : DenS) : Prop := PS X st (rdS cl W X.K g)
abbrev RB (X : Cx) (cl : ClsA) (W : WX) (sts : List Stmt) (g : DenS) : Prop := PSs X sts (rdS cl W X.K g)
section
variable {X : Cx} {cl : ClsA} {W : WX} {f : Den ItD} {t : Tgt} {b : DenS} {tg iter : Expr} {body : List Stmt} {pos : Pos}
theorem rs_for (hp : PassesOwn (model X.prog X.w) X.A X.env X.xe) (hc : X.calm = true) (hi : PI X tg iter (rdI cl W X.K f)) (hg : PG X tg (rdG1 X.K t)) (hb : RB X cl W body b) (hs : ∀ x, foldedSetIterable iter X.env x = pure x) :
    RS X cl W (.For tg iter body [] pos) (denFor f t b) := PS.imp (ps_for hp hc hi hg hb hs) fun E σ H q => by
  obtain ⟨θ, ρ, M, hE, r, q⟩ := q
  refine ⟨θ, ρ, M, hE, r, PostS.bind (Rv := fun θ H J it => ItOk X.K cl θ H J it) q hE fun it M1 θ1 H1 J e1 r1 ok q1 => ?_⟩
  let Wv : Nat → Nat → L2.St → Hp → Prop := fun i m σ2 H2 => m + i = it.ds.length ∧ ∃ θ2 ρ2 M2, Ext X.K θ1 H1 θ2 H2 ∧ RelE X.K θ2 H2 σ2 ρ2 ∧ Rep X.K cl θ2 H2 M2 ∧ PostS X.K cl W E θ2 H2 (forD it.chk (onT t b) (it.ds.drop i) ρ2 M2)
  refine ⟨Wv, ⟨it.ds.length, by simp, θ1, ρ, M1, .refl, hE.ext e1, r1, by simpa using q1⟩, fun i m σ2 H2 hw => ?_⟩
  obtain ⟨hm, θ2, ρ2, M2, e2, hE2, r2, q2⟩ := hw
  cases hd : it.ds[i]? with
  | none =>
    have hl : it.ds.length ≤ i := List.getElem?_eq_none_iff.mp hd
    rw [List.drop_eq_nil_of_le hl, forD] at q2
    split at q2
    · rename_i hck
      exact .inl ⟨(ok θ2 H2 M2 e2 r2 hck).1 i hl, q2 θ2 H2 σ2 .refl r2 hE2⟩
    · exact q2.elim
  | some d =>
    obtain ⟨hl, hget⟩ := List.getElem?_eq_some_iff.mp hd
    rw [List.drop_eq_getElem_cons hl, hget, forD] at q2
    split at q2
    · rename_i hck
      obtain ⟨go, yl⟩ := (ok θ2 H2 M2 e2 r2 hck).2 i d hd
      refine .inr ⟨go, fun σ' H' => ∃ θ3 ρ3 M3, Ext X.K θ1 H1 θ3 H' ∧ RelE X.K θ3 H' σ' ρ3 ∧ Rep X.K cl θ3 H' M3 ∧ PostS X.K cl W E θ3 H' (forD it.chk (onT t b) (it.ds.drop (i + 1)) ρ3 M3),
        fun σ' H' hN => ⟨m - 1, by omega, by omega, hN⟩, fun x H' hy => ?_⟩
      obtain ⟨e3, r3, p3⟩ := yl x H' hy
      cases ht : setT t d ρ2 with
      | none =>
        simp only [onT, ht] at q2
        exact q2.elim
      | some ρ' =>
        simp only [onT, ht] at q2
        refine ⟨θ2, ρ2, d, ρ', hE2.ext e3, p3, ht, fun σ3 hE3 _ => ⟨θ2, ρ', M2, hE3, r3, ?_⟩⟩
        have q3 := PostS.ext (o := _) q2 e3
        cases hb : b ρ' M2 with
        | fl fl ρ4 M4 =>
          rw [hb] at q3
          cases fl with
          | nx => exact fun θ' H'' σ' e r hE' => ⟨θ', ρ4, M4, e2.trans (e3.trans e), hE', r, PostS.ext q3 e⟩
          | ct => exact fun θ' H'' σ' e r hE' => ⟨θ', ρ4, M4, e2.trans (e3.trans e), hE', r, PostS.ext q3 e⟩
          | brk => exact q3
          | ret d => exact q3
        | exc c fs ρ4 M4 =>
          rw [hb] at q3
          exact q3
        | no =>
          rw [hb] at q3
          exact q3
    · exact q2.elim
end
end RI

/-! comprehensions; plain statements -/
namespace RI
open PySem PySem.Spec PyProof.Rows L2

/-! ### comprehensions -/
def WF : WX := fun _ _ _ _ => False
/-- nothing is raised within -/
def noX {α : Type} : Out α → Out α
  | .exc _ _ _ => .no
  | o => o
@[simp] theorem noX_ok {α : Type} (a : α) (M : Store) : noX (.ok a M) = .ok a M := rfl
def wipeE (ρ : Env1) : List Nat → Env1
  | [] => ρ
  | v :: vs => (wipeE ρ vs).set v none
theorem wipe_get (σ : L2.St) (j : Nat) : ∀ vs : List Nat, (wipe σ vs)[j]? = if j ∈ vs ∧ j < σ.length then some none else σ[j]?
  | [] => by simp [wipe]
  | v :: vs => by
    unfold wipe
    by_cases hj : j = v
    · subst hj
      by_cases hl : j < σ.length
      · rw [List.getElem?_set_self (by rw [wipe_length]; exact hl), if_pos ⟨List.mem_cons_self, hl⟩]
      · rw [List.getElem?_eq_none_iff.mpr (by rw [List.length_set, wipe_length]; omega), if_neg (fun z => hl z.2)]
        exact (List.getElem?_eq_none_iff.mpr (by omega)).symm
    · rw [List.getElem?_set_ne (Ne.symm hj), wipe_get σ j vs]
      simp [hj]
theorem relE_wipe {K : PySem.W.Frag} {θ : List Addr} {H : Hp} {σ : L2.St} {ρ : Env1} (h : RelE K θ H σ ρ) : ∀ vs : List Nat, RelE K θ H (wipe σ vs) (wipeE ρ vs)
  | [] => h
  | v :: vs => by
    have ih := relE_wipe h vs
    unfold wipe wipeE
    refine ⟨by rw [List.length_set, List.length_set]; exact ih.len, fun i d e => ?_⟩
    by_cases hi : i = v
    · subst hi
      by_cases hl : i < (wipeE ρ vs).length
      · rw [List.getElem?_set_self hl] at e
        cases e
      · rw [List.getElem?_eq_none_iff.mpr (by rw [List.length_set]; omega)] at e
        cases e
    · rw [List.getElem?_set_ne (Ne.symm hi)] at e
      obtain ⟨v', h1, h2⟩ := ih.at_ i d e
      exact ⟨v', by rw [List.getElem?_set_ne (Ne.symm hi)]; exact h1, h2⟩
def tgtIn (t : Tgt) (vs : List Nat) : Bool := match t with
  | .name i => vs.contains i
  | .tup is => is.all vs.contains
theorem wipe_same {σ σ2 : L2.St} {vs : List Nat} {t : Tgt} (ht : tgtIn t vs = true) (hl : σ2.length = (wipe σ vs).length) (h : ∀ j, (σ2[j]? = (wipe σ vs)[j]?) ∨ (∃ i, j = i ∧ (t = .name i ∨ ∃ is, t = .tup is ∧ i ∈ is))) : wipe σ2 vs = wipe σ vs := by
  refine List.ext_getElem? fun j => ?_
  rw [wipe_length] at hl
  by_cases hj : j ∈ vs
  · rw [wipe_get, wipe_get, hl]
    by_cases hlt : j < σ.length
    · rw [if_pos ⟨hj, hlt⟩, if_pos ⟨hj, hlt⟩]
    · rw [if_neg (fun z => hlt z.2), if_neg (fun z => hlt z.2), List.getElem?_eq_none_iff.mpr (by omega), List.getElem?_eq_none_iff.mpr (by omega)]
  · rw [wipe_get, if_neg (fun z => hj z.1)]
    rcases h j with z | ⟨i, rfl, z⟩
    · exact z
    · exfalso
      apply hj
      rcases z with rfl | ⟨is, rfl, hm⟩
      · simpa [tgtIn] using ht
      · simp only [tgtIn, List.all_eq_true] at ht
        simpa using ht j hm
open Classical in
noncomputable def lcD (n : Nat) (c : Option (Nat × List D)) (t : Tgt) (g : Den Bool) (e : Den D) (ρw : Env1) : List D → Store → Out Unit
  | [], M => if chkM c M then .ok () M else .no
  | d :: r, M => if chkM c M then (match setT t d ρw with
      | none => .no
      | some ρ' => (noX (g ρ' M)).bind fun b M1 => if b then (noX (e ρ' M1)).bind fun y M2 => (match listAt M2 n with
          | some acc => if acc.length < line then lcD n c t g e ρw r (M2.set n (.lst (acc ++ [y]))) else .no
          | none => .no) else lcD n c t g e ρw r M1) else .no
noncomputable def denLc (f : Den ItD) (t : Tgt) (g : Den Bool) (e : Den D) (vs : List Nat) : Den D := fun ρ M => (f ρ M).bind fun it M1 => (lcD M1.length it.chk t g e (wipeE ρ vs) it.ds (M1 ++ [.lst []])).bind fun _ M2 => .ok (.ob M1.length) M2
abbrev RTs (X : Cx) (cl : ClsA) (W : WX) (es : List Expr) (f : Den Bool) : Prop := PTs X es (rdT cl W X.K f)
def denYes : Den Bool := fun _ M => .ok true M
section
variable {X : Cx} {cl : ClsA} {W : WX}
theorem PTs.imp {es : List Expr} {t t' : TT} (h : PTs X es t) (k : ∀ σ H Q, t' σ H Q → t σ H Q) : PTs X es t' := ⟨fun pins s σ H Q I q => h.run pins s σ H Q I (k σ H Q q)⟩
theorem rts_nil : RTs X cl W [] denYes := PTs.imp pts_nil fun σ H Q q => by
  obtain ⟨θ, ρ, M, hE, r, q⟩ := q
  exact PostG.ok_ q r rfl
theorem rts_one {c : Expr} {f : Den Bool} (h : RT X cl W c f) : RTs X cl W [c] f := pts_one h
/-- a comprehension's reading over data -/
theorem lc_read {f : Den ItD} {t : Tgt} {g : Den Bool} {e : Den D} {vs : List Nat} (ht : tgtIn t vs = true) {σ : L2.St} {H : Hp} {Q : VK} (q : rd cl W X.K (denLc f t g e vs) σ H Q) :
    tLc (rdI cl W X.K f) (rdG1 X.K t) (rdT cl WF X.K g) (rd cl WF X.K e) vs σ H Q := by
  obtain ⟨θ, ρ, M, hE, r, q⟩ := q
  refine ⟨θ, ρ, M, hE, r, PostG.bind (Rw := fun θ H J it => ItOk X.K cl θ H J it) q fun it M1 θ1 H1 J e1 r1 ok q1 => ?_⟩
  intro Da hD
  have exD : Ext X.K θ1 H1 (θ1 ++ [Da]) (upd H1 Da (.lst [])) := (Ext.more [Da]).trans (Ext.upd (Free.none hD))
  have rD : Rep X.K cl (θ1 ++ [Da]) (upd H1 Da (.lst [])) (M1 ++ [.lst []]) := r1.new hD ⟨[], upd_same, .nil⟩
  have nD : (θ1 ++ [Da])[M1.length]? = some Da := by rw [← r1.len]; simp
  let Wv : Nat → Nat → Hp → Prop := fun i m H2 => m + i = it.ds.length ∧ ∃ θ2 M2, Ext X.K (θ1 ++ [Da]) (upd H1 Da (.lst [])) θ2 H2 ∧ Rep X.K cl θ2 H2 M2 ∧
    PostG X.K cl (Rp X.K) W Q σ θ2 H2 ((lcD M1.length it.chk t g e (wipeE ρ vs) (it.ds.drop i) M2).bind fun _ M3 => .ok (.ob M1.length) M3)
  refine ⟨Wv, ⟨it.ds.length, by simp, _, _, .refl, rD, PostG.ext (by simpa using q1) exD⟩, fun i m H2 hw => ?_⟩
  obtain ⟨hm, θ2, M2, e2, r2, q2⟩ := hw
  have e12 := exD.trans e2
  cases hd : it.ds[i]? with
  | none =>
    have hl : it.ds.length ≤ i := List.getElem?_eq_none_iff.mp hd
    rw [List.drop_eq_nil_of_le hl, lcD] at q2
    split at q2
    · rename_i hck
      refine .inl ⟨(ok θ2 H2 M2 e12 r2 hck).1 i hl, ?_⟩
      exact PostG.ok_ q2 r2 (.ob (e2.pre _ _ nD))
    · exact q2.elim
  | some d =>
    obtain ⟨hl, hget⟩ := List.getElem?_eq_some_iff.mp hd
    rw [List.drop_eq_getElem_cons hl, hget, lcD] at q2
    split at q2
    · rename_i hck
      obtain ⟨go, yl⟩ := (ok θ2 H2 M2 e12 r2 hck).2 i d hd
      refine .inr ⟨go, fun H' => ∃ θ3 M3, Ext X.K (θ1 ++ [Da]) (upd H1 Da (.lst [])) θ3 H' ∧ Rep X.K cl θ3 H' M3 ∧
        PostG X.K cl (Rp X.K) W Q σ θ3 H' ((lcD M1.length it.chk t g e (wipeE ρ vs) (it.ds.drop (i + 1)) M3).bind fun _ M3 => .ok (.ob M1.length) M3), fun H' hN => ⟨m - 1, by omega, by omega, hN⟩, fun x H' hy => ?_⟩
      obtain ⟨e3, r3, p3⟩ := yl x H' hy
      have hEw : RelE X.K θ2 H' (wipe σ vs) (wipeE ρ vs) := relE_wipe (hE.ext (e1.trans (e12.trans e3))) vs
      cases hst : setT t d (wipeE ρ vs) with
      | none =>
        simp only [hst] at q2
        exact q2.elim
      | some ρ' =>
        simp only [hst] at q2
        refine ⟨θ2, wipeE ρ vs, d, ρ', hEw, p3, hst, fun σ3 hE3 hs3 => ⟨wipe_same ht ?_ hs3, θ2, ρ', M2, hE3, r3, ?_⟩⟩
        · rw [hE3.len, hEw.len]
          unfold setT at hst
          split at hst
          · rw [← Option.some.inj hst, List.length_set]
          · split at hst
            · have hlen : ∀ (is : List Nat) (ds : List D) (ρ : Env1), (setAll is ds ρ).length = ρ.length := by
                intro is
                induction is with
                | nil => intro ds ρ; cases ds <;> rfl
                | cons i is ih => intro ds ρ; cases ds with
                  | nil => rfl
                  | cons d ds => simp only [setAll]; rw [ih, List.length_set]
              rw [← Option.some.inj hst, hlen]
            · cases hst
          · cases hst
        · have q3 := PostG.ext q2 e3
          cases hg : g ρ' M2 with
          | no =>
            rw [hg] at q3
            exact q3.elim
          | exc c fs M4 =>
            rw [hg] at q3
            exact q3.elim
          | ok b M4 =>
            rw [hg] at q3
            intro θ4 H4 b' e4 r4 eb
            subst eb
            have q4 := PostG.ext q3 e4
            cases b' with
            | false =>
              refine iteF ⟨θ4, M4, e2.trans (e3.trans e4), r4, ?_⟩
              simpa using q4
            | true =>
              simp only [noX_ok, Out.bind_ok, if_true] at q4
              refine iteT ⟨θ4, ρ', M4, hE3.ext e4, r4, ?_⟩
              cases he : e ρ' M4 with
              | no =>
                rw [he] at q4
                exact q4.elim
              | exc c fs M5 =>
                rw [he] at q4
                exact q4.elim
              | ok y M5 =>
                rw [he] at q4
                simp only [noX_ok, Out.bind_ok] at q4
                intro θ5 H5 v e5 r5 p5
                have q5 := PostG.ext q4 e5
                split at q5
                · rename_i acc hacc
                  split at q5
                  · rename_i hlt
                    have eA := e2.trans (e3.trans (e4.trans e5))
                    have n5 := eA.pre _ _ nD
                    obtain ⟨ws, h1, h2⟩ := lst_at r5 n5 hacc
                    have fr : Free H5 Da := fun o eo => by
                      rw [h1] at eo
                      cases eo
                      exact ⟨fun _ z => (by cases z), fun _ _ z => (by cases z)⟩
                    have ex6 : Ext X.K θ5 H5 θ5 (upd H5 Da (.lst (ws ++ [v]))) := Ext.upd fr
                    refine ⟨ws, h1, by rw [h2.length]; exact Nat.lt_of_lt_of_le hlt (line_ok (Nat.le_refl _)), θ5, _, eA.trans ex6, r5.put (u' := .lst (ws ++ [v])) (o := .lst (acc ++ [y])) n5 fr ⟨ws ++ [v], upd_same, (h2.app (.cons p5 .nil)).ext ex6⟩, PostG.ext q5 ex6⟩
                  · exact q5.elim
                · exact q5.elim
    · exact q2.elim
theorem rd_lc {f : Den ItD} {t : Tgt} {g : Den Bool} {e : Den D} {elt tg iter : Expr} {ifs : List Expr} {scope : Scope} {own : List (Str × Nat)} {pos : Pos} (hc : X.calm = true) (hN : X.N.Nodup) (hi : PI X tg iter (rdI cl W X.K f)) (ok : BlkOk X.N X.env.scope scope own)
    (hg : ∀ (s : Shared) (H : Hp) (C : Addr) (cs : List (Str × Addr)) (fp : List Addr), PG (X.blk s H scope (compEnvC scope cs C X.env) fp) tg (rdG1 X.K t)) (ht : ∀ (s : Shared) (H : Hp) (C : Addr) (cs : List (Str × Addr)) (fp : List Addr), RTs (X.blk s H scope (compEnvC scope cs C X.env) fp) cl WF ifs g)
    (he : ∀ (s : Shared) (H : Hp) (C : Addr) (cs : List (Str × Addr)) (fp : List Addr), RD (X.blk s H scope (compEnvC scope cs C X.env) fp) cl WF elt e) (hs : ∀ x, foldedSetIterable iter X.env x = pure x) (hv : tgtIn t (own.map (·.2)) = true) :
    RD X cl W (.ListComp elt [⟨tg, iter, ifs, 0⟩] scope pos) (denLc f t g e (own.map (·.2))) := PE.imp (pe_lc hc hN hi ok hg ht he hs) fun σ H Q q => lc_read hv q
end

/-! ### plain statements -/
section
variable {X : Cx} {cl : ClsA} {W : WX} {a b : Expr} {fa fb : Den D} {pos : Pos} {es : List Expr} {fs : Den (List D)} {st : Stmt} {rest : List Stmt} {g h : DenS} {gb : Den Bool}
theorem rs_no : RS X cl W st (fun _ _ => .no) := ⟨fun _ _ _ _ _ _ q => by
  obtain ⟨_, _, _, _, _, q⟩ := q
  exact q.elim⟩
theorem rb_no : RB X cl W rest (fun _ _ => .no) := ⟨fun _ _ _ _ _ _ q => by
  obtain ⟨_, _, _, _, _, q⟩ := q
  exact q.elim⟩
def denNx : DenS := fun ρ M => .fl .nx ρ M
def denSeq (g h : DenS) : DenS := fun ρ M => andThen (g ρ M) h
theorem rb_nil : RB X cl W [] denNx := PSs.imp pss_nil fun E σ H q => by
  obtain ⟨θ, ρ, M, hE, r, q⟩ := q
  exact q θ H σ .refl r hE
theorem rb_cons (h1 : RS X cl W st g) (h2 : RB X cl W rest h) : RB X cl W (st :: rest) (denSeq g h) := PSs.imp (pss_cons h1 h2) fun E σ H q => by
  obtain ⟨θ, ρ, M, hE, r, q⟩ := q
  exact ⟨θ, ρ, M, hE, r, PostS.seq q fun ρ1 M1 θ1 H1 σ1 e1 r1 hE1 q1 => ⟨θ1, ρ1, M1, hE1, r1, q1⟩⟩
theorem rs_pass : RS X cl W (.Pass pos) denNx := PS.imp ps_pass fun E σ H q => by
  obtain ⟨θ, ρ, M, hE, r, q⟩ := q
  exact q θ H σ .refl r hE
theorem rs_break : RS X cl W (.Break pos) (fun ρ M => .fl .brk ρ M) := PS.imp ps_break fun E σ H q => by
  obtain ⟨θ, ρ, M, hE, r, q⟩ := q
  exact q θ H σ .refl r hE
theorem rs_cont : RS X cl W (.Continue pos) (fun ρ M => .fl .ct ρ M) := PS.imp ps_continue fun E σ H q => by
  obtain ⟨θ, ρ, M, hE, r, q⟩ := q
  exact q θ H σ .refl r hE
theorem rs_doc {x : Str} {j : Nat} {p2 : Pos} : RS X cl W (.Expr (.Constant (.str x) j p2) pos) denNx := PS.imp ps_doc fun E σ H q => by
  obtain ⟨θ, ρ, M, hE, r, q⟩ := q
  exact q θ H σ .refl r hE
def denRet (fa : Den D) : DenS := fun ρ M => bindS (fa ρ M) ρ fun d M => .fl (.ret d) ρ M
theorem rs_ret (ha : RD X cl W a fa) : RS X cl W (.Return (some a) pos) (denRet fa) := PS.imp (ps_ret ha) fun E σ H q => by
  obtain ⟨θ, ρ, M, hE, r, q⟩ := q
  exact ⟨θ, ρ, M, hE, r, PostS.bind (Rv := Rp X.K) q hE fun d M1 θ1 H1 v e1 r1 p1 q1 => q1 θ1 H1 v .refl r1 p1⟩
theorem rs_retN : RS X cl W (.Return none pos) (fun ρ M => .fl (.ret .non) ρ M) := PS.imp ps_retN fun E σ H q => by
  obtain ⟨θ, ρ, M, hE, r, q⟩ := q
  exact q θ H .non .refl r .non
def denDrop (fa : Den D) : DenS := fun ρ M => bindS (fa ρ M) ρ fun _ M => .fl .nx ρ M
theorem rs_expr (ha : RD X cl W a fa) (hs : swapsWith a none pos.line X.env = pure false) : RS X cl W (.Expr a pos) (denDrop fa) := PS.imp (ps_expr ha hs) fun E σ H q => by
  obtain ⟨θ, ρ, M, hE, r, q⟩ := q
  exact ⟨θ, ρ, M, hE, r, PostS.bind (Rv := Rp X.K) q hE fun d M1 θ1 H1 v e1 r1 p1 q1 => q1 θ1 H1 σ .refl r1 (hE.ext e1)⟩
def denIfS (t : Den Bool) (g h : DenS) : DenS := fun ρ M => bindS (t ρ M) ρ fun b M => if b then g ρ M else h ρ M
theorem rs_if {A B : List Stmt} (ht : RT X cl W a gb) (h1 : RB X cl W A g) (h2 : RB X cl W B h) : RS X cl W (.If a A B pos) (denIfS gb g h) := PS.imp (ps_if ht h1 h2) fun E σ H q => by
  obtain ⟨θ, ρ, M, hE, r, q⟩ := q
  refine ⟨θ, ρ, M, hE, r, PostS.bind (Rv := fun _ _ b c => b = c) q hE fun d M1 θ1 H1 v e1 r1 p1 q1 => ?_⟩
  subst p1
  cases v with
  | true => exact iteT ⟨θ1, ρ, M1, hE.ext e1, r1, q1⟩
  | false => exact iteF ⟨θ1, ρ, M1, hE.ext e1, r1, q1⟩
/-- target = e -/
def denAsg (fa : Den D) (t : Tgt) : DenS := fun ρ M => bindS (fa ρ M) ρ fun d M => match setT t d ρ with
  | some ρ' => .fl .nx ρ' M
  | none => .no
theorem rs_asg {tg : Expr} {t : Tgt} (ha : RD X cl W a fa) (hg : PG X tg (rdG1 X.K t)) (hs : swapsWithSole [tg] a pos.line X.env = pure false) (hw : swappedStores [tg] a X.env = pure none) (h1 : (assignEach [tg] X.env).map (·.2) = [assign tg X.env]) :
    RS X cl W (.Assign [tg] a pos) (denAsg fa t) := PS.imp (ps_asg ha hg hs hw h1) fun E σ H q => by
  obtain ⟨θ, ρ, M, hE, r, q⟩ := q
  refine ⟨θ, ρ, M, hE, r, PostS.bind (Rv := Rp X.K) q hE fun d M1 θ1 H1 v e1 r1 p1 q1 => ?_⟩
  cases hst : setT t d ρ with
  | none =>
    rw [hst] at q1
    exact q1.elim
  | some ρ' =>
    rw [hst] at q1
    exact ⟨θ1, ρ, d, ρ', hE.ext e1, p1, hst, fun σ' hE' _ => q1 θ1 H1 σ' .refl r1 hE'⟩
theorem rs_setLc {f : Den ItD} {t : Tgt} {gt : Den Bool} {e : Den D} {i : Nat} {y : Str} {py : Pos} {elt tg iter : Expr} {ifs : List Expr} {scope : Scope} {own : List (Str × Nat)} {p2 : Pos} (hc : X.calm = true) (hN : X.N.Nodup) (hy : X.N[i]? = some y) (hyl : X.env.scope.names.lookup y = some .local)
    (hsw : swapsWith (.ListComp elt [⟨tg, iter, ifs, 0⟩] scope p2) (some (.Name y py)) pos.line X.env = pure true) (hi : PI X tg iter (rdI cl W X.K f)) (ok : BlkOk X.N X.env.scope scope own)
    (hg : ∀ (s : Shared) (H : Hp) (C : Addr) (cs : List (Str × Addr)) (fp : List Addr), PG (X.blk s H scope (compEnvC scope cs C X.env) fp) tg (rdG1 X.K t)) (ht : ∀ (s : Shared) (H : Hp) (C : Addr) (cs : List (Str × Addr)) (fp : List Addr), RTs (X.blk s H scope (compEnvC scope cs C X.env) fp) cl WF ifs gt)
    (he : ∀ (s : Shared) (H : Hp) (C : Addr) (cs : List (Str × Addr)) (fp : List Addr), RD (X.blk s H scope (compEnvC scope cs C X.env) fp) cl WF elt e) (hs : ∀ x, foldedSetIterable iter X.env x = pure x) (hv : tgtIn t (own.map (·.2)) = true) :
    RS X cl W (.Assign [.Name y py] (.ListComp elt [⟨tg, iter, ifs, 0⟩] scope p2) pos) (denAsg (denLc f t gt e (own.map (·.2))) (.name i)) := PS.imp (ps_setLc hc hN hy hyl hsw hi ok hg ht he hs) fun E σ H q => by
  have q0 : rd cl W X.K (denLc f t gt e (own.map (·.2))) σ H fun v H' => E.nx (σ.set i (some v)) H' := by
    obtain ⟨θ, ρ, M, hE, r, q⟩ := q
    exact ⟨θ, ρ, M, hE, r, PostS.bind (Rv := Rp X.K) q hE fun d M1 θ1 H1 v e1 r1 p1 q1 => q1 θ1 H1 _ .refl r1 ((hE.ext e1).set p1 i)⟩
  exact lc_read hv q0
/-- a, b = x, y : stored from the right -/
def denPar (i j : Nat) (fs : Den (List D)) : DenS := fun ρ M => bindS (fs ρ M) ρ fun ds M => match ds with
  | [x, y] => .fl .nx ((ρ.set i (some x)).set j (some y)) M
  | _ => .no
theorem rs_par {i j : Nat} {x y : Str} {px py pt : Pos} {kt k2 : Nat} {pt2 : Pos} (hc : X.calm = true) (hN : X.N.Nodup) (hi : X.N[i]? = some x) (hj : X.N[j]? = some y) (hij : i ≠ j) (hx : X.env.scope.names.lookup x = some .local) (hy : X.env.scope.names.lookup y = some .local) (ha : RA X cl W [a, b] fs)
    (hw : swappedStores [.Tuple [.Name x px, .Name y py] kt pt] (.Tuple [a, b] k2 pt2) X.env = pure (some [x, y])) (hs : swapsWithSole [.Tuple [.Name x px, .Name y py] kt pt] (.Tuple [a, b] k2 pt2) pos.line X.env = pure false) :
    RS X cl W (.Assign [.Tuple [.Name x px, .Name y py] kt pt] (.Tuple [a, b] k2 pt2) pos) (denPar i j fs) := PS.imp (ps_par hc hN hi hj hij hx hy ha hw hs) fun E σ H q => by
  obtain ⟨θ, ρ, M, hE, r, q⟩ := q
  refine ⟨θ, ρ, M, hE, r, PostS.bind (Rv := RpA X.K) q hE fun ds M1 θ1 H1 vs e1 r1 p1 q1 => ?_⟩
  cases p1 with
  | nil => exact q1.elim
  | cons r1' t =>
    cases t with
    | nil => exact q1.elim
    | cons r2' t =>
      cases t with
      | nil => exact ⟨_, _, rfl, q1 θ1 H1 _ .refl r1 (((hE.ext e1).set r1' i).set r2' j)⟩
      | cons _ _ => exact q1.elim
def denPar3 (i j l : Nat) (fs : Den (List D)) : DenS := fun ρ M => bindS (fs ρ M) ρ fun ds M => match ds with
  | [x, y, z] => .fl .nx (((ρ.set i (some x)).set j (some y)).set l (some z)) M
  | _ => .no
theorem rs_par3 {i j l : Nat} {c : Expr} {x y z : Str} {px py pz pt : Pos} {kt k2 : Nat} {pt2 : Pos} (hc : X.calm = true) (hN : X.N.Nodup) (hi : X.N[i]? = some x) (hj : X.N[j]? = some y) (hl : X.N[l]? = some z) (hij : i ≠ j) (hil : i ≠ l) (hjl : j ≠ l)
    (hx : X.env.scope.names.lookup x = some .local) (hy : X.env.scope.names.lookup y = some .local) (hz : X.env.scope.names.lookup z = some .local) (ha : RA X cl W [a, b, c] fs)
    (hw : swappedStores [.Tuple [.Name x px, .Name y py, .Name z pz] kt pt] (.Tuple [a, b, c] k2 pt2) X.env = pure (some [x, y, z])) (hs : swapsWithSole [.Tuple [.Name x px, .Name y py, .Name z pz] kt pt] (.Tuple [a, b, c] k2 pt2) pos.line X.env = pure false) :
    RS X cl W (.Assign [.Tuple [.Name x px, .Name y py, .Name z pz] kt pt] (.Tuple [a, b, c] k2 pt2) pos) (denPar3 i j l fs) := PS.imp (ps_par3 hc hN hi hj hl hij hil hjl hx hy hz ha hw hs) fun E σ H q => by
  obtain ⟨θ, ρ, M, hE, r, q⟩ := q
  refine ⟨θ, ρ, M, hE, r, PostS.bind (Rv := RpA X.K) q hE fun ds M1 θ1 H1 vs e1 r1 p1 q1 => ?_⟩
  cases p1 with
  | nil => exact q1.elim
  | cons r1' t =>
    cases t with
    | nil => exact q1.elim
    | cons r2' t =>
      cases t with
      | nil => exact q1.elim
      | cons r3' t =>
        cases t with
        | nil => exact ⟨_, _, _, rfl, q1 θ1 H1 _ .refl r1 ((((hE.ext e1).set r1' i).set r2' j).set r3' l)⟩
        | cons _ _ => exact q1.elim
end
end RI

/-! exceptions of one's own: made, their fields stored and read, asked by isinstance -/
namespace PySem
namespace ExG
open PySem.W PySem.Calls PyProof.Rows PySem.HandSPX PySem.OEX
/-- a chain: classes of one's own, then the built-in base's -/
structure Base (newId : String) (tail : List Value) : Prop where
  fact : ∃ B initId, ExcBaseFacts B newId initId tail
  pass : ∀ self : Value, refuseLoop self "__setattr__" tail = pure ()
  obj : tail.contains (.type "object") = true
theorem base_VE : Base "ValueError.__new__" [.type "ValueError", .type "Exception", .type "BaseException", .type "object"] :=
  ⟨⟨_, _, F.excBase_ValueError⟩, fun self => by kernel_rfl, by decide +kernel⟩
theorem base_LE : Base "LookupError.__new__" [.type "LookupError", .type "Exception", .type "BaseException", .type "object"] :=
  ⟨⟨_, _, F.excBase_LookupError⟩, fun self => by kernel_rfl, by decide +kernel⟩
theorem refs_has (X : String) (tail : List Value) : ∀ rs : List Addr, (rs.map Value.ref ++ tail).contains (.type X) = tail.contains (.type X)
  | [] => rfl
  | r :: rs => by
    rw [List.map_cons, List.cons_append, List.contains_cons, refs_has X tail rs]
    rfl
theorem refs_pass (self : Value) (what : Str) (tail : List Value) : ∀ rs : List Addr, refuseLoop self what (rs.map Value.ref ++ tail) = refuseLoop self what tail
  | [] => rfl
  | r :: rs => by
    rw [List.map_cons, List.cons_append, refuseLoop_ref, refs_pass self what tail rs]
section
open Builtin Builtin.ObjectAttr
variable {prog : Program} {w : World} {A : Around} {E : Value → Shared → Prop} {R : Result → Shared → Prop} {hp : Heap} {g : Array GenState} {d : Drawn} {t : Nat} {os : OsState}
/-- what object.__setattr__ does of an exception of one's own: the store into its own dict is left to be told -/
theorem sa_of {K : Frag} {name : Str} {tk : Tok} {v : Value} {x C : Addr} {ox : Obj} {od : Option Obj} {cd : ClassData} (X : K.In hp) (I : InstAt hp x ox C od) (hcd : clsIn K C = some cd)
    (hpass : refuseLoop (.ref x) "__setattr__" cd.mro = pure ()) (hne : cd.mro.isEmpty = false) (hob : cd.mro.contains (.type "object") = true) (ha : findIn K (.ref C) name = some none)
    (h : ∀ t', wpAny (model prog w) A.in1 (storeInOwnDict (.ref x) (.ref C) (.str name tk) name v false)
      (fun fin s' => match fin with
        | .done fl => R (.ok fl) s'
        | .again c => c.quiet = true ∧ codeAny (model prog w) A c R s') (fun e s' => R (.error e) s') ⟨hp, g, d, t', os⟩) :
    codeAny (model prog w) A (.call (.builtin "object.__setattr__") ⟨[.ref x, .str name tk, v], []⟩) R ⟨hp, g, d, t, os⟩ := by
  have SF := F.store_object
  have mro1 : Looks (model prog w) hp (mroOf (.ref C)) cd.mro :=
    (looks_clsIn X hcd).andThen .now
  have inst : Looks (model prog w) hp (isInstance (.ref x) (.type "object")) true := I.type.andThen (looks_mroIn X
    (by unfold mroIn; rw [hcd, Option.bind_some, if_neg (by rw [hne]; decide), hob]))
  refine codeAny_call_builtin SF.slot.plain SF.entry (@check_slot (model prog w) _ _ ⟨hp, g, d, t, os⟩ "object.__setattr__" "object" "__setattr__" (.ref x) [.str name tk, v] [] _
    SF.kind SF.split inst (SF.args _ _ v) ?_)
  rw [osa_eq, refuse_eq]
  refine wpAny_bind (wpAny_bind (I.type.at (wpAny_bind (mro1.at ?_))))
  rw [hpass]
  have noTaker : Looks (model prog w) hp (storeTaker? none) none := .now
  refine wpAny_pure (wpAny_bind (I.type.at (wpAny_bind ((looks_findIn X ha).at (wpAny_bind (noTaker.at ?_))))))
  exact h t
/-- the first field: a dict is made -/
theorem sa_new {K : Frag} {name : Str} {tk : Tok} {v : Value} {x C : Addr} {fv : Array Value} {cd : ClassData} (X : K.In hp) (hx : hp.get? x = some { cls := .ref C, data := .fields fv }) (hcd : clsIn K C = some cd)
    (hpass : refuseLoop (.ref x) "__setattr__" cd.mro = pure ()) (hne : cd.mro.isEmpty = false) (hob : cd.mro.contains (.type "object") = true) (hh : cd.hasDict = true) (ha : findIn K (.ref C) name = some none)
    (hq : ∀ h' tk' dx, (∀ b o, b ≠ x → hp.get? b = some o → h'.get? b = some o) → hp.objs.size ≤ dx → dx ≠ x → h'.get? x = some { cls := .ref C, dict := some dx, data := .fields fv } →
      h'.Ns1 dx (fun y => if y = name then some v else none) → R (.ok (.ret .none)) ⟨h', g, d, tk', os⟩) :
    codeAny (model prog w) A (.call (.builtin "object.__setattr__") ⟨[.ref x, .str name tk, v], []⟩) R ⟨hp, g, d, t, os⟩ := by
  refine sa_of (ox := { cls := .ref C, data := .fields fv }) (od := none) X ⟨hx, rfl, rfl, trivial⟩ hcd hpass hne hob ha fun t' => ?_
  have cls1 : Looks (model prog w) hp (classData C) cd := looks_clsIn X hcd
  have apart : x ≠ hp.objs.size := Nat.ne_of_lt (Heap.lt_size hx)
  obtain ⟨nm, bs, mro, ns, qn, hd, sn, sb, ab, col, del⟩ := cd
  obtain rfl : hd = true := hh
  unfold storeInOwnDict ownDictForStores
  repeat (first | (with_reducible refine store_in_new ?_ ?_) | (with_reducible refine wpAny_loadPart_at hx ?_) | (with_reducible refine cls1.at ?_) | wp_step)
  · refine ⟨_, #[], _, (Heap.get?_update_ne _ _ _ _ apart.symm).trans (Heap.get?_push_at rfl rfl), rfl, fun e he => ?_, fun _ => rfl⟩
    simp at he
  · intro h' tk' hn' sb
    have keepx := Heap.get?_push_of_some ({ cls := .type "dict", data := .dict #[] } : Obj) hx
    refine hq h' tk' hp.objs.size (fun b o hb ho => (sb.2 b (Nat.ne_of_lt (Heap.lt_size ho))).trans ?_) (Nat.le_refl _) apart.symm ((sb.2 x apart).trans (Heap.get?_update_self _ keepx rfl)) hn'
    exact (Heap.get?_update_ne _ _ _ _ hb).trans (Heap.get?_push_of_some _ ho)
/-- a further field -/
theorem sa_old {K : Frag} {name : Str} {tk : Tok} {v : Value} {x C dx : Addr} {fv : Array Value} {cd : ClassData} {m0 : Str → Option Value} {nl : List Str} (X : K.In hp) (hx : hp.get? x = some { cls := .ref C, dict := some dx, data := .fields fv })
    (hns : hp.Ns1 dx m0) (hw : Within m0 nl) (hz : nl.length ≤ 1000) (hcd : clsIn K C = some cd)
    (hpass : refuseLoop (.ref x) "__setattr__" cd.mro = pure ()) (hne : cd.mro.isEmpty = false) (hob : cd.mro.contains (.type "object") = true) (hh : cd.hasDict = true) (ha : findIn K (.ref C) name = some none)
    (hq : ∀ h' tk', (∀ b o, b ≠ dx → hp.get? b = some o → h'.get? b = some o) → h'.Ns1 dx (fun y => if y = name then some v else m0 y) → R (.ok (.ret .none)) ⟨h', g, d, tk', os⟩) :
    codeAny (model prog w) A (.call (.builtin "object.__setattr__") ⟨[.ref x, .str name tk, v], []⟩) R ⟨hp, g, d, t, os⟩ := by
  obtain ⟨oD, _, _, hoD, _, _⟩ := hns.count hw
  refine sa_of (ox := { cls := .ref C, dict := some dx, data := .fields fv }) (od := some oD) X ⟨hx, rfl, rfl, hoD⟩ hcd hpass hne hob ha fun t' => ?_
  have cls1 : Looks (model prog w) hp (classData C) cd := looks_clsIn X hcd
  obtain ⟨nm, bs, mro, ns, qn, hd, sn, sb, ab, col, del⟩ := cd
  obtain rfl : hd = true := hh
  unfold storeInOwnDict ownDictForStores
  repeat (first | (with_reducible refine store_in_old hns hw hz ?_) | (with_reducible refine wpAny_loadPart_at hx ?_) | (with_reducible refine cls1.at ?_) | wp_step)
  intro h' tk' hn' sb
  exact hq h' tk' (fun b o hb ho => (sb.2 b hb).trans ho) hn'
end
end ExG
end PySem

namespace RI
open PySem PySem.Spec PyProof.Rows L2
/-- an exception class of one's own -/
structure ExC (K : PySem.W.Frag) (C : Addr) : Prop where
  cls : ∃ nm q N bs rs tail sn sub ab col dd k0 k1 k2 k3 k5 newId, ExG.Base newId tail ∧ K.lookup C = some (excClassObj nm q C N bs (List.map Value.ref rs ++ tail) true sn sub ab col dd k0 k1 k2 k3 k5 newId)
  sa : PySem.W.findIn K (.ref C) "__setattr__" = some (some (.builtin "object.__setattr__"))
  exC : PySem.W.subIn K (.ref C) (.type "BaseException") = some true
  tyC : PySem.W.typeIn K (.ref C) = some (.type "type")
  kC : PySem.W.keepIn K (.ref C) = true
  ga : PySem.W.findIn K (.ref C) "__getattribute__" = some (some (.builtin "BaseException.__getattribute__"))
  gg : PySem.W.findIn K (.ref C) "__getattr__" = some none
  hd : PySem.W.hasDictIn K C = true
  cc : PySem.W.findIn K (.ref C) "__class__" = some (some (.builtin "object.__class__"))
  cg : PySem.W.specialIn K (.builtin "object.__class__") "__get__" = some (some (.builtin "getset_descriptor.__get__"))
  ct : PySem.W.takesIn K (.builtin "object.__class__") = some true
  mo : PySem.W.mroIn K C (.type "object") = some true
section
variable {X : Cx} {pins : List (Addr × Obj)} {σ : L2.St} {H : Hp} {s : Shared} {a C dx : Addr} {f : Str} {y : V} {u : Value} {fs : List (Str × V)} {Q : Unit → Shared → Prop} {E : Value → Shared → Prop} {A : Around}
theorem ExC.data {K : PySem.W.Frag} (T : ExC K C) : ∃ cd : ClassData, PySem.W.clsIn K C = some cd ∧ cd.hasDict = true ∧ cd.mro.isEmpty = false ∧ cd.mro.contains (.type "object") = true ∧ ∀ self, refuseLoop self "__setattr__" cd.mro = pure () := by
  obtain ⟨nm, q, N, bs, rs, tail, sn, sub, ab, col, dd, k0, k1, k2, k3, k5, newId, b, hC⟩ := T.cls
  refine ⟨{ name := nm, bases := bs, mro := .ref C :: (List.map Value.ref rs ++ tail), ns := N, qualname := q, hasDict := true, slotNames := sn, subclasses := sub, abstract := ab, collection := col, hasDel := false }, ?_, rfl, rfl, ?_, fun self => ?_⟩
  · unfold PySem.W.clsIn
    rw [hC] <;> rfl
  · show ((List.map Value.ref (C :: rs)) ++ tail).contains (.type "object") = true
    rw [ExG.refs_has]
    exact b.obj
  · show refuseLoop self "__setattr__" ((List.map Value.ref (C :: rs)) ++ tail) = pure ()
    rw [ExG.refs_pass]
    exact b.pass self
/-- e.f = y, the first one -/
theorem xset_new (T : ExC X.K C) (I : Inv X pins σ H s) (e : H a = some (exo a C none)) (hno : PySem.W.findIn X.K (.ref C) f = some none) (ry : RelV y u)
    (h : ∀ dx s', H dx = none → dx ≠ a → Inv X pins σ (upd (upd H dx (exd dx [(f, y)])) a (exo a C (some dx))) s' → Q () s') : wpAny (model X.prog X.w) A (setAttr (.ref a) f u) Q E s := by
  obtain ⟨cd, hcd, h1, h2, h3, h4⟩ := T.data
  obtain ⟨t1, ho⟩ := exo_at I.hok e
  obtain ⟨hp, g, d, t, os⟩ := s
  refine PySem.W.set_plain I.kIn (ox := { cls := .ref C, dict := none, data := .fields #[.ref t1, .none, .none, .none, .bool false, .none] }) (od := none) ⟨ho, rfl, rfl, trivial⟩ T.sa ?_
  refine ExG.sa_new I.kIn ho hcd (h4 _) h2 h3 h1 hno fun h' tk' dx k dn dne hx hn => ?_
  have hnd : H dx = none := I.hok.fresh dn
  have old : ∀ {b : Addr} {o : Obj}, hp.get? b = some o → b ≠ dx := fun {b o} q => Nat.ne_of_lt (Nat.lt_of_lt_of_le (Heap.lt_size q) dn)
  have noa : ∀ {b : Addr}, H b = none → b ≠ a := fun {b} n z => by
    rw [z, e] at n
    cases n
  have un : Un X.fs [] H (upd (upd H dx (exd dx [(f, y)])) a (exo a C (some dx))) hp h' := by
    refine ⟨fun b o q n _ _ => k b o (noa n) q, fun b o q n _ _ => ⟨o.slots, k b o (noa n) q⟩, fun b o q n _ => ?_, fun b o q _ => ?_, fun b xs q => ?_, fun b o v q => ?_, fun b ps q => ⟨#[], ?_⟩⟩
    · rw [upd_ne (noa n), upd_ne (old q)]
      exact n
    · by_cases hb : b = a
      · exact ⟨_, by rw [hb]; exact hx⟩
      · exact ⟨o, k b o hb q⟩
    · rw [upd_ne (at_ne e q exo_tup), upd_ne (ne_of_none q hnd)]
      exact q
    · rw [upd_ne (at_ne e q exo_frz), upd_ne (ne_of_none q hnd)]
      exact q
    · rw [upd_ne (at_ne e q exo_tbl), upd_ne (ne_of_none q hnd), q]
      simp
  refine h dx _ hnd dne (I.un (t' := tk') un fun b o q => ?_)
  by_cases hb : b = a
  · subst hb
    rw [upd_same] at q
    cases q
    exact exo_ok hx
  · rw [upd_ne hb] at q
    by_cases hd : b = dx
    · subst hd
      rw [upd_same] at q
      cases q
      exact exd_ok hn (relO_put (fs := []) ry fun g => True.intro)
    · rw [upd_ne hd] at q
      refine (I.hok b o q).stay (fun c v hc z => k c v ?_ z) (fun c hc => ?_) (fun c xs hc => ?_)
      · rcases hc with hc | hc
        · rw [hc]
          exact hb
        · exact at_ne e hc exo_own
      · rw [upd_ne (at_ne e hc exo_own), upd_ne (ne_of_none hc hnd)]
        exact hc
      · rw [upd_ne (at_ne e hc exo_tup), upd_ne (ne_of_none hc hnd)]
        exact hc
/-- e.f = y, a further one -/
theorem xset_old (T : ExC X.K C) (I : Inv X pins σ H s) (e : H a = some (exo a C (some dx))) (ed : H dx = some (exd dx fs)) (hl : fs.length ≤ 900) (hno : PySem.W.findIn X.K (.ref C) f = some none) (ry : RelV y u)
    (h : ∀ s', Inv X pins σ (upd H dx (exd dx ((f, y) :: fs))) s' → Q () s') : wpAny (model X.prog X.w) A (setAttr (.ref a) f u) Q E s := by
  obtain ⟨cd, hcd, h1, h2, h3, h4⟩ := T.data
  obtain ⟨t1, ho⟩ := exo_at I.hok e
  obtain ⟨mA, hns, rel⟩ := exd_at I.hok ed
  have hw := within_of rel
  obtain ⟨hp, g, d, t, os⟩ := s
  obtain ⟨oD, _, _, hoD, _, _⟩ := hns.count hw
  refine PySem.W.set_plain I.kIn (ox := { cls := .ref C, dict := some dx, data := .fields #[.ref t1, .none, .none, .none, .bool false, .none] }) (od := some oD) ⟨ho, rfl, rfl, hoD⟩ T.sa ?_
  refine ExG.sa_old I.kIn ho hns hw (by rw [List.length_map]; omega) hcd (h4 _) h2 h3 h1 hno fun h' tk' k hn => ?_
  obtain ⟨o', _, _, there, _⟩ := id hn
  exact h _ (I.write (t' := tk') (x := dx) (e := dx) (o := exd dx ((f, y) :: fs)) (by rw [ed]; exact True.intro) (.inl rfl) k ⟨o', there⟩ (exd_ok hn (relO_put ry rel)))
/-- e.f read -/
theorem xget {b : Bool} {v : V} {Q : Value → Shared → Prop} (T : ExC X.K C) (I : Inv X pins σ H s) (e : H a = some (exo a C (some dx))) (ed : H dx = some (exd dx fs)) (hno : PySem.W.findIn X.K (.ref C) f = some none) (l : fs.lookup f = some v)
    (h : ∀ u s', Inv X pins σ H s' → RelV v u → Q u s') : wpAny (model X.prog X.w) A (getAttr (.ref a) f b) Q E s := by
  obtain ⟨t1, ho⟩ := exo_at I.hok e
  obtain ⟨mA, hns, rel⟩ := exd_at I.hok ed
  obtain ⟨od, hod, look⟩ := lookIn_ns hns
  obtain ⟨u, hu, ru⟩ := RelO.some_of (v := v) (o := mA f) (by rw [← l]; exact rel f)
  have J : PySem.W.InstAt s.heap a { cls := .ref C, dict := some dx, data := .fields #[.ref t1, .none, .none, .none, .bool false, .none] } C (some od) := ⟨ho, rfl, rfl, hod⟩
  exact HandSPX.exc_get I.kIn J T.ga T.gg T.exC (PySem.W.findObj_own T.hd hno rfl (by rw [look, hu])) (handed_of ru) (h u _ (I.tok _) ru)
end
end RI

namespace PySem
namespace ExG
open PySem.W PySem.Calls PyProof.Rows
section
variable {prog : Program} {w : World} {A : Around} {E : Value → Shared → Prop} {s : Shared} {K : Frag} {x D : Addr} {ox : Obj} {od : Option Obj}
/-- e.__class__ of an exception of one's own, its dict there or not -/
theorem class_of {Q : Option Value → Shared → Prop} (hga : findIn K (.ref D) "__getattribute__" = some (some (.builtin "BaseException.__getattribute__"))) (hgt : findIn K (.ref D) "__getattr__" = some none)
    (hsub : subIn K (.ref D) (.type "BaseException") = some true) (hf : findObj K D od "__class__" = some (.bind (.builtin "getset_descriptor.__get__") (.builtin "object.__class__"))) (hm : mroIn K D (.type "object") = some true)
    (X : K.In s.heap) (I : InstAt s.heap x ox D od) (h : Q (some (.ref D)) { s with toks := s.toks + 1 }) : wpAny (model prog w) A (getAttr? (.ref x) "__class__") Q E s := by
  obtain ⟨hp, g, d, t, os⟩ := s
  have a0 := I.type (M := model prog w)
  have a1 := looks_findIn (M := model prog w) X hga
  have a2 := looks_findIn (M := model prog w) X hgt
  have a3 := looks_find (M := model prog w) X I hf
  have isB : Looks (model prog w) hp (isInstance (.ref x) (.type "BaseException")) true :=
    a0.andThen (looks_subIn X hsub)
  have n1 : (false && onTheHeap (Value.builtin "BaseException.__getattribute__")) = false := rfl
  have n2 : (onTheHeap (Value.ref D) && Value.builtin "BaseException.__getattribute__" == Value.builtin "object.__getattribute__") = false := by
    rw [show (Value.builtin "BaseException.__getattribute__" == Value.builtin "object.__getattribute__") = false by decide +kernel] <;> rfl
  unfold getAttr? getAttrBy? getAttrBy
  refine wpAny_bind (wpAny_mkText (wpAny_bind (wpAny_attempt (wpAny_holding (wpAny_bind (a0.at (wpAny_bind (a1.at ?_))))))))
  show wpAny _ _ (if (onTheHeap (Value.ref D) && Value.builtin "BaseException.__getattribute__" == Value.builtin "object.__getattribute__") = true then _ else _) _ _ _
  rw [n2, if_neg Bool.false_ne_true]
  unfold getAttrByItsOwn hookBefore
  refine wpAny_bind ?_
  rw [if_pos (show onTheHeap (Value.ref D) = true from rfl)]
  refine a2.at (wpAny_bind (wpAny_attempt (wpAny_holding ?_)))
  unfold callGetattribute
  rw [n1, if_neg Bool.false_ne_true]
  unfold boundAndCalled
  rw [F.excAttr_ValueError.ga.bind (.ref x)]
  refine wpAny_bind (wpAny_pure ?_)
  show wpAny _ _ (call (.builtin "BaseException.__getattribute__") [.ref x, .str "__class__" t]) _ _ _
  refine wpAny_call (codeAny_call_builtin F.excAttr_ValueError.ga.plain F.entry_bexc_ga ?_)
  refine @check_slot (model prog w) _ _ ⟨hp, g, d, t + 1, os⟩ "BaseException.__getattribute__" "BaseException" "__getattribute__" (.ref x) [.str "__class__" t] [] _
    (by decide +kernel) (by decide +kernel) isB (F.args_bexc_ga _ _) ?_
  unfold Builtin.«object.__getattribute__»
  refine wpAny_bind (wpAny_of_eq (a := ((Value.ref x : Value), [Value.str "__class__" t])) (by first | rfl | (simp only [slotArgs]; rfl)) ?_)
  refine wpAny_bind (wpAny_pure (wpAny_bind (a0.at (wpAny_bind (a3.at ?_)))))
  show wpAny _ _ (holding [Value.builtin "object.__class__"] (call (.builtin "getset_descriptor.__get__") [.builtin "object.__class__", .ref x, .ref D]) >>= ret) _ _ _
  refine wpAny_bind (wpAny_holding (wpAny_call (class_get (s := ⟨hp, g, d, t + 1, os⟩) (ox := ox) (od := od) X I hm (wpAny_pure ?_))))
  show wpAny _ _ (handedOut (.ref D)) _ _ _
  rw [handedOut_of (v := .ref D) rfl]
  first
    | exact wpAny_pure (wpAny_pure h)
    | exact wpAny_pure h
    | exact wpAny_pure (wpAny_bind (wpAny_pure (wpAny_pure h)))
theorem kitx_own (hga : findIn K (.ref D) "__getattribute__" = some (some (.builtin "BaseException.__getattribute__"))) (hgt : findIn K (.ref D) "__getattr__" = some none) (hsub : subIn K (.ref D) (.type "BaseException") = some true) (hd : hasDictIn K D = true)
    (hf : findObj K D od "__class__" = some (.bind (.builtin "getset_descriptor.__get__") (.builtin "object.__class__"))) (hm : mroIn K D (.type "object") = some true) :
    KitX K (.ref x) (.ref D) (fun h => InstAt h x ox D od) := by
  obtain ⟨cd, hcd, _⟩ := any_some hd
  have there : ∃ o, K.lookup D = some o ∧ ∀ dd its n sl, o ≠ ⟨.type "tuple", dd, .seq its n, sl⟩ := by
    unfold clsIn at hcd
    split at hcd
    · rename_i ho
      exact ⟨_, ho, fun _ _ _ _ z => by cases z⟩
    · cases hcd
  obtain ⟨o, ho, no⟩ := there
  refine ⟨fun _ _ _ I => I.type, fun M h X _ => ?_, fun h tp dd its n sl X htp => ?_, fun X I k => class_of hga hgt hsub hf hm X I k⟩
  · intro A' Q' E' s' k q
    unfold clsIn at hcd
    split at hcd
    · rename_i ho'
      unfold isType loadHead
      exact wpAny_bind (wpAny_loadPart (k _ _ (X _ _ ho')) (wpAny_pure q))
    · cases hcd
  · refine Bool.eq_false_iff.mpr fun q => ?_
    obtain rfl : D = tp := Value.ref.inj (beq_iff_eq.mp q)
    have z := (X _ _ ho).symm.trans htp
    exact no _ _ _ _ (Option.some.inj z)
end
end ExG
end PySem

namespace RI
open PySem PySem.Spec PyProof.Rows L2
/-! ### isinstance -/
section
variable {X : Cx} {cl : ClsA} {pins : List (Addr × Obj)} {σ : L2.St} {H : Hp} {s : Shared} {θ : List Addr} {M : Store}
theorem kit_exn {K : PySem.W.Frag} {C a : Addr} (T : ExC K C) {t1 : Addr} {d : Option Addr} {od : Option Obj} (hod : od.isSome = d.isSome) :
    PySem.W.KitX K (.ref a) (.ref C) (fun h => PySem.W.InstAt h a { cls := .ref C, dict := d, data := .fields #[.ref t1, .none, .none, .none, .bool false, .none] } C od) := by
  have hc : (PySem.W.clsIn K C).isSome = true := by
    obtain ⟨cd, hcd, _⟩ := T.data
    rw [hcd] <;> rfl
  refine ExG.kitx_own T.ga T.gg T.exC T.hd ?_ T.mo
  cases od with
  | none => exact PySem.W.findObj_dataN hc T.cc T.cg T.ct
  | some od => exact PySem.W.findObj_data hc T.cc T.cg T.ct
end
end RI

namespace RI
open PySem PySem.Spec PyProof.Rows L2
/-! ### classes -/
inductive Cid where
  | ty (n : String) | own (c : Str)
  deriving DecidableEq
def cidV (cl : ClsA) : Cid → Option Value
  | .ty n => some (.type n)
  | .own c => (cl c).map Value.ref
def kindC (M : Store) : D → Option (Cid × Nat)
  | .non => some (.ty "NoneType", 0)
  | .bl _ => some (.ty "bool", 0)
  | .int _ => some (.ty "int", 0)
  | .str _ => some (.ty "str", 0)
  | .tup _ => some (.ty "tuple", 0)
  | .ob k => match M[k]? with
    | some (.lst _) => some (.ty "list", 0)
    | some (.frl _) => some (.ty "list", 0)
    | some (.dct _) => some (.ty "dict", 0)
    | some (.ins c _) => some (.own c, 1)
    | some (.exn c _) => some (.own c, 2)
    | some (.xdo _) => none
    | none => none
/-- a class of instances, asked by isinstance -/
structure InsC (K : PySem.W.Frag) (C : Addr) : Prop where
  cls : Cls K C
  cc : PySem.W.findIn K (.ref C) "__class__" = some (some (.builtin "object.__class__"))
  cg : PySem.W.specialIn K (.builtin "object.__class__") "__get__" = some (some (.builtin "getset_descriptor.__get__"))
  ct : PySem.W.takesIn K (.builtin "object.__class__") = some true
  mo : PySem.W.mroIn K C (.type "object") = some true
/-- what is known of the module's names -/
structure Glo where
  const : Str → Option D
  bi : Str → Bool
  fn : Str → Option (Nat × (List D → Store → Out D))
  mkI : Str → Option (Nat × (List D → Store → Out D))
  mkX : Str → Option (Nat × (List D → Store → Out D))
  mkX0 : Str → Bool
  meth : Str → Option (Str × Nat × (List D → Store → Out D))
  prop : Str → Option (Str × (List D → Store → Out D))
  fld : Str → Str → Bool
  isIns : Str → Bool
  isExn : Str → Bool
  isi : Cid → Cid → Option Bool
def tagOk (G : Glo) : Cid → Nat → Bool
  | _, 0 => true
  | .own c, 1 => G.isIns c
  | .own c, 2 => G.isExn c
  | _, _ => false
def isiD (G : Glo) (d : D) (c : Cid) (M : Store) : Out D := match kindC M d with
  | some (t, n) => match G.isi t c with
    | some b => if tagOk G t n then .ok (.bl b) M else .no
    | none => .no
  | none => .no
structure IsiOk (K : PySem.W.Frag) (cl : ClsA) (G : Glo) : Prop where
  isi : ∀ t c b tv cv, G.isi t c = some b → cidV cl t = some tv → cidV cl c = some cv → PySem.W.kitOne K tv cv = some b
  ins : ∀ c C, G.isIns c = true → cl c = some C → InsC K C
  exn : ∀ c C, G.isExn c = true → cl c = some C → ExC K C
section
variable {X : Cx} {cl : ClsA} {W : WX} {G : Glo} {σ : L2.St} {θ : List Addr} {H : Hp} {M : Store} {Q : VK}
theorem isi_ok (O : IsiOk X.K cl G) {pins : List (Addr × Obj)} {s : Shared} {A : Around} {E : Value → Shared → Prop} {x : V} {u : Value} {d : D} {c : Cid} {cv : Value} {b : D} {M' : Store} {Q : Value → Shared → Prop} (I : Inv X pins σ H s) (r : Rep X.K cl θ H M) (p : Rp X.K θ H x d) (rv : RelV x u)
    (hc : cidV cl c = some cv) (h : isiD G d c M = .ok b M') (hq : ∀ k tk, b = .bl k → M' = M → Q (.bool k) { s with toks := tk }) : wpAny (model X.prog X.w) A (call (.builtin "isinstance") [u, cv]) Q E s := by
  unfold isiD at h
  split at h
  · rename_i t n ht
    split at h
    · rename_i k hk
      split at h
      case isFalse => cases h
      rename_i htag
      have fin : ∀ tk, (b = .bl k ∧ M' = M) → Q (.bool k) { s with toks := tk } := fun tk e => hq k tk e.1 e.2
      cases p with
      | non =>
        cases ht
        cases h
        exact isinst_ok I rv .non (O.isi _ _ _ _ _ hk rfl hc) fun tk => fin tk ⟨rfl, rfl⟩
      | bl b0 =>
        cases ht
        cases h
        exact isinst_ok I rv (.bl _) (O.isi _ _ _ _ _ hk rfl hc) fun tk => fin tk ⟨rfl, rfl⟩
      | int b0 =>
        cases ht
        cases h
        exact isinst_ok I rv (.int _) (O.isi _ _ _ _ _ hk rfl hc) fun tk => fin tk ⟨rfl, rfl⟩
      | str b0 =>
        cases ht
        cases h
        exact isinst_ok I rv (.str _) (O.isi _ _ _ _ _ hk rfl hc) fun tk => fin tk ⟨rfl, rfl⟩
      | tup h1 h2 =>
        cases ht
        cases h
        cases (show u = Value.ref _ from rv)
        obtain ⟨its, _, ⟨o, g1, g2, _⟩, _⟩ := I.tuple h1
        exact PySem.W.kia_one PySem.W.kitx_tuple I.kIn ⟨o, g1, g2⟩ (O.isi _ _ _ _ _ hk rfl hc) (fun z => nomatch z) fun tk => fin tk ⟨rfl, rfl⟩
      | ob h1 =>
        obtain ⟨o, ho, hr⟩ := r.atn h1
        simp only [kindC, ho] at ht
        cases o with
        | lst ds =>
          cases ht
          cases h
          obtain ⟨vs, q1, _⟩ := hr
          exact isinst_ok I rv (.lst q1) (O.isi _ _ _ _ _ hk rfl hc) fun tk => fin tk ⟨rfl, rfl⟩
        | frl ds =>
          cases ht
          cases h
          obtain ⟨o, vs, q1, _⟩ := hr
          exact isinst_ok I rv (.frz q1) (O.isi _ _ _ _ _ hk rfl hc) fun tk => fin tk ⟨rfl, rfl⟩
        | dct ds =>
          cases ht
          cases h
          obtain ⟨vs, q1, _⟩ := hr
          exact isinst_ok I rv (.dK q1) (O.isi _ _ _ _ _ hk rfl hc) fun tk => fin tk ⟨rfl, rfl⟩
        | ins c' fs =>
          obtain ⟨C, dx, gs, hC, q1, _⟩ := hr
          cases ht
          cases h
          obtain ⟨z1, z2, z3, z4, z5⟩ := O.ins c' C htag hC
          exact isinst_ok I rv (.ins q1 z1 z2 z3 z4 z5) (O.isi _ _ _ _ _ hk (by simp [cidV, hC]) hc) fun tk => fin tk ⟨rfl, rfl⟩
        | xdo fs => cases ht
        | exn c' d =>
          cases ht
          cases h
          cases (show u = Value.ref _ from rv)
          cases d with
          | none =>
            obtain ⟨C, hC, hx⟩ := hr
            have hkk := O.isi _ _ _ _ _ hk (show cidV cl (.own c') = some (.ref C) by simp [cidV, hC]) hc
            obtain ⟨t1, g1⟩ := exo_at I.hok hx
            exact PySem.W.kia_one (kit_exn (od := none) (O.exn c' C htag hC) rfl) I.kIn ⟨g1, rfl, rfl, trivial⟩ hkk (fun z => nomatch z) fun tk => fin tk ⟨rfl, rfl⟩
          | some m =>
            obtain ⟨C, dx, hC, hm, hx⟩ := hr
            have hkk := O.isi _ _ _ _ _ hk (show cidV cl (.own c') = some (.ref C) by simp [cidV, hC]) hc
            obtain ⟨t1, g1⟩ := exo_at I.hok hx
            obtain ⟨o2, ho2, hr2⟩ := r.atn hm
            obtain ⟨u2, hu2⟩ := hr2.ex
            obtain ⟨od, hod⟩ := objOk_get (I.hok _ _ hu2)
            exact PySem.W.kia_one (kit_exn (od := some od) (O.exn c' C htag hC) rfl) I.kIn ⟨g1, rfl, rfl, hod⟩ hkk (fun z => nomatch z) fun tk => fin tk ⟨rfl, rfl⟩
    · cases h
  · cases h
end
end RI

namespace RI
open PySem PySem.Spec PyProof.Rows L2
section
variable {X : Cx} {cl : ClsA} {W : WX} {G : Glo} {a b e : Expr} {es : List Expr} {fa fb : Den D} {fs : Den (List D)} {p p2 pos pos' : Pos} {x c f : Str} {C : Addr}

/-! ### isinstance(e, c) -/
def denIsi (G : Glo) (fa : Den D) (c : Cid) : Den D := fun ρ M => (fa ρ M).bind fun d M => isiD G d c M
theorem isiD_M {d : D} {c : Cid} {M : Store} : (∃ k, isiD G d c M = .ok (.bl k) M) ∨ isiD G d c M = .no := by
  unfold isiD
  split
  · split
    · split
      · exact .inl ⟨_, rfl⟩
      · exact .inr rfl
    · exact .inr rfl
  · exact .inr rfl
theorem rd_isi (O : IsiOk X.K cl G) {cid : Cid} {cv : Value} {cV : V} (hg : Gl X "isinstance") (hm : X.mg "isinstance" = none) (hc : PE X (.Name c p2) (tC cV)) (hcv : ∀ u, RelV cV u → u = cv) (hi : cidV cl cid = some cv) (hs : isStar a = false) (ha : RD X cl W a fa) :
    RD X cl W (.Call (.Name "isinstance" p) [a, .Name c p2] [] pos) (denIsi G fa cid) := by
  refine ⟨fun pins s σ H Q I q => ?_⟩
  have call1 : CallR X (.builtin "isinstance") (fun xs H Q => ∃ θ M d x, xs = [x, cV] ∧ Rep X.K cl θ H M ∧ Rp X.K θ H x d ∧ PostG X.K cl (Rp X.K) W Q σ θ H (isiD G d cid M)) := by
    intro pins s σ' H xs us Q I rv q
    obtain ⟨θ, M, d, x, rfl, r, px, q⟩ := q
    cases rv with
    | cons rx t =>
      cases t with
      | cons rc t =>
        cases t
        obtain rfl := hcv _ rc
        rcases isiD_M (G := G) (d := d) (c := cid) (M := M) with ⟨k, hk⟩ | hk
        · rw [hk] at q
          refine isi_ok O I r px rx hi hk fun k' tk e1 _ => ?_
          cases e1
          exact ⟨.bl k, H, I.tok tk, rfl, PostG.ok_ q r (.bl _)⟩
        · rw [hk] at q
          exact q.elim
  have args : PA X [a, .Name c p2] (tCons (rd cl W X.K fa) (tCons (tC cV) tNil)) := pa_cons ha (pa_cons hc pa_nil rfl) (star_one a _ X.env hs)
  refine (pe_callB call1 hg hm (by decide +kernel) args (by decide) (by decide) (star_one a _ X.env hs) (star_no pos X.env [.Name c p2] rfl)).run pins s σ H Q I ?_
  obtain ⟨θ, ρ, M, hE, r, q⟩ := q
  exact ⟨θ, ρ, M, hE, r, PostG.bind q fun d M1 θ1 H1 v e1 r1 p1 q1 => ⟨θ1, M1, d, v, rfl, r1, p1, q1⟩⟩

/-! ### exceptions made -/
def mkXD (c : Str) (g : List D → Store → Out D) (ds : List D) (M : Store) : Out D := (g (.ob M.length :: ds) (M ++ [.exn c none])).bind fun r M' => match r with
  | .non => .ok (.ob M.length) M'
  | _ => .no
theorem rd_mkX {k : Nat} {fI : Addr} {fd : FuncData} {ps : List Str} {g : List D → Store → Out D} (T : ExC X.K C) (hcl : cl c = some C) (iC : PySem.W.findIn X.K (.ref C) "__init__" = some (some (.ref fI))) (tI : PySem.W.typeIn X.K (.ref fI) = some (.type "function"))
    (F : FnG X.prog X.w X.K X.mg X.base cl k fI fd ps g) (hr : Room (k + 1) X.A) (hgd : X.A.guards = some []) (hb : Binds X.K fd ps []) (tk : Takes X W) (hg : Gl X x) (hm : X.mg x = some (.ref C)) (hdb : (x == ("__debug__" : Str)) = false)
    (ha : RA X cl W (e :: es) fs) (h1 : isStar e = false) (h2 : es.any isStar = false) : RD X cl W (.Call (.Name x p) (e :: es) [] pos) (denCall fs (fun ds M => if ds.length + 1 = ps.length ∧ ds.length ≤ 1000 then mkXD c g ds M else .no)) := by
  refine ⟨fun pins s σ H Q I q => ?_⟩
  obtain ⟨θ, ρ, M, hE, r, q⟩ := q
  refine wpAny_Call_Name_kw (ld_glob I hg hm ?_ hdb)
  refine PySem.W.callWith_K (h₀ := X.base) I.ok.mod.kin T.kC ?_ (star_one e es X.env h1) (star_no pos X.env es h2)
  refine thn (ha.run pos pins s σ H (fun vs H1 => ∃ θ1 M1 ds, Rep X.K cl θ1 H1 M1 ∧ RpA X.K θ1 H1 vs ds ∧ PostG X.K cl (Rp X.K) W Q σ θ1 H1 (if ds.length + 1 = ps.length ∧ ds.length ≤ 1000 then mkXD c g ds M1 else .no)) I
    ⟨θ, ρ, M, hE, r, PostG.bind q fun ds M1 θ1 H1 vs e1 r1 p1 q1 => ⟨θ1, M1, ds, r1, p1, q1⟩⟩) fun us s1 ⟨vs, H1, I1, rv, θ1, M1, ds, r1, p1, q1⟩ => ⟨I1.kIn, ?_⟩
  split at q1
  case isFalse => exact q1.elim
  rename_i hlen
  obtain ⟨nm, qn, N, bs, rs, tail, sn, sub, ab, col, dd, k0, k1, k2, k3, k5, newId, bse, hC⟩ := T.cls
  obtain ⟨B, initId, FB⟩ := bse.fact
  obtain ⟨hp, g1, dr, tk1, os⟩ := s1
  have up : hp.objs.size ≤ hp.objs.size + 1 := Nat.le_succ _
  have n1 : H1 (hp.objs.size + 1) = none := I1.hok.fresh up
  have old : ∀ b o, hp.get? b = some o → ((hp.push (PySem.W.kdv_tup us)).push (PySem.HandSPX.excO C hp.objs.size)).get? b = some o :=
    fun b o z => Heap.get?_push_of_some _ (Heap.get?_push_of_some _ z)
  have new : ((hp.push (PySem.W.kdv_tup us)).push (PySem.HandSPX.excO C hp.objs.size)).get? (hp.objs.size + 1) = some (PySem.HandSPX.excO C hp.objs.size) := by heap_get
  have I2 : Inv X pins σ (upd H1 (hp.objs.size + 1) (exo (hp.objs.size + 1) C none)) ⟨(hp.push (PySem.W.kdv_tup us)).push (PySem.HandSPX.excO C hp.objs.size), g1, dr, tk1, os⟩ :=
    I1.laid (t' := tk1) (a := hp.objs.size + 1) (o := exo (hp.objs.size + 1) C none) old up (exo_ok new)
  have ex2 : Ext X.K θ1 H1 (θ1 ++ [hp.objs.size + 1]) (upd H1 (hp.objs.size + 1) (exo (hp.objs.size + 1) C none)) := (Ext.more [_]).trans (Ext.upd (Free.none n1))
  have r2 : Rep X.K cl (θ1 ++ [hp.objs.size + 1]) (upd H1 (hp.objs.size + 1) (exo (hp.objs.size + 1) C none)) (M1 ++ [.exn c none]) :=
    r1.new n1 ⟨C, hcl, upd_same⟩
  have at1 : (θ1 ++ [hp.objs.size + 1])[M1.length]? = some (hp.objs.size + 1) := by rw [← r1.len]; simp
  have rv2 : Vals (V.ref (hp.objs.size + 1) :: vs) (Value.ref (hp.objs.size + 1) :: us) := .cons rfl rv
  have lus : us.length = ds.length := by rw [← rv.length, p1.length]
  have bnd := hb ⟨(hp.push (PySem.W.kdv_tup us)).push (PySem.HandSPX.excO C hp.objs.size), g1, dr, tk1, os⟩ (Value.ref (hp.objs.size + 1) :: us) I2.kIn (by rw [List.append_nil, List.length_cons, lus]; exact hlen.1)
  rw [List.append_nil] at bnd
  have hus : us.length ≤ sizeLine := by
    rw [lus, sizeLine_eq]
    omega
  have q2 : PostG X.K cl (Rp X.K) (fun cc d _ h => WE W σ cc d h) (fun v H' => v = .non ∧ Q (.ref (hp.objs.size + 1)) H') [] (θ1 ++ [hp.objs.size + 1]) (upd H1 (hp.objs.size + 1) (exo (hp.objs.size + 1) C none)) (g (.ob M1.length :: ds) (M1 ++ [.exn c none])) := by
    have q3 := PostG.ext q1 ex2
    unfold mkXD at q3
    cases e : g (.ob M1.length :: ds) (M1 ++ [.exn c none]) with
    | no =>
      rw [e] at q3
      exact q3.elim
    | exc c' fs' M' =>
      rw [e] at q3
      exact q3
    | ok d M' =>
      rw [e] at q3
      intro θ' H' v ee rr pp
      cases pp with
      | non => exact ⟨rfl, q3 θ' H' _ ee rr (.ob (ee.pre _ _ at1))⟩
      | _ => exact q3.elim
  refine wpAny_call (PySem.HandSPX.call_own FB (fun Y => ExG.refs_has Y tail rs) (I1.kIn _ _ hC) (PySem.W.looks_findIn I1.kIn iC) (fun self => PySem.W.bind_fn I1.kIn self tI) hus ?_)
  refine codeAny_mono (F _ X.stack _ _ ⟨Value.ref (hp.objs.size + 1) :: us, []⟩ (Value.ref (hp.objs.size + 1) :: us) (V.ref (hp.objs.size + 1) :: vs) (θ1 ++ [hp.objs.size + 1]) (M1 ++ [.exn c none]) (.ob M1.length :: ds) _ (WE W σ) (hr.make C us []) hgd (I2.env0.make C us []) bnd rv2 r2
    (.cons (.ob at1) (p1.ext ex2)) (by rw [List.length_cons]; exact hlen.1) q2) fun rr s' z => ?_
  cases rr with
  | error er => exact passAt tk σ pins _ _ er s' I2 z
  | ok fl =>
    cases fl with
    | ret u =>
      obtain ⟨v, H', I3, rel, ev, q4⟩ := I2.after z
      subst ev
      exact ⟨rel, ⟨V.ref (hp.objs.size + 1), H', I3, rfl, q4⟩⟩
    | next => exact False.elim z
    | brk => exact False.elim z
    | cont => exact False.elim z
/-- C() of a class without an __init__ of its own -/
theorem rd_mkX0 {bmB : List Value} {B newId initId : String} (T : ExC X.K C) (hcl : cl c = some C) (FB : ExcBaseFacts B newId initId bmB) (ex : PySem.W.excIn X.K C bmB newId = true) (hg : Gl X x) (hm : X.mg x = some (.ref C)) (hdb : (x == ("__debug__" : Str)) = false) :
    RD X cl W (.Call (.Name x p) [] [] pos) (fun _ M => .ok (.ob M.length) (M ++ [.exn c none])) := by
  refine ⟨fun pins s σ H Q I q => ?_⟩
  obtain ⟨θ, ρ, M, hE, r, q⟩ := q
  refine wpAny_Call_Name_kw (ld_glob I hg hm ?_ hdb)
  refine PySem.W.callWith_K0 I.kIn T.kC ?_
  obtain ⟨bm, N, nm, qn, bs, hdct, sn, sub, ab, col, dd, k0, k1, k2, k3, k5, mN, hC, hN, hni, Tl⟩ := exc_obj I.kIn ex
  refine wpAny_call_exc_subT FB Tl hC hN hni (fun h' a hm' => ?_) (Nat.zero_le _)
  have hn : H a = none := I.hok.gone hm'.new
  obtain ⟨t, ht, _, _⟩ := hm'.there
  have ex2 : Ext X.K θ H (θ ++ [a]) (upd H a (exo a C none)) := (Ext.more [a]).trans (Ext.upd (Free.none hn))
  exact ⟨.ref a, upd H a (exo a C none), I.laidN (t' := s.toks) hm'.keeps hm'.new hn (exo_ok ht), rfl, q _ _ _ ex2 (r.new hn ⟨C, hcl, upd_same⟩) (.ob (by rw [← r.len]; simp))⟩
end
end RI

/-! items and attributes stored, attributes read, while -/
namespace RI
open PySem PySem.Spec PyProof.Rows L2
/-! ### o[i] = e -/
def setD (x i d : D) (M : Store) : Option Store := match x, i with
  | .ob n, .int k => match M[n]? with
    | some (.lst xs) => (ixN xs.length k).map fun j => M.set n (.lst (xs.set j d))
    | _ => none
  | _, _ => none
def rSet (K : PySem.W.Frag) (cl : ClsA) : TSet := fun o i v H Q => ∃ θ M dx di d M', Rep K cl θ H M ∧ Rp K θ H o dx ∧ Rp K θ H i di ∧ Rp K θ H v d ∧ setD dx di d M = some M' ∧ ∀ H', Ext K θ H θ H' → Rep K cl θ H' M' → Q H'
theorem PSet.imp {X : Cx} {t t' : TSet} (h : PSet X t) (k : ∀ o i v H Q, t' o i v H Q → t o i v H Q) : PSet X t' := fun pins s σ H o i v ov iv u Q I ro ri rv q => h pins s σ H o i v ov iv u Q I ro ri rv (k _ _ _ _ _ q)
theorem free_of {H : Hp} {a : Addr} {o : HO} (e : H a = some o) (h1 : ∀ xs, o ≠ .tup xs) (h2 : ∀ u z, o ≠ .frz u z) : Free H a := fun o' e' => by
  rw [e] at e'
  cases e'
  exact ⟨h1, h2⟩
theorem set_D {X : Cx} {cl : ClsA} : PSet X (rSet X.K cl) := PSet.imp set_list fun o i v H Q q => by
  obtain ⟨θ, M, dx, di, d, M', r, po, pi, pv, e, q⟩ := q
  unfold setD at e
  split at e
  · cases po
    rename_i n k a ha
    cases pi
    obtain ⟨u, hu, hr⟩ := r.atn ha
    rw [hu] at e
    cases u with
    | lst xs =>
      simp only [Option.map_eq_some_iff] at e
      obtain ⟨j, hj, rfl⟩ := e
      obtain ⟨vs, h1, h2⟩ := hr
      have fr : Free H a := free_of h1 (fun _ z => by cases z) (fun _ _ z => by cases z)
      refine ⟨a, vs, k, j, rfl, rfl, h1, by rw [h2.length]; exact hj, q _ (Ext.upd fr) (r.put ha fr ⟨_, upd_same, (h2.set pv j).ext (Ext.upd fr)⟩)⟩
    | _ => simp at e
  · cases e
section
variable {X : Cx} {cl : ClsA} {W : WX} {G : Glo} {a b e o i : Expr} {fa fb fo fi fe : Den D} {pos p2 : Pos} {f : Str} {E : Ends}
def denSetIx (fe fo fi : Den D) : DenS := fun ρ M => bindS (fe ρ M) ρ fun d M => bindS (fo ρ M) ρ fun x M => bindS (fi ρ M) ρ fun k M => match setD x k d M with
  | some M' => .fl .nx ρ M'
  | none => .no
theorem rs_setIx (he : RD X cl W e fe) (ho : RD X cl W o fo) (hi : RD X cl W i fi) (hs : swapsWithSole [.Subscript o i p2] e pos.line X.env = pure false) (hw : swappedStores [.Subscript o i p2] e X.env = pure none)
    (h1 : (assignEach [.Subscript o i p2] X.env).map (·.2) = [assign (.Subscript o i p2) X.env])
    (ha : ∀ v, assign (.Subscript o i p2) X.env v = (do
      let ov ← holding [v] (eval o X.env)
      let iv ← holding [v, ov] (eval i X.env)
      standAt p2
      holding [v, ov, iv] (setItem ov iv v)
      release [v, ov, iv] [])) :
    RS X cl W (.Assign [.Subscript o i p2] e pos) (denSetIx fe fo fi) := PS.imp (ps_asg he (pg_sub ho hi (set_D (cl := cl)) ha) hs hw h1) fun E σ H q => by
  obtain ⟨θ, ρ, M, hE, r, q⟩ := q
  refine ⟨θ, ρ, M, hE, r, PostS.bind (Rv := Rp X.K) q hE fun d M1 θ1 H1 v e1 r1 p1 q1 => ?_⟩
  have hE1 := hE.ext e1
  refine ⟨θ1, ρ, M1, hE1, r1, PostS.bind (Rv := Rp X.K) q1 hE1 fun x M2 θ2 H2 vx e2 r2 px q2 => ?_⟩
  have hE2 := hE1.ext e2
  refine ⟨θ2, ρ, M2, hE2, r2, PostS.bind (Rv := Rp X.K) q2 hE2 fun k M3 θ3 H3 vk e3 r3 pk q3 => ?_⟩
  cases hst : setD x k d M3 with
  | none =>
    rw [hst] at q3
    exact q3.elim
  | some M' =>
    rw [hst] at q3
    exact ⟨θ3, M3, x, k, d, M', r3, px.ext e3, pk, (p1.ext e2).ext e3, hst, fun H' ee rr => q3 θ3 H' σ ee rr ((hE2.ext e3).ext ee)⟩

/-! ### o.f = e -/
def putFD (f : Str) (v : D) : List (Str × D) → List (Str × D)
  | [] => [(f, v)]
  | (g, x) :: r => if g = f then (g, v) :: r else (g, x) :: putFD f v r
def setFD (G : Glo) (x : D) (f : Str) (d : D) (M : Store) : Option Store := match x with
  | .ob n => match M[n]? with
    | some (.ins c fs) => if G.isIns c && (G.fld c f && decide (fs.length < 1000)) then some (M.set n (.ins c (putFD f d fs))) else none
    | some (.exn c none) => if G.isExn c && G.fld c f then some (List.set (M ++ [SO.xdo [(f, d)]]) n (.exn c (some M.length))) else none
    | some (.exn c (some m)) => if G.isExn c && G.fld c f then (match M[m]? with
      | some (.xdo fs) => if fs.length ≤ 900 then some (M.set m (.xdo ((f, d) :: fs))) else none
      | _ => none) else none
    | _ => none
  | _ => none
def getFD (G : Glo) (x : D) (f : Str) (M : Store) : Option D := match x with
  | .ob n => match M[n]? with
    | some (.ins c fs) => if G.isIns c && G.fld c f then fs.lookup f else none
    | some (.exn c (some m)) => if G.isExn c && G.fld c f then (match M[m]? with
      | some (.xdo fs) => fs.lookup f
      | _ => none) else none
    | _ => none
  | _ => none
def FldOk (K : PySem.W.Frag) (cl : ClsA) (G : Glo) : Prop := ∀ c C f, G.fld c f = true → cl c = some C → PySem.W.findIn K (.ref C) f = some none
theorem RpF.put {K : PySem.W.Frag} {θ : List Addr} {H : Hp} {f : Str} {v : V} {d : D} (p : Rp K θ H v d) : ∀ {gs : List (Str × V)} {fs : List (Str × D)}, RpF K θ H gs fs → RpF K θ H (putF f v gs) (putFD f d fs)
  | _, _, .nil => .cons p .nil
  | _, _, .cons (f := g) q t => by
    unfold putF putFD
    by_cases h : g = f
    · rw [if_pos h, if_pos h]
      exact .cons p t
    · rw [if_neg h, if_neg h]
      exact .cons q (RpF.put p t)
theorem RpF.look {K : PySem.W.Frag} {θ : List Addr} {H : Hp} {f : Str} {d : D} : ∀ {gs : List (Str × V)} {fs : List (Str × D)}, RpF K θ H gs fs → fs.lookup f = some d → ∃ v, gs.lookup f = some v ∧ Rp K θ H v d
  | _, _, .nil, h => by simp at h
  | _, _, .cons (f := g) q t, h => by
    rw [List.lookup_cons] at h
    split at h
    · rename_i hb
      cases h
      exact ⟨_, by rw [List.lookup_cons, hb], q⟩
    · rename_i hb
      obtain ⟨v, h1, h2⟩ := RpF.look t h
      exact ⟨v, by rw [List.lookup_cons, hb]; exact h1, h2⟩
theorem RpF.length {K : PySem.W.Frag} {θ : List Addr} {H : Hp} : ∀ {gs : List (Str × V)} {fs : List (Str × D)}, RpF K θ H gs fs → gs.length = fs.length
  | _, _, .nil => rfl
  | _, _, .cons _ t => by simp [RpF.length t]
def denSetF (G : Glo) (fe fo : Den D) (f : Str) : DenS := fun ρ M => bindS (fe ρ M) ρ fun d M => bindS (fo ρ M) ρ fun x M => match setFD G x f d M with
  | some M' => .fl .nx ρ M'
  | none => .no
theorem rs_setF (O : IsiOk X.K cl G) (F : FldOk X.K cl G) (he : RD X cl W e fe) (ho : RD X cl W o fo) (hs : swapsWith e (some (.Attribute o f p2)) pos.line X.env = pure false) :
    RS X cl W (.Assign [.Attribute o f p2] e pos) (denSetF G fe fo f) := by
  refine ⟨fun pins s σ H E I q => ?_⟩
  obtain ⟨θ, ρ, M, hE, r, q⟩ := q
  refine plainObj_wpAny_Assign_Attribute (thn (he.run pins s σ H (fun v H2 => ∃ θ2 M2 d, Ext X.K θ H θ2 H2 ∧ Rep X.K cl θ2 H2 M2 ∧ Rp X.K θ2 H2 v d ∧ PostS X.K cl W E θ2 H2 (bindS (fo ρ M2) ρ fun x M => match setFD G x f d M with
    | some M' => .fl .nx ρ M'
    | none => .no)) I ⟨θ, ρ, M, hE, r, PostS.bind q hE fun d M1 θ1 H1 v e1 r1 p1 q1 => ⟨θ1, M1, d, e1, r1, p1, q1⟩⟩) fun u s1 ⟨y, H1, I1, ry, θ1, M1, d, e1, r1, p1, q1⟩ => ?_) hs
  refine thn (ho.run pins s1 σ H1 (fun v H2 => ∃ θ2 M2 x, Ext X.K θ1 H1 θ2 H2 ∧ Rep X.K cl θ2 H2 M2 ∧ Rp X.K θ2 H2 v x ∧ PostS X.K cl W E θ2 H2 (match setFD G x f d M2 with
    | some M' => .fl .nx ρ M'
    | none => .no)) I1 ⟨θ1, ρ, M1, hE.ext e1, r1, PostS.bind q1 (hE.ext e1) fun x M2 θ2 H2 v e2 r2 p2 q2 => ⟨θ2, M2, x, e2, r2, p2, q2⟩⟩) fun ov s2 ⟨vx, H2, I2, rx, θ2, M2, x, e2, r2, px, q2⟩ => ?_
  have hE2 := (hE.ext e1).ext e2
  have pd := p1.ext e2
  cases hst : setFD G x f d M2 with
  | none =>
    rw [hst] at q2
    exact q2.elim
  | some M' =>
    rw [hst] at q2
    have fin : ∀ s' θ' H', Inv X pins σ H' s' → Ext X.K θ2 H2 θ' H' → Rep X.K cl θ' H' M' → ∃ σ' H', Inv X pins σ' H' s' ∧ E.nx σ' H' := fun s' θ' H' I' e' r' => ⟨σ, H', I', q2 θ' H' σ e' r' (hE2.ext e')⟩
    unfold setFD at hst
    split at hst
    case h_2 => cases hst
    rename_i n
    cases px
    rename_i a hn
    cases (show ov = Value.ref a from rx)
    obtain ⟨u2, hu, hr⟩ := r2.atn hn
    rw [hu] at hst
    cases u2 with
    | ins c fs =>
      simp only at hst
      split at hst
      case isFalse => cases hst
      rename_i hk
      cases hst
      simp only [Bool.and_eq_true, decide_eq_true_eq] at hk
      obtain ⟨C, dx, gs, hC, h1, h2⟩ := hr
      have fr : Free H2 a := free_of h1 (fun _ z => by cases z) (fun _ _ z => by cases z)
      exact setattr_ok I2 h1 (O.ins c C hk.1 hC).cls (F c C f hk.2.1 hC) (by rw [h2.length]; exact hk.2.2) ry fun s3 I3 => fin s3 θ2 _ I3 (Ext.upd fr) (r2.put hn fr ⟨C, dx, _, hC, upd_same, (RpF.put pd h2).ext (Ext.upd fr)⟩)
    | exn c dd =>
      cases dd with
      | none =>
        simp only at hst
        split at hst
        case isFalse => cases hst
        rename_i hk
        cases hst
        simp only [Bool.and_eq_true] at hk
        obtain ⟨C, hC, h1⟩ := hr
        refine xset_new (O.exn c C hk.1 hC) I2 h1 (F c C f hk.2 hC) ry fun dx s3 hdn hne I3 => ?_
        have ex1 : Ext X.K θ2 H2 (θ2 ++ [dx]) (upd H2 dx (exd dx [(f, y)])) := (Ext.more [dx]).trans (Ext.upd (Free.none hdn))
        have r3 : Rep X.K cl (θ2 ++ [dx]) (upd H2 dx (exd dx [(f, y)])) (M2 ++ [.xdo [(f, d)]]) := r2.new hdn ⟨[(f, y)], upd_same, .cons (pd.ext ex1) .nil⟩
        have h1' : upd H2 dx (exd dx [(f, y)]) a = some (exo a C none) := by rw [upd_ne (Ne.symm hne)]; exact h1
        have fr : Free (upd H2 dx (exd dx [(f, y)])) a := free_of h1' (fun _ z => by cases z) (fun _ _ z => by cases z)
        refine fin s3 (θ2 ++ [dx]) _ I3 (ex1.trans (Ext.upd fr)) (r3.put (ex1.pre _ _ hn) fr ⟨C, dx, hC, by rw [← r2.len]; simp, upd_same⟩)
      | some m =>
        simp only at hst
        split at hst
        case isFalse => cases hst
        rename_i hk
        simp only [Bool.and_eq_true] at hk
        obtain ⟨C, dx, hC, hm, h1⟩ := hr
        obtain ⟨u3, hu3, hr3⟩ := r2.atn hm
        rw [hu3] at hst
        cases u3 with
        | xdo fs =>
          simp only at hst
          split at hst
          case isFalse => cases hst
          rename_i hl
          cases hst
          obtain ⟨gs, h2, h3⟩ := hr3
          have fr : Free H2 dx := free_of h2 (fun _ z => by cases z) (fun _ _ z => by cases z)
          exact xset_old (O.exn c C hk.1 hC) I2 h1 h2 (by rw [h3.length]; exact hl) (F c C f hk.2 hC) ry fun s3 I3 => fin s3 θ2 _ I3 (Ext.upd fr) (r2.put hm fr ⟨_, upd_same, .cons (pd.ext (Ext.upd fr)) (h3.ext (Ext.upd fr))⟩)
        | _ => cases hst
    | _ => cases hst
/-- e.f -/
def denAttr (G : Glo) (fa : Den D) (f : Str) : Den D := fun ρ M => (fa ρ M).bind fun x M => match getFD G x f M with
  | some d => .ok d M
  | none => .no
theorem rd_attr (O : IsiOk X.K cl G) (F : FldOk X.K cl G) (ha : RD X cl W a fa) (hb : attributeBase a f X.env (eval a X.env) = eval a X.env) : RD X cl W (.Attribute a f pos) (denAttr G fa f) := by
  refine ⟨fun pins s σ H Q I q => ?_⟩
  obtain ⟨θ, ρ, M, hE, r, q⟩ := q
  refine attr_of hb (thn (ha.run pins s σ H (fun v H2 => ∃ θ2 M2 x, Rep X.K cl θ2 H2 M2 ∧ Rp X.K θ2 H2 v x ∧ PostG X.K cl (Rp X.K) W Q σ θ2 H2 (match getFD G x f M2 with
    | some d => .ok d M2
    | none => .no)) I ⟨θ, ρ, M, hE, r, PostG.bind q fun x M1 θ1 H1 v e1 r1 p1 q1 => ⟨θ1, M1, x, r1, p1, q1⟩⟩) fun u s1 ⟨vx, H1, I1, rx, θ1, M1, x, r1, px, q1⟩ => ?_)
  cases hst : getFD G x f M1 with
  | none =>
    rw [hst] at q1
    exact q1.elim
  | some d =>
    rw [hst] at q1
    unfold getFD at hst
    split at hst
    case h_2 => cases hst
    rename_i n
    cases px
    rename_i a' hn
    cases (show u = Value.ref a' from rx)
    obtain ⟨u2, hu, hr⟩ := r1.atn hn
    rw [hu] at hst
    cases u2 with
    | ins c fs =>
      simp only at hst
      split at hst
      case isFalse => cases hst
      rename_i hk
      simp only [Bool.and_eq_true] at hk
      obtain ⟨C, dx, gs, hC, h1, h2⟩ := hr
      obtain ⟨v, hl, pv⟩ := h2.look hst
      exact getattr_ok I1 h1 (O.ins c C hk.1 hC).cls (F c C f hk.2 hC) hl fun u' s2 I2 ru => ⟨v, H1, I2, ru, q1.ok_ r1 pv⟩
    | exn c dd =>
      cases dd with
      | none => cases hst
      | some m =>
        simp only at hst
        split at hst
        case isFalse => cases hst
        rename_i hk
        simp only [Bool.and_eq_true] at hk
        obtain ⟨C, dx, hC, hm, h1⟩ := hr
        obtain ⟨u3, hu3, hr3⟩ := r1.atn hm
        rw [hu3] at hst
        cases u3 with
        | xdo fs =>
          obtain ⟨gs, h2, h3⟩ := hr3
          obtain ⟨v, hl, pv⟩ := h3.look hst
          exact xget (O.exn c C hk.1 hC) I1 h1 h2 (F c C f hk.2 hC) hl fun u' s2 I2 ru => ⟨v, H1, I2, ru, q1.ok_ r1 pv⟩
        | _ => cases hst
    | _ => cases hst
end

/-! ### while -/
def whileD (c : Den Bool) (b : DenS) : Nat → DenS
  | 0, _, _ => .no
  | n + 1, ρ, M => bindS (c ρ M) ρ fun k M => if k then (match b ρ M with
      | .fl .nx ρ' M' => whileD c b n ρ' M'
      | .fl .ct ρ' M' => whileD c b n ρ' M'
      | .fl .brk ρ' M' => .fl .nx ρ' M'
      | o => o) else .fl .nx ρ M
open Classical in
noncomputable def denWhile (c : Den Bool) (b : DenS) : DenS := fun ρ M => if h : ∃ n, whileD c b n ρ M ≠ .no then whileD c b h.choose ρ M else .no
theorem whileD_mono {c : Den Bool} {b : DenS} : ∀ (n m : Nat) (ρ : Env1) (M : Store), n ≤ m → whileD c b n ρ M ≠ .no → whileD c b m ρ M = whileD c b n ρ M
  | 0, _, _, _, _, h => (h rfl).elim
  | n + 1, 0, _, _, hl, _ => by omega
  | n + 1, m + 1, ρ, M, hl, h => by
    unfold whileD at h ⊢
    cases hc : c ρ M with
    | no => rfl
    | exc cc fs M1 => rfl
    | ok k M1 =>
      rw [hc] at h
      cases k with
      | false => rfl
      | true =>
        simp only [bindS_ok, if_true] at h ⊢
        cases hb : b ρ M1 with
        | fl fl ρ2 M2 =>
          rw [hb] at h
          cases fl with
          | nx => exact whileD_mono n m _ _ (by omega) h
          | ct => exact whileD_mono n m _ _ (by omega) h
          | brk => rfl
          | ret d => rfl
        | exc c2 f2 ρ2 M2 => rfl
        | no => rfl
theorem denWhile_of {c : Den Bool} {b : DenS} {n : Nat} {ρ : Env1} {M : Store} {o : SOut} (h : whileD c b n ρ M = o) (hn : o ≠ .no) : denWhile c b ρ M = o := by
  have ex : ∃ n, whileD c b n ρ M ≠ .no := ⟨n, by rw [h]; exact hn⟩
  unfold denWhile
  rw [dif_pos ex, ← whileD_mono ex.choose (max n ex.choose) ρ M (Nat.le_max_right _ _) ex.choose_spec, whileD_mono n (max n ex.choose) ρ M (Nat.le_max_left _ _) (by rw [h]; exact hn), h]
theorem rs_while {X : Cx} {cl : ClsA} {W : WX} {c : Expr} {body : List Stmt} {pos : Pos} {fc : Den Bool} {fb : DenS} (hp : PassesOwn (model X.prog X.w) X.A X.env X.xe) (hc : RT X cl W c fc) (hb : RB X cl W body fb) : RS X cl W (.While c body [] pos) (denWhile fc fb) := PS.imp (ps_while hp hc hb) fun E σ H q => by
  obtain ⟨θ, ρ, M, hE, r, q⟩ := q
  unfold denWhile at q
  split at q
  case isFalse => exact q.elim
  rename_i hx
  refine ⟨fun m σ2 H2 => ∃ θ2 ρ2 M2, RelE X.K θ2 H2 σ2 ρ2 ∧ Rep X.K cl θ2 H2 M2 ∧ PostS X.K cl W E θ2 H2 (whileD fc fb m ρ2 M2), ⟨_, θ, ρ, M, hE, r, q⟩, fun m σ2 H2 hw => ?_⟩
  obtain ⟨θ2, ρ2, M2, hE2, r2, q2⟩ := hw
  cases m with
  | zero => exact q2.elim
  | succ m =>
    unfold whileD at q2
    refine ⟨θ2, ρ2, M2, hE2, r2, PostS.bind (Rv := fun _ _ b c => b = c) q2 hE2 fun k M3 θ3 H3 v e3 r3 p3 q3 => ?_⟩
    subst p3
    cases v with
    | false => exact q3 θ3 H3 σ2 .refl r3 (hE2.ext e3)
    | true =>
      rw [if_pos rfl] at q3 ⊢
      refine ⟨fun σ' H' => ∃ θ4 ρ4 M4, RelE X.K θ4 H' σ' ρ4 ∧ Rep X.K cl θ4 H' M4 ∧ PostS X.K cl W E θ4 H' (whileD fc fb m ρ4 M4), fun σ' H' hN => ⟨m, by omega, hN⟩, θ3, ρ2, M3, hE2.ext e3, r3, ?_⟩
      cases hb : fb ρ2 M3 with
      | fl fl ρ4 M4 =>
        rw [hb] at q3
        cases fl with
        | nx => exact fun θ' H'' σ' e r hE' => ⟨θ', ρ4, M4, hE', r, PostS.ext q3 e⟩
        | ct => exact fun θ' H'' σ' e r hE' => ⟨θ', ρ4, M4, hE', r, PostS.ext q3 e⟩
        | brk => exact q3
        | ret d => exact q3
      | exc c fs ρ4 M4 =>
        rw [hb] at q3
        exact q3
      | no =>
        rw [hb] at q3
        exact q3
end RI

/-! the law's end over FnG -/
namespace RI
open PySem PySem.Spec PyProof.Rows L2
def noLists (K : PySem.W.Frag) : Bool := K.all fun p => match p.2.cls with
  | .type n => n != "list"
  | _ => true
theorem noLists_ok {K : PySem.W.Frag} (h : noLists K = true) {a : Addr} {o : Obj} (e : K.lookup a = some o) : o.cls ≠ .type "list" := by
  have hm : ∀ l : List (Addr × Obj), l.lookup a = some o → (a, o) ∈ l := by
    intro l
    induction l with
    | nil => intro z; cases z
    | cons p r ih =>
      intro z
      rw [List.lookup_cons] at z
      split at z
      · rename_i hb
        cases z
        have := eq_of_beq hb
        subst this
        exact List.mem_cons_self
      · exact List.mem_cons_of_mem _ (ih z)
  have q := List.all_eq_true.mp h (a, o) (hm K e)
  intro z
  rw [z] at q
  simp at q
theorem law_callG {P : Program} {w : World} {K : PySem.W.Frag} {mg mb : Str → Option Value} {cl : ClsA} {k n : Nat} {fa a : Addr} {fd : FuncData} {x : Str} {g : List D → Store → Out D} {s₁ : Shared} {vs : List Value} {ns : List Int}
    (KX : K.In s₁.heap) (hns : s₁.heap.Ns mainGlobals mg) (hb : s₁.heap.Ns builtinsNs mb) (hbb : ∀ x : Str, x ≠ "__name__" → mb x = bootBuiltins x) (hlim : s₁.heap.NoLimit) (hg : s₁.gens = #[])
    (ha : s₁.heap.get? a = some { cls := .type "list", data := .seq vs.toArray }) (hi : IntsAre vs ns) (hl : ns.length ≤ sizeLine) (hr : Room k callerA) (hno : noLists K = true)
    (F : ∀ base : Heap, K.In base → base.Ns mainGlobals mg → FnG P w K mg base cl k fa fd [x] g) (hbind : ∀ (s : Shared) (u : Value), BindsTo s fd ⟨[u], []⟩ [(x, u)])
    (hsp : ∃ M, g [.ob 0] [.frl (ns.map D.int)] = .ok (.bl true) M) :
    codeAny (model P w) callerA (.call (.ref fa) ⟨[.ref a], []⟩) (fun r s' => r = .ok (.ret (.bool true)) ∧ OldK s₁.heap s'.heap ∧ s'.os = s₁.os ∧ AllBare s'.gens) s₁ := by
  obtain ⟨M1, hM1⟩ := hsp
  have rv := vals_ints hi
  have lenV := hi.length
  have hk : K.lookup a = none := by
    cases q : K.lookup a with
    | none => rfl
    | some o =>
      have e := KX a o q
      rw [ha] at e
      cases e
      exact absurd rfl (noLists_ok hno q)
  let F0 : HO := .frz { cls := .type "list", data := .seq vs.toArray } (.lst (ns.map V.int))
  let H : Hp := fun b => if b = a then some F0 else none
  have Ha : H a = some F0 := if_pos rfl
  have Hn : ∀ {b : Addr}, b ≠ a → H b = none := fun z => if_neg z
  have hok : HOk P w H s₁.heap := fun b u z => by
    by_cases q : b = a
    · subst q
      rw [Ha] at z
      cases z
      exact ⟨ha, by rw [List.length_map]; exact hl, vs, _, rv, ha⟩
    · rw [Hn q] at z
      cases z
  have base_of : ∀ {b : Addr} {o : Obj}, s₁.heap.get? b = some o → b ≠ a → (hidT s₁.heap H).get? b = some o := fun e n => hidT_get e (Hn n)
  have nsK : ∀ {b : Addr} {m : Str → Option Value}, s₁.heap.Ns b m → (hidT s₁.heap H).Ns b m := fun {b m} ⟨o, es, ep, e, d, r⟩ => ⟨o, es, ep, base_of e (fun z => by
    subst z
    rw [ha] at e
    cases e
    have d' : Data.seq vs.toArray _ = Data.dict es ep := d
    cases d'), d, r⟩
  have hKb : K.In (hidT s₁.heap H) := fun b o e => base_of (KX b o e) (fun z => by rw [z, hk] at e; cases e)
  have hM : Mod K mg (hidT s₁.heap H) := ⟨hKb, nsK hns, ⟨mb, nsK hb, hbb⟩, let ⟨mc, h1, h2⟩ := hlim; ⟨mc, nsK h1, h2⟩⟩
  have e0 : Env0 P w K mg (hidT s₁.heap H) callerA [] s₁ H := ⟨rfl, hM, fun b o e => of_hidT e, Nat.le_of_eq (hidT_size _ _), trivial, fun b hb => absurd (show b ∈ ([] : List Addr) from hb) (by simp), hok, .of_eq hg⟩
  have hInts : ∀ l : List Int, RpA K [a] H (l.map V.int) (l.map D.int) := fun l => by
    induction l with
    | nil => exact .nil
    | cons i r ih => exact .cons (.int i) ih
  have rp : Rep K cl [a] H [.frl (ns.map D.int)] := by
    refine ⟨rfl, by simp, fun m b o h1 h2 => ?_⟩
    match m with
    | 0 =>
      simp at h1 h2
      subst h1
      subst h2
      exact ⟨_, _, Ha, hInts ns⟩
    | m + 1 => simp at h1
  refine codeAny_mono (F _ hKb (nsK hns) callerA [] s₁ H ⟨[.ref a], []⟩ [.ref a] [.ref a] [a] [.frl (ns.map D.int)] [.ob 0] (fun v _ => v = .bl true) (fun _ _ _ => False) hr rfl e0 (hbind s₁ (.ref a)) (.cons rfl .nil) rp (.cons (.ob rfl) .nil) rfl ?_) fun r s' h => ?_
  · rw [hM1]
    intro θ' H' v _ _ p
    cases p
    rfl
  · cases r with
    | error e =>
      obtain ⟨_, _, _, h⟩ := h
      first | exact h.elim | exact (show False by simp_all).elim
    | ok fl =>
      cases fl with
      | next => exact False.elim h
      | brk => exact False.elim h
      | cont => exact False.elim h
      | ret u =>
        obtain ⟨v, H', os, bare, un, hok', r', q⟩ := h
        have q' : v = .bl true := q
        subst q'
        obtain rfl : u = Value.bool true := r'
        refine ⟨rfl, OldK.of_keep fun b o e => ?_, os, bare⟩
        by_cases q : b = a
        · subst q
          have z2 := un.frzs b _ _ Ha
          obtain ⟨e1, _⟩ := hok b _ Ha
          obtain ⟨e2, _⟩ := hok' b _ z2
          rw [e] at e1
          cases e1
          exact e2
        · exact un.keep b o e (Hn q) (fun z => absurd (show b ∈ ([] : List Addr) from z) (by simp)) (by simp)
/-- the goal that k_head leaves, from the law's def -/
theorem walk_ofG {l : PySem.W.OpenLaw} {n k : Nat} {q : Program} {loose : List Str} {XP : (Str → Option Value) → Heap → Prop} {YP : World → Heap → Prop} {d : DefRec} {K : Params → PySem.W.Frag} {x : Str}
    (hn : l.most = some n) (hn2 : n ≤ sizeLine) (hdf : d.params.defaults = []) (hr : Room k callerA)
    (hY : ∀ (w : World) (h : Heap), YP w h → (K w.params).In h)
    (F : ∀ (w : World) (mg : Str → Option Value) (fa : Addr) (h : Heap), (K w.params).In h → h.Ns mainGlobals mg → mg d.name = some (.ref fa) →
      noLists (K w.params) = true ∧ ∃ (fd : FuncData) (cl : ClsA) (g : List D → Store → Out D), (∀ (s : Shared) (u : Value), BindsTo s fd ⟨[u], []⟩ [(x, u)]) ∧ (∀ ns : List Int, ns.length ≤ n → ∃ M, g [.ob 0] [.frl (ns.map D.int)] = .ok (.bl true) M) ∧
        ∀ base : Heap, (K w.params).In base → base.Ns mainGlobals mg → FnG l.prog w (K w.params) mg base cl k fa fd [x] g) :
    PySem.W.WalkO q loose XP YP l.row.toRowW d [] (fun f vs => PySem.call f vs) := by
  refine Att.attach_call hn hdf fun w s₀ s₁ mg mb fa o pm cd doc a vs ns G Y ho hd hcd hmg hobj hints hlen hg => ?_
  have KX := hY w _ Y
  obtain ⟨hno, fd, cl, g, hb, hsp, hF⟩ := F w mg fa _ KX G.T.g hmg
  exact law_callG (n := n) KX G.T.g G.T.b G.T.builtins G.T.nolimit hg hobj hints (Nat.le_trans hlen hn2) hr hno hF hb (hsp ns hlen)
end RI

/-! the rules in short, for written terms -/
namespace RI
open PySem PySem.Spec PyProof.Rows L2
/-- a def by its name -/
structure FnB (P : Program) (w : World) (K : PySem.W.Frag) (mg : Str → Option Value) (base : Heap) (cl : ClsA) (k : Nat) (x : Str) (ps : List Str) (g : List D → Store → Out D) : Prop where
  ex : ∃ f fd, mg x = some (.ref f) ∧ PySem.W.keepIn K (.ref f) = true ∧ Binds K fd ps [] ∧ FnG P w K mg base cl k f fd ps g
/-- an exception class by its name, with its own __init__ -/
structure XcB (P : Program) (w : World) (K : PySem.W.Frag) (mg : Str → Option Value) (base : Heap) (cl : ClsA) (k : Nat) (x : Str) (ps : List Str) (g : List D → Store → Out D) : Prop where
  ex : ∃ C fI fd, mg x = some (.ref C) ∧ cl x = some C ∧ ExC K C ∧ PySem.W.findIn K (.ref C) "__init__" = some (some (.ref fI)) ∧ PySem.W.typeIn K (.ref fI) = some (.type "function") ∧ Binds K fd ps [] ∧ FnG P w K mg base cl k fI fd ps g
/-- without one -/
structure Xc0 (K : PySem.W.Frag) (mg : Str → Option Value) (cl : ClsA) (x : Str) : Prop where
  ex : ∃ C, mg x = some (.ref C) ∧ cl x = some C ∧ ExC K C ∧ ∃ bmB B newId initId, ExcBaseFacts B newId initId bmB ∧ PySem.W.excIn K C bmB newId = true
def dv (i : Nat) : Den D := fun ρ M => Out.of (ρ[i]?).join M
def dc (d : D) : Den D := fun _ M => .ok d M
def dk0 (x : Str) : Den D := fun _ M => .ok (.ob M.length) (M ++ [.exn x none])
def dd0 : Den D := fun _ M => .ok (.ob M.length) (M ++ [.dct []])
theorem takesF {X : Cx} : Takes X WF := fun _ _ ⟨_, _, _, _, _, _, _, _, _, _, _, _, _, _, _, _, w⟩ => w.elim
def fdI (n : Nat) (g : List D → Store → Out D) (c : Str) : List D → Store → Out D := fun ds M => if ds.length + 1 = n ∧ ds.length ≤ 1000 then mkXD c g ds M else .no
section
variable {X : Cx} {cl : ClsA} {W : WX} {G : Glo} {a b c e o i : Expr} {es : List Expr} {fa fb fc fe fo fi : Den D} {fs : Den (List D)} {ga gb : Den Bool} {p p2 pos pos' : Pos} {x y f : Str} {k : Nat} {ps : List Str} {g : List D → Store → Out D}
theorem xv (i : Nat) {x : Str} (hN : X.N[i]? = some x := by rfl) (hv : Vis X.env.scope x := by first | exact Or.inl rfl | exact Or.inr (Or.inl rfl) | exact Or.inr (Or.inr rfl)) (hd : (x == ("__debug__" : Str)) = false := by decide)
    (hcd : (x == ("__classdict__" : Str)) = false := by decide) : RD X cl W (.Name x pos) (dv i) := rd_var hN hv hd hcd
theorem xi {z : Int} {j : Nat} : RD X cl W (.Constant (.int z) j pos) (dc (.int z)) := rd_c pe_int fun _ _ => .int _
theorem xb {z : Bool} {j : Nat} : RD X cl W (.Constant (.bool z) j pos) (dc (.bl z)) := rd_c pe_bl fun _ _ => .bl _
theorem xn {j : Nat} : RD X cl W (.Constant .none j pos) (dc .non) := rd_c pe_non fun _ _ => .non
theorem xs {z : Str} {j : Nat} : RD X cl W (.Constant (.str z) j pos) (dc (.str z)) := rd_c pe_str fun _ _ => .str _
theorem xgI (z : Int) (hm : ∃ t, X.mg x = some (.int z t)) (hg : Gl X x := by rfl) (hd : (x == ("__debug__" : Str)) = false := by decide) : RD X cl W (.Name x pos) (dc (.int z)) := by
  obtain ⟨t, hm⟩ := hm
  exact rd_c (pe_glob hg hm (v := .int z) ⟨t, rfl⟩ hd) fun _ _ => .int _
theorem xcall (B : FnB X.prog X.w X.K X.mg X.base cl k x ps g) (hr : Room k X.A) (hgd : X.A.guards = some []) (tk : Takes X W) (ha : RA X cl W (e :: es) fs) (hg : Gl X x := by rfl) (hdb : (x == ("__debug__" : Str)) = false := by decide)
    (h1 : isStar e = false := by rfl) (h2 : es.any isStar = false := by rfl) : RD X cl W (.Call (.Name x p) (e :: es) [] pos) (denCall fs (arity ps.length g)) := by
  obtain ⟨f, fd, hm, hk, hb, F⟩ := B.ex
  exact rd_call F hr hgd hb tk hg hm hk hdb ha h1 h2
theorem xbi {id : String} {gD : List D → Store → Out D} (hc : ∀ σ, CallR X (.builtin id) (cR X.K cl W σ gD)) (hm : X.mg x = none) (hv : bootBuiltins x = some (.builtin id)) (ha : RA X cl W (e :: es) fs) (hg : Gl X x := by rfl) (h1 : isStar e = false := by rfl) (h2 : es.any isStar = false := by rfl)
    (hn : x ≠ "__name__" := by decide) (hdb : (x == ("__debug__" : Str)) = false := by decide) : RD X cl W (.Call (.Name x p) (e :: es) [] pos) (denCall fs gD) := rd_bi hc hg hm hv ha h1 h2 hn hdb
theorem xty {T : String} {gD : List D → Store → Out D} (hc : ∀ σ, CallR X (.type T) (cR X.K cl W σ gD)) (hm : X.mg x = none) (hv : bootBuiltins x = some (.type T)) (ha : RA X cl W (e :: es) fs) (hg : Gl X x := by rfl) (h1 : isStar e = false := by rfl) (h2 : es.any isStar = false := by rfl)
    (hn : x ≠ "__name__" := by decide) (hdb : (x == ("__debug__" : Str)) = false := by decide) : RD X cl W (.Call (.Name x p) (e :: es) [] pos) (denCall fs gD) := rd_ty hc hg hm hv ha h1 h2 hn hdb
theorem xbin (op : Operator) (ha : RD X cl W a fa) (hb : RD X cl W b fb) : RD X cl W (.BinOp a op b pos) (den2 fa fb (opD op)) := rd_bin op ha hb
theorem xcmp (op : CmpOp) (hu : X.A.units + 64 < cLine) (ha : RD X cl W a fa) (hb : RD X cl W b fb) (hm : behindInMarks op b = false := by first | exact nomark _ | rfl) : RD X cl W (.Compare a [op] [b] pos) (den2 fa fb (cmpD op)) := rd_cmp op hu hm ha hb
theorem tcmp (op : CmpOp) (hu : X.A.units + 64 < cLine) (ha : RD X cl W a fa) (hb : RD X cl W b fb) (hm : behindInMarks op b = false := by first | exact nomark _ | rfl) : RT X cl W (.Compare a [op] [b] pos) (asB (den2 fa fb (cmpD op))) := rt_cmp op hu hm ha hb
theorem xix (hu : X.A.units + 64 < cLine) (ha : RD X cl W a fa) (hb : RD X cl W b fb) (hs : isSlice b = false := by rfl) : RD X cl W (.Subscript a b pos) (den2 fa fb ixD) := rd_ix (by omega) hs ha hb
theorem xcons (ha : RD X cl W a fa) (hr : RA X cl W es fs) (hs : isStar a = false := by rfl) : RA X cl W (a :: es) (denCons fa fs) := ra_cons ha hs hr
theorem xlst (h : RA X cl W es fs) : RD X cl W (.List es pos) (denLst fs) := rd_lst h
theorem xtup {k : Nat} (h : RA X cl W es fs) : RD X cl W (.Tuple es k pos) (denTup fs) := rd_tup h
theorem xattr (O : IsiOk X.K cl G) (F : FldOk X.K cl G) (ha : RD X cl W a fa) (hb : attributeBase a f X.env (eval a X.env) = eval a X.env := by rfl) : RD X cl W (.Attribute a f pos) (denAttr G fa f) := rd_attr O F ha hb
/-- isinstance(e, c), c a class of one's own -/
theorem xisi (O : IsiOk X.K cl G) (hcl : ∀ c C, X.mg c = some (.ref C) → cl c = some C) (hC : ∃ C, X.mg c' = some (.ref C)) (hi : X.mg "isinstance" = none) (ha : RD X cl W a fa) (hg : Gl X "isinstance" := by rfl) (hg2 : Gl X c' := by rfl) (hd : (c' == ("__debug__" : Str)) = false := by decide) (hs : isStar a = false := by rfl) :
    RD X cl W (.Call (.Name "isinstance" p) [a, .Name c' p2] [] pos) (denIsi G fa (.own c')) := by
  obtain ⟨C, hm⟩ := hC
  have hC := hcl _ _ hm
  exact rd_isi O (cid := .own c') (cv := .ref C) (cV := .ref C) hg hi (pe_glob hg2 hm rfl hd) (fun u h => h) (by simp [cidV, hC]) hs ha
/-- c a built-in class -/
theorem xisiT (O : IsiOk X.K cl G) {T : String} (hm : X.mg c' = none) (hv : bootBuiltins c' = some (.type T)) (hi : X.mg "isinstance" = none) (ha : RD X cl W a fa) (hg : Gl X "isinstance" := by rfl) (hg2 : Gl X c' := by rfl) (hd : (c' == ("__debug__" : Str)) = false := by decide) (hn : c' ≠ "__name__" := by decide)
    (hs : isStar a = false := by rfl) : RD X cl W (.Call (.Name "isinstance" p) [a, .Name c' p2] [] pos) (denIsi G fa (.ty T)) :=
  rd_isi O (cid := .ty T) (cv := .type T) (cV := .ty T) hg hi (pe_bltn hg2 hm hv rfl hn hd) (fun u h => h) rfl hs ha
theorem xmkX (B : XcB X.prog X.w X.K X.mg X.base cl k x ps g) (hr : Room (k + 1) X.A) (hgd : X.A.guards = some []) (tk : Takes X W) (ha : RA X cl W (e :: es) fs) (hg : Gl X x := by rfl) (hdb : (x == ("__debug__" : Str)) = false := by decide)
    (h1 : isStar e = false := by rfl) (h2 : es.any isStar = false := by rfl) : RD X cl W (.Call (.Name x p) (e :: es) [] pos) (denCall fs (fdI ps.length g x)) := by
  obtain ⟨C, fI, fd, hm, hcl, T, iC, tI, hb, F⟩ := B.ex
  exact rd_mkX T hcl iC tI F hr hgd hb tk hg hm hdb ha h1 h2
theorem xmk0 (B : Xc0 X.K X.mg cl x) (hg : Gl X x := by rfl) (hdb : (x == ("__debug__" : Str)) = false := by decide) : RD X cl W (.Call (.Name x p) [] [] pos) (dk0 x) := by
  obtain ⟨C, hm, hcl, T, bmB, BB, newId, initId, FB, ex⟩ := B.ex
  exact rd_mkX0 T hcl FB ex hg hm hdb
/-- {} -/
theorem xd0 : RD X cl W (.Dict [] [] pos) dd0 := PE.imp pe_dnewK fun σ H Q q => by
  obtain ⟨θ, ρ, M, hE, r, q⟩ := q
  intro p hp
  have ex : Ext X.K θ H (θ ++ [p]) (upd H p (.dK [])) := (Ext.more [p]).trans (Ext.upd (Free.none hp))
  exact q _ _ _ ex (r.new hp ⟨[], upd_same, .nil⟩) (.ob (by rw [← r.len]; simp))
/-- the statements -/
theorem sset (i : Nat) (hN : X.N.Nodup) {y : Str} (ha : RD X cl W e fe) (hy : slotL X.N X.env.scope y = some i := by rfl) (hf : X.fn y = true ∨ X.env.scope.names.lookup y = some .local := by first | exact .inl rfl | exact .inr rfl)
    (hs : swapsWithSole [.Name y p] e pos.line X.env = pure false := by rfl) (hw : swappedStores [.Name y p] e X.env = pure none := by rfl) : RS X cl W (.Assign [.Name y p] e pos) (denAsg fe (.name i)) :=
  rs_asg ha (pg_nm hN hy hf) hs hw rfl
theorem ssetIx (he : RD X cl W e fe) (ho : RD X cl W o fo) (hi : RD X cl W i fi) (hs : swapsWithSole [.Subscript o i p2] e pos.line X.env = pure false := by rfl) (hw : swappedStores [.Subscript o i p2] e X.env = pure none := by rfl)
    (h1 : (assignEach [.Subscript o i p2] X.env).map (·.2) = [assign (.Subscript o i p2) X.env] := by rfl)
    (ha : ∀ v, assign (.Subscript o i p2) X.env v = (do
      let ov ← holding [v] (eval o X.env)
      let iv ← holding [v, ov] (eval i X.env)
      standAt p2
      holding [v, ov, iv] (setItem ov iv v)
      release [v, ov, iv] []) := by intro _; rfl) : RS X cl W (.Assign [.Subscript o i p2] e pos) (denSetIx fe fo fi) := rs_setIx he ho hi hs hw h1 ha
theorem ssetF (O : IsiOk X.K cl G) (F : FldOk X.K cl G) (he : RD X cl W e fe) (ho : RD X cl W o fo) (hs : swapsWith e (some (.Attribute o f p2)) pos.line X.env = pure false := by rfl) : RS X cl W (.Assign [.Attribute o f p2] e pos) (denSetF G fe fo f) := rs_setF O F he ho hs
end
/-! ### the module's classes -/
def clOf (mg : Str → Option Value) : ClsA := fun x => match mg x with
  | some (.ref a) => some a
  | _ => none
theorem clOf_of {mg : Str → Option Value} : ∀ (c : Str) (C : Addr), mg c = some (.ref C) → clOf mg c = some C := fun c C h => by
  unfold clOf
  rw [h]
theorem of_clOf {mg : Str → Option Value} {c : Str} {C D : Addr} (h : mg c = some (.ref C)) (q : clOf mg c = some D) : D = C := by
  rw [clOf_of c C h] at q
  exact (Option.some.inj q).symm
def gloOf (K : PySem.W.Frag) (mg : Str → Option Value) (xs : List Str) (fl : List (Str × Str)) : Glo where
  const := fun _ => none
  bi := fun _ => false
  fn := fun _ => none
  mkI := fun _ => none
  mkX := fun _ => none
  mkX0 := fun _ => false
  meth := fun _ => none
  prop := fun _ => none
  fld := fun c f => decide ((c, f) ∈ fl)
  isIns := fun _ => false
  isExn := fun c => decide (c ∈ xs)
  isi := fun t c => match cidV (clOf mg) t, cidV (clOf mg) c with
    | some tv, some cv => PySem.W.kitOne K tv cv
    | _, _ => none
def exB (K : PySem.W.Frag) (C : Addr) : Bool :=
  decide (PySem.W.findIn K (.ref C) "__setattr__" = some (some (.builtin "object.__setattr__"))) && (decide (PySem.W.subIn K (.ref C) (.type "BaseException") = some true) && (decide (PySem.W.typeIn K (.ref C) = some (.type "type")) && (PySem.W.keepIn K (.ref C) &&
  (decide (PySem.W.findIn K (.ref C) "__getattribute__" = some (some (.builtin "BaseException.__getattribute__"))) && (decide (PySem.W.findIn K (.ref C) "__getattr__" = some none) && (PySem.W.hasDictIn K C && (decide (PySem.W.findIn K (.ref C) "__class__" = some (some (.builtin "object.__class__"))) &&
  (decide (PySem.W.specialIn K (.builtin "object.__class__") "__get__" = some (some (.builtin "getset_descriptor.__get__"))) && (decide (PySem.W.takesIn K (.builtin "object.__class__") = some true) && decide (PySem.W.mroIn K C (.type "object") = some true))))))))))
theorem exC_of {K : PySem.W.Frag} {C : Addr} {nm q N bs tail sn sub ab col dd k0 k1 k2 k3 k5 newId} (rs : List Addr) (l : K.lookup C = some (excClassObj nm q C N bs (List.map Value.ref rs ++ tail) true sn sub ab col dd k0 k1 k2 k3 k5 newId)) (b : ExG.Base newId tail) (h : exB K C = true) : ExC K C := by
  unfold exB at h
  simp only [Bool.and_eq_true, decide_eq_true_eq] at h
  obtain ⟨h1, h2, h3, h4, h5, h6, h7, h8, h9, h10, h11⟩ := h
  exact ⟨⟨_, _, _, _, rs, tail, _, _, _, _, _, _, _, _, _, _, newId, b, l⟩, h1, h2, h3, h4, h5, h6, h7, h8, h9, h10, h11⟩
def AllX (K : PySem.W.Frag) (mg : Str → Option Value) (xs : List Str) : Prop := ∀ c ∈ xs, ∀ C, clOf mg c = some C → ExC K C
def AllF (K : PySem.W.Frag) (mg : Str → Option Value) (fl : List (Str × Str)) : Prop := ∀ p ∈ fl, ∀ C, clOf mg p.1 = some C → PySem.W.findIn K (.ref C) p.2 = some none
theorem allX_nil {K : PySem.W.Frag} {mg : Str → Option Value} : AllX K mg [] := fun _ h => by cases h
theorem allX_cons {K : PySem.W.Frag} {mg : Str → Option Value} {c : Str} {C : Addr} {xs : List Str} (h : mg c = some (.ref C)) (e : ExC K C) (r : AllX K mg xs) : AllX K mg (c :: xs) := fun d hd D hD => by
  cases hd with
  | head => rw [of_clOf h hD]; exact e
  | tail _ hd => exact r d hd D hD
theorem allF_nil {K : PySem.W.Frag} {mg : Str → Option Value} : AllF K mg [] := fun _ h => by cases h
theorem allF_cons {K : PySem.W.Frag} {mg : Str → Option Value} {c f : Str} {C : Addr} {xs : List (Str × Str)} (h : mg c = some (.ref C)) (e : PySem.W.findIn K (.ref C) f = some none) (r : AllF K mg xs) : AllF K mg ((c, f) :: xs) := fun d hd D hD => by
  cases hd with
  | head => rw [of_clOf h hD]; exact e
  | tail _ hd => exact r d hd D hD
theorem isiOk_of {K : PySem.W.Frag} {mg : Str → Option Value} {xs : List Str} {fl : List (Str × Str)} (h : AllX K mg xs) : IsiOk K (clOf mg) (gloOf K mg xs fl) := by
  refine ⟨fun t c b tv cv h1 h2 h3 => ?_, fun c C h1 => ?_, fun c C h1 h2 => h c (of_decide_eq_true h1) C h2⟩
  · unfold gloOf at h1
    simp only [h2, h3] at h1
    exact h1
  · cases h1
theorem fldOk_of {K : PySem.W.Frag} {mg : Str → Option Value} {xs : List Str} {fl : List (Str × Str)} (h : AllF K mg fl) : FldOk K (clOf mg) (gloOf K mg xs fl) := fun c C f h1 h2 => h (c, f) (of_decide_eq_true h1) C h2
end RI

/-! a dict of one pair -/
namespace RI
open PySem PySem.Spec PyProof.Rows L2
def denD1 (fk fv : Den D) : Den D := fun ρ M => (fk ρ (M ++ [.dct []])).bind fun k M1 => (fv ρ M1).bind fun v M2 => match keyOf k, M2[M.length]? with
  | some kk, some (.dct []) => .ok (.ob M.length) (M2.set M.length (.dct [(kk, v)]))
  | _, _ => .no
theorem Rp.key {K : PySem.W.Frag} {θ : List Addr} {H : Hp} {v : V} {d : D} {k : Key} (p : Rp K θ H v d) (h : keyOf d = some k) : v = kV k := by
  cases p <;> simp [keyOf] at h
  · subst h; rfl
  · subst h; rfl
theorem xd1 {X : Cx} {cl : ClsA} {W : WX} {k v : Expr} {fk fv : Den D} {pos : Pos} (hk : RD X cl W k fk) (hv : RD X cl W v fv) : RD X cl W (.Dict [some k] [v] pos) (denD1 fk fv) :=
  PE.imp (pe_disp (pps_cons hk hv pps_nil) rfl rfl (by simp) (by simp)) fun σ H Q q => by
  obtain ⟨θ, ρ, M, hE, r, q⟩ := q
  intro p hp
  have ex : Ext X.K θ H (θ ++ [p]) (upd H p (.dK [])) := (Ext.more [p]).trans (Ext.upd (Free.none hp))
  have r1 : Rep X.K cl (θ ++ [p]) (upd H p (.dK [])) (M ++ [.dct []]) := r.new hp ⟨[], upd_same, .nil⟩
  have n1 : (θ ++ [p])[M.length]? = some p := by rw [← r.len]; simp
  refine ⟨θ ++ [p], ρ, M ++ [.dct []], hE.ext ex, r1, PostG.bind (PostG.ext q ex) fun kd M1 θ1 H1 x e1 rr1 p1 q1 => ?_⟩
  refine ⟨θ1, ρ, M1, (hE.ext ex).ext e1, rr1, PostG.bind q1 fun vd M2 θ2 H2 y e2 rr2 p2 q2 => ?_⟩
  split at q2
  · rename_i kk hkk hM
    obtain ⟨a, ha, hr⟩ := rr2.addr hM
    have n2 := e2.pre _ _ (e1.pre _ _ n1)
    rw [n2] at ha
    cases ha
    obtain ⟨ws, h1, h2⟩ := hr
    cases h2
    have fr : Free H2 p := free_of h1 (fun _ z => by cases z) (fun _ _ z => by cases z)
    refine ⟨h1, [(kk, y)], ?_, by simp, q2 θ2 _ _ (Ext.upd fr) (rr2.put n2 fr ⟨[(kk, y)], upd_same, .cons (p2.ext (Ext.upd fr)) .nil⟩) (.ob n2)⟩
    rw [p1.key hkk]
    rfl
  · exact q2.elim
end RI

/-! the readings applied: for simp -/
namespace RI
open PySem PySem.Spec PyProof.Rows L2
section
variable {G : Glo} {fa fb fe fo fi : Den D} {fs : Den (List D)} {ga gb : Den Bool} {g h : DenS} {ρ : Env1} {M : Store} {f : Env1 → Store → SOut} {d : D} {c : Str} {gD : List D → Store → Out D}
@[simp] theorem ap_seq : denSeq g h ρ M = andThen (g ρ M) h := rfl
@[simp] theorem ap_nx : denNx ρ M = .fl .nx ρ M := rfl
@[simp] theorem th_nx : andThen (.fl .nx ρ M) f = f ρ M := rfl
@[simp] theorem th_brk : andThen (.fl .brk ρ M) f = .fl .brk ρ M := rfl
@[simp] theorem th_ct : andThen (.fl .ct ρ M) f = .fl .ct ρ M := rfl
@[simp] theorem th_ret : andThen (.fl (.ret d) ρ M) f = .fl (.ret d) ρ M := rfl
@[simp] theorem th_exc {fs : List (Str × D)} : andThen (.exc c fs ρ M) f = .exc c fs ρ M := rfl
@[simp] theorem th_den {x : SOut} : andThen x denNx = x := by
  cases x with
  | fl f ρ M => cases f <;> rfl
  | exc _ _ _ _ => rfl
  | no => rfl
@[simp] theorem fin_nx : finD (.fl .nx ρ M) = .ok .non M := rfl
@[simp] theorem fin_ret : finD (.fl (.ret d) ρ M) = .ok d M := rfl
@[simp] theorem ap_ifs : denIfS ga g h ρ M = bindS (ga ρ M) ρ fun b M => if b then g ρ M else h ρ M := rfl
@[simp] theorem ap_ret : denRet fa ρ M = bindS (fa ρ M) ρ fun d M => .fl (.ret d) ρ M := rfl
@[simp] theorem th_bret {x : Out D} {ρ' : Env1} : andThen (bindS x ρ fun d M => .fl (.ret d) ρ' M) f = bindS x ρ fun d M => .fl (.ret d) ρ' M := by cases x <;> rfl
@[simp] theorem fin_bret {x : Out D} {ρ' : Env1} : finD (bindS x ρ fun d M => .fl (.ret d) ρ' M) = x := by cases x <;> rfl
@[simp] theorem ap_drop : denDrop fa ρ M = bindS (fa ρ M) ρ fun _ M => .fl .nx ρ M := rfl
@[simp] theorem ap_asg {t : Tgt} : denAsg fa t ρ M = bindS (fa ρ M) ρ fun d M => match setT t d ρ with
  | some ρ' => .fl .nx ρ' M
  | none => .no := rfl
@[simp] theorem set_nm {i : Nat} : setT (.name i) d ρ = some (ρ.set i (some d)) := by unfold setT; rfl
@[simp] theorem ap_par {i j : Nat} : denPar i j fs ρ M = bindS (fs ρ M) ρ fun ds M => match ds with
  | [x, y] => .fl .nx ((ρ.set i (some x)).set j (some y)) M
  | _ => .no := rfl
@[simp] theorem ap_setIx : denSetIx fe fo fi ρ M = bindS (fe ρ M) ρ fun d M => bindS (fo ρ M) ρ fun x M => bindS (fi ρ M) ρ fun k M => match setD x k d M with
  | some M' => .fl .nx ρ M'
  | none => .no := rfl
@[simp] theorem ap_setF {x : Str} : denSetF G fe fo x ρ M = bindS (fe ρ M) ρ fun d M => bindS (fo ρ M) ρ fun y M => match setFD G y x d M with
  | some M' => .fl .nx ρ M'
  | none => .no := rfl
@[simp] theorem ap_for {fit : Den ItD} {t : Tgt} : denFor fit t g ρ M = bindS (fit ρ M) ρ fun it M => forD it.chk (onT t g) it.ds ρ M := rfl
@[simp] theorem ap_v {i : Nat} : dv i ρ M = Out.of (ρ[i]?).join M := rfl
@[simp] theorem ap_c : dc d ρ M = .ok d M := rfl
@[simp] theorem of_some {α : Type} {a : α} : Out.of (some a) M = .ok a M := rfl
@[simp] theorem ap_two {op : D → D → Store → Out D} : den2 fa fb op ρ M = (fa ρ M).bind fun x M => (fb ρ M).bind fun y M => op x y M := rfl
@[simp] theorem ap_asB : asB fa ρ M = (fa ρ M).bind fun d M => match d with
  | .bl b => .ok b M
  | _ => .no := by
  unfold asB
  cases fa ρ M with
  | ok d M => cases d <;> rfl
  | exc _ _ _ => rfl
  | no => rfl
@[simp] theorem ap_call : denCall fs gD ρ M = (fs ρ M).bind gD := rfl
@[simp] theorem ap_nil : denNil ρ M = .ok [] M := rfl
@[simp] theorem ap_cons : denCons fa fs ρ M = (fa ρ M).bind fun x M => (fs ρ M).bind fun xs M => .ok (x :: xs) M := rfl
@[simp] theorem ap_tup : denTup fs ρ M = (fs ρ M).bind fun xs M => if xs.length ≤ line then .ok (.tup xs) M else .no := rfl
@[simp] theorem ap_lst : denLst fs ρ M = (fs ρ M).bind fun xs M => newL xs M := rfl
@[simp] theorem ap_attr {x : Str} : denAttr G fa x ρ M = (fa ρ M).bind fun y M => match getFD G y x M with
  | some d => .ok d M
  | none => .no := rfl
@[simp] theorem ap_isi {k : Cid} : denIsi G fa k ρ M = (fa ρ M).bind fun d M => isiD G d k M := rfl
@[simp] theorem ap_sl {fl fh : Den (Option Int)} : denSl fa fl fh ρ M = (fa ρ M).bind fun x M => (fl ρ M).bind fun lo M => (fh ρ M).bind fun hi M => slD x lo hi M := rfl
@[simp] theorem ap_nopart : denNoPart ρ M = .ok none M := rfl
@[simp] theorem ap_it : denIt fa ρ M = (fa ρ M).bind itOf := rfl
@[simp] theorem ap_rng1 : denRange1 fs ρ M = (fs ρ M).bind itRange1 := rfl
@[simp] theorem ap_en : denEnum fs ρ M = (fs ρ M).bind itEnum := rfl
@[simp] theorem ap_yes : denYes ρ M = .ok true M := rfl
@[simp] theorem ap_k0 {x : Str} : dk0 x ρ M = .ok (.ob M.length) (M ++ [.exn x none]) := rfl
@[simp] theorem ap_d0 : dd0 ρ M = .ok (.ob M.length) (M ++ [.dct []]) := rfl
theorem newL_small {xs : List D} (h : xs.length ≤ 1000) : newL xs M = .ok (.ob M.length) (M ++ [.lst xs]) := by
  unfold newL
  rw [if_pos (Nat.le_trans h (by decide))]
@[simp] theorem line_1 {n : Nat} (h : n ≤ 1000) : n ≤ line := Nat.le_trans h (by decide)
@[simp] theorem op_addI {i j : Int} : opD .Add (.int i) (.int j) M = .ok (.int (i + j)) M := rfl
@[simp] theorem op_subI {i j : Int} : opD .Sub (.int i) (.int j) M = .ok (.int (i - j)) M := rfl
theorem op_mulI {i j : Int} (h : mulOk i j = true) : opD .Mult (.int i) (.int j) M = .ok (.int (i * j)) M := if_pos h
theorem op_divI {i j : Int} (h : 0 < j) (h2 : j < 1000000) : opD .FloorDiv (.int i) (.int j) M = .ok (.int (i / j)) M := by
  have : j.natAbs.log2 < 9000 := by
    by_cases h0 : j.natAbs = 0
    · rw [h0]
      decide
    · exact Nat.lt_trans ((Nat.log2_lt h0).mpr (show j.natAbs < 2 ^ 20 by omega)) (by decide)
  exact if_pos ⟨h, this⟩
theorem op_modI {i j : Int} (h : 0 < j) : opD .Mod (.int i) (.int j) M = .ok (.int (i % j)) M := if_pos h
theorem op_powI {i j : Int} (h : 0 ≤ j ∧ j ≤ 1000000 ∧ i.natAbs < 2 ^ 64) : opD .Pow (.int i) (.int j) M = .ok (.int (i ^ j.toNat)) M := if_pos h
theorem op_catL {a b : Nat} {xs ys : List D} (h1 : listAt M a = some xs) (h2 : listAt M b = some ys) (h : (xs ++ ys).length ≤ 1000) : opD .Add (.ob a) (.ob b) M = .ok (.ob M.length) (M ++ [.lst (xs ++ ys)]) := by
  unfold opD
  simp only [h1, h2]
  exact newL_small h
end
end RI

/-! isinstance by a table -/
namespace RI
open PySem PySem.Spec PyProof.Rows L2
def isiChk (K : PySem.W.Frag) (ad : List (Str × Addr)) (tbl : List (Cid × Cid × Bool)) : Bool := tbl.all fun e => match cidV (fun x => ad.lookup x) e.1, cidV (fun x => ad.lookup x) e.2.1 with
  | some tv, some cv => decide (PySem.W.kitOne K tv cv = some e.2.2)
  | _, _ => false
def AllM (mg : Str → Option Value) (ad : List (Str × Addr)) : Prop := ∀ x a, ad.lookup x = some a → mg x = some (.ref a)
theorem allM_nil {mg : Str → Option Value} : AllM mg [] := fun _ _ h => by cases h
theorem allM_cons {mg : Str → Option Value} {c : Str} {a : Addr} {ad : List (Str × Addr)} (h : mg c = some (.ref a)) (r : AllM mg ad) : AllM mg ((c, a) :: ad) := fun x b e => by
  rw [List.lookup_cons] at e
  split at e
  · rename_i hb
    cases e
    rw [eq_of_beq hb]
    exact h
  · exact r x b e
theorem cidV_of {mg : Str → Option Value} {ad : List (Str × Addr)} (h : AllM mg ad) {c : Cid} {v : Value} (e : cidV (fun x => ad.lookup x) c = some v) : cidV (clOf mg) c = some v := by
  cases c with
  | ty n => exact e
  | own x =>
    simp only [cidV, Option.map_eq_some_iff] at e ⊢
    obtain ⟨a, ha, rfl⟩ := e
    exact ⟨a, clOf_of x a (h x a ha), rfl⟩
theorem isi_tbl {K : PySem.W.Frag} {mg : Str → Option Value} {xs : List Str} {fl : List (Str × Str)} {ad : List (Str × Addr)} {tbl : List (Cid × Cid × Bool)} (h : AllM mg ad) (hc : isiChk K ad tbl = true) {t c : Cid} {b : Bool} (hm : (t, c, b) ∈ tbl) : (gloOf K mg xs fl).isi t c = some b := by
  have q := List.all_eq_true.mp hc _ hm
  dsimp only at q
  split at q
  · rename_i tv cv e1 e2
    have e3 := cidV_of h e1
    have e4 := cidV_of h e2
    unfold gloOf
    simp only [e3, e4]
    exact of_decide_eq_true q
  · cases q
/-- the object of an exception class, but for what nobody asks -/
def ExcCls (K : PySem.W.Frag) (C : Addr) (rs : List Addr) (tail : List Value) (newId : String) : Prop := ∃ nm q N bs sn sub ab col dd k0 k1 k2 k3 k5, K.lookup C = some (excClassObj nm q C N bs (List.map Value.ref rs ++ tail) true sn sub ab col dd k0 k1 k2 k3 k5 newId)
theorem ExcCls.exC {K : PySem.W.Frag} {C : Addr} {rs : List Addr} {tail : List Value} {newId : String} (h : ExcCls K C rs tail newId) (b : ExG.Base newId tail) (e : exB K C = true) : ExC K C := by
  obtain ⟨_, _, _, _, _, _, _, _, _, _, _, _, _, _, l⟩ := h
  exact exC_of rs l b e
abbrev tailVE : List Value := [.type "ValueError", .type "Exception", .type "BaseException", .type "object"]
abbrev tailLE : List Value := [.type "LookupError", .type "Exception", .type "BaseException", .type "object"]
theorem xc0_mk {K : PySem.W.Frag} {mg : Str → Option Value} {x : Str} {C : Addr} {bmB : List Value} {B newId initId : String} (hm : mg x = some (.ref C)) (T : ExC K C) (F : ExcBaseFacts B newId initId bmB) (h : PySem.W.excIn K C bmB newId = true) : Xc0 K mg (clOf mg) x := ⟨C, hm, clOf_of x C hm, T, bmB, B, newId, initId, F, h⟩
end RI

namespace K39
open PySem PySem.Spec PyProof.Rows L2 RI
def top (i : Nat) : Stmt := PySem.Challenge.pw_beadshares_k39_errors_and_bounds.main.body.getD i (.Pass ⟨0, 0, 0, 0⟩)
/-! ### 1. the readings -/
noncomputable def d_BadDealing (G : Glo) : DenS := denSeq (denSetF G (dv 1) (dv 0) "word") (denNx)
noncomputable def g_BadDealing (G : Glo) : List D → Store → Out D := fun ds M => finD (d_BadDealing G (startE 2 ds) M)
noncomputable def d_BadString (G : Glo) : DenS := denSeq (denSetF G (dv 1) (dv 0) "number") (denSeq (denSetF G (dv 2) (dv 0) "word") (denNx))
noncomputable def g_BadString (G : Glo) : List D → Store → Out D := fun ds M => finD (d_BadString G (startE 3 ds) M)
noncomputable def d_BadTakers (G : Glo) : DenS := denSeq (denSetF G (dv 1) (dv 0) "many") (denNx)
noncomputable def g_BadTakers (G : Glo) : List D → Store → Out D := fun ds M => finD (d_BadTakers G (startE 2 ds) M)
noncomputable def d_BadText (G : Glo) : DenS := denSeq (denSetF G (dv 1) (dv 0) "number") (denNx)
noncomputable def g_BadText (G : Glo) : List D → Store → Out D := fun ds M => finD (d_BadText G (startE 2 ds) M)
noncomputable def d_BadWeights (G : Glo) : DenS := denSeq (denSetF G (dv 1) (dv 0) "weights") (denNx)
noncomputable def g_BadWeights (G : Glo) : List D → Store → Out D := fun ds M => finD (d_BadWeights G (startE 2 ds) M)
noncomputable def d_NoBack (G : Glo) : DenS := denSeq (denSetF G (dv 1) (dv 0) "many") (denNx)
noncomputable def g_NoBack (G : Glo) : List D → Store → Out D := fun ds M => finD (d_NoBack G (startE 2 ds) M)
noncomputable def d_NoChoice (G : Glo) : DenS := denSeq (denSetF G (dv 1) (dv 0) "choice") (denNx)
noncomputable def g_NoChoice (G : Glo) : List D → Store → Out D := fun ds M => finD (d_NoChoice G (startE 2 ds) M)
noncomputable def d_NoDealing (G : Glo) : DenS := denSeq (denSetF G (dv 1) (dv 0) "cuts") (denNx)
noncomputable def g_NoDealing (G : Glo) : List D → Store → Out D := fun ds M => finD (d_NoDealing G (startE 2 ds) M)
noncomputable def d_Odd (G : Glo) : DenS := denSeq (denSetF G (dv 1) (dv 0) "kind") (denNx)
noncomputable def g_Odd (G : Glo) : List D → Store → Out D := fun ds M => finD (d_Odd G (startE 2 ds) M)
noncomputable def d_NoPlace (G : Glo) : DenS := denSeq (denSetF G (dv 1) (dv 0) "value") (denNx)
noncomputable def g_NoPlace (G : Glo) : List D → Store → Out D := fun ds M => finD (d_NoPlace G (startE 2 ds) M)
noncomputable def d_NoRun (G : Glo) : DenS := denSeq (denSetF G (dv 1) (dv 0) "number") (denNx)
noncomputable def g_NoRun (G : Glo) : List D → Store → Out D := fun ds M => finD (d_NoRun G (startE 2 ds) M)
noncomputable def d__law_bag_1 (G : Glo) : DenS := denSeq (denIfS (asB (den2 (dv 1) (den2 (dc (.int 10)) (dc (.int 18)) (opD .Pow)) (cmpD .GtE))) (denSeq (denAsg (den2 (den2 (den2 (dv 2) (dc (.int 59)) (opD .Mult)) (dv 1) (opD .Add)) (den2 (dc (.int 10)) (dc (.int 18)) (opD .Pow)) (opD .Sub)) (.name 2)) (denNx)) (denSeq (denAsg (den2 (den2 (den2 (dv 3) (dc (.int 2862933555777941757)) (opD .Mult)) (den2 (dc (.int 2)) (denCall (denCons (dv 1) (denNil)) absD) (opD .Mult)) (opD .Add)) (denCall (denCons (den2 (dv 1) (dc (.int 0)) (cmpD .Lt)) (denNil)) intD) (opD .Add)) (.name 3)) (denSeq (denAsg (den2 (denCall (denCons (dv 3) (denNil)) intD) (dc (.int 2305843009213693951)) (opD .Mod)) (.name 3)) (denNx)))) (denNx)
noncomputable def d__law_bag (G : Glo) : DenS := denSeq (denPar 2 3 (denCons (dc (.int 0)) (denCons (den2 (dc (.int 2932)) (den2 (dc (.int 41)) (denCall (denCons (dv 0) (denNil)) lenD) (opD .Mult)) (opD .Add)) (denNil)))) (denSeq (denFor (denIt (denSl (dv 0) (denNoPart) (denPart (dc (.int 63))))) (.name 1) (d__law_bag_1 G)) (denSeq (denRet (denLst (denCons (dv 2) (denCons (dv 3) (denCons (dc (.int 0)) (denNil)))))) (denNx)))
noncomputable def g__law_bag (G : Glo) : List D → Store → Out D := fun ds M => finD (d__law_bag G (startE 4 ds) M)
noncomputable def d__law_draw (G : Glo) : DenS := denSeq (denIfS (asB (den2 (den2 (dv 0) (dc (.int 0)) ixD) (dc (.int 0)) (cmpD .Gt))) (denSeq (denAsg (den2 (denCall (denCons (den2 (dv 0) (dc (.int 0)) ixD) (denNil)) intD) (dv 1) (opD .Mod)) (.name 3)) (denSeq (denSetIx (den2 (den2 (dv 0) (dc (.int 0)) ixD) (dv 1) (opD .FloorDiv)) (dv 0) (dc (.int 0))) (denSeq (denRet (dv 3)) (denNx)))) (denNx)) (denSeq (denSetIx (den2 (den2 (dv 0) (dc (.int 2)) ixD) (dc (.int 1)) (opD .Add)) (dv 0) (dc (.int 2))) (denSeq (denAsg (den2 (den2 (den2 (dv 0) (dc (.int 1)) ixD) (dc (.int 2862933555777941757)) (opD .Mult)) (den2 (dc (.int 3037000493)) (den2 (dv 0) (dc (.int 2)) ixD) (opD .Mult)) (opD .Add)) (.name 2)) (denSeq (denSetIx (den2 (denCall (denCons (dv 2) (denNil)) intD) (dc (.int 2305843009213693951)) (opD .Mod)) (dv 0) (dc (.int 1))) (denSeq (denRet (den2 (den2 (den2 (denCall (denCons (den2 (den2 (dv 0) (dc (.int 1)) ixD) (den2 (dv 0) (dc (.int 1)) ixD) (opD .Mult)) (denNil)) intD) (dc (.int 2305843009213693921)) (opD .Mod)) (dc (.int 4096)) (opD .FloorDiv)) (dv 1) (opD .Mod))) (denNx)))))
noncomputable def g__law_draw (G : Glo) : List D → Store → Out D := fun ds M => finD (d__law_draw G (startE 4 ds) M)
noncomputable def d__law_pick (G : Glo) : DenS := denSeq (denRet (den2 (dv 1) (denCall (denCons (dv 0) (denCons (denCall (denCons (dv 1) (denNil)) lenD) (denNil))) (arity 2 (g__law_draw G))) ixD)) (denNx)
noncomputable def g__law_pick (G : Glo) : List D → Store → Out D := fun ds M => finD (d__law_pick G (startE 2 ds) M)
noncomputable def d__law_odd (G : Glo) : DenS := denSeq (denAsg (denLst (denCons (dc .non) (denCons (dc (.bl true)) (denCons (dc (.bl false)) (denCons (dc (.int 0)) (denCons (dc (.int 1)) (denCons (denNeg (dc (.int 1))) (denCons (dc (.int 7)) (denCons (den2 (dc (.int 10)) (dc (.int 31)) (opD .Pow)) (denCons (dc (.str "")) (denCons (dc (.str "0")) (denCons (dc (.str "2a")) (denCons (denTup (denNil)) (denCons (denLst (denNil)) (denCons (denTup (denCons (dc (.int 0)) (denNil))) (denCons (denTup (denCons (dc (.int 1)) (denCons (dc (.int 2)) (denNil)))) (denCons (denLst (denCons (dc (.int 0)) (denNil))) (denCons (denTup (denCons (dc (.int 0)) (denCons (dc (.bl true)) (denNil)))) (denCons (dd0) (denNil)))))))))))))))))))) (.name 1)) (denSeq (denRet (denCall (denCons (dv 0) (denCons (den2 (dv 1) (denLst (denCons (denTup (denCons (dc .non) (denNil))) (denCons (denTup (denCons (dc (.str "a")) (denCons (dc (.int 1)) (denNil)))) (denCons (denTup (denCons (denTup (denCons (dc (.int 0)) (denCons (dc (.int 1)) (denNil)))) (denNil))) (denCons (denTup (denCons (dc (.int 0)) (denCons (dc (.int 0)) (denNil)))) (denCons (denLst (denCons (denTup (denCons (dc (.int 0)) (denCons (dc (.int 1)) (denNil)))) (denNil))) (denCons (denD1 (dc (.str "0")) (dc (.int 1))) (denCons (denTup (denCons (dc (.int 4)) (denCons (dc (.int 1)) (denNil)))) (denCons (denTup (denCons (dc (.int 2)) (denCons (dc (.int 3)) (denCons (dc (.int 1)) (denNil))))) (denCons (denTup (denCons (dc (.int 3)) (denNil))) (denNil))))))))))) (opD .Add)) (denNil))) (arity 2 (g__law_pick G)))) (denNx))
noncomputable def g__law_odd (G : Glo) : List D → Store → Out D := fun ds M => finD (d__law_odd G (startE 2 ds) M)
noncomputable def d__law_sorts (G : Glo) : DenS := denSeq (denAsg (denLst (denCons (denIsi G (dv 0) (.own "BadDealing")) (denCons (denIsi G (dv 0) (.own "BadRing")) (denCons (denIsi G (dv 0) (.own "BadString")) (denNil))))) (.name 1)) (denSeq (denAsg (den2 (dv 1) (denLst (denCons (denIsi G (dv 0) (.own "BadTakers")) (denCons (denIsi G (dv 0) (.own "BadText")) (denCons (denIsi G (dv 0) (.own "BadWeights")) (denNil))))) (opD .Add)) (.name 1)) (denSeq (denAsg (den2 (dv 1) (denLst (denCons (denIsi G (dv 0) (.own "Full")) (denCons (denIsi G (dv 0) (.own "NoBack")) (denCons (denIsi G (dv 0) (.own "NoChoice")) (denNil))))) (opD .Add)) (.name 1)) (denSeq (denAsg (den2 (dv 1) (denLst (denCons (denIsi G (dv 0) (.own "NoDealing")) (denCons (denIsi G (dv 0) (.own "NothingToUndo")) (denCons (denIsi G (dv 0) (.own "Odd")) (denNil))))) (opD .Add)) (.name 1)) (denSeq (denAsg (den2 (dv 1) (denLst (denCons (denIsi G (dv 0) (.own "NoPlace")) (denCons (denIsi G (dv 0) (.own "NoRun")) (denNil)))) (opD .Add)) (.name 1)) (denSeq (denRet (den2 (dv 1) (denLst (denCons (denIsi G (dv 0) (.own "ShareError")) (denCons (denIsi G (dv 0) (.ty "ValueError")) (denCons (denIsi G (dv 0) (.ty "LookupError")) (denNil))))) (opD .Add))) (denNx))))))
noncomputable def g__law_sorts (G : Glo) : List D → Store → Out D := fun ds M => finD (d__law_sorts G (startE 2 ds) M)
noncomputable def d__law_made (G : Glo) : DenS := denSeq (denAsg (denLst (denCons (denCall (denCons (dv 0) (denNil)) (fdI 2 (g_BadDealing G) "BadDealing")) (denCons (dk0 "BadRing") (denCons (denCall (denCons (dv 0) (denCons (dv 1) (denNil))) (fdI 3 (g_BadString G) "BadString")) (denCons (denCall (denCons (dv 0) (denNil)) (fdI 2 (g_BadTakers G) "BadTakers")) (denCons (denCall (denCons (dv 0) (denNil)) (fdI 2 (g_BadText G) "BadText")) (denCons (denCall (denCons (dv 0) (denNil)) (fdI 2 (g_BadWeights G) "BadWeights")) (denCons (dk0 "Full") (denCons (denCall (denCons (dv 0) (denNil)) (fdI 2 (g_NoBack G) "NoBack")) (denNil)))))))))) (.name 2)) (denSeq (denRet (den2 (dv 2) (denLst (denCons (denCall (denCons (dv 0) (denNil)) (fdI 2 (g_NoChoice G) "NoChoice")) (denCons (denCall (denCons (dv 0) (denNil)) (fdI 2 (g_NoDealing G) "NoDealing")) (denCons (dk0 "NothingToUndo") (denCons (denCall (denCons (dv 0) (denNil)) (fdI 2 (g_Odd G) "Odd")) (denCons (denCall (denCons (dv 0) (denNil)) (fdI 2 (g_NoPlace G) "NoPlace")) (denCons (denCall (denCons (dv 0) (denNil)) (fdI 2 (g_NoRun G) "NoRun")) (denNil)))))))) (opD .Add))) (denNx))
noncomputable def g__law_made (G : Glo) : List D → Store → Out D := fun ds M => finD (d__law_made G (startE 3 ds) M)
noncomputable def d_law_1 (G : Glo) : DenS := denSeq (denAsg (den2 (dv 8) (dc (.int 12)) (cmpD .Lt)) (.name 10)) (denSeq (denIfS (asB (den2 (denCall (denCons (dv 9) (denNil)) (arity 1 (g__law_sorts G))) (den2 (denLc (denRange1 (denCons (dc (.int 14)) (denNil))) (.name 11) (denYes) (den2 (dv 11) (dv 8) (cmpD .Eq)) [11]) (denLst (denCons (dv 10) (denCons (dv 10) (denCons (denNotV (dv 10)) (denNil))))) (opD .Add)) (cmpD .NotEq))) (denSeq (denRet (dc (.bl false))) (denNx)) (denNx)) (denNx))
noncomputable def d_law_2 (G : Glo) : DenS := denSeq (denPar 6 7 (denCons (denCall (denCons (dv 1) (denNil)) (arity 1 (g__law_odd G))) (denCons (denCall (denCons (dv 1) (denCons (denLst (denCons (denCall (denCons (dv 1) (denNil)) (arity 1 (g__law_odd G))) (denCons (dc (.str "same")) (denCons (den2 (dc (.int 10)) (dc (.int 30)) (opD .Pow)) (denCons (denTup (denCons (denTup (denCons (dc (.int 0)) (denCons (dc (.int 1)) (denNil)))) (denCons (dc .non) (denNil)))) (denNil)))))) (denNil))) (arity 2 (g__law_pick G))) (denNil)))) (denSeq (denAsg (denCall (denCons (dv 6) (denCons (dv 7) (denNil))) (arity 2 (g__law_made G))) (.name 4)) (denSeq (denAsg (denLst (denCons (denAttr G (den2 (dv 4) (dc (.int 0)) ixD) "word") (denCons (denAttr G (den2 (dv 4) (dc (.int 2)) ixD) "number") (denCons (denAttr G (den2 (dv 4) (dc (.int 2)) ixD) "word") (denCons (denAttr G (den2 (dv 4) (dc (.int 3)) ixD) "many") (denCons (denAttr G (den2 (dv 4) (dc (.int 4)) ixD) "number") (denCons (denAttr G (den2 (dv 4) (dc (.int 5)) ixD) "weights") (denNil)))))))) (.name 5)) (denSeq (denAsg (den2 (dv 5) (denLst (denCons (denAttr G (den2 (dv 4) (dc (.int 7)) ixD) "many") (denCons (denAttr G (den2 (dv 4) (dc (.int 8)) ixD) "choice") (denCons (denAttr G (den2 (dv 4) (dc (.int 9)) ixD) "cuts") (denCons (denAttr G (den2 (dv 4) (dc (.int 11)) ixD) "kind") (denCons (denAttr G (den2 (dv 4) (dc (.int 12)) ixD) "value") (denNil))))))) (opD .Add)) (.name 5)) (denSeq (denIfS (asB (den2 (denCall (denCons (den2 (dv 5) (denLst (denCons (denAttr G (den2 (dv 4) (dc (.int 13)) ixD) "number") (denNil))) (opD .Add)) (denNil)) reprD) (denCall (denCons (den2 (denLst (denCons (dv 6) (denCons (dv 6) (denCons (dv 7) (denNil))))) (den2 (denLst (denCons (dv 6) (denNil))) (dc (.int 9)) (opD .Mult)) (opD .Add)) (denNil)) reprD) (cmpD .NotEq))) (denSeq (denRet (dc (.bl false))) (denNx)) (denNx)) (denSeq (denFor (denEnum (denCons (dv 4) (denNil))) (.tup [8, 9]) (d_law_1 G)) (denNx))))))
noncomputable def d_law (G : Glo) : DenS := denSeq (denAsg (denCall (denCons (dv 0) (denNil)) (arity 1 (g__law_bag G))) (.name 1)) (denSeq (denAsg (denLst (denCons (dc (.int 12)) (denCons (dc (.int 4)) (denCons (dc (.int 20)) (denCons (dc (.int 100)) (denCons (dc (.int 4)) (denCons (dc (.int 1000000000000000000000000000000)) (denCons (dc (.int 6)) (denCons (dc (.int 12)) (denCons (dc (.int 1000)) (denNil))))))))))) (.name 2)) (denSeq (denIfS (asB (den2 (denCall (denCons (dv 2) (denNil)) reprD) (denCall (denCons (denLst (denCons (dc (.int 12)) (denCons (dc (.int 4)) (denCons (dc (.int 20)) (denCons (dc (.int 100)) (denCons (dc (.int 4)) (denCons (den2 (dc (.int 10)) (dc (.int 30)) (opD .Pow)) (denCons (dc (.int 6)) (denCons (dc (.int 12)) (denCons (dc (.int 1000)) (denNil))))))))))) (denNil)) reprD) (cmpD .NotEq))) (denSeq (denRet (dc (.bl false))) (denNx)) (denNx)) (denSeq (denFor (denRange1 (denCons (dc (.int 5)) (denNil))) (.name 3) (d_law_2 G)) (denSeq (denRet (dc (.bl true))) (denNx)))))
noncomputable def g_law (G : Glo) : List D → Store → Out D := fun ds M => finD (d_law G (startE 12 ds) M)
def exs : List Str := ["ShareError", "BadDealing", "BadRing", "BadString", "BadTakers", "BadText", "BadWeights", "Full", "NoBack", "NoChoice", "NoDealing", "NothingToUndo", "Odd", "NoPlace", "NoRun"]
def fls : List (Str × Str) := [("BadDealing", "word"), ("BadString", "number"), ("BadString", "word"), ("BadTakers", "many"), ("BadText", "number"), ("BadWeights", "weights"), ("NoBack", "many"), ("NoChoice", "choice"), ("NoDealing", "cuts"), ("Odd", "kind"), ("NoPlace", "value"), ("NoRun", "number")]
/-! ### 2. the facts of the module -/
theorem v_LookupError : bootBuiltins "LookupError" = some (.type "LookupError") := by decide +kernel
theorem v_ValueError : bootBuiltins "ValueError" = some (.type "ValueError") := by decide +kernel
theorem v_abs : bootBuiltins "abs" = some (.builtin "abs") := by decide +kernel
theorem v_int : bootBuiltins "int" = some (.type "int") := by decide +kernel
theorem v_len : bootBuiltins "len" = some (.builtin "len") := by decide +kernel
theorem v_repr : bootBuiltins "repr" = some (.builtin "repr") := by decide +kernel
structure Txt (K : PySem.W.Frag) (mg : Str → Option Value) : Prop where
  O : IsiOk K (clOf mg) (gloOf K mg exs fls)
  F : FldOk K (clOf mg) (gloOf K mg exs fls)
  b_LookupError : mg "LookupError" = none
  b_ValueError : mg "ValueError" = none
  b_abs : mg "abs" = none
  b_enumerate : mg "enumerate" = none
  b_int : mg "int" = none
  b_isinstance : mg "isinstance" = none
  b_len : mg "len" = none
  b_range : mg "range" = none
  b_repr : mg "repr" = none
  c_MAX_BOTTOM : ∃ t, mg "MAX_BOTTOM" = some (.int 12 t)
  c_MAX_CUTS : ∃ t, mg "MAX_CUTS" = some (.int 4 t)
  c_MAX_EDITS : ∃ t, mg "MAX_EDITS" = some (.int 20 t)
  c_MAX_FACTOR : ∃ t, mg "MAX_FACTOR" = some (.int 100 t)
  c_MAX_KINDS : ∃ t, mg "MAX_KINDS" = some (.int 4 t)
  c_MAX_LENGTH : ∃ t, mg "MAX_LENGTH" = some (.int 1000000000000000000000000000000 t)
  c_MAX_RUNS : ∃ t, mg "MAX_RUNS" = some (.int 6 t)
  c_MAX_STEP : ∃ t, mg "MAX_STEP" = some (.int 12 t)
  c_MAX_WEIGHT : ∃ t, mg "MAX_WEIGHT" = some (.int 1000 t)
  g_BadDealing : ∃ C, mg "BadDealing" = some (.ref C)
  g_BadRing : ∃ C, mg "BadRing" = some (.ref C)
  g_BadString : ∃ C, mg "BadString" = some (.ref C)
  g_BadTakers : ∃ C, mg "BadTakers" = some (.ref C)
  g_BadText : ∃ C, mg "BadText" = some (.ref C)
  g_BadWeights : ∃ C, mg "BadWeights" = some (.ref C)
  g_Full : ∃ C, mg "Full" = some (.ref C)
  g_NoBack : ∃ C, mg "NoBack" = some (.ref C)
  g_NoChoice : ∃ C, mg "NoChoice" = some (.ref C)
  g_NoDealing : ∃ C, mg "NoDealing" = some (.ref C)
  g_NoPlace : ∃ C, mg "NoPlace" = some (.ref C)
  g_NoRun : ∃ C, mg "NoRun" = some (.ref C)
  g_NothingToUndo : ∃ C, mg "NothingToUndo" = some (.ref C)
  g_Odd : ∃ C, mg "Odd" = some (.ref C)
  g_ShareError : ∃ C, mg "ShareError" = some (.ref C)
  x_BadRing : Xc0 K mg (clOf mg) "BadRing"
  x_Full : Xc0 K mg (clOf mg) "Full"
  x_NothingToUndo : Xc0 K mg (clOf mg) "NothingToUndo"
section
variable {P : Program} {w : World} {K : PySem.W.Frag} {mg : Str → Option Value} {base : Heap}
/-! ### 3. the defs -/
theorem sc_BadDealing : FnScope ["self", "word"] ["self", "word"] (defScope (inClass (top 2) 0)) := ⟨rfl, rfl, rfl, by decide +kernel, rfl, by decide +kernel, by decide +kernel⟩
theorem ok_BadDealing (T : Txt K mg)  {f : Addr} {fd : FuncData} (F : Fun K "__init__" "BadDealing.__init__" (inClass (top 2) 0) f fd) : FnG P w K mg base (clOf mg) 1 f fd ["self", "word"] (g_BadDealing (gloOf K mg exs fls)) :=
  fnG_of F sc_BadDealing fun cdv A outer s H E hr hgd => by
    have hu := hr.units
    have hN := sc_BadDealing.nd
    have tk : Takes (cxOf (L2.CX P w) P w K mg base ["self", "word"] "BadDealing.__init__" (defScope (inClass (top 2) 0)) f cdv A outer s H E) (fun c d _ h => E c d h) := takes_of rfl rfl rfl rfl
    have hp := passes_of (X := cxOf (L2.CX P w) P w K mg base ["self", "word"] "BadDealing.__init__" (defScope (inClass (top 2) 0)) f cdv A outer s H E) rfl
    exact rb_cons (ssetF T.O T.F (xv 1) (xv 0)) (rb_nil)
theorem sc_BadString : FnScope ["self", "number", "word"] ["self", "number", "word"] (defScope (inClass (top 4) 0)) := ⟨rfl, rfl, rfl, by decide +kernel, rfl, by decide +kernel, by decide +kernel⟩
theorem ok_BadString (T : Txt K mg)  {f : Addr} {fd : FuncData} (F : Fun K "__init__" "BadString.__init__" (inClass (top 4) 0) f fd) : FnG P w K mg base (clOf mg) 1 f fd ["self", "number", "word"] (g_BadString (gloOf K mg exs fls)) :=
  fnG_of F sc_BadString fun cdv A outer s H E hr hgd => by
    have hu := hr.units
    have hN := sc_BadString.nd
    have tk : Takes (cxOf (L2.CX P w) P w K mg base ["self", "number", "word"] "BadString.__init__" (defScope (inClass (top 4) 0)) f cdv A outer s H E) (fun c d _ h => E c d h) := takes_of rfl rfl rfl rfl
    have hp := passes_of (X := cxOf (L2.CX P w) P w K mg base ["self", "number", "word"] "BadString.__init__" (defScope (inClass (top 4) 0)) f cdv A outer s H E) rfl
    exact rb_cons (ssetF T.O T.F (xv 1) (xv 0)) (rb_cons (ssetF T.O T.F (xv 2) (xv 0)) (rb_nil))
theorem sc_BadTakers : FnScope ["self", "many"] ["self", "many"] (defScope (inClass (top 5) 0)) := ⟨rfl, rfl, rfl, by decide +kernel, rfl, by decide +kernel, by decide +kernel⟩
theorem ok_BadTakers (T : Txt K mg)  {f : Addr} {fd : FuncData} (F : Fun K "__init__" "BadTakers.__init__" (inClass (top 5) 0) f fd) : FnG P w K mg base (clOf mg) 1 f fd ["self", "many"] (g_BadTakers (gloOf K mg exs fls)) :=
  fnG_of F sc_BadTakers fun cdv A outer s H E hr hgd => by
    have hu := hr.units
    have hN := sc_BadTakers.nd
    have tk : Takes (cxOf (L2.CX P w) P w K mg base ["self", "many"] "BadTakers.__init__" (defScope (inClass (top 5) 0)) f cdv A outer s H E) (fun c d _ h => E c d h) := takes_of rfl rfl rfl rfl
    have hp := passes_of (X := cxOf (L2.CX P w) P w K mg base ["self", "many"] "BadTakers.__init__" (defScope (inClass (top 5) 0)) f cdv A outer s H E) rfl
    exact rb_cons (ssetF T.O T.F (xv 1) (xv 0)) (rb_nil)
theorem sc_BadText : FnScope ["self", "number"] ["self", "number"] (defScope (inClass (top 6) 0)) := ⟨rfl, rfl, rfl, by decide +kernel, rfl, by decide +kernel, by decide +kernel⟩
theorem ok_BadText (T : Txt K mg)  {f : Addr} {fd : FuncData} (F : Fun K "__init__" "BadText.__init__" (inClass (top 6) 0) f fd) : FnG P w K mg base (clOf mg) 1 f fd ["self", "number"] (g_BadText (gloOf K mg exs fls)) :=
  fnG_of F sc_BadText fun cdv A outer s H E hr hgd => by
    have hu := hr.units
    have hN := sc_BadText.nd
    have tk : Takes (cxOf (L2.CX P w) P w K mg base ["self", "number"] "BadText.__init__" (defScope (inClass (top 6) 0)) f cdv A outer s H E) (fun c d _ h => E c d h) := takes_of rfl rfl rfl rfl
    have hp := passes_of (X := cxOf (L2.CX P w) P w K mg base ["self", "number"] "BadText.__init__" (defScope (inClass (top 6) 0)) f cdv A outer s H E) rfl
    exact rb_cons (ssetF T.O T.F (xv 1) (xv 0)) (rb_nil)
theorem sc_BadWeights : FnScope ["self", "weights"] ["self", "weights"] (defScope (inClass (top 7) 0)) := ⟨rfl, rfl, rfl, by decide +kernel, rfl, by decide +kernel, by decide +kernel⟩
theorem ok_BadWeights (T : Txt K mg)  {f : Addr} {fd : FuncData} (F : Fun K "__init__" "BadWeights.__init__" (inClass (top 7) 0) f fd) : FnG P w K mg base (clOf mg) 1 f fd ["self", "weights"] (g_BadWeights (gloOf K mg exs fls)) :=
  fnG_of F sc_BadWeights fun cdv A outer s H E hr hgd => by
    have hu := hr.units
    have hN := sc_BadWeights.nd
    have tk : Takes (cxOf (L2.CX P w) P w K mg base ["self", "weights"] "BadWeights.__init__" (defScope (inClass (top 7) 0)) f cdv A outer s H E) (fun c d _ h => E c d h) := takes_of rfl rfl rfl rfl
    have hp := passes_of (X := cxOf (L2.CX P w) P w K mg base ["self", "weights"] "BadWeights.__init__" (defScope (inClass (top 7) 0)) f cdv A outer s H E) rfl
    exact rb_cons (ssetF T.O T.F (xv 1) (xv 0)) (rb_nil)
theorem sc_NoBack : FnScope ["self", "many"] ["self", "many"] (defScope (inClass (top 9) 0)) := ⟨rfl, rfl, rfl, by decide +kernel, rfl, by decide +kernel, by decide +kernel⟩
theorem ok_NoBack (T : Txt K mg)  {f : Addr} {fd : FuncData} (F : Fun K "__init__" "NoBack.__init__" (inClass (top 9) 0) f fd) : FnG P w K mg base (clOf mg) 1 f fd ["self", "many"] (g_NoBack (gloOf K mg exs fls)) :=
  fnG_of F sc_NoBack fun cdv A outer s H E hr hgd => by
    have hu := hr.units
    have hN := sc_NoBack.nd
    have tk : Takes (cxOf (L2.CX P w) P w K mg base ["self", "many"] "NoBack.__init__" (defScope (inClass (top 9) 0)) f cdv A outer s H E) (fun c d _ h => E c d h) := takes_of rfl rfl rfl rfl
    have hp := passes_of (X := cxOf (L2.CX P w) P w K mg base ["self", "many"] "NoBack.__init__" (defScope (inClass (top 9) 0)) f cdv A outer s H E) rfl
    exact rb_cons (ssetF T.O T.F (xv 1) (xv 0)) (rb_nil)
theorem sc_NoChoice : FnScope ["self", "choice"] ["self", "choice"] (defScope (inClass (top 10) 0)) := ⟨rfl, rfl, rfl, by decide +kernel, rfl, by decide +kernel, by decide +kernel⟩
theorem ok_NoChoice (T : Txt K mg)  {f : Addr} {fd : FuncData} (F : Fun K "__init__" "NoChoice.__init__" (inClass (top 10) 0) f fd) : FnG P w K mg base (clOf mg) 1 f fd ["self", "choice"] (g_NoChoice (gloOf K mg exs fls)) :=
  fnG_of F sc_NoChoice fun cdv A outer s H E hr hgd => by
    have hu := hr.units
    have hN := sc_NoChoice.nd
    have tk : Takes (cxOf (L2.CX P w) P w K mg base ["self", "choice"] "NoChoice.__init__" (defScope (inClass (top 10) 0)) f cdv A outer s H E) (fun c d _ h => E c d h) := takes_of rfl rfl rfl rfl
    have hp := passes_of (X := cxOf (L2.CX P w) P w K mg base ["self", "choice"] "NoChoice.__init__" (defScope (inClass (top 10) 0)) f cdv A outer s H E) rfl
    exact rb_cons (ssetF T.O T.F (xv 1) (xv 0)) (rb_nil)
theorem sc_NoDealing : FnScope ["self", "cuts"] ["self", "cuts"] (defScope (inClass (top 11) 0)) := ⟨rfl, rfl, rfl, by decide +kernel, rfl, by decide +kernel, by decide +kernel⟩
theorem ok_NoDealing (T : Txt K mg)  {f : Addr} {fd : FuncData} (F : Fun K "__init__" "NoDealing.__init__" (inClass (top 11) 0) f fd) : FnG P w K mg base (clOf mg) 1 f fd ["self", "cuts"] (g_NoDealing (gloOf K mg exs fls)) :=
  fnG_of F sc_NoDealing fun cdv A outer s H E hr hgd => by
    have hu := hr.units
    have hN := sc_NoDealing.nd
    have tk : Takes (cxOf (L2.CX P w) P w K mg base ["self", "cuts"] "NoDealing.__init__" (defScope (inClass (top 11) 0)) f cdv A outer s H E) (fun c d _ h => E c d h) := takes_of rfl rfl rfl rfl
    have hp := passes_of (X := cxOf (L2.CX P w) P w K mg base ["self", "cuts"] "NoDealing.__init__" (defScope (inClass (top 11) 0)) f cdv A outer s H E) rfl
    exact rb_cons (ssetF T.O T.F (xv 1) (xv 0)) (rb_nil)
theorem sc_Odd : FnScope ["self", "kind"] ["self", "kind"] (defScope (inClass (top 13) 0)) := ⟨rfl, rfl, rfl, by decide +kernel, rfl, by decide +kernel, by decide +kernel⟩
theorem ok_Odd (T : Txt K mg)  {f : Addr} {fd : FuncData} (F : Fun K "__init__" "Odd.__init__" (inClass (top 13) 0) f fd) : FnG P w K mg base (clOf mg) 1 f fd ["self", "kind"] (g_Odd (gloOf K mg exs fls)) :=
  fnG_of F sc_Odd fun cdv A outer s H E hr hgd => by
    have hu := hr.units
    have hN := sc_Odd.nd
    have tk : Takes (cxOf (L2.CX P w) P w K mg base ["self", "kind"] "Odd.__init__" (defScope (inClass (top 13) 0)) f cdv A outer s H E) (fun c d _ h => E c d h) := takes_of rfl rfl rfl rfl
    have hp := passes_of (X := cxOf (L2.CX P w) P w K mg base ["self", "kind"] "Odd.__init__" (defScope (inClass (top 13) 0)) f cdv A outer s H E) rfl
    exact rb_cons (ssetF T.O T.F (xv 1) (xv 0)) (rb_nil)
theorem sc_NoPlace : FnScope ["self", "value"] ["self", "value"] (defScope (inClass (top 14) 0)) := ⟨rfl, rfl, rfl, by decide +kernel, rfl, by decide +kernel, by decide +kernel⟩
theorem ok_NoPlace (T : Txt K mg)  {f : Addr} {fd : FuncData} (F : Fun K "__init__" "NoPlace.__init__" (inClass (top 14) 0) f fd) : FnG P w K mg base (clOf mg) 1 f fd ["self", "value"] (g_NoPlace (gloOf K mg exs fls)) :=
  fnG_of F sc_NoPlace fun cdv A outer s H E hr hgd => by
    have hu := hr.units
    have hN := sc_NoPlace.nd
    have tk : Takes (cxOf (L2.CX P w) P w K mg base ["self", "value"] "NoPlace.__init__" (defScope (inClass (top 14) 0)) f cdv A outer s H E) (fun c d _ h => E c d h) := takes_of rfl rfl rfl rfl
    have hp := passes_of (X := cxOf (L2.CX P w) P w K mg base ["self", "value"] "NoPlace.__init__" (defScope (inClass (top 14) 0)) f cdv A outer s H E) rfl
    exact rb_cons (ssetF T.O T.F (xv 1) (xv 0)) (rb_nil)
theorem sc_NoRun : FnScope ["self", "number"] ["self", "number"] (defScope (inClass (top 15) 0)) := ⟨rfl, rfl, rfl, by decide +kernel, rfl, by decide +kernel, by decide +kernel⟩
theorem ok_NoRun (T : Txt K mg)  {f : Addr} {fd : FuncData} (F : Fun K "__init__" "NoRun.__init__" (inClass (top 15) 0) f fd) : FnG P w K mg base (clOf mg) 1 f fd ["self", "number"] (g_NoRun (gloOf K mg exs fls)) :=
  fnG_of F sc_NoRun fun cdv A outer s H E hr hgd => by
    have hu := hr.units
    have hN := sc_NoRun.nd
    have tk : Takes (cxOf (L2.CX P w) P w K mg base ["self", "number"] "NoRun.__init__" (defScope (inClass (top 15) 0)) f cdv A outer s H E) (fun c d _ h => E c d h) := takes_of rfl rfl rfl rfl
    have hp := passes_of (X := cxOf (L2.CX P w) P w K mg base ["self", "number"] "NoRun.__init__" (defScope (inClass (top 15) 0)) f cdv A outer s H E) rfl
    exact rb_cons (ssetF T.O T.F (xv 1) (xv 0)) (rb_nil)
theorem sc__law_bag : FnScope ["_law_script", "_law_cell", "_law_great", "_law_small"] ["_law_script"] (defScope (top 26)) := ⟨rfl, rfl, rfl, by decide +kernel, rfl, by decide +kernel, by decide +kernel⟩
theorem ok__law_bag (T : Txt K mg)  {f : Addr} {fd : FuncData} (F : Fun K "_law_bag" "_law_bag" (top 26) f fd) : FnG P w K mg base (clOf mg) 1 f fd ["_law_script"] (g__law_bag (gloOf K mg exs fls)) :=
  fnG_of F sc__law_bag fun cdv A outer s H E hr hgd => by
    have hu := hr.units
    have hN := sc__law_bag.nd
    have tk : Takes (cxOf (L2.CX P w) P w K mg base ["_law_script", "_law_cell", "_law_great", "_law_small"] "_law_bag" (defScope (top 26)) f cdv A outer s H E) (fun c d _ h => E c d h) := takes_of rfl rfl rfl rfl
    have hp := passes_of (X := cxOf (L2.CX P w) P w K mg base ["_law_script", "_law_cell", "_law_great", "_law_small"] "_law_bag" (defScope (top 26)) f cdv A outer s H E) rfl
    exact rb_cons (rs_par (i := 2) (j := 3) rfl hN rfl rfl (by decide) rfl rfl (xcons (xi) (xcons (xbin .Add (xi) (xbin .Mult (xi) (xbi (fun _ => c_len) T.b_len v_len (xcons (xv 0) (ra_nil))))) (ra_nil))) rfl rfl) (rb_cons (rs_for hp rfl (pi_seq (rd_sl (xv 0) (ro_none) (ro_some (xi)))) (pg_of rfl hN rfl (fun _ => .inl rfl)) (rb_cons (rs_if (tcmp .GtE hu (xv 1) (xbin .Pow (xi) (xi))) (rb_cons (sset 2 hN (xbin .Sub (xbin .Add (xbin .Mult (xv 2) (xi)) (xv 1)) (xbin .Pow (xi) (xi)))) (rb_nil)) (rb_cons (sset 3 hN (xbin .Add (xbin .Add (xbin .Mult (xv 3) (xi)) (xbin .Mult (xi) (xbi (fun _ => c_abs) T.b_abs v_abs (xcons (xv 1) (ra_nil))))) (xty (fun _ => c_int) T.b_int v_int (xcons (xcmp .Lt hu (xv 1) (xi)) (ra_nil))))) (rb_cons (sset 3 hN (xbin .Mod (xty (fun _ => c_int) T.b_int v_int (xcons (xv 3) (ra_nil))) (xi))) (rb_nil)))) (rb_nil)) (fun _ => rfl)) (rb_cons (rs_ret (xlst (xcons (xv 2) (xcons (xv 3) (xcons (xi) (ra_nil)))))) (rb_nil)))
theorem sc__law_draw : FnScope ["_law_bag_here", "_law_many", "_law_mixed", "_law_digit"] ["_law_bag_here", "_law_many"] (defScope (top 27)) := ⟨rfl, rfl, rfl, by decide +kernel, rfl, by decide +kernel, by decide +kernel⟩
theorem ok__law_draw (T : Txt K mg)  {f : Addr} {fd : FuncData} (F : Fun K "_law_draw" "_law_draw" (top 27) f fd) : FnG P w K mg base (clOf mg) 1 f fd ["_law_bag_here", "_law_many"] (g__law_draw (gloOf K mg exs fls)) :=
  fnG_of F sc__law_draw fun cdv A outer s H E hr hgd => by
    have hu := hr.units
    have hN := sc__law_draw.nd
    have tk : Takes (cxOf (L2.CX P w) P w K mg base ["_law_bag_here", "_law_many", "_law_mixed", "_law_digit"] "_law_draw" (defScope (top 27)) f cdv A outer s H E) (fun c d _ h => E c d h) := takes_of rfl rfl rfl rfl
    have hp := passes_of (X := cxOf (L2.CX P w) P w K mg base ["_law_bag_here", "_law_many", "_law_mixed", "_law_digit"] "_law_draw" (defScope (top 27)) f cdv A outer s H E) rfl
    exact rb_cons (rs_if (tcmp .Gt hu (xix hu (xv 0) (xi)) (xi)) (rb_cons (sset 3 hN (xbin .Mod (xty (fun _ => c_int) T.b_int v_int (xcons (xix hu (xv 0) (xi)) (ra_nil))) (xv 1))) (rb_cons (ssetIx (xbin .FloorDiv (xix hu (xv 0) (xi)) (xv 1)) (xv 0) (xi)) (rb_cons (rs_ret (xv 3)) (rb_nil)))) (rb_nil)) (rb_cons (ssetIx (xbin .Add (xix hu (xv 0) (xi)) (xi)) (xv 0) (xi)) (rb_cons (sset 2 hN (xbin .Add (xbin .Mult (xix hu (xv 0) (xi)) (xi)) (xbin .Mult (xi) (xix hu (xv 0) (xi))))) (rb_cons (ssetIx (xbin .Mod (xty (fun _ => c_int) T.b_int v_int (xcons (xv 2) (ra_nil))) (xi)) (xv 0) (xi)) (rb_cons (rs_ret (xbin .Mod (xbin .FloorDiv (xbin .Mod (xty (fun _ => c_int) T.b_int v_int (xcons (xbin .Mult (xix hu (xv 0) (xi)) (xix hu (xv 0) (xi))) (ra_nil))) (xi)) (xi)) (xv 1))) (rb_nil)))))
theorem sc__law_pick : FnScope ["_law_bag_here", "_law_items"] ["_law_bag_here", "_law_items"] (defScope (top 28)) := ⟨rfl, rfl, rfl, by decide +kernel, rfl, by decide +kernel, by decide +kernel⟩
theorem ok__law_pick (T : Txt K mg) (B__law_draw : FnB P w K mg base (clOf mg) 1 "_law_draw" ["_law_bag_here", "_law_many"] (g__law_draw (gloOf K mg exs fls))) {f : Addr} {fd : FuncData} (F : Fun K "_law_pick" "_law_pick" (top 28) f fd) : FnG P w K mg base (clOf mg) 2 f fd ["_law_bag_here", "_law_items"] (g__law_pick (gloOf K mg exs fls)) :=
  fnG_of F sc__law_pick fun cdv A outer s H E hr hgd => by
    have hu := hr.units
    have hN := sc__law_pick.nd
    have tk : Takes (cxOf (L2.CX P w) P w K mg base ["_law_bag_here", "_law_items"] "_law_pick" (defScope (top 28)) f cdv A outer s H E) (fun c d _ h => E c d h) := takes_of rfl rfl rfl rfl
    have hp := passes_of (X := cxOf (L2.CX P w) P w K mg base ["_law_bag_here", "_law_items"] "_law_pick" (defScope (top 28)) f cdv A outer s H E) rfl
    exact rb_cons (rs_ret (xix hu (xv 1) (xcall B__law_draw (hr.mono (by decide)) hgd tk (xcons (xv 0) (xcons (xbi (fun _ => c_len) T.b_len v_len (xcons (xv 1) (ra_nil))) (ra_nil)))))) (rb_nil)
theorem sc__law_odd : FnScope ["_law_bag_here", "_law_some"] ["_law_bag_here"] (defScope (top 29)) := ⟨rfl, rfl, rfl, by decide +kernel, rfl, by decide +kernel, by decide +kernel⟩
theorem ok__law_odd (T : Txt K mg) (B__law_pick : FnB P w K mg base (clOf mg) 2 "_law_pick" ["_law_bag_here", "_law_items"] (g__law_pick (gloOf K mg exs fls))) {f : Addr} {fd : FuncData} (F : Fun K "_law_odd" "_law_odd" (top 29) f fd) : FnG P w K mg base (clOf mg) 3 f fd ["_law_bag_here"] (g__law_odd (gloOf K mg exs fls)) :=
  fnG_of F sc__law_odd fun cdv A outer s H E hr hgd => by
    have hu := hr.units
    have hN := sc__law_odd.nd
    have tk : Takes (cxOf (L2.CX P w) P w K mg base ["_law_bag_here", "_law_some"] "_law_odd" (defScope (top 29)) f cdv A outer s H E) (fun c d _ h => E c d h) := takes_of rfl rfl rfl rfl
    have hp := passes_of (X := cxOf (L2.CX P w) P w K mg base ["_law_bag_here", "_law_some"] "_law_odd" (defScope (top 29)) f cdv A outer s H E) rfl
    exact rb_cons (sset 1 hN (xlst (xcons (xn) (xcons (xb) (xcons (xb) (xcons (xi) (xcons (xi) (xcons (rd_neg (xi)) (xcons (xi) (xcons (xbin .Pow (xi) (xi)) (xcons (xs) (xcons (xs) (xcons (xs) (xcons (xtup (ra_nil)) (xcons (xlst (ra_nil)) (xcons (xtup (xcons (xi) (ra_nil))) (xcons (xtup (xcons (xi) (xcons (xi) (ra_nil)))) (xcons (xlst (xcons (xi) (ra_nil))) (xcons (xtup (xcons (xi) (xcons (xb) (ra_nil)))) (xcons (xd0) (ra_nil))))))))))))))))))))) (rb_cons (rs_ret (xcall B__law_pick (hr.mono (by decide)) hgd tk (xcons (xv 0) (xcons (xbin .Add (xv 1) (xlst (xcons (xtup (xcons (xn) (ra_nil))) (xcons (xtup (xcons (xs) (xcons (xi) (ra_nil)))) (xcons (xtup (xcons (xtup (xcons (xi) (xcons (xi) (ra_nil)))) (ra_nil))) (xcons (xtup (xcons (xi) (xcons (xi) (ra_nil)))) (xcons (xlst (xcons (xtup (xcons (xi) (xcons (xi) (ra_nil)))) (ra_nil))) (xcons (xd1 (xs) (xi)) (xcons (xtup (xcons (xi) (xcons (xi) (ra_nil)))) (xcons (xtup (xcons (xi) (xcons (xi) (xcons (xi) (ra_nil))))) (xcons (xtup (xcons (xi) (ra_nil))) (ra_nil)))))))))))) (ra_nil))))) (rb_nil))
theorem sc__law_sorts : FnScope ["_law_error", "_law_found"] ["_law_error"] (defScope (top 30)) := ⟨rfl, rfl, rfl, by decide +kernel, rfl, by decide +kernel, by decide +kernel⟩
theorem ok__law_sorts (T : Txt K mg)  {f : Addr} {fd : FuncData} (F : Fun K "_law_sorts" "_law_sorts" (top 30) f fd) : FnG P w K mg base (clOf mg) 1 f fd ["_law_error"] (g__law_sorts (gloOf K mg exs fls)) :=
  fnG_of F sc__law_sorts fun cdv A outer s H E hr hgd => by
    have hu := hr.units
    have hN := sc__law_sorts.nd
    have tk : Takes (cxOf (L2.CX P w) P w K mg base ["_law_error", "_law_found"] "_law_sorts" (defScope (top 30)) f cdv A outer s H E) (fun c d _ h => E c d h) := takes_of rfl rfl rfl rfl
    have hp := passes_of (X := cxOf (L2.CX P w) P w K mg base ["_law_error", "_law_found"] "_law_sorts" (defScope (top 30)) f cdv A outer s H E) rfl
    exact rb_cons (sset 1 hN (xlst (xcons (xisi T.O clOf_of T.g_BadDealing T.b_isinstance (xv 0)) (xcons (xisi T.O clOf_of T.g_BadRing T.b_isinstance (xv 0)) (xcons (xisi T.O clOf_of T.g_BadString T.b_isinstance (xv 0)) (ra_nil)))))) (rb_cons (sset 1 hN (xbin .Add (xv 1) (xlst (xcons (xisi T.O clOf_of T.g_BadTakers T.b_isinstance (xv 0)) (xcons (xisi T.O clOf_of T.g_BadText T.b_isinstance (xv 0)) (xcons (xisi T.O clOf_of T.g_BadWeights T.b_isinstance (xv 0)) (ra_nil))))))) (rb_cons (sset 1 hN (xbin .Add (xv 1) (xlst (xcons (xisi T.O clOf_of T.g_Full T.b_isinstance (xv 0)) (xcons (xisi T.O clOf_of T.g_NoBack T.b_isinstance (xv 0)) (xcons (xisi T.O clOf_of T.g_NoChoice T.b_isinstance (xv 0)) (ra_nil))))))) (rb_cons (sset 1 hN (xbin .Add (xv 1) (xlst (xcons (xisi T.O clOf_of T.g_NoDealing T.b_isinstance (xv 0)) (xcons (xisi T.O clOf_of T.g_NothingToUndo T.b_isinstance (xv 0)) (xcons (xisi T.O clOf_of T.g_Odd T.b_isinstance (xv 0)) (ra_nil))))))) (rb_cons (sset 1 hN (xbin .Add (xv 1) (xlst (xcons (xisi T.O clOf_of T.g_NoPlace T.b_isinstance (xv 0)) (xcons (xisi T.O clOf_of T.g_NoRun T.b_isinstance (xv 0)) (ra_nil)))))) (rb_cons (rs_ret (xbin .Add (xv 1) (xlst (xcons (xisi T.O clOf_of T.g_ShareError T.b_isinstance (xv 0)) (xcons (xisiT T.O T.b_ValueError v_ValueError T.b_isinstance (xv 0)) (xcons (xisiT T.O T.b_LookupError v_LookupError T.b_isinstance (xv 0)) (ra_nil))))))) (rb_nil))))))
theorem sc__law_made : FnScope ["_law_p", "_law_q", "_law_found"] ["_law_p", "_law_q"] (defScope (top 31)) := ⟨rfl, rfl, rfl, by decide +kernel, rfl, by decide +kernel, by decide +kernel⟩
theorem ok__law_made (T : Txt K mg) (B_BadDealing : XcB P w K mg base (clOf mg) 1 "BadDealing" ["self", "word"] (g_BadDealing (gloOf K mg exs fls))) (B_BadString : XcB P w K mg base (clOf mg) 1 "BadString" ["self", "number", "word"] (g_BadString (gloOf K mg exs fls))) (B_BadTakers : XcB P w K mg base (clOf mg) 1 "BadTakers" ["self", "many"] (g_BadTakers (gloOf K mg exs fls))) (B_BadText : XcB P w K mg base (clOf mg) 1 "BadText" ["self", "number"] (g_BadText (gloOf K mg exs fls))) (B_BadWeights : XcB P w K mg base (clOf mg) 1 "BadWeights" ["self", "weights"] (g_BadWeights (gloOf K mg exs fls))) (B_NoBack : XcB P w K mg base (clOf mg) 1 "NoBack" ["self", "many"] (g_NoBack (gloOf K mg exs fls))) (B_NoChoice : XcB P w K mg base (clOf mg) 1 "NoChoice" ["self", "choice"] (g_NoChoice (gloOf K mg exs fls))) (B_NoDealing : XcB P w K mg base (clOf mg) 1 "NoDealing" ["self", "cuts"] (g_NoDealing (gloOf K mg exs fls))) (B_NoPlace : XcB P w K mg base (clOf mg) 1 "NoPlace" ["self", "value"] (g_NoPlace (gloOf K mg exs fls))) (B_NoRun : XcB P w K mg base (clOf mg) 1 "NoRun" ["self", "number"] (g_NoRun (gloOf K mg exs fls))) (B_Odd : XcB P w K mg base (clOf mg) 1 "Odd" ["self", "kind"] (g_Odd (gloOf K mg exs fls))) {f : Addr} {fd : FuncData} (F : Fun K "_law_made" "_law_made" (top 31) f fd) : FnG P w K mg base (clOf mg) 3 f fd ["_law_p", "_law_q"] (g__law_made (gloOf K mg exs fls)) :=
  fnG_of F sc__law_made fun cdv A outer s H E hr hgd => by
    have hu := hr.units
    have hN := sc__law_made.nd
    have tk : Takes (cxOf (L2.CX P w) P w K mg base ["_law_p", "_law_q", "_law_found"] "_law_made" (defScope (top 31)) f cdv A outer s H E) (fun c d _ h => E c d h) := takes_of rfl rfl rfl rfl
    have hp := passes_of (X := cxOf (L2.CX P w) P w K mg base ["_law_p", "_law_q", "_law_found"] "_law_made" (defScope (top 31)) f cdv A outer s H E) rfl
    exact rb_cons (sset 2 hN (xlst (xcons (xmkX B_BadDealing (hr.mono (by decide)) hgd tk (xcons (xv 0) (ra_nil))) (xcons (xmk0 T.x_BadRing) (xcons (xmkX B_BadString (hr.mono (by decide)) hgd tk (xcons (xv 0) (xcons (xv 1) (ra_nil)))) (xcons (xmkX B_BadTakers (hr.mono (by decide)) hgd tk (xcons (xv 0) (ra_nil))) (xcons (xmkX B_BadText (hr.mono (by decide)) hgd tk (xcons (xv 0) (ra_nil))) (xcons (xmkX B_BadWeights (hr.mono (by decide)) hgd tk (xcons (xv 0) (ra_nil))) (xcons (xmk0 T.x_Full) (xcons (xmkX B_NoBack (hr.mono (by decide)) hgd tk (xcons (xv 0) (ra_nil))) (ra_nil))))))))))) (rb_cons (rs_ret (xbin .Add (xv 2) (xlst (xcons (xmkX B_NoChoice (hr.mono (by decide)) hgd tk (xcons (xv 0) (ra_nil))) (xcons (xmkX B_NoDealing (hr.mono (by decide)) hgd tk (xcons (xv 0) (ra_nil))) (xcons (xmk0 T.x_NothingToUndo) (xcons (xmkX B_Odd (hr.mono (by decide)) hgd tk (xcons (xv 0) (ra_nil))) (xcons (xmkX B_NoPlace (hr.mono (by decide)) hgd tk (xcons (xv 0) (ra_nil))) (xcons (xmkX B_NoRun (hr.mono (by decide)) hgd tk (xcons (xv 0) (ra_nil))) (ra_nil)))))))))) (rb_nil))
theorem sc_law : FnScope ["_law_script", "_law_bag_here", "_law_limits", "_law_turn", "_law_errors", "_law_kept", "_law_p", "_law_q", "_law_spot", "_law_error", "_law_is_share", "_law_at"] ["_law_script"] (defScope (top 32)) := ⟨rfl, rfl, rfl, by decide +kernel, rfl, by decide +kernel, by decide +kernel⟩
theorem ok_law (T : Txt K mg) (B__law_bag : FnB P w K mg base (clOf mg) 1 "_law_bag" ["_law_script"] (g__law_bag (gloOf K mg exs fls))) (B__law_made : FnB P w K mg base (clOf mg) 3 "_law_made" ["_law_p", "_law_q"] (g__law_made (gloOf K mg exs fls))) (B__law_odd : FnB P w K mg base (clOf mg) 3 "_law_odd" ["_law_bag_here"] (g__law_odd (gloOf K mg exs fls))) (B__law_pick : FnB P w K mg base (clOf mg) 2 "_law_pick" ["_law_bag_here", "_law_items"] (g__law_pick (gloOf K mg exs fls))) (B__law_sorts : FnB P w K mg base (clOf mg) 1 "_law_sorts" ["_law_error"] (g__law_sorts (gloOf K mg exs fls))) {f : Addr} {fd : FuncData} (F : Fun K "law" "law" (top 32) f fd) : FnG P w K mg base (clOf mg) 4 f fd ["_law_script"] (g_law (gloOf K mg exs fls)) :=
  fnG_of F sc_law fun cdv A outer s H E hr hgd => by
    have hu := hr.units
    have hN := sc_law.nd
    have tk : Takes (cxOf (L2.CX P w) P w K mg base ["_law_script", "_law_bag_here", "_law_limits", "_law_turn", "_law_errors", "_law_kept", "_law_p", "_law_q", "_law_spot", "_law_error", "_law_is_share", "_law_at"] "law" (defScope (top 32)) f cdv A outer s H E) (fun c d _ h => E c d h) := takes_of rfl rfl rfl rfl
    have hp := passes_of (X := cxOf (L2.CX P w) P w K mg base ["_law_script", "_law_bag_here", "_law_limits", "_law_turn", "_law_errors", "_law_kept", "_law_p", "_law_q", "_law_spot", "_law_error", "_law_is_share", "_law_at"] "law" (defScope (top 32)) f cdv A outer s H E) rfl
    exact rb_cons (sset 1 hN (xcall B__law_bag (hr.mono (by decide)) hgd tk (xcons (xv 0) (ra_nil)))) (rb_cons (sset 2 hN (xlst (xcons (xgI 12 T.c_MAX_BOTTOM) (xcons (xgI 4 T.c_MAX_CUTS) (xcons (xgI 20 T.c_MAX_EDITS) (xcons (xgI 100 T.c_MAX_FACTOR) (xcons (xgI 4 T.c_MAX_KINDS) (xcons (xgI 1000000000000000000000000000000 T.c_MAX_LENGTH) (xcons (xgI 6 T.c_MAX_RUNS) (xcons (xgI 12 T.c_MAX_STEP) (xcons (xgI 1000 T.c_MAX_WEIGHT) (ra_nil)))))))))))) (rb_cons (rs_if (tcmp .NotEq hu (xbi (fun _ => c_repr hgd hu) T.b_repr v_repr (xcons (xv 2) (ra_nil))) (xbi (fun _ => c_repr hgd hu) T.b_repr v_repr (xcons (xlst (xcons (xi) (xcons (xi) (xcons (xi) (xcons (xi) (xcons (xi) (xcons (xbin .Pow (xi) (xi)) (xcons (xi) (xcons (xi) (xcons (xi) (ra_nil))))))))))) (ra_nil)))) (rb_cons (rs_ret (xb)) (rb_nil)) (rb_nil)) (rb_cons (rs_for hp rfl (pi_rng1 (by rfl) T.b_range rfl (xcons (xi) (ra_nil))) (pg_of rfl hN rfl (fun _ => .inl rfl)) (rb_cons (rs_par (i := 6) (j := 7) rfl hN rfl rfl (by decide) rfl rfl (xcons (xcall B__law_odd (hr.mono (by decide)) hgd tk (xcons (xv 1) (ra_nil))) (xcons (xcall B__law_pick (hr.mono (by decide)) hgd tk (xcons (xv 1) (xcons (xlst (xcons (xcall B__law_odd (hr.mono (by decide)) hgd tk (xcons (xv 1) (ra_nil))) (xcons (xs) (xcons (xbin .Pow (xi) (xi)) (xcons (xtup (xcons (xtup (xcons (xi) (xcons (xi) (ra_nil)))) (xcons (xn) (ra_nil)))) (ra_nil)))))) (ra_nil)))) (ra_nil))) rfl rfl) (rb_cons (sset 4 hN (xcall B__law_made (hr.mono (by decide)) hgd tk (xcons (xv 6) (xcons (xv 7) (ra_nil))))) (rb_cons (sset 5 hN (xlst (xcons (xattr T.O T.F (xix hu (xv 4) (xi))) (xcons (xattr T.O T.F (xix hu (xv 4) (xi))) (xcons (xattr T.O T.F (xix hu (xv 4) (xi))) (xcons (xattr T.O T.F (xix hu (xv 4) (xi))) (xcons (xattr T.O T.F (xix hu (xv 4) (xi))) (xcons (xattr T.O T.F (xix hu (xv 4) (xi))) (ra_nil))))))))) (rb_cons (sset 5 hN (xbin .Add (xv 5) (xlst (xcons (xattr T.O T.F (xix hu (xv 4) (xi))) (xcons (xattr T.O T.F (xix hu (xv 4) (xi))) (xcons (xattr T.O T.F (xix hu (xv 4) (xi))) (xcons (xattr T.O T.F (xix hu (xv 4) (xi))) (xcons (xattr T.O T.F (xix hu (xv 4) (xi))) (ra_nil))))))))) (rb_cons (rs_if (tcmp .NotEq hu (xbi (fun _ => c_repr hgd hu) T.b_repr v_repr (xcons (xbin .Add (xv 5) (xlst (xcons (xattr T.O T.F (xix hu (xv 4) (xi))) (ra_nil)))) (ra_nil))) (xbi (fun _ => c_repr hgd hu) T.b_repr v_repr (xcons (xbin .Add (xlst (xcons (xv 6) (xcons (xv 6) (xcons (xv 7) (ra_nil))))) (xbin .Mult (xlst (xcons (xv 6) (ra_nil))) (xi))) (ra_nil)))) (rb_cons (rs_ret (xb)) (rb_nil)) (rb_nil)) (rb_cons (rs_for hp rfl (pi_en (by rfl) T.b_enumerate rfl (xcons (xv 4) (ra_nil))) (pg_of rfl hN rfl (fun _ => .inl rfl)) (rb_cons (sset 10 hN (xcmp .Lt hu (xv 8) (xi))) (rb_cons (rs_if (tcmp .NotEq hu (xcall B__law_sorts (hr.mono (by decide)) hgd tk (xcons (xv 9) (ra_nil))) (xbin .Add (rd_lc rfl hN (pi_rng1 (by rfl) T.b_range rfl (xcons (xi) (ra_nil))) (blkOk_by (own := [("_law_at", 11)]) rfl) (fun _ _ _ _ _ => pg_nm hN rfl (.inr rfl)) (fun _ _ _ _ _ => rts_nil) (fun _ _ _ _ _ => xcmp .Eq hu (xv 11) (xv 8)) (fun _ => rfl) rfl) (xlst (xcons (xv 10) (xcons (xv 10) (xcons (rd_not (xv 10)) (ra_nil))))))) (rb_cons (rs_ret (xb)) (rb_nil)) (rb_nil)) (rb_nil))) (fun _ => rfl)) (rb_nil))))))) (fun _ => rfl)) (rb_cons (rs_ret (xb)) (rb_nil)))))
end
end K39

namespace K39
open PySem PySem.Spec PyProof.Rows L2 RI
/-- all but the bag at b stands -/
def Keep (b : Nat) (M M' : Store) : Prop := ∀ n o, n ≠ b → M[n]? = some o → M'[n]? = some o
theorem Keep.refl {b : Nat} {M : Store} : Keep b M M := fun _ _ _ h => h
theorem Keep.trans {b : Nat} {M M1 M2 : Store} (h : Keep b M M1) (k : Keep b M1 M2) : Keep b M M2 := fun n o hn e => k n o hn (h n o hn e)
theorem Keep.app {b : Nat} {M : Store} (X : Store) : Keep b M (M ++ X) := fun n o _ e => by
  rw [List.getElem?_append_left (List.getElem?_eq_some_iff.mp e).1]
  exact e
theorem Keep.set {b : Nat} {M : Store} (o : SO) : Keep b M (M.set b o) := fun n o _ e => by
  rw [List.getElem?_set_ne (Ne.symm (by assumption))]
  exact e
def Bag (M : Store) (b : Nat) : Prop := ∃ g s c : Int, M[b]? = some (.lst [.int g, .int s, .int c])
theorem Bag.app {M : Store} {b : Nat} (h : Bag M b) (X : Store) : Bag (M ++ X) b := by
  obtain ⟨g, s, c, h⟩ := h
  exact ⟨g, s, c, by rw [List.getElem?_append_left (List.getElem?_eq_some_iff.mp h).1]; exact h⟩
theorem bag_set {M : Store} {b : Nat} (h : b < M.length) (g s c : Int) : Bag (M.set b (.lst [.int g, .int s, .int c])) b := ⟨g, s, c, List.getElem?_set_self h⟩
theorem Bag.lt {M : Store} {b : Nat} (h : Bag M b) : b < M.length := by
  obtain ⟨g, s, c, h⟩ := h
  exact (List.getElem?_eq_some_iff.mp h).1
theorem ix3_0 {M : Store} {b : Nat} {x y z : D} (h : M[b]? = some (.lst [x, y, z])) : ixD (.ob b) (.int 0) M = .ok x M := by
  simp [ixD, seqD, readAt, h, atI, ixN]
theorem ix3_1 {M : Store} {b : Nat} {x y z : D} (h : M[b]? = some (.lst [x, y, z])) : ixD (.ob b) (.int 1) M = .ok y M := by
  simp [ixD, seqD, readAt, h, atI, ixN]
theorem ix3_2 {M : Store} {b : Nat} {x y z : D} (h : M[b]? = some (.lst [x, y, z])) : ixD (.ob b) (.int 2) M = .ok z M := by
  simp [ixD, seqD, readAt, h, atI, ixN]
theorem st3_0 {M : Store} {b : Nat} {x y z d : D} (h : M[b]? = some (.lst [x, y, z])) : setD (.ob b) (.int 0) d M = some (M.set b (.lst [d, y, z])) := by
  simp [setD, h, ixN]
theorem st3_1 {M : Store} {b : Nat} {x y z d : D} (h : M[b]? = some (.lst [x, y, z])) : setD (.ob b) (.int 1) d M = some (M.set b (.lst [x, d, z])) := by
  simp [setD, h, ixN]
theorem st3_2 {M : Store} {b : Nat} {x y z d : D} (h : M[b]? = some (.lst [x, y, z])) : setD (.ob b) (.int 2) d M = some (M.set b (.lst [x, y, d])) := by
  simp [setD, h, ixN]
theorem mul_sm {M : Store} {i j : Int} (h : 0 ≤ i) (h2 : i < 2305843009213693951) : opD .Mult (.int i) (.int j) M = .ok (.int (i * j)) M := op_mulI (by
  unfold mulOk
  rw [Bool.or_eq_true]
  left
  apply decide_eq_true
  omega)
theorem mul_cr {M : Store} {i j : Int} (h : -100 ≤ j) (h2 : j < 9223372036854775807) : opD .Mult (.int i) (.int j) M = .ok (.int (i * j)) M := op_mulI (by
  unfold mulOk
  rw [Bool.or_eq_true]
  right
  apply decide_eq_true
  omega)
theorem mul_cl {M : Store} {i j : Int} (h : -100 ≤ i) (h2 : i < 9223372036854775807) : opD .Mult (.int i) (.int j) M = .ok (.int (i * j)) M := op_mulI (by
  unfold mulOk
  rw [Bool.or_eq_true]
  left
  apply decide_eq_true
  omega)
theorem draw_ok (G : Glo) {M : Store} {b : Nat} {n : Int} (hb : Bag M b) (h0 : 0 < n) (h1 : n < 1000) :
    ∃ (r : Int) (o : SO), 0 ≤ r ∧ r < n ∧ Bag (M.set b o) b ∧ g__law_draw G [.ob b, .int n] M = .ok (.int r) (M.set b o) := by
  have hl := hb.lt
  obtain ⟨g, s, c, hb⟩ := hb
  have at1 : ∀ x y z : D, (M.set b (.lst [x, y, z]))[b]? = some (.lst [x, y, z]) := fun x y z => List.getElem?_set_self hl
  by_cases hg : 0 < g
  · refine ⟨g % n, .lst [.int (g / n), .int s, .int c], Int.emod_nonneg _ (by omega), Int.emod_lt_of_pos _ h0, bag_set hl _ _ _, ?_⟩
    simp [g__law_draw, d__law_draw, startE, ix3_0 hb, st3_0 hb, cmpD, blO, hg, RI.intD, op_modI h0, op_divI h0 (by omega : n < 1000000)]
  · have m0 := Int.emod_nonneg (s * 2862933555777941757 + 3037000493 * (c + 1)) (show (2305843009213693951 : Int) ≠ 0 by decide)
    have m1 := Int.emod_lt_of_pos (s * 2862933555777941757 + 3037000493 * (c + 1)) (show (0 : Int) < 2305843009213693951 by decide)
    refine ⟨((s * 2862933555777941757 + 3037000493 * (c + 1)) % 2305843009213693951 * ((s * 2862933555777941757 + 3037000493 * (c + 1)) % 2305843009213693951)) % 2305843009213693921 / 4096 % n, .lst [.int g, .int ((s * 2862933555777941757 + 3037000493 * (c + 1)) % 2305843009213693951), .int (c + 1)], Int.emod_nonneg _ (by omega), Int.emod_lt_of_pos _ h0, bag_set hl _ _ _, ?_⟩
    simp [g__law_draw, d__law_draw, startE, ix3_0 hb, ix3_2 hb, st3_2 hb, cmpD, blO, hg, RI.intD, ix3_0 (at1 _ _ _), ix3_1 (at1 _ _ _), ix3_2 (at1 _ _ _), st3_1 (at1 _ _ _), mul_cr, mul_cl, op_modI, op_divI, mul_sm m0 m1, h0]
end K39

namespace K39
open PySem PySem.Spec PyProof.Rows L2 RI
theorem atI_get {α : Type} {xs : List α} {r : Int} (h0 : 0 ≤ r) (h1 : r < xs.length) : ∃ x ∈ xs, atI xs r = some x := by
  have hl : r.toNat < xs.length := by omega
  refine ⟨xs[r.toNat], List.getElem_mem hl, ?_⟩
  unfold atI ixN
  rw [if_pos h0, if_pos h1]
  exact List.getElem?_eq_getElem hl
theorem pick_ok (G : Glo) {M : Store} {b k : Nat} {items : List D} (hb : Bag M b) (hk : M[k]? = some (.lst items)) (hne : k ≠ b) (h0 : 0 < items.length) (h1 : items.length < 1000) :
    ∃ (d : D) (o : SO), d ∈ items ∧ Bag (M.set b o) b ∧ g__law_pick G [.ob b, .ob k] M = .ok d (M.set b o) := by
  obtain ⟨r, o, r0, r1, hB, hd⟩ := draw_ok G (n := (items.length : Int)) hb (by omega) (by omega)
  obtain ⟨d, hd1, hd2⟩ := atI_get r0 r1
  refine ⟨d, o, hd1, hB, ?_⟩
  have hk2 : (M.set b o)[k]? = some (.lst items) := by rw [List.getElem?_set_ne (Ne.symm hne)]; exact hk
  have e1 : lenD [.ob k] M = .ok (.int items.length) M := by simp [lenD, seqD, readAt, hk]
  have e2 : ixD (.ob k) (.int r) (M.set b o) = .ok d (M.set b o) := by simp [ixD, seqD, readAt, hk2, hd2]
  simp [g__law_pick, d__law_pick, startE, e1, arity, hd, e2]
def Fine (b : Nat) (M : Store) (d : D) : Prop := ∃ py : PyData, (∀ M', Keep b M M' → toPyR 11 M' d = some py) ∧ py.showable = true ∧ py.shown.length ≤ 100 ∧ py.depth ≤ 6
theorem Fine.mono {b : Nat} {M M1 : Store} {d : D} (h : Fine b M d) (k : Keep b M M1) : Fine b M1 d := by
  obtain ⟨py, h1, h2⟩ := h
  exact ⟨py, fun M' k' => h1 M' (k.trans k'), h2⟩
def oddX (n : Nat) : Store := [.lst [], .lst [.int 0], .dct [],
  .lst [.non, .bl true, .bl false, .int 0, .int 1, .int (-1), .int 7, .int (10 ^ 31), .str "", .str "0", .str "2a", .tup [], .ob n, .tup [.int 0], .tup [.int 1, .int 2], .ob (n + 1), .tup [.int 0, .bl true], .ob (n + 2)],
  .lst [.tup [.int 0, .int 1]], .dct [(.inr "0", .int 1)],
  .lst [.tup [.non], .tup [.str "a", .int 1], .tup [.tup [.int 0, .int 1]], .tup [.int 0, .int 0], .ob (n + 4), .ob (n + 5), .tup [.int 4, .int 1], .tup [.int 2, .int 3, .int 1], .tup [.int 3]],
  .lst [.non, .bl true, .bl false, .int 0, .int 1, .int (-1), .int 7, .int (10 ^ 31), .str "", .str "0", .str "2a", .tup [], .ob n, .tup [.int 0], .tup [.int 1, .int 2], .ob (n + 1), .tup [.int 0, .bl true], .ob (n + 2),
    .tup [.non], .tup [.str "a", .int 1], .tup [.tup [.int 0, .int 1]], .tup [.int 0, .int 0], .ob (n + 4), .ob (n + 5), .tup [.int 4, .int 1], .tup [.int 2, .int 3, .int 1], .tup [.int 3]]]
theorem at_0 {M X : Store} : (M ++ X)[M.length]? = X[0]? := by
  rw [List.getElem?_append_right (Nat.le_refl _), Nat.sub_self]
theorem at_k {M X : Store} {k : Nat} : (M ++ X)[M.length + k]? = X[k]? := by
  rw [List.getElem?_append_right (Nat.le_add_right _ _), Nat.add_sub_cancel_left]
theorem set_k {M X : Store} {k : Nat} {o : SO} : List.set (M ++ X) (M.length + k) o = M ++ X.set k o := by
  rw [List.set_append_right _ _ (Nat.le_add_right _ _), Nat.add_sub_cancel_left]
theorem odd_eq (G : Glo) {M : Store} {b : Nat} : g__law_odd G [.ob b] M = g__law_pick G [.ob b, .ob (M.length + 7)] (M ++ oddX M.length) := by
  simp [g__law_odd, d__law_odd, startE, arity, newL_small, denNeg, denD1, keyOf, op_powI, List.append_assoc, opD, RI.listAt, at_k, at_0, set_k, Nat.add_assoc, oddX]
theorem plain_fine {b : Nat} {M : Store} {d : D} {py : PyData} (h : ∀ M', toPyR 11 M' d = some py) (h2 : (py.showable && decide (py.shown.length ≤ 100) && decide (py.depth ≤ 6)) = true) : Fine b M d := by
  simp only [Bool.and_eq_true, decide_eq_true_eq] at h2
  exact ⟨py, fun M' _ => h M', h2.1.1, h2.1.2, h2.2⟩
theorem obj_fine {b n : Nat} {M : Store} {o : SO} {py : PyData} (hn : M[n]? = some o) (hb : n ≠ b) (h : ∀ M' : Store, M'[n]? = some o → toPyR 11 M' (.ob n) = some py) (h2 : (py.showable && decide (py.shown.length ≤ 100) && decide (py.depth ≤ 6)) = true) : Fine b M (.ob n) := by
  simp only [Bool.and_eq_true, decide_eq_true_eq] at h2
  exact ⟨py, fun M' k => h M' (k n o hb hn), h2.1.1, h2.1.2, h2.2⟩
theorem odd_ok (G : Glo) {M : Store} {b : Nat} (hb : Bag M b) : ∃ (p : D) (M' : Store), Keep b M M' ∧ M.length ≤ M'.length ∧ Bag M' b ∧ Fine b M' p ∧ g__law_odd G [.ob b] M = .ok p M' := by
  have hl := hb.lt
  have hk : (M ++ oddX M.length)[M.length + 7]? = some (.lst [.non, .bl true, .bl false, .int 0, .int 1, .int (-1), .int 7, .int (10 ^ 31), .str "", .str "0", .str "2a", .tup [], .ob M.length, .tup [.int 0], .tup [.int 1, .int 2], .ob (M.length + 1), .tup [.int 0, .bl true], .ob (M.length + 2),
    .tup [.non], .tup [.str "a", .int 1], .tup [.tup [.int 0, .int 1]], .tup [.int 0, .int 0], .ob (M.length + 4), .ob (M.length + 5), .tup [.int 4, .int 1], .tup [.int 2, .int 3, .int 1], .tup [.int 3]]) := by
    rw [at_k]
    rfl
  obtain ⟨p, o, hp, hB, hd⟩ := pick_ok G (hb.app (oddX M.length)) hk (by omega) (by simp) (by simp)
  refine ⟨p, (M ++ oddX M.length).set b o, (Keep.app _).trans (Keep.set _), by simp, hB, ?_, by rw [odd_eq]; exact hd⟩
  refine Fine.mono (M := M ++ oddX M.length) ?_ (Keep.set o)
  have s0 : (M ++ oddX M.length)[M.length]? = some (.lst []) := by rw [at_0]; rfl
  have s1 : (M ++ oddX M.length)[M.length + 1]? = some (.lst [.int 0]) := by rw [at_k]; rfl
  have s2 : (M ++ oddX M.length)[M.length + 2]? = some (.dct []) := by rw [at_k]; rfl
  have s4 : (M ++ oddX M.length)[M.length + 4]? = some (.lst [.tup [.int 0, .int 1]]) := by rw [at_k]; rfl
  have s5 : (M ++ oddX M.length)[M.length + 5]? = some (.dct [(.inr "0", .int 1)]) := by rw [at_k]; rfl
  simp only [List.mem_cons, List.not_mem_nil, or_false] at hp
  rcases hp with rfl | rfl | rfl | rfl | rfl | rfl | rfl | rfl | rfl | rfl | rfl | rfl | rfl | rfl | rfl | rfl | rfl | rfl | rfl | rfl | rfl | rfl | rfl | rfl | rfl | rfl | rfl
  all_goals first
    | exact plain_fine (fun _ => rfl) (by decide +kernel)
    | exact obj_fine s0 (by omega) (py := .list []) (fun M' e => by simp [toPyR, e, optAll]) (by decide +kernel)
    | exact obj_fine s1 (by omega) (py := .list [.int 0]) (fun M' e => by simp [toPyR, e, optAll]) (by decide +kernel)
    | exact obj_fine s2 (by omega) (py := .dict []) (fun M' e => by simp [toPyR, e, kvAll]) (by decide +kernel)
    | exact obj_fine s4 (by omega) (py := .list [.tuple [.int 0, .int 1]]) (fun M' e => by simp [toPyR, e, optAll]) (by decide +kernel)
    | exact obj_fine s5 (by omega) (py := .dict [(.str "0", .int 1)]) (fun M' e => by simp [toPyR, e, kvAll, keyPy]) (by decide +kernel)
end K39

namespace K39
open PySem PySem.Spec PyProof.Rows L2 RI
/-! ### the bag -/
theorem forD_none {body : D → Env1 → Store → SOut} (Iv : Env1 → Store → Prop) : ∀ (ds : List D) (ρ : Env1) (M : Store), (∀ d ∈ ds, ∀ ρ M, Iv ρ M → ∃ ρ' M', body d ρ M = .fl .nx ρ' M' ∧ Iv ρ' M') → Iv ρ M → ∃ ρ' M', forD none body ds ρ M = .fl .nx ρ' M' ∧ Iv ρ' M'
  | [], ρ, M, _, h => ⟨ρ, M, by simp [forD, chkM], h⟩
  | d :: r, ρ, M, hb, h => by
    obtain ⟨ρ1, M1, e1, h1⟩ := hb d List.mem_cons_self ρ M h
    obtain ⟨ρ2, M2, e2, h2⟩ := forD_none Iv r ρ1 M1 (fun d hd => hb d (List.mem_cons_of_mem _ hd)) h1
    exact ⟨ρ2, M2, by simp [forD, chkM, e1, e2], h2⟩
theorem forD_chk {body : D → Env1 → Store → SOut} {k : Nat} {l : List D} (Iv : Env1 → Store → Prop) (hc : ∀ ρ M, Iv ρ M → readAt M k = some l) : ∀ (ds : List D) (ρ : Env1) (M : Store), (∀ d ∈ ds, ∀ ρ M, Iv ρ M → ∃ ρ' M', body d ρ M = .fl .nx ρ' M' ∧ Iv ρ' M') → Iv ρ M → ∃ ρ' M', forD (some (k, l)) body ds ρ M = .fl .nx ρ' M' ∧ Iv ρ' M'
  | [], ρ, M, _, h => ⟨ρ, M, by simp [forD, chkM, hc _ _ h], h⟩
  | d :: r, ρ, M, hb, h => by
    obtain ⟨ρ1, M1, e1, h1⟩ := hb d List.mem_cons_self ρ M h
    obtain ⟨ρ2, M2, e2, h2⟩ := forD_chk Iv hc r ρ1 M1 (fun d hd => hb d (List.mem_cons_of_mem _ hd)) h1
    exact ⟨ρ2, M2, by simp [forD, chkM, hc _ _ h, e1, e2], h2⟩
theorem bag_ok (G : Glo) (ns : List Int) (hn : ns.length ≤ 63) : ∃ M b, g__law_bag G [.ob 0] [.frl (ns.map D.int)] = .ok (.ob b) M ∧ Bag M b := by
  have e1 : lenD [.ob 0] [.frl (ns.map D.int)] = .ok (.int ns.length) [.frl (ns.map D.int)] := by simp [lenD, seqD, readAt]
  obtain ⟨l, hl, hcut⟩ : ∃ l : List Int, l.length ≤ 1000 ∧ RI.cutD (ns.map D.int) none (some 63) = l.map D.int := by
    refine ⟨(ns.drop (HT.sIx (ns.map D.int).length 0 none)).take (HT.sIx (ns.map D.int).length (ns.map D.int).length (some 63) - HT.sIx (ns.map D.int).length 0 none), ?_, ?_⟩
    · rw [List.length_take, List.length_drop]
      omega
    · unfold RI.cutD
      rw [List.map_take, List.map_drop]
  have e2 : slD (.ob 0) none (some 63) [.frl (ns.map D.int)] = .ok (.ob 1) [.frl (ns.map D.int), .lst (l.map D.int)] := by
    unfold slD
    simp only [readAt, List.getElem?_cons_zero, hcut]
    rw [newL_small (by rw [List.length_map]; exact hl)]
    rfl
  have loop := forD_chk (k := 1) (l := l.map D.int) (body := onT (.name 1) (d__law_bag_1 G))
    (fun ρ M => ∃ (c : Option D) (g s : Int), ρ = [some (.ob 0), c, some (.int g), some (.int s)] ∧ M = [.frl (ns.map D.int), .lst (l.map D.int)]) (fun ρ M ⟨c, g, s, _, hM⟩ => by rw [hM]; rfl) (l.map D.int) [some (.ob 0), none, some (.int 0), some (.int (2932 + 41 * ns.length))] [.frl (ns.map D.int), .lst (l.map D.int)] ?_ ⟨_, _, _, rfl, rfl⟩
  · obtain ⟨ρ', M', e3, c, g, s, rfl, rfl⟩ := loop
    have hm : opD .Mult (.int 41) (.int ns.length) [.frl (ns.map D.int)] = .ok (.int (41 * ns.length)) [.frl (ns.map D.int)] := mul_cl (by omega) (by omega)
    refine ⟨[.frl (ns.map D.int), .lst (l.map D.int), .lst [.int g, .int s, .int 0]], 2, ?_, g, s, 0, rfl⟩
    simp [g__law_bag, d__law_bag, startE, e1, hm, e2, denPart, itOf, readAt, e3, newL_small]
  · intro d hd ρ M hI
    obtain ⟨c, g, s, rfl, rfl⟩ := hI
    obtain ⟨x, _, rfl⟩ := List.mem_map.mp hd
    by_cases hx : (1000000000000000000 : Int) ≤ x
    · refine ⟨[some (.ob 0), some (.int x), some (.int (g * 59 + x - 1000000000000000000)), some (.int s)], _, ?_, ⟨_, _, _, rfl, rfl⟩⟩
      simp [onT, d__law_bag_1, op_powI, cmpD, blO, hx, mul_cr, mul_cl]
    · refine ⟨[some (.ob 0), some (.int x), some (.int g), some (.int ((s * 2862933555777941757 + 2 * (if x < 0 then -x else x) + (if decide (x < 0) then 1 else 0)) % 2305843009213693951))], _, ?_, ⟨_, _, _, rfl, rfl⟩⟩
      simp [onT, d__law_bag_1, op_powI, cmpD, blO, hx, mul_cr, mul_cl, absD, RI.intD, op_modI]
end K39

namespace K39
open PySem PySem.Spec PyProof.Rows L2 RI
/-! ### the errors made -/
theorem mk1 {G : Glo} {g : List D → Store → Out D} {c f : Str} (hg : ∀ ds M, g ds M = finD ((denSeq (denSetF G (dv 1) (dv 0) f) denNx) (startE 2 ds) M)) (hx : G.isExn c = true) (hf : G.fld c f = true) {M : Store} {p : D} :
    fdI 2 g c [p] M = .ok (.ob M.length) (M ++ [.exn c (some (M.length + 1)), .xdo [(f, p)]]) := by
  have e : setFD G (.ob M.length) f p (M ++ [.exn c none]) = some (M ++ [.exn c (some (M.length + 1)), .xdo [(f, p)]]) := by
    simp [setFD, at_0, hx, hf]
  simp [fdI, mkXD, hg, startE, e]
def madeX (n : Nat) (p q : D) : Store := [.exn "BadDealing" (some (n + 1)), .xdo [("word", p)], .exn "BadRing" none, .exn "BadString" (some (n + 4)), .xdo [("word", q), ("number", p)], .exn "BadTakers" (some (n + 6)), .xdo [("many", p)],
  .exn "BadText" (some (n + 8)), .xdo [("number", p)], .exn "BadWeights" (some (n + 10)), .xdo [("weights", p)], .exn "Full" none, .exn "NoBack" (some (n + 13)), .xdo [("many", p)],
  .lst [.ob n, .ob (n + 2), .ob (n + 3), .ob (n + 5), .ob (n + 7), .ob (n + 9), .ob (n + 11), .ob (n + 12)],
  .exn "NoChoice" (some (n + 16)), .xdo [("choice", p)], .exn "NoDealing" (some (n + 18)), .xdo [("cuts", p)], .exn "NothingToUndo" none, .exn "Odd" (some (n + 21)), .xdo [("kind", p)], .exn "NoPlace" (some (n + 23)), .xdo [("value", p)], .exn "NoRun" (some (n + 25)), .xdo [("number", p)],
  .lst [.ob (n + 15), .ob (n + 17), .ob (n + 19), .ob (n + 20), .ob (n + 22), .ob (n + 24)],
  .lst [.ob n, .ob (n + 2), .ob (n + 3), .ob (n + 5), .ob (n + 7), .ob (n + 9), .ob (n + 11), .ob (n + 12), .ob (n + 15), .ob (n + 17), .ob (n + 19), .ob (n + 20), .ob (n + 22), .ob (n + 24)]]
section
variable {K : PySem.W.Frag} {mg : Str → Option Value}
theorem isX (c : Str) (h : decide (c ∈ exs) = true) : (gloOf K mg exs fls).isExn c = true := h
theorem isF (c f : Str) (h : decide ((c, f) ∈ fls) = true) : (gloOf K mg exs fls).fld c f = true := h
theorem mk_BadDealing {M : Store} {p : D} : fdI 2 (g_BadDealing (gloOf K mg exs fls)) "BadDealing" [p] M = .ok (.ob M.length) (M ++ [.exn "BadDealing" (some (M.length + 1)), .xdo [("word", p)]]) := mk1 (fun _ _ => rfl) (isX _ (by decide +kernel)) (isF _ _ (by decide +kernel))
theorem mk_BadTakers {M : Store} {p : D} : fdI 2 (g_BadTakers (gloOf K mg exs fls)) "BadTakers" [p] M = .ok (.ob M.length) (M ++ [.exn "BadTakers" (some (M.length + 1)), .xdo [("many", p)]]) := mk1 (fun _ _ => rfl) (isX _ (by decide +kernel)) (isF _ _ (by decide +kernel))
theorem mk_BadText {M : Store} {p : D} : fdI 2 (g_BadText (gloOf K mg exs fls)) "BadText" [p] M = .ok (.ob M.length) (M ++ [.exn "BadText" (some (M.length + 1)), .xdo [("number", p)]]) := mk1 (fun _ _ => rfl) (isX _ (by decide +kernel)) (isF _ _ (by decide +kernel))
theorem mk_BadWeights {M : Store} {p : D} : fdI 2 (g_BadWeights (gloOf K mg exs fls)) "BadWeights" [p] M = .ok (.ob M.length) (M ++ [.exn "BadWeights" (some (M.length + 1)), .xdo [("weights", p)]]) := mk1 (fun _ _ => rfl) (isX _ (by decide +kernel)) (isF _ _ (by decide +kernel))
theorem mk_NoBack {M : Store} {p : D} : fdI 2 (g_NoBack (gloOf K mg exs fls)) "NoBack" [p] M = .ok (.ob M.length) (M ++ [.exn "NoBack" (some (M.length + 1)), .xdo [("many", p)]]) := mk1 (fun _ _ => rfl) (isX _ (by decide +kernel)) (isF _ _ (by decide +kernel))
theorem mk_NoChoice {M : Store} {p : D} : fdI 2 (g_NoChoice (gloOf K mg exs fls)) "NoChoice" [p] M = .ok (.ob M.length) (M ++ [.exn "NoChoice" (some (M.length + 1)), .xdo [("choice", p)]]) := mk1 (fun _ _ => rfl) (isX _ (by decide +kernel)) (isF _ _ (by decide +kernel))
theorem mk_NoDealing {M : Store} {p : D} : fdI 2 (g_NoDealing (gloOf K mg exs fls)) "NoDealing" [p] M = .ok (.ob M.length) (M ++ [.exn "NoDealing" (some (M.length + 1)), .xdo [("cuts", p)]]) := mk1 (fun _ _ => rfl) (isX _ (by decide +kernel)) (isF _ _ (by decide +kernel))
theorem mk_Odd {M : Store} {p : D} : fdI 2 (g_Odd (gloOf K mg exs fls)) "Odd" [p] M = .ok (.ob M.length) (M ++ [.exn "Odd" (some (M.length + 1)), .xdo [("kind", p)]]) := mk1 (fun _ _ => rfl) (isX _ (by decide +kernel)) (isF _ _ (by decide +kernel))
theorem mk_NoPlace {M : Store} {p : D} : fdI 2 (g_NoPlace (gloOf K mg exs fls)) "NoPlace" [p] M = .ok (.ob M.length) (M ++ [.exn "NoPlace" (some (M.length + 1)), .xdo [("value", p)]]) := mk1 (fun _ _ => rfl) (isX _ (by decide +kernel)) (isF _ _ (by decide +kernel))
theorem mk_NoRun {M : Store} {p : D} : fdI 2 (g_NoRun (gloOf K mg exs fls)) "NoRun" [p] M = .ok (.ob M.length) (M ++ [.exn "NoRun" (some (M.length + 1)), .xdo [("number", p)]]) := mk1 (fun _ _ => rfl) (isX _ (by decide +kernel)) (isF _ _ (by decide +kernel))
theorem mk_BadString {M : Store} {p q : D} : fdI 3 (g_BadString (gloOf K mg exs fls)) "BadString" [p, q] M = .ok (.ob M.length) (M ++ [.exn "BadString" (some (M.length + 1)), .xdo [("word", q), ("number", p)]]) := by
  have hx : (gloOf K mg exs fls).isExn "BadString" = true := isX _ (by decide +kernel)
  have hf : (gloOf K mg exs fls).fld "BadString" "number" = true := isF _ _ (by decide +kernel)
  have hf2 : (gloOf K mg exs fls).fld "BadString" "word" = true := isF _ _ (by decide +kernel)
  have e : setFD (gloOf K mg exs fls) (.ob M.length) "number" p (M ++ [.exn "BadString" none]) = some (M ++ [.exn "BadString" (some (M.length + 1)), .xdo [("number", p)]]) := by
    simp [setFD, at_0, hx, hf]
  have e2 : setFD (gloOf K mg exs fls) (.ob M.length) "word" q (M ++ [.exn "BadString" (some (M.length + 1)), .xdo [("number", p)]]) = some (M ++ [.exn "BadString" (some (M.length + 1)), .xdo [("word", q), ("number", p)]]) := by
    simp [setFD, at_0, at_k, hx, hf2, set_k]
  simp [fdI, mkXD, g_BadString, d_BadString, startE, e, e2]
theorem made_eq {M : Store} {p q : D} : g__law_made (gloOf K mg exs fls) [p, q] M = .ok (.ob (M.length + 27)) (M ++ madeX M.length p q) := by
  simp [g__law_made, d__law_made, startE, mk_BadDealing, mk_BadTakers, mk_BadText, mk_BadWeights, mk_NoBack, mk_NoChoice, mk_NoDealing, mk_Odd, mk_NoPlace, mk_NoRun, mk_BadString, newL_small, List.append_assoc, Nat.add_assoc, opD, RI.listAt, at_k, at_0, madeX]
/-! ### the sorts -/
theorem isi_at {G : Glo} {M : Store} {e : Nat} {c : Str} {dd : Option Nat} {k : Cid} {b : Bool} (he : M[e]? = some (.exn c dd)) (hx : G.isExn c = true) (h : G.isi (.own c) k = some b) : isiD G (.ob e) k M = .ok (.bl b) M := by
  simp [isiD, kindC, he, h, tagOk, hx]
theorem isi_app {G : Glo} {M X : Store} {e : Nat} {c : Str} {dd : Option Nat} {k : Cid} {b : Bool} (he : M[e]? = some (.exn c dd)) (hx : G.isExn c = true) (h : G.isi (.own c) k = some b) : isiD G (.ob e) k (M ++ X) = .ok (.bl b) (M ++ X) :=
  isi_at (by rw [List.getElem?_append_left (List.getElem?_eq_some_iff.mp he).1]; exact he) hx h
def sortsX (b0 b1 b2 b3 b4 b5 b6 b7 b8 b9 b10 b11 b12 b13 b14 b15 b16 : Bool) : Store := [.lst [.bl b0, .bl b1, .bl b2], .lst [.bl b3, .bl b4, .bl b5], .lst [.bl b0, .bl b1, .bl b2, .bl b3, .bl b4, .bl b5],
  .lst [.bl b6, .bl b7, .bl b8], .lst [.bl b0, .bl b1, .bl b2, .bl b3, .bl b4, .bl b5, .bl b6, .bl b7, .bl b8], .lst [.bl b9, .bl b10, .bl b11], .lst [.bl b0, .bl b1, .bl b2, .bl b3, .bl b4, .bl b5, .bl b6, .bl b7, .bl b8, .bl b9, .bl b10, .bl b11],
  .lst [.bl b12, .bl b13], .lst [.bl b0, .bl b1, .bl b2, .bl b3, .bl b4, .bl b5, .bl b6, .bl b7, .bl b8, .bl b9, .bl b10, .bl b11, .bl b12, .bl b13], .lst [.bl b14, .bl b15, .bl b16],
  .lst [.bl b0, .bl b1, .bl b2, .bl b3, .bl b4, .bl b5, .bl b6, .bl b7, .bl b8, .bl b9, .bl b10, .bl b11, .bl b12, .bl b13, .bl b14, .bl b15, .bl b16]]
theorem sorts_eq {G : Glo} {M : Store} {e : Nat} {c : Str} {dd : Option Nat} {b0 b1 b2 b3 b4 b5 b6 b7 b8 b9 b10 b11 b12 b13 b14 b15 b16 : Bool} (he : M[e]? = some (.exn c dd)) (hx : G.isExn c = true)
    (h0 : G.isi (.own c) (.own "BadDealing") = some b0) (h1 : G.isi (.own c) (.own "BadRing") = some b1) (h2 : G.isi (.own c) (.own "BadString") = some b2) (h3 : G.isi (.own c) (.own "BadTakers") = some b3) (h4 : G.isi (.own c) (.own "BadText") = some b4)
    (h5 : G.isi (.own c) (.own "BadWeights") = some b5) (h6 : G.isi (.own c) (.own "Full") = some b6) (h7 : G.isi (.own c) (.own "NoBack") = some b7) (h8 : G.isi (.own c) (.own "NoChoice") = some b8) (h9 : G.isi (.own c) (.own "NoDealing") = some b9)
    (h10 : G.isi (.own c) (.own "NothingToUndo") = some b10) (h11 : G.isi (.own c) (.own "Odd") = some b11) (h12 : G.isi (.own c) (.own "NoPlace") = some b12) (h13 : G.isi (.own c) (.own "NoRun") = some b13) (h14 : G.isi (.own c) (.own "ShareError") = some b14)
    (h15 : G.isi (.own c) (.ty "ValueError") = some b15) (h16 : G.isi (.own c) (.ty "LookupError") = some b16) :
    g__law_sorts G [.ob e] M = .ok (.ob (M.length + 10)) (M ++ sortsX b0 b1 b2 b3 b4 b5 b6 b7 b8 b9 b10 b11 b12 b13 b14 b15 b16) := by
  simp [g__law_sorts, d__law_sorts, startE, isi_at he hx, isi_app he hx, h0, h1, h2, h3, h4, h5, h6, h7, h8, h9, h10, h11, h12, h13, h14, h15, h16, newL_small, List.append_assoc, Nat.add_assoc, opD, RI.listAt, at_k, at_0, sortsX]
end
end K39

namespace K39
open PySem PySem.Spec PyProof.Rows L2 RI
theorem lc_pure {M : Store} {i : Nat} {e : Den D} {ρw : Env1} {h : D → D} : ∀ (ds acc : List D), (∀ d ∈ ds, ∀ M', e (ρw.set i (some d)) M' = .ok (h d) M') → acc.length + ds.length ≤ 1000 → lcD M.length none (.name i) denYes e ρw ds (M ++ [.lst acc]) = .ok () (M ++ [.lst (acc ++ ds.map h)])
  | [], acc, _, _ => by simp [lcD, chkM]
  | d :: r, acc, he, hl => by
    have hl' : acc.length + (r.length + 1) ≤ 1000 := hl
    have hlt : acc.length < line := Nat.lt_of_lt_of_le (show acc.length < 1001 by omega) (by decide)
    have e1 := he d List.mem_cons_self (M ++ [.lst acc])
    have ih := lc_pure (M := M) (i := i) (e := e) (ρw := ρw) (h := h) r (acc ++ [h d]) (fun d hd => he d (List.mem_cons_of_mem _ hd)) (by rw [List.length_append, List.length_singleton]; omega)
    have es : List.set (M ++ [.lst acc]) M.length (.lst (acc ++ [h d])) = M ++ [.lst (acc ++ [h d])] := set_k (k := 0)
    simp [lcD, chkM, e1, RI.listAt, at_0, hlt, es]
    rw [ih]
    simp
theorem toPy_l {M : Store} {n k : Nat} {ds : List D} (h : readAt M k = some ds) : toPy (n + 1) M (.ob k) = (optAll (toPy n M) ds).map .list := by
  unfold readAt at h
  show (match M[k]? with
      | some (.lst ds) => (optAll (toPy n M) ds).map PyData.list
      | some (.frl ds) => (optAll (toPy n M) ds).map PyData.list
      | _ => none) = _
  cases e : M[k]? with
  | none => rw [e] at h; cases h
  | some o =>
    rw [e] at h
    cases o <;> first | (cases h; rfl) | cases h
theorem cmp_ne {M : Store} {x y : Nat} {p : PyData} (h1 : toPy 8 M (.ob x) = some p) (h2 : toPy 8 M (.ob y) = some p) (h : SeqAt.shaped p = true) : cmpD .NotEq (.ob x) (.ob y) M = .ok (.bl false) M := by
  have e := PySem.SeqAt.eqv_refl p (SeqAt.canLay_of_shaped h)
  simp [cmpD, h1, h2, h, e, blO]
theorem cmp_app {M X : Store} {a b : Nat} {ds : List D} {ps : List PyData} (h1 : X[a]? = some (.lst ds)) (h2 : X[b]? = some (.lst ds)) (h3 : optAll (toPy 7 (M ++ X)) ds = some ps) (h4 : SeqAt.shaped (.list ps) = true) :
    cmpD .NotEq (.ob (M.length + a)) (.ob (M.length + b)) (M ++ X) = .ok (.bl false) (M ++ X) := by
  have e1 : readAt (M ++ X) (M.length + a) = some ds := by simp [readAt, at_k, h1]
  have e2 : readAt (M ++ X) (M.length + b) = some ds := by simp [readAt, at_k, h2]
  exact cmp_ne (p := .list ps) (by rw [toPy_l e1, h3]; rfl) (by rw [toPy_l e2, h3]; rfl) h4
def lcX (i : Int) : List D := [.bl (PyData.eqv (.int 0) (.int i)), .bl (PyData.eqv (.int 1) (.int i)), .bl (PyData.eqv (.int 2) (.int i)), .bl (PyData.eqv (.int 3) (.int i)), .bl (PyData.eqv (.int 4) (.int i)), .bl (PyData.eqv (.int 5) (.int i)), .bl (PyData.eqv (.int 6) (.int i)),
  .bl (PyData.eqv (.int 7) (.int i)), .bl (PyData.eqv (.int 8) (.int i)), .bl (PyData.eqv (.int 9) (.int i)), .bl (PyData.eqv (.int 10) (.int i)), .bl (PyData.eqv (.int 11) (.int i)), .bl (PyData.eqv (.int 12) (.int i)), .bl (PyData.eqv (.int 13) (.int i))]
theorem lc_eq {M : Store} {x0 x1 x2 x3 x4 x5 x6 x7 x9 x10 x11 : Option D} {i : Int} : denLc (denRange1 (denCons (dc (.int 14)) (denNil))) (.name 11) (denYes) (den2 (dv 11) (dv 8) (cmpD .Eq)) [11] [x0, x1, x2, x3, x4, x5, x6, x7, some (.int i), x9, x10, x11] M = .ok (.ob M.length) (M ++ [.lst (lcX i)]) := by
  have e := lc_pure (M := M) (i := 11) (e := den2 (dv 11) (dv 8) (cmpD .Eq)) (ρw := [x0, x1, x2, x3, x4, x5, x6, x7, some (.int i), x9, x10, none]) (h := fun d => match d with
    | .int j => .bl (PyData.eqv (.int j) (.int i))
    | _ => .non) (rangeD 0 14) [] (fun d hd M' => by
      obtain ⟨j, _, rfl⟩ := List.mem_map.mp hd
      simp [cmpD, toPy, blO, show ∀ z : Int, SeqAt.shaped (.int z) = true from fun z => rfl]) (by decide)
  have e2 : ([] ++ (rangeD 0 14).map fun d => match d with
    | .int j => D.bl (PyData.eqv (.int j) (.int i))
    | _ => .non) = lcX i := rfl
  rw [e2] at e
  have e3 : wipeE [x0, x1, x2, x3, x4, x5, x6, x7, some (.int i), x9, x10, x11] [11] = [x0, x1, x2, x3, x4, x5, x6, x7, some (.int i), x9, x10, none] := rfl
  simp [denLc, itRange1, e3, e]
structure Row (G : Glo) (c : Str) (i : Int) : Prop where
  x : G.isExn c = true
  h0 : G.isi (.own c) (.own "BadDealing") = some (PyData.eqv (.int 0) (.int i))
  h1 : G.isi (.own c) (.own "BadRing") = some (PyData.eqv (.int 1) (.int i))
  h2 : G.isi (.own c) (.own "BadString") = some (PyData.eqv (.int 2) (.int i))
  h3 : G.isi (.own c) (.own "BadTakers") = some (PyData.eqv (.int 3) (.int i))
  h4 : G.isi (.own c) (.own "BadText") = some (PyData.eqv (.int 4) (.int i))
  h5 : G.isi (.own c) (.own "BadWeights") = some (PyData.eqv (.int 5) (.int i))
  h6 : G.isi (.own c) (.own "Full") = some (PyData.eqv (.int 6) (.int i))
  h7 : G.isi (.own c) (.own "NoBack") = some (PyData.eqv (.int 7) (.int i))
  h8 : G.isi (.own c) (.own "NoChoice") = some (PyData.eqv (.int 8) (.int i))
  h9 : G.isi (.own c) (.own "NoDealing") = some (PyData.eqv (.int 9) (.int i))
  h10 : G.isi (.own c) (.own "NothingToUndo") = some (PyData.eqv (.int 10) (.int i))
  h11 : G.isi (.own c) (.own "Odd") = some (PyData.eqv (.int 11) (.int i))
  h12 : G.isi (.own c) (.own "NoPlace") = some (PyData.eqv (.int 12) (.int i))
  h13 : G.isi (.own c) (.own "NoRun") = some (PyData.eqv (.int 13) (.int i))
  h14 : G.isi (.own c) (.own "ShareError") = some (decide (i < 12))
  h15 : G.isi (.own c) (.ty "ValueError") = some (decide (i < 12))
  h16 : G.isi (.own c) (.ty "LookupError") = some (!decide (i < 12))
theorem inner_ok {G : Glo} {M : Store} {x0 x1 x2 x3 x4 x5 x6 x7 x8 x9 x10 x11 : Option D} {i : Int} {e : Nat} {c : Str} {dd : Option Nat} (he : M[e]? = some (.exn c dd)) (R : Row G c i) :
    ∃ y8 y9 y10 y11 X, onT (.tup [8, 9]) (d_law_1 G) (.tup [.int i, .ob e]) [x0, x1, x2, x3, x4, x5, x6, x7, x8, x9, x10, x11] M = .fl .nx [x0, x1, x2, x3, x4, x5, x6, x7, y8, y9, y10, y11] (M ++ X) := by
  have s := sorts_eq he R.x R.h0 R.h1 R.h2 R.h3 R.h4 R.h5 R.h6 R.h7 R.h8 R.h9 R.h10 R.h11 R.h12 R.h13 R.h14 R.h15 R.h16
  have lt : ∀ M, cmpD .Lt (.int i) (.int 12) M = .ok (.bl (decide (i < 12))) M := fun _ => rfl
  refine ⟨some (.int i), some (.ob e), some (.bl (decide (i < 12))), x11, sortsX (PyData.eqv (.int 0) (.int i)) (PyData.eqv (.int 1) (.int i)) (PyData.eqv (.int 2) (.int i)) (PyData.eqv (.int 3) (.int i)) (PyData.eqv (.int 4) (.int i)) (PyData.eqv (.int 5) (.int i)) (PyData.eqv (.int 6) (.int i))
    (PyData.eqv (.int 7) (.int i)) (PyData.eqv (.int 8) (.int i)) (PyData.eqv (.int 9) (.int i)) (PyData.eqv (.int 10) (.int i)) (PyData.eqv (.int 11) (.int i)) (PyData.eqv (.int 12) (.int i)) (PyData.eqv (.int 13) (.int i)) (decide (i < 12)) (decide (i < 12)) (!decide (i < 12)) ++
    [.lst (lcX i), .lst [.bl (decide (i < 12)), .bl (decide (i < 12)), .bl (!decide (i < 12))], .lst (lcX i ++ [.bl (decide (i < 12)), .bl (decide (i < 12)), .bl (!decide (i < 12))])], ?_⟩
  simp [onT, setT, setAll, d_law_1, lt, blO, arity, s, lc_eq, denNotV, newL_small, List.append_assoc, Nat.add_assoc, opD, RI.listAt, at_k, at_0, sortsX, lcX]
  rw [cmp_app ?h1 ?h2 ?h3 ?h4]
  case h1 => exact rfl
  case h2 => exact rfl
  case h3 => exact rfl
  case h4 => exact rfl
  rfl
end K39

namespace K39
open PySem PySem.Spec PyProof.Rows L2 RI
theorem toPyR_l {M : Store} {n k : Nat} {ds : List D} (h : M[k]? = some (.lst ds)) : toPyR (n + 1) M (.ob k) = (optAll (toPyR n M) ds).map .list := by
  show (match M[k]? with
      | some (.lst ds) => (optAll (toPyR n M) ds).map PyData.list
      | some (.frl ds) => (optAll (toPyR n M) ds).map PyData.list
      | some (.dct kvs) => (kvAll (toPyR n M) kvs).map PyData.dict
      | _ => none) = _
  rw [h]
theorem sum_le (n : Nat) : ∀ l : List Nat, (∀ x ∈ l, x ≤ n) → l.sum ≤ n * l.length
  | [], _ => by simp
  | x :: r, h => by
    have h1 := h x List.mem_cons_self
    have h2 := sum_le n r fun y hy => h y (List.mem_cons_of_mem _ hy)
    rw [List.sum_cons, List.length_cons, Nat.mul_add]
    omega
theorem shownAll_mem : ∀ {ps : List PyData}, (∀ p ∈ ps, p.shown.length ≤ 100 ∧ p.showable = true ∧ p.depth ≤ 6) → (∀ x ∈ PyData.shownAll ps, x.length ≤ 100) ∧ (PyData.shownAll ps).length = ps.length ∧ PyData.showableAll ps = true ∧ PyData.depthAll ps ≤ 6
  | [], _ => ⟨fun x h => by simp [PyData.shownAll] at h, rfl, rfl, Nat.zero_le _⟩
  | p :: r, h => by
    obtain ⟨h1, h2, h3, h4⟩ := shownAll_mem (ps := r) fun q hq => h q (List.mem_cons_of_mem _ hq)
    obtain ⟨g1, g2, g3⟩ := h p List.mem_cons_self
    refine ⟨fun x hx => ?_, by simp [PyData.shownAll, h2], by simp [PyData.showableAll, g2, h3], by simp only [PyData.depthAll]; omega⟩
    simp only [PyData.shownAll, List.mem_cons] at hx
    rcases hx with rfl | hx
    · exact g1
    · exact h1 x hx
theorem repr_l {M : Store} {k : Nat} {ds : List D} {ps : List PyData} (h : M[k]? = some (.lst ds)) (hp : optAll (toPyR 11 M) ds = some ps) (hs : ∀ p ∈ ps, p.shown.length ≤ 100 ∧ p.showable = true ∧ p.depth ≤ 6) (hn : ps.length ≤ 100) : reprD [.ob k] M = .ok (.str (PyData.shown (.list ps))) M := by
  obtain ⟨h1, h2, h3, h4⟩ := shownAll_mem hs
  have hl : (PyData.shown (.list ps)).length ≤ line := by
    simp only [PyData.shown]
    have q := listText_len_le (PyData.shownAll ps)
    have q2 := sum_le 100 ((PyData.shownAll ps).map (·.length)) (fun x hx => by
      obtain ⟨y, hy, rfl⟩ := List.mem_map.mp hx
      exact h1 y hy)
    rw [List.length_map] at q2
    have : line = 100000 := rfl
    omega
  have hd : (PyData.list ps).depth ≤ 40 := by simp only [PyData.depth]; omega
  have e : toPyR 12 M (.ob k) = some (.list ps) := by rw [toPyR_l h, hp]; rfl
  simp [reprD, e, PyData.showable, h3, hl, hd]
/-- twelve of p and q -/
theorem repr_kept {b : Nat} {M : Store} {p q : D} (fp : Fine b M p) (fq : Fine b M q) : ∃ z, ∀ (M' : Store) (k : Nat), Keep b M M' → M'[k]? = some (.lst [p, p, q, p, p, p, p, p, p, p, p, p]) → reprD [.ob k] M' = .ok (.str z) M' := by
  obtain ⟨pp, p1, p2, p3, p4⟩ := fp
  obtain ⟨qq, q1, q2, q3, q4⟩ := fq
  refine ⟨PyData.shown (.list [pp, pp, qq, pp, pp, pp, pp, pp, pp, pp, pp, pp]), fun M' k hk h => repr_l h ?_ ?_ (by simp)⟩
  · simp [optAll, p1 M' hk, q1 M' hk]
  · intro x hx
    simp only [List.mem_cons, List.not_mem_nil, or_false] at hx
    have hx' : x = pp ∨ x = qq := by
      rcases hx with h | h | h | h | h | h | h | h | h | h | h | h <;> first | exact .inl h | exact .inr h
    rcases hx' with rfl | rfl
    · exact ⟨p3, p2, p4⟩
    · exact ⟨q3, q2, q4⟩
theorem cmp_str {M : Store} {z : Str} : cmpD .NotEq (.str z) (.str z) M = .ok (.bl false) M := by simp [cmpD, blO]
section
variable {K : PySem.W.Frag} {mg : Str → Option Value}
def errL (n : Nat) : List D := [.ob n, .ob (n + 2), .ob (n + 3), .ob (n + 5), .ob (n + 7), .ob (n + 9), .ob (n + 11), .ob (n + 12), .ob (n + 15), .ob (n + 17), .ob (n + 19), .ob (n + 20), .ob (n + 22), .ob (n + 24)]
/-- all that isinstance says -/
structure Rows (G : Glo) : Prop where
  r0 : Row G "BadDealing" 0
  r1 : Row G "BadRing" 1
  r2 : Row G "BadString" 2
  r3 : Row G "BadTakers" 3
  r4 : Row G "BadText" 4
  r5 : Row G "BadWeights" 5
  r6 : Row G "Full" 6
  r7 : Row G "NoBack" 7
  r8 : Row G "NoChoice" 8
  r9 : Row G "NoDealing" 9
  r10 : Row G "NothingToUndo" 10
  r11 : Row G "Odd" 11
  r12 : Row G "NoPlace" 12
  r13 : Row G "NoRun" 13
theorem loop_ok {G : Glo} (R : Rows G) {Mx : Store} {n : Nat} {p q : D} {x0 x1 x2 x3 x4 x5 x6 x7 x8 x9 x10 x11 : Option D} (h : ∀ j < 28, Mx[n + j]? = (madeX n p q)[j]?) :
    ∃ y8 y9 y10 y11 Y, forD (some (n + 27, errL n)) (onT (.tup [8, 9]) (d_law_1 G)) (pairsD 0 (errL n)) [x0, x1, x2, x3, x4, x5, x6, x7, x8, x9, x10, x11] Mx = .fl .nx [x0, x1, x2, x3, x4, x5, x6, x7, y8, y9, y10, y11] (Mx ++ Y) := by
  have step : ∀ (i : Int) (e : Nat) (c : Str) (dd : Option Nat), Row G c i → Mx[e]? = some (.exn c dd) → ∀ ρ M, (∃ y8 y9 y10 y11 Y, ρ = [x0, x1, x2, x3, x4, x5, x6, x7, y8, y9, y10, y11] ∧ M = Mx ++ Y) →
      ∃ ρ' M', onT (.tup [8, 9]) (d_law_1 G) (.tup [.int i, .ob e]) ρ M = .fl .nx ρ' M' ∧ ∃ y8 y9 y10 y11 Y, ρ' = [x0, x1, x2, x3, x4, x5, x6, x7, y8, y9, y10, y11] ∧ M' = Mx ++ Y := by
    rintro i e c dd r he ρ M ⟨y8, y9, y10, y11, Y, rfl, rfl⟩
    obtain ⟨z8, z9, z10, z11, Z, hz⟩ := inner_ok (M := Mx ++ Y) (x0 := x0) (x1 := x1) (x2 := x2) (x3 := x3) (x4 := x4) (x5 := x5) (x6 := x6) (x7 := x7) (x8 := y8) (x9 := y9) (x10 := y10) (x11 := y11) (by rw [List.getElem?_append_left (List.getElem?_eq_some_iff.mp he).1]; exact he) r
    exact ⟨_, _, hz, z8, z9, z10, z11, Y ++ Z, rfl, by rw [List.append_assoc]⟩
  obtain ⟨ρ', M', e, y8, y9, y10, y11, Y, rfl, rfl⟩ := forD_chk (k := n + 27) (l := errL n) (body := onT (.tup [8, 9]) (d_law_1 G)) (fun ρ M => ∃ y8 y9 y10 y11 Y, ρ = [x0, x1, x2, x3, x4, x5, x6, x7, y8, y9, y10, y11] ∧ M = Mx ++ Y)
    (fun ρ M ⟨_, _, _, _, Y, _, hM⟩ => by
      have q := h 27 (by omega)
      have hl : n + 27 < Mx.length := by
        refine (List.getElem?_eq_some_iff (a := SO.lst (errL n)).mp ?_).1
        rw [q]
        rfl
      rw [hM]
      unfold readAt
      rw [List.getElem?_append_left hl, q]
      rfl) (pairsD 0 (errL n)) [x0, x1, x2, x3, x4, x5, x6, x7, x8, x9, x10, x11] Mx (fun d hd => by
      simp only [errL, pairsD, List.mem_cons, List.not_mem_nil, or_false] at hd
      rcases hd with rfl | rfl | rfl | rfl | rfl | rfl | rfl | rfl | rfl | rfl | rfl | rfl | rfl | rfl
      · exact step _ _ "BadDealing" _ R.r0 (by have q := h 0 (by omega); exact q)
      · exact step _ _ "BadRing" _ R.r1 (h 2 (by omega))
      · exact step _ _ "BadString" _ R.r2 (h 3 (by omega))
      · exact step _ _ "BadTakers" _ R.r3 (h 5 (by omega))
      · exact step _ _ "BadText" _ R.r4 (h 7 (by omega))
      · exact step _ _ "BadWeights" _ R.r5 (h 9 (by omega))
      · exact step _ _ "Full" _ R.r6 (h 11 (by omega))
      · exact step _ _ "NoBack" _ R.r7 (h 12 (by omega))
      · exact step _ _ "NoChoice" _ R.r8 (h 15 (by omega))
      · exact step _ _ "NoDealing" _ R.r9 (h 17 (by omega))
      · exact step _ _ "NothingToUndo" _ R.r10 (h 19 (by omega))
      · exact step _ _ "Odd" _ R.r11 (h 20 (by omega))
      · exact step _ _ "NoPlace" _ R.r12 (h 22 (by omega))
      · exact step _ _ "NoRun" _ R.r13 (h 24 (by omega))) ⟨_, _, _, _, [], rfl, by simp⟩
  exact ⟨y8, y9, y10, y11, Y, e⟩
end
end K39

namespace K39
open PySem PySem.Spec PyProof.Rows L2 RI
theorem ix_app {M X : Store} {a : Nat} {ds : List D} {i : Int} {d : D} (h1 : X[a]? = some (.lst ds)) (h2 : atI ds i = some d) : ixD (.ob (M.length + a)) (.int i) (M ++ X) = .ok d (M ++ X) := by
  simp [ixD, seqD, readAt, at_k, h1, h2]
theorem get_app {G : Glo} {M X : Store} {a m : Nat} {c f : Str} {fs : List (Str × D)} {d : D} (h1 : X[a]? = some (.exn c (some (M.length + m)))) (hx : G.isExn c = true) (hf : G.fld c f = true) (h2 : X[m]? = some (.xdo fs)) (h3 : fs.lookup f = some d) : getFD G (.ob (M.length + a)) f (M ++ X) = some d := by
  simp [getFD, at_k, h1, h2, hx, hf, h3]
theorem get_app0 {G : Glo} {M X : Store} {m : Nat} {c f : Str} {fs : List (Str × D)} {d : D} (h1 : X[0]? = some (.exn c (some (M.length + m)))) (hx : G.isExn c = true) (hf : G.fld c f = true) (h2 : X[m]? = some (.xdo fs)) (h3 : fs.lookup f = some d) : getFD G (.ob M.length) f (M ++ X) = some d :=
  get_app (a := 0) h1 hx hf h2 h3
section
variable {K : PySem.W.Frag} {mg : Str → Option Value}
/-- the six, the eleven, the twelve -/
theorem outer_ok (R : Rows (gloOf K mg exs fls)) {M : Store} {b : Nat} {t : D} {x0 x2 x3 x4 x5 x6 x7 x8 x9 x10 x11 : Option D} (hb : Bag M b) :
    ∃ (y2 y3 y4 y5 y6 y7 y8 y9 y10 y11 : Option D) (M' : Store), onT (.name 3) (d_law_2 (gloOf K mg exs fls)) t [x0, some (.ob b), x2, x3, x4, x5, x6, x7, x8, x9, x10, x11] M = .fl .nx [x0, some (.ob b), y2, y3, y4, y5, y6, y7, y8, y9, y10, y11] M' ∧ Bag M' b := by
  obtain ⟨p, M1, k1, l1, b1, f1, e1⟩ := odd_ok (gloOf K mg exs fls) hb
  obtain ⟨q0, M2, k2, l2, b2, f2, e2⟩ := odd_ok (gloOf K mg exs fls) b1
  have hl2 : M2.length ≠ b := Nat.ne_of_gt b2.lt
  obtain ⟨q, o, hq, b3, e3⟩ := pick_ok (gloOf K mg exs fls) (M := M2 ++ [.lst [q0, .str "same", .int (10 ^ 30), .tup [.tup [.int 0, .int 1], .non]]]) (k := M2.length) (b2.app _) (by rw [at_0]; rfl) hl2 (by simp) (by simp)
  obtain ⟨M4, hM4⟩ : ∃ M4 : Store, M4 = List.set (M2 ++ [SO.lst [q0, .str "same", .int (10 ^ 30), .tup [.tup [.int 0, .int 1], .non]]]) b o := ⟨_, rfl⟩
  rw [← hM4] at b3 e3
  have k24 : Keep b M2 M4 := by rw [hM4]; exact (Keep.app _).trans (Keep.set _)
  have fp : Fine b M4 p := (f1.mono k2).mono k24
  have fq : Fine b M4 q := by
    simp only [List.mem_cons, List.not_mem_nil, or_false] at hq
    rcases hq with rfl | rfl | rfl | rfl
    · exact f2.mono k24
    · exact plain_fine (fun _ => rfl) (by decide +kernel)
    · exact plain_fine (fun _ => rfl) (by decide +kernel)
    · exact plain_fine (fun _ => rfl) (by decide +kernel)
  obtain ⟨z, hz⟩ := repr_kept fp fq
  have a0 : getFD (gloOf K mg exs fls) (.ob M4.length) "word" (M4 ++ madeX M4.length p q) = some p := get_app0 (c := "BadDealing") (m := 1) rfl (isX _ (by decide +kernel)) (isF _ _ (by decide +kernel)) rfl rfl
  have a1 : getFD (gloOf K mg exs fls) (.ob (M4.length + 3)) "number" (M4 ++ madeX M4.length p q) = some p := get_app (c := "BadString") (m := 4) rfl (isX _ (by decide +kernel)) (isF _ _ (by decide +kernel)) rfl rfl
  have a2 : getFD (gloOf K mg exs fls) (.ob (M4.length + 3)) "word" (M4 ++ madeX M4.length p q) = some q := get_app (c := "BadString") (m := 4) rfl (isX _ (by decide +kernel)) (isF _ _ (by decide +kernel)) rfl rfl
  have a3 : getFD (gloOf K mg exs fls) (.ob (M4.length + 5)) "many" (M4 ++ madeX M4.length p q) = some p := get_app (c := "BadTakers") (m := 6) rfl (isX _ (by decide +kernel)) (isF _ _ (by decide +kernel)) rfl rfl
  have a4 : getFD (gloOf K mg exs fls) (.ob (M4.length + 7)) "number" (M4 ++ madeX M4.length p q) = some p := get_app (c := "BadText") (m := 8) rfl (isX _ (by decide +kernel)) (isF _ _ (by decide +kernel)) rfl rfl
  have a5 : getFD (gloOf K mg exs fls) (.ob (M4.length + 9)) "weights" (M4 ++ madeX M4.length p q) = some p := get_app (c := "BadWeights") (m := 10) rfl (isX _ (by decide +kernel)) (isF _ _ (by decide +kernel)) rfl rfl
  have a6 : ∀ Z, getFD (gloOf K mg exs fls) (.ob (M4.length + 12)) "many" (M4 ++ (madeX M4.length p q ++ Z)) = some p := fun Z => get_app (c := "NoBack") (m := 13) rfl (isX _ (by decide +kernel)) (isF _ _ (by decide +kernel)) rfl rfl
  have a7 : ∀ Z, getFD (gloOf K mg exs fls) (.ob (M4.length + 15)) "choice" (M4 ++ (madeX M4.length p q ++ Z)) = some p := fun Z => get_app (c := "NoChoice") (m := 16) rfl (isX _ (by decide +kernel)) (isF _ _ (by decide +kernel)) rfl rfl
  have a8 : ∀ Z, getFD (gloOf K mg exs fls) (.ob (M4.length + 17)) "cuts" (M4 ++ (madeX M4.length p q ++ Z)) = some p := fun Z => get_app (c := "NoDealing") (m := 18) rfl (isX _ (by decide +kernel)) (isF _ _ (by decide +kernel)) rfl rfl
  have a9 : ∀ Z, getFD (gloOf K mg exs fls) (.ob (M4.length + 20)) "kind" (M4 ++ (madeX M4.length p q ++ Z)) = some p := fun Z => get_app (c := "Odd") (m := 21) rfl (isX _ (by decide +kernel)) (isF _ _ (by decide +kernel)) rfl rfl
  have a10 : ∀ Z, getFD (gloOf K mg exs fls) (.ob (M4.length + 22)) "value" (M4 ++ (madeX M4.length p q ++ Z)) = some p := fun Z => get_app (c := "NoPlace") (m := 23) rfl (isX _ (by decide +kernel)) (isF _ _ (by decide +kernel)) rfl rfl
  have a11 : ∀ Z, getFD (gloOf K mg exs fls) (.ob (M4.length + 24)) "number" (M4 ++ (madeX M4.length p q ++ Z)) = some p := fun Z => get_app (c := "NoRun") (m := 25) rfl (isX _ (by decide +kernel)) (isF _ _ (by decide +kernel)) rfl rfl
  have ml : (madeX M4.length p q).length = 28 := rfl
  have ixA : ∀ i, ixD (.ob (M4.length + 27)) (.int i) (M4 ++ madeX M4.length p q) = Out.of (atI (errL M4.length) i) (M4 ++ madeX M4.length p q) := fun i => by
    simp [ixD, seqD, readAt, at_k, show (madeX M4.length p q)[27]? = some (.lst (errL M4.length)) from rfl]
  have ixB : ∀ Z i, ixD (.ob (M4.length + 27)) (.int i) (M4 ++ (madeX M4.length p q ++ Z)) = Out.of (atI (errL M4.length) i) (M4 ++ (madeX M4.length p q ++ Z)) := fun Z i => by
    simp [ixD, seqD, readAt, at_k, show (madeX M4.length p q ++ Z)[27]? = some (.lst (errL M4.length)) from rfl]
  have at0 : ∀ X : Store, (M4 ++ (madeX M4.length p q ++ X))[M4.length + 28]? = X[0]? := fun X => by rw [at_k]; rfl
  have rz : ∀ (X : Store) (k : Nat), X[k]? = some (.lst [p, p, q, p, p, p, p, p, p, p, p, p]) → reprD [.ob (M4.length + k)] (M4 ++ X) = .ok (.str z) (M4 ++ X) := fun X k h => hz _ _ (Keep.app X) (by rw [at_k]; exact h)
  have addL : ∀ M a b, opD .Add (.ob a) (.ob b) M = (match RI.listAt M a, RI.listAt M b with
    | some xs, some ys => newL (xs ++ ys) M
    | _, _ => .no) := fun _ _ _ => rfl
  have mulL : ∀ M a, opD .Mult (.ob a) (.int 9) M = (match RI.listAt M a with
    | some xs => newL (List.replicate 9 xs).flatten M
    | _ => .no) := fun _ _ => rfl
  have rep9 : (List.replicate 9 [p]).flatten = [p, p, p, p, p, p, p, p, p] := rfl
  have en : ∀ Z, itEnum [.ob (M4.length + 27)] (M4 ++ (madeX M4.length p q ++ Z)) = .ok ⟨pairsD 0 (errL M4.length), some (M4.length + 27, errL M4.length)⟩ (M4 ++ (madeX M4.length p q ++ Z)) := fun Z => by
    simp [itEnum, readAt, at_k, show (madeX M4.length p q ++ Z)[27]? = some (.lst (errL M4.length)) from rfl]
  have ev : ∃ Z y4 y5, onT (.name 3) (d_law_2 (gloOf K mg exs fls)) t [x0, some (.ob b), x2, x3, x4, x5, x6, x7, x8, x9, x10, x11] M =
      forD (some (M4.length + 27, errL M4.length)) (onT (.tup [8, 9]) (d_law_1 (gloOf K mg exs fls))) (pairsD 0 (errL M4.length)) [x0, some (.ob b), x2, some t, y4, y5, some p, some q, x8, x9, x10, x11] (M4 ++ (madeX M4.length p q ++ Z)) := by
    refine ⟨[.lst [p, p, q, p, p, p], .lst [p, p, p, p, p], .lst [p, p, q, p, p, p, p, p, p, p, p], .lst [p], .lst [p, p, q, p, p, p, p, p, p, p, p, p], .lst [p, p, q], .lst [p], .lst [p, p, p, p, p, p, p, p, p], .lst [p, p, q, p, p, p, p, p, p, p, p, p]], some (.ob (M4.length + 27)), some (.ob (M4.length + 30)), ?_⟩
    have e3' : g__law_pick (gloOf K mg exs fls) [.ob b, .ob M2.length] (M2 ++ [.lst [q0, .str "same", .int 1000000000000000000000000000000, .tup [.tup [.int 0, .int 1], .non]]]) = .ok q M4 := e3
    simp [onT, d_law_2, arity, e1, e2, newL_small, op_powI, e3', made_eq, ixA, ixB, errL, atI, ixN, a0, a1, a2, a3, a4, a5, a6, a7, a8, a9, a10, a11, List.append_assoc, Nat.add_assoc, ml, addL, mulL, rep9, RI.listAt, at_k, List.getElem?_append, rz, cmp_str]
    rw [en]
    rfl
  obtain ⟨Z, y4, y5, ev⟩ := ev
  obtain ⟨y8, y9, y10, y11, Y, hl⟩ := loop_ok R (Mx := M4 ++ (madeX M4.length p q ++ Z)) (n := M4.length) (p := p) (q := q) (x0 := x0) (x1 := some (.ob b)) (x2 := x2) (x3 := some t) (x4 := y4) (x5 := y5) (x6 := some p) (x7 := some q) (x8 := x8) (x9 := x9) (x10 := x10) (x11 := x11) (fun j hj => by
    rw [at_k, List.getElem?_append_left (by rw [ml]; exact hj)])
  exact ⟨_, _, _, _, _, _, _, _, _, _, _, ev.trans hl, (b3.app _).app _⟩
/-- the law -/
theorem law_ok (R : Rows (gloOf K mg exs fls)) (ns : List Int) (hn : ns.length ≤ 63) : ∃ M, g_law (gloOf K mg exs fls) [.ob 0] [.frl (ns.map D.int)] = .ok (.bl true) M := by
  obtain ⟨M, b, e, hb⟩ := bag_ok (gloOf K mg exs fls) ns hn
  obtain ⟨z, hz⟩ : ∃ z, z = PyData.shown (.list [.int 12, .int 4, .int 20, .int 100, .int 4, .int (10 ^ 30), .int 6, .int 12, .int 1000]) := ⟨_, rfl⟩
  have rz : ∀ M' k, M'[k]? = some (.lst [.int 12, .int 4, .int 20, .int 100, .int 4, .int 1000000000000000000000000000000, .int 6, .int 12, .int 1000]) → reprD [.ob k] M' = .ok (.str z) M' := fun M' k h => by
    rw [hz]
    exact repr_l h rfl (by decide +kernel) (by decide)
  have loop := forD_none (body := onT (.name 3) (d_law_2 (gloOf K mg exs fls))) (fun ρ M => Bag M b ∧ ∃ x0 x2 x3 x4 x5 x6 x7 x8 x9 x10 x11, ρ = [x0, some (.ob b), x2, x3, x4, x5, x6, x7, x8, x9, x10, x11])
  have step : ∀ d ∈ rangeD 0 5, ∀ ρ M, (Bag M b ∧ ∃ x0 x2 x3 x4 x5 x6 x7 x8 x9 x10 x11, ρ = [x0, some (.ob b), x2, x3, x4, x5, x6, x7, x8, x9, x10, x11]) →
      ∃ ρ' M', onT (.name 3) (d_law_2 (gloOf K mg exs fls)) d ρ M = .fl .nx ρ' M' ∧ (Bag M' b ∧ ∃ x0 x2 x3 x4 x5 x6 x7 x8 x9 x10 x11, ρ' = [x0, some (.ob b), x2, x3, x4, x5, x6, x7, x8, x9, x10, x11]) := by
    rintro d _ ρ M ⟨hB, x0, x2, x3, x4, x5, x6, x7, x8, x9, x10, x11, rfl⟩
    obtain ⟨y2, y3, y4, y5, y6, y7, y8, y9, y10, y11, M', h, hB'⟩ := outer_ok R (t := d) (x0 := x0) (x2 := x2) (x3 := x3) (x4 := x4) (x5 := x5) (x6 := x6) (x7 := x7) (x8 := x8) (x9 := x9) (x10 := x10) (x11 := x11) hB
    exact ⟨_, _, h, hB', _, _, _, _, _, _, _, _, _, _, _, rfl⟩
  have a1 : ∀ X : Store, (M ++ X)[M.length]? = X[0]? := fun X => at_0
  have ev : ∃ M2, Bag M2 b ∧ g_law (gloOf K mg exs fls) [.ob 0] [.frl (ns.map D.int)] = finD (andThen (forD none (onT (.name 3) (d_law_2 (gloOf K mg exs fls))) (rangeD 0 5) [some (.ob 0), some (.ob b), some (.ob M.length), none, none, none, none, none, none, none, none, none] M2) (denSeq (denRet (dc (.bl true))) denNx)) := by
    refine ⟨_, hb.app [.lst [.int 12, .int 4, .int 20, .int 100, .int 4, .int 1000000000000000000000000000000, .int 6, .int 12, .int 1000], .lst [.int 12, .int 4, .int 20, .int 100, .int 4, .int 1000000000000000000000000000000, .int 6, .int 12, .int 1000]], ?_⟩
    simp [g_law, d_law, startE, arity, e, newL_small, op_powI, List.append_assoc, rz, at_0, at_k, cmp_str, itRange1]
  obtain ⟨M2, hB2, ev⟩ := ev
  obtain ⟨ρ', M', h1, _, x0, x2, x3, x4, x5, x6, x7, x8, x9, x10, x11, rfl⟩ := loop (rangeD 0 5) _ M2 step ⟨hB2, some (.ob 0), some (.ob M.length), none, none, none, none, none, none, none, none, none, rfl⟩
  refine ⟨M', ?_⟩
  rw [ev, h1]
  rfl
end
end K39

namespace K39
open PySem PySem.Spec PyProof.Rows L2 RI
/-! ### isinstance -/
def rowT (c : Str) (i : Int) : List (Cid × Cid × Bool) := [(.own c, .own "BadDealing", PyData.eqv (.int 0) (.int i)), (.own c, .own "BadRing", PyData.eqv (.int 1) (.int i)), (.own c, .own "BadString", PyData.eqv (.int 2) (.int i)), (.own c, .own "BadTakers", PyData.eqv (.int 3) (.int i)), (.own c, .own "BadText", PyData.eqv (.int 4) (.int i)), (.own c, .own "BadWeights", PyData.eqv (.int 5) (.int i)), (.own c, .own "Full", PyData.eqv (.int 6) (.int i)), (.own c, .own "NoBack", PyData.eqv (.int 7) (.int i)), (.own c, .own "NoChoice", PyData.eqv (.int 8) (.int i)), (.own c, .own "NoDealing", PyData.eqv (.int 9) (.int i)), (.own c, .own "NothingToUndo", PyData.eqv (.int 10) (.int i)), (.own c, .own "Odd", PyData.eqv (.int 11) (.int i)), (.own c, .own "NoPlace", PyData.eqv (.int 12) (.int i)), (.own c, .own "NoRun", PyData.eqv (.int 13) (.int i)), (.own c, .own "ShareError", decide (i < 12)), (.own c, .ty "ValueError", decide (i < 12)), (.own c, .ty "LookupError", !decide (i < 12))]
theorem row_of {G : Glo} {c : Str} {i : Int} (hx : G.isExn c = true) (h : ∀ t k b, (t, k, b) ∈ rowT c i → G.isi t k = some b) : Row G c i := by
  refine ⟨hx, ?_, ?_, ?_, ?_, ?_, ?_, ?_, ?_, ?_, ?_, ?_, ?_, ?_, ?_, ?_, ?_, ?_⟩
  all_goals exact h _ _ _ (by simp [rowT])
def isiT : List (Cid × Cid × Bool) := [rowT "BadDealing" 0, rowT "BadRing" 1, rowT "BadString" 2, rowT "BadTakers" 3, rowT "BadText" 4, rowT "BadWeights" 5, rowT "Full" 6, rowT "NoBack" 7, rowT "NoChoice" 8, rowT "NoDealing" 9, rowT "NothingToUndo" 10, rowT "Odd" 11, rowT "NoPlace" 12, rowT "NoRun" 13].flatten
theorem all_mk {l : PySem.W.OpenLaw} {w : World} {K : PySem.W.Frag} {h : Heap} {mg : Str → Option Value} {fa : Addr} (X : K.In h) (G : h.Ns mainGlobals mg) (hfa : mg "law" = some (.ref fa)) {C_ShareError C_BadDealing C_BadRing C_BadString C_BadTakers C_BadText C_BadWeights C_Full C_NoBack C_NoChoice C_NoDealing C_NothingToUndo C_Odd C_NoPlace C_NoRun f_BadDealing f_BadString f_BadTakers f_BadText f_BadWeights f_NoBack f_NoChoice f_NoDealing f_Odd f_NoPlace f_NoRun f__law_bag f__law_draw f__law_pick f__law_odd f__law_sorts f__law_made f_law : Addr}
    (a_ShareError : PySem.W.nsIn K mainGlobals "ShareError" = some (some (.ref C_ShareError)))
    (l_ShareError : ExcCls K C_ShareError [] tailVE "ValueError.__new__")
    (e_ShareError : exB K C_ShareError = true)
    (a_BadDealing : PySem.W.nsIn K mainGlobals "BadDealing" = some (some (.ref C_BadDealing)))
    (l_BadDealing : ExcCls K C_BadDealing [C_ShareError] tailVE "ValueError.__new__")
    (e_BadDealing : exB K C_BadDealing = true)
    (n_BadDealing_word : PySem.W.findIn K (.ref C_BadDealing) "word" = some none)
    (i_BadDealing : PySem.W.findIn K (.ref C_BadDealing) "__init__" = some (some (.ref f_BadDealing)))
    (t_BadDealing : PySem.W.typeIn K (.ref f_BadDealing) = some (.type "function"))
    (f_BadDealing_ : ∃ fd, Fun K "__init__" "BadDealing.__init__" (inClass (top 2) 0) f_BadDealing fd)
    (a_BadRing : PySem.W.nsIn K mainGlobals "BadRing" = some (some (.ref C_BadRing)))
    (l_BadRing : ExcCls K C_BadRing [C_ShareError] tailVE "ValueError.__new__")
    (e_BadRing : exB K C_BadRing = true)
    (x_BadRing : PySem.W.excIn K C_BadRing tailVE "ValueError.__new__" = true)
    (a_BadString : PySem.W.nsIn K mainGlobals "BadString" = some (some (.ref C_BadString)))
    (l_BadString : ExcCls K C_BadString [C_ShareError] tailVE "ValueError.__new__")
    (e_BadString : exB K C_BadString = true)
    (n_BadString_number : PySem.W.findIn K (.ref C_BadString) "number" = some none)
    (n_BadString_word : PySem.W.findIn K (.ref C_BadString) "word" = some none)
    (i_BadString : PySem.W.findIn K (.ref C_BadString) "__init__" = some (some (.ref f_BadString)))
    (t_BadString : PySem.W.typeIn K (.ref f_BadString) = some (.type "function"))
    (f_BadString_ : ∃ fd, Fun K "__init__" "BadString.__init__" (inClass (top 4) 0) f_BadString fd)
    (a_BadTakers : PySem.W.nsIn K mainGlobals "BadTakers" = some (some (.ref C_BadTakers)))
    (l_BadTakers : ExcCls K C_BadTakers [C_ShareError] tailVE "ValueError.__new__")
    (e_BadTakers : exB K C_BadTakers = true)
    (n_BadTakers_many : PySem.W.findIn K (.ref C_BadTakers) "many" = some none)
    (i_BadTakers : PySem.W.findIn K (.ref C_BadTakers) "__init__" = some (some (.ref f_BadTakers)))
    (t_BadTakers : PySem.W.typeIn K (.ref f_BadTakers) = some (.type "function"))
    (f_BadTakers_ : ∃ fd, Fun K "__init__" "BadTakers.__init__" (inClass (top 5) 0) f_BadTakers fd)
    (a_BadText : PySem.W.nsIn K mainGlobals "BadText" = some (some (.ref C_BadText)))
    (l_BadText : ExcCls K C_BadText [C_ShareError] tailVE "ValueError.__new__")
    (e_BadText : exB K C_BadText = true)
    (n_BadText_number : PySem.W.findIn K (.ref C_BadText) "number" = some none)
    (i_BadText : PySem.W.findIn K (.ref C_BadText) "__init__" = some (some (.ref f_BadText)))
    (t_BadText : PySem.W.typeIn K (.ref f_BadText) = some (.type "function"))
    (f_BadText_ : ∃ fd, Fun K "__init__" "BadText.__init__" (inClass (top 6) 0) f_BadText fd)
    (a_BadWeights : PySem.W.nsIn K mainGlobals "BadWeights" = some (some (.ref C_BadWeights)))
    (l_BadWeights : ExcCls K C_BadWeights [C_ShareError] tailVE "ValueError.__new__")
    (e_BadWeights : exB K C_BadWeights = true)
    (n_BadWeights_weights : PySem.W.findIn K (.ref C_BadWeights) "weights" = some none)
    (i_BadWeights : PySem.W.findIn K (.ref C_BadWeights) "__init__" = some (some (.ref f_BadWeights)))
    (t_BadWeights : PySem.W.typeIn K (.ref f_BadWeights) = some (.type "function"))
    (f_BadWeights_ : ∃ fd, Fun K "__init__" "BadWeights.__init__" (inClass (top 7) 0) f_BadWeights fd)
    (a_Full : PySem.W.nsIn K mainGlobals "Full" = some (some (.ref C_Full)))
    (l_Full : ExcCls K C_Full [C_ShareError] tailVE "ValueError.__new__")
    (e_Full : exB K C_Full = true)
    (x_Full : PySem.W.excIn K C_Full tailVE "ValueError.__new__" = true)
    (a_NoBack : PySem.W.nsIn K mainGlobals "NoBack" = some (some (.ref C_NoBack)))
    (l_NoBack : ExcCls K C_NoBack [C_ShareError] tailVE "ValueError.__new__")
    (e_NoBack : exB K C_NoBack = true)
    (n_NoBack_many : PySem.W.findIn K (.ref C_NoBack) "many" = some none)
    (i_NoBack : PySem.W.findIn K (.ref C_NoBack) "__init__" = some (some (.ref f_NoBack)))
    (t_NoBack : PySem.W.typeIn K (.ref f_NoBack) = some (.type "function"))
    (f_NoBack_ : ∃ fd, Fun K "__init__" "NoBack.__init__" (inClass (top 9) 0) f_NoBack fd)
    (a_NoChoice : PySem.W.nsIn K mainGlobals "NoChoice" = some (some (.ref C_NoChoice)))
    (l_NoChoice : ExcCls K C_NoChoice [C_ShareError] tailVE "ValueError.__new__")
    (e_NoChoice : exB K C_NoChoice = true)
    (n_NoChoice_choice : PySem.W.findIn K (.ref C_NoChoice) "choice" = some none)
    (i_NoChoice : PySem.W.findIn K (.ref C_NoChoice) "__init__" = some (some (.ref f_NoChoice)))
    (t_NoChoice : PySem.W.typeIn K (.ref f_NoChoice) = some (.type "function"))
    (f_NoChoice_ : ∃ fd, Fun K "__init__" "NoChoice.__init__" (inClass (top 10) 0) f_NoChoice fd)
    (a_NoDealing : PySem.W.nsIn K mainGlobals "NoDealing" = some (some (.ref C_NoDealing)))
    (l_NoDealing : ExcCls K C_NoDealing [C_ShareError] tailVE "ValueError.__new__")
    (e_NoDealing : exB K C_NoDealing = true)
    (n_NoDealing_cuts : PySem.W.findIn K (.ref C_NoDealing) "cuts" = some none)
    (i_NoDealing : PySem.W.findIn K (.ref C_NoDealing) "__init__" = some (some (.ref f_NoDealing)))
    (t_NoDealing : PySem.W.typeIn K (.ref f_NoDealing) = some (.type "function"))
    (f_NoDealing_ : ∃ fd, Fun K "__init__" "NoDealing.__init__" (inClass (top 11) 0) f_NoDealing fd)
    (a_NothingToUndo : PySem.W.nsIn K mainGlobals "NothingToUndo" = some (some (.ref C_NothingToUndo)))
    (l_NothingToUndo : ExcCls K C_NothingToUndo [C_ShareError] tailVE "ValueError.__new__")
    (e_NothingToUndo : exB K C_NothingToUndo = true)
    (x_NothingToUndo : PySem.W.excIn K C_NothingToUndo tailVE "ValueError.__new__" = true)
    (a_Odd : PySem.W.nsIn K mainGlobals "Odd" = some (some (.ref C_Odd)))
    (l_Odd : ExcCls K C_Odd [C_ShareError] tailVE "ValueError.__new__")
    (e_Odd : exB K C_Odd = true)
    (n_Odd_kind : PySem.W.findIn K (.ref C_Odd) "kind" = some none)
    (i_Odd : PySem.W.findIn K (.ref C_Odd) "__init__" = some (some (.ref f_Odd)))
    (t_Odd : PySem.W.typeIn K (.ref f_Odd) = some (.type "function"))
    (f_Odd_ : ∃ fd, Fun K "__init__" "Odd.__init__" (inClass (top 13) 0) f_Odd fd)
    (a_NoPlace : PySem.W.nsIn K mainGlobals "NoPlace" = some (some (.ref C_NoPlace)))
    (l_NoPlace : ExcCls K C_NoPlace [] tailLE "LookupError.__new__")
    (e_NoPlace : exB K C_NoPlace = true)
    (n_NoPlace_value : PySem.W.findIn K (.ref C_NoPlace) "value" = some none)
    (i_NoPlace : PySem.W.findIn K (.ref C_NoPlace) "__init__" = some (some (.ref f_NoPlace)))
    (t_NoPlace : PySem.W.typeIn K (.ref f_NoPlace) = some (.type "function"))
    (f_NoPlace_ : ∃ fd, Fun K "__init__" "NoPlace.__init__" (inClass (top 14) 0) f_NoPlace fd)
    (a_NoRun : PySem.W.nsIn K mainGlobals "NoRun" = some (some (.ref C_NoRun)))
    (l_NoRun : ExcCls K C_NoRun [] tailLE "LookupError.__new__")
    (e_NoRun : exB K C_NoRun = true)
    (n_NoRun_number : PySem.W.findIn K (.ref C_NoRun) "number" = some none)
    (i_NoRun : PySem.W.findIn K (.ref C_NoRun) "__init__" = some (some (.ref f_NoRun)))
    (t_NoRun : PySem.W.typeIn K (.ref f_NoRun) = some (.type "function"))
    (f_NoRun_ : ∃ fd, Fun K "__init__" "NoRun.__init__" (inClass (top 15) 0) f_NoRun fd)
    (a__law_bag : PySem.W.nsIn K mainGlobals "_law_bag" = some (some (.ref f__law_bag)))
    (k__law_bag : PySem.W.keepIn K (.ref f__law_bag) = true)
    (f__law_bag_ : ∃ fd, Fun K "_law_bag" "_law_bag" (top 26) f__law_bag fd)
    (a__law_draw : PySem.W.nsIn K mainGlobals "_law_draw" = some (some (.ref f__law_draw)))
    (k__law_draw : PySem.W.keepIn K (.ref f__law_draw) = true)
    (f__law_draw_ : ∃ fd, Fun K "_law_draw" "_law_draw" (top 27) f__law_draw fd)
    (a__law_pick : PySem.W.nsIn K mainGlobals "_law_pick" = some (some (.ref f__law_pick)))
    (k__law_pick : PySem.W.keepIn K (.ref f__law_pick) = true)
    (f__law_pick_ : ∃ fd, Fun K "_law_pick" "_law_pick" (top 28) f__law_pick fd)
    (a__law_odd : PySem.W.nsIn K mainGlobals "_law_odd" = some (some (.ref f__law_odd)))
    (k__law_odd : PySem.W.keepIn K (.ref f__law_odd) = true)
    (f__law_odd_ : ∃ fd, Fun K "_law_odd" "_law_odd" (top 29) f__law_odd fd)
    (a__law_sorts : PySem.W.nsIn K mainGlobals "_law_sorts" = some (some (.ref f__law_sorts)))
    (k__law_sorts : PySem.W.keepIn K (.ref f__law_sorts) = true)
    (f__law_sorts_ : ∃ fd, Fun K "_law_sorts" "_law_sorts" (top 30) f__law_sorts fd)
    (a__law_made : PySem.W.nsIn K mainGlobals "_law_made" = some (some (.ref f__law_made)))
    (k__law_made : PySem.W.keepIn K (.ref f__law_made) = true)
    (f__law_made_ : ∃ fd, Fun K "_law_made" "_law_made" (top 31) f__law_made fd)
    (a_law : PySem.W.nsIn K mainGlobals "law" = some (some (.ref f_law)))
    (k_law : PySem.W.keepIn K (.ref f_law) = true)
    (f_law_ : ∃ fd, Fun K "law" "law" (top 32) f_law fd)
    (v_MAX_BOTTOM_ : ∃ t, PySem.W.nsIn K mainGlobals "MAX_BOTTOM" = some (some (.int 12 t)))
    (v_MAX_CUTS_ : ∃ t, PySem.W.nsIn K mainGlobals "MAX_CUTS" = some (some (.int 4 t)))
    (v_MAX_EDITS_ : ∃ t, PySem.W.nsIn K mainGlobals "MAX_EDITS" = some (some (.int 20 t)))
    (v_MAX_FACTOR_ : ∃ t, PySem.W.nsIn K mainGlobals "MAX_FACTOR" = some (some (.int 100 t)))
    (v_MAX_KINDS_ : ∃ t, PySem.W.nsIn K mainGlobals "MAX_KINDS" = some (some (.int 4 t)))
    (v_MAX_LENGTH_ : ∃ t, PySem.W.nsIn K mainGlobals "MAX_LENGTH" = some (some (.int 1000000000000000000000000000000 t)))
    (v_MAX_RUNS_ : ∃ t, PySem.W.nsIn K mainGlobals "MAX_RUNS" = some (some (.int 6 t)))
    (v_MAX_STEP_ : ∃ t, PySem.W.nsIn K mainGlobals "MAX_STEP" = some (some (.int 12 t)))
    (v_MAX_WEIGHT_ : ∃ t, PySem.W.nsIn K mainGlobals "MAX_WEIGHT" = some (some (.int 1000 t)))
    (z_LookupError : PySem.W.nsIn K mainGlobals "LookupError" = some none)
    (z_ValueError : PySem.W.nsIn K mainGlobals "ValueError" = some none)
    (z_abs : PySem.W.nsIn K mainGlobals "abs" = some none)
    (z_enumerate : PySem.W.nsIn K mainGlobals "enumerate" = some none)
    (z_int : PySem.W.nsIn K mainGlobals "int" = some none)
    (z_isinstance : PySem.W.nsIn K mainGlobals "isinstance" = some none)
    (z_len : PySem.W.nsIn K mainGlobals "len" = some none)
    (z_range : PySem.W.nsIn K mainGlobals "range" = some none)
    (z_repr : PySem.W.nsIn K mainGlobals "repr" = some none)
    (isi_ : isiChk K [("ShareError", C_ShareError), ("BadDealing", C_BadDealing), ("BadRing", C_BadRing), ("BadString", C_BadString), ("BadTakers", C_BadTakers), ("BadText", C_BadText), ("BadWeights", C_BadWeights), ("Full", C_Full), ("NoBack", C_NoBack), ("NoChoice", C_NoChoice), ("NoDealing", C_NoDealing), ("NothingToUndo", C_NothingToUndo), ("Odd", C_Odd), ("NoPlace", C_NoPlace), ("NoRun", C_NoRun)] isiT = true)
    : ∃ (fd : FuncData) (cl : ClsA) (g : List D → Store → Out D), (∀ (s : Shared) (u : Value), BindsTo s fd ⟨[u], []⟩ [("_law_script", u)]) ∧ (∀ ns : List Int, ns.length ≤ 63 → ∃ M, g [.ob 0] [.frl (ns.map D.int)] = .ok (.bl true) M) ∧
      ∀ base : Heap, K.In base → base.Ns mainGlobals mg → FnG l.prog w K mg base cl 4 fa fd ["_law_script"] g := by
  have e := hfa.symm.trans (PySem.W.mg_of X G a_law)
  cases e
  have m_ShareError := PySem.W.mg_of X G a_ShareError
  have T_ShareError : ExC K C_ShareError := l_ShareError.exC ExG.base_VE e_ShareError
  have m_BadDealing := PySem.W.mg_of X G a_BadDealing
  have T_BadDealing : ExC K C_BadDealing := l_BadDealing.exC ExG.base_VE e_BadDealing
  have m_BadRing := PySem.W.mg_of X G a_BadRing
  have T_BadRing : ExC K C_BadRing := l_BadRing.exC ExG.base_VE e_BadRing
  have m_BadString := PySem.W.mg_of X G a_BadString
  have T_BadString : ExC K C_BadString := l_BadString.exC ExG.base_VE e_BadString
  have m_BadTakers := PySem.W.mg_of X G a_BadTakers
  have T_BadTakers : ExC K C_BadTakers := l_BadTakers.exC ExG.base_VE e_BadTakers
  have m_BadText := PySem.W.mg_of X G a_BadText
  have T_BadText : ExC K C_BadText := l_BadText.exC ExG.base_VE e_BadText
  have m_BadWeights := PySem.W.mg_of X G a_BadWeights
  have T_BadWeights : ExC K C_BadWeights := l_BadWeights.exC ExG.base_VE e_BadWeights
  have m_Full := PySem.W.mg_of X G a_Full
  have T_Full : ExC K C_Full := l_Full.exC ExG.base_VE e_Full
  have m_NoBack := PySem.W.mg_of X G a_NoBack
  have T_NoBack : ExC K C_NoBack := l_NoBack.exC ExG.base_VE e_NoBack
  have m_NoChoice := PySem.W.mg_of X G a_NoChoice
  have T_NoChoice : ExC K C_NoChoice := l_NoChoice.exC ExG.base_VE e_NoChoice
  have m_NoDealing := PySem.W.mg_of X G a_NoDealing
  have T_NoDealing : ExC K C_NoDealing := l_NoDealing.exC ExG.base_VE e_NoDealing
  have m_NothingToUndo := PySem.W.mg_of X G a_NothingToUndo
  have T_NothingToUndo : ExC K C_NothingToUndo := l_NothingToUndo.exC ExG.base_VE e_NothingToUndo
  have m_Odd := PySem.W.mg_of X G a_Odd
  have T_Odd : ExC K C_Odd := l_Odd.exC ExG.base_VE e_Odd
  have m_NoPlace := PySem.W.mg_of X G a_NoPlace
  have T_NoPlace : ExC K C_NoPlace := l_NoPlace.exC ExG.base_LE e_NoPlace
  have m_NoRun := PySem.W.mg_of X G a_NoRun
  have T_NoRun : ExC K C_NoRun := l_NoRun.exC ExG.base_LE e_NoRun
  have hX : AllX K mg exs := allX_cons m_ShareError T_ShareError (allX_cons m_BadDealing T_BadDealing (allX_cons m_BadRing T_BadRing (allX_cons m_BadString T_BadString (allX_cons m_BadTakers T_BadTakers (allX_cons m_BadText T_BadText (allX_cons m_BadWeights T_BadWeights (allX_cons m_Full T_Full (allX_cons m_NoBack T_NoBack (allX_cons m_NoChoice T_NoChoice (allX_cons m_NoDealing T_NoDealing (allX_cons m_NothingToUndo T_NothingToUndo (allX_cons m_Odd T_Odd (allX_cons m_NoPlace T_NoPlace (allX_cons m_NoRun T_NoRun (allX_nil)))))))))))))))
  have hF : AllF K mg fls := allF_cons m_BadDealing n_BadDealing_word (allF_cons m_BadString n_BadString_number (allF_cons m_BadString n_BadString_word (allF_cons m_BadTakers n_BadTakers_many (allF_cons m_BadText n_BadText_number (allF_cons m_BadWeights n_BadWeights_weights (allF_cons m_NoBack n_NoBack_many (allF_cons m_NoChoice n_NoChoice_choice (allF_cons m_NoDealing n_NoDealing_cuts (allF_cons m_Odd n_Odd_kind (allF_cons m_NoPlace n_NoPlace_value (allF_cons m_NoRun n_NoRun_number (allF_nil))))))))))))
  have hM : AllM mg [("ShareError", C_ShareError), ("BadDealing", C_BadDealing), ("BadRing", C_BadRing), ("BadString", C_BadString), ("BadTakers", C_BadTakers), ("BadText", C_BadText), ("BadWeights", C_BadWeights), ("Full", C_Full), ("NoBack", C_NoBack), ("NoChoice", C_NoChoice), ("NoDealing", C_NoDealing), ("NothingToUndo", C_NothingToUndo), ("Odd", C_Odd), ("NoPlace", C_NoPlace), ("NoRun", C_NoRun)] := allM_cons m_ShareError (allM_cons m_BadDealing (allM_cons m_BadRing (allM_cons m_BadString (allM_cons m_BadTakers (allM_cons m_BadText (allM_cons m_BadWeights (allM_cons m_Full (allM_cons m_NoBack (allM_cons m_NoChoice (allM_cons m_NoDealing (allM_cons m_NothingToUndo (allM_cons m_Odd (allM_cons m_NoPlace (allM_cons m_NoRun (allM_nil)))))))))))))))
  have T : Txt K mg := {
    O := isiOk_of hX
    F := fldOk_of hF
    b_LookupError := PySem.W.mg_none_of X G z_LookupError
    b_ValueError := PySem.W.mg_none_of X G z_ValueError
    b_abs := PySem.W.mg_none_of X G z_abs
    b_enumerate := PySem.W.mg_none_of X G z_enumerate
    b_int := PySem.W.mg_none_of X G z_int
    b_isinstance := PySem.W.mg_none_of X G z_isinstance
    b_len := PySem.W.mg_none_of X G z_len
    b_range := PySem.W.mg_none_of X G z_range
    b_repr := PySem.W.mg_none_of X G z_repr
    c_MAX_BOTTOM := let ⟨t, e⟩ := v_MAX_BOTTOM_; ⟨t, PySem.W.mg_of X G e⟩
    c_MAX_CUTS := let ⟨t, e⟩ := v_MAX_CUTS_; ⟨t, PySem.W.mg_of X G e⟩
    c_MAX_EDITS := let ⟨t, e⟩ := v_MAX_EDITS_; ⟨t, PySem.W.mg_of X G e⟩
    c_MAX_FACTOR := let ⟨t, e⟩ := v_MAX_FACTOR_; ⟨t, PySem.W.mg_of X G e⟩
    c_MAX_KINDS := let ⟨t, e⟩ := v_MAX_KINDS_; ⟨t, PySem.W.mg_of X G e⟩
    c_MAX_LENGTH := let ⟨t, e⟩ := v_MAX_LENGTH_; ⟨t, PySem.W.mg_of X G e⟩
    c_MAX_RUNS := let ⟨t, e⟩ := v_MAX_RUNS_; ⟨t, PySem.W.mg_of X G e⟩
    c_MAX_STEP := let ⟨t, e⟩ := v_MAX_STEP_; ⟨t, PySem.W.mg_of X G e⟩
    c_MAX_WEIGHT := let ⟨t, e⟩ := v_MAX_WEIGHT_; ⟨t, PySem.W.mg_of X G e⟩
    g_BadDealing := ⟨_, m_BadDealing⟩
    g_BadRing := ⟨_, m_BadRing⟩
    g_BadString := ⟨_, m_BadString⟩
    g_BadTakers := ⟨_, m_BadTakers⟩
    g_BadText := ⟨_, m_BadText⟩
    g_BadWeights := ⟨_, m_BadWeights⟩
    g_Full := ⟨_, m_Full⟩
    g_NoBack := ⟨_, m_NoBack⟩
    g_NoChoice := ⟨_, m_NoChoice⟩
    g_NoDealing := ⟨_, m_NoDealing⟩
    g_NoPlace := ⟨_, m_NoPlace⟩
    g_NoRun := ⟨_, m_NoRun⟩
    g_NothingToUndo := ⟨_, m_NothingToUndo⟩
    g_Odd := ⟨_, m_Odd⟩
    g_ShareError := ⟨_, m_ShareError⟩
    x_BadRing := xc0_mk m_BadRing T_BadRing F.excBase_ValueError x_BadRing
    x_Full := xc0_mk m_Full T_Full F.excBase_ValueError x_Full
    x_NothingToUndo := xc0_mk m_NothingToUndo T_NothingToUndo F.excBase_ValueError x_NothingToUndo
  }
  obtain ⟨d_BadDealing, F_BadDealing⟩ := f_BadDealing_
  have b_BadDealing := F_BadDealing.binds (ps := ["self", "word"]) fun _ _ _ _ _ _ us hl => match us, hl with | [_, _], _ => rfl
  obtain ⟨d_BadString, F_BadString⟩ := f_BadString_
  have b_BadString := F_BadString.binds (ps := ["self", "number", "word"]) fun _ _ _ _ _ _ us hl => match us, hl with | [_, _, _], _ => rfl
  obtain ⟨d_BadTakers, F_BadTakers⟩ := f_BadTakers_
  have b_BadTakers := F_BadTakers.binds (ps := ["self", "many"]) fun _ _ _ _ _ _ us hl => match us, hl with | [_, _], _ => rfl
  obtain ⟨d_BadText, F_BadText⟩ := f_BadText_
  have b_BadText := F_BadText.binds (ps := ["self", "number"]) fun _ _ _ _ _ _ us hl => match us, hl with | [_, _], _ => rfl
  obtain ⟨d_BadWeights, F_BadWeights⟩ := f_BadWeights_
  have b_BadWeights := F_BadWeights.binds (ps := ["self", "weights"]) fun _ _ _ _ _ _ us hl => match us, hl with | [_, _], _ => rfl
  obtain ⟨d_NoBack, F_NoBack⟩ := f_NoBack_
  have b_NoBack := F_NoBack.binds (ps := ["self", "many"]) fun _ _ _ _ _ _ us hl => match us, hl with | [_, _], _ => rfl
  obtain ⟨d_NoChoice, F_NoChoice⟩ := f_NoChoice_
  have b_NoChoice := F_NoChoice.binds (ps := ["self", "choice"]) fun _ _ _ _ _ _ us hl => match us, hl with | [_, _], _ => rfl
  obtain ⟨d_NoDealing, F_NoDealing⟩ := f_NoDealing_
  have b_NoDealing := F_NoDealing.binds (ps := ["self", "cuts"]) fun _ _ _ _ _ _ us hl => match us, hl with | [_, _], _ => rfl
  obtain ⟨d_Odd, F_Odd⟩ := f_Odd_
  have b_Odd := F_Odd.binds (ps := ["self", "kind"]) fun _ _ _ _ _ _ us hl => match us, hl with | [_, _], _ => rfl
  obtain ⟨d_NoPlace, F_NoPlace⟩ := f_NoPlace_
  have b_NoPlace := F_NoPlace.binds (ps := ["self", "value"]) fun _ _ _ _ _ _ us hl => match us, hl with | [_, _], _ => rfl
  obtain ⟨d_NoRun, F_NoRun⟩ := f_NoRun_
  have b_NoRun := F_NoRun.binds (ps := ["self", "number"]) fun _ _ _ _ _ _ us hl => match us, hl with | [_, _], _ => rfl
  obtain ⟨d__law_bag, F__law_bag⟩ := f__law_bag_
  have b__law_bag := F__law_bag.binds (ps := ["_law_script"]) fun _ _ _ _ _ _ us hl => match us, hl with | [_], _ => rfl
  obtain ⟨d__law_draw, F__law_draw⟩ := f__law_draw_
  have b__law_draw := F__law_draw.binds (ps := ["_law_bag_here", "_law_many"]) fun _ _ _ _ _ _ us hl => match us, hl with | [_, _], _ => rfl
  obtain ⟨d__law_pick, F__law_pick⟩ := f__law_pick_
  have b__law_pick := F__law_pick.binds (ps := ["_law_bag_here", "_law_items"]) fun _ _ _ _ _ _ us hl => match us, hl with | [_, _], _ => rfl
  obtain ⟨d__law_odd, F__law_odd⟩ := f__law_odd_
  have b__law_odd := F__law_odd.binds (ps := ["_law_bag_here"]) fun _ _ _ _ _ _ us hl => match us, hl with | [_], _ => rfl
  obtain ⟨d__law_sorts, F__law_sorts⟩ := f__law_sorts_
  have b__law_sorts := F__law_sorts.binds (ps := ["_law_error"]) fun _ _ _ _ _ _ us hl => match us, hl with | [_], _ => rfl
  obtain ⟨d__law_made, F__law_made⟩ := f__law_made_
  have b__law_made := F__law_made.binds (ps := ["_law_p", "_law_q"]) fun _ _ _ _ _ _ us hl => match us, hl with | [_, _], _ => rfl
  obtain ⟨d_law, F_law⟩ := f_law_
  have hlaw : ∀ base : Heap, K.In base → base.Ns mainGlobals mg → FnG l.prog w K mg base (clOf mg) 4 fa d_law ["_law_script"] (g_law (gloOf K mg exs fls)) := fun base _ _ => by
    have B_BadDealing : XcB l.prog w K mg base (clOf mg) 1 "BadDealing" _ (g_BadDealing (gloOf K mg exs fls)) := ⟨_, _, _, m_BadDealing, clOf_of _ _ m_BadDealing, T_BadDealing, i_BadDealing, t_BadDealing, b_BadDealing, ok_BadDealing (P := l.prog) (w := w) (base := base) T   F_BadDealing⟩
    have B_BadString : XcB l.prog w K mg base (clOf mg) 1 "BadString" _ (g_BadString (gloOf K mg exs fls)) := ⟨_, _, _, m_BadString, clOf_of _ _ m_BadString, T_BadString, i_BadString, t_BadString, b_BadString, ok_BadString (P := l.prog) (w := w) (base := base) T   F_BadString⟩
    have B_BadTakers : XcB l.prog w K mg base (clOf mg) 1 "BadTakers" _ (g_BadTakers (gloOf K mg exs fls)) := ⟨_, _, _, m_BadTakers, clOf_of _ _ m_BadTakers, T_BadTakers, i_BadTakers, t_BadTakers, b_BadTakers, ok_BadTakers (P := l.prog) (w := w) (base := base) T   F_BadTakers⟩
    have B_BadText : XcB l.prog w K mg base (clOf mg) 1 "BadText" _ (g_BadText (gloOf K mg exs fls)) := ⟨_, _, _, m_BadText, clOf_of _ _ m_BadText, T_BadText, i_BadText, t_BadText, b_BadText, ok_BadText (P := l.prog) (w := w) (base := base) T   F_BadText⟩
    have B_BadWeights : XcB l.prog w K mg base (clOf mg) 1 "BadWeights" _ (g_BadWeights (gloOf K mg exs fls)) := ⟨_, _, _, m_BadWeights, clOf_of _ _ m_BadWeights, T_BadWeights, i_BadWeights, t_BadWeights, b_BadWeights, ok_BadWeights (P := l.prog) (w := w) (base := base) T   F_BadWeights⟩
    have B_NoBack : XcB l.prog w K mg base (clOf mg) 1 "NoBack" _ (g_NoBack (gloOf K mg exs fls)) := ⟨_, _, _, m_NoBack, clOf_of _ _ m_NoBack, T_NoBack, i_NoBack, t_NoBack, b_NoBack, ok_NoBack (P := l.prog) (w := w) (base := base) T   F_NoBack⟩
    have B_NoChoice : XcB l.prog w K mg base (clOf mg) 1 "NoChoice" _ (g_NoChoice (gloOf K mg exs fls)) := ⟨_, _, _, m_NoChoice, clOf_of _ _ m_NoChoice, T_NoChoice, i_NoChoice, t_NoChoice, b_NoChoice, ok_NoChoice (P := l.prog) (w := w) (base := base) T   F_NoChoice⟩
    have B_NoDealing : XcB l.prog w K mg base (clOf mg) 1 "NoDealing" _ (g_NoDealing (gloOf K mg exs fls)) := ⟨_, _, _, m_NoDealing, clOf_of _ _ m_NoDealing, T_NoDealing, i_NoDealing, t_NoDealing, b_NoDealing, ok_NoDealing (P := l.prog) (w := w) (base := base) T   F_NoDealing⟩
    have B_Odd : XcB l.prog w K mg base (clOf mg) 1 "Odd" _ (g_Odd (gloOf K mg exs fls)) := ⟨_, _, _, m_Odd, clOf_of _ _ m_Odd, T_Odd, i_Odd, t_Odd, b_Odd, ok_Odd (P := l.prog) (w := w) (base := base) T   F_Odd⟩
    have B_NoPlace : XcB l.prog w K mg base (clOf mg) 1 "NoPlace" _ (g_NoPlace (gloOf K mg exs fls)) := ⟨_, _, _, m_NoPlace, clOf_of _ _ m_NoPlace, T_NoPlace, i_NoPlace, t_NoPlace, b_NoPlace, ok_NoPlace (P := l.prog) (w := w) (base := base) T   F_NoPlace⟩
    have B_NoRun : XcB l.prog w K mg base (clOf mg) 1 "NoRun" _ (g_NoRun (gloOf K mg exs fls)) := ⟨_, _, _, m_NoRun, clOf_of _ _ m_NoRun, T_NoRun, i_NoRun, t_NoRun, b_NoRun, ok_NoRun (P := l.prog) (w := w) (base := base) T   F_NoRun⟩
    have B__law_bag : FnB l.prog w K mg base (clOf mg) 1 "_law_bag" _ (g__law_bag (gloOf K mg exs fls)) := ⟨_, _, PySem.W.mg_of X G a__law_bag, k__law_bag, b__law_bag, ok__law_bag (P := l.prog) (w := w) (base := base) T   F__law_bag⟩
    have B__law_draw : FnB l.prog w K mg base (clOf mg) 1 "_law_draw" _ (g__law_draw (gloOf K mg exs fls)) := ⟨_, _, PySem.W.mg_of X G a__law_draw, k__law_draw, b__law_draw, ok__law_draw (P := l.prog) (w := w) (base := base) T   F__law_draw⟩
    have B__law_pick : FnB l.prog w K mg base (clOf mg) 2 "_law_pick" _ (g__law_pick (gloOf K mg exs fls)) := ⟨_, _, PySem.W.mg_of X G a__law_pick, k__law_pick, b__law_pick, ok__law_pick (P := l.prog) (w := w) (base := base) T B__law_draw  F__law_pick⟩
    have B__law_odd : FnB l.prog w K mg base (clOf mg) 3 "_law_odd" _ (g__law_odd (gloOf K mg exs fls)) := ⟨_, _, PySem.W.mg_of X G a__law_odd, k__law_odd, b__law_odd, ok__law_odd (P := l.prog) (w := w) (base := base) T B__law_pick  F__law_odd⟩
    have B__law_sorts : FnB l.prog w K mg base (clOf mg) 1 "_law_sorts" _ (g__law_sorts (gloOf K mg exs fls)) := ⟨_, _, PySem.W.mg_of X G a__law_sorts, k__law_sorts, b__law_sorts, ok__law_sorts (P := l.prog) (w := w) (base := base) T   F__law_sorts⟩
    have B__law_made : FnB l.prog w K mg base (clOf mg) 3 "_law_made" _ (g__law_made (gloOf K mg exs fls)) := ⟨_, _, PySem.W.mg_of X G a__law_made, k__law_made, b__law_made, ok__law_made (P := l.prog) (w := w) (base := base) T  B_BadDealing B_BadString B_BadTakers B_BadText B_BadWeights B_NoBack B_NoChoice B_NoDealing B_NoPlace B_NoRun B_Odd F__law_made⟩
    exact ok_law (P := l.prog) (w := w) (base := base) T B__law_bag B__law_made B__law_odd B__law_pick B__law_sorts  F_law
  have hI : ∀ t k b, (t, k, b) ∈ isiT → (gloOf K mg exs fls).isi t k = some b := fun t k b hm => isi_tbl hM isi_ hm
  have hR : ∀ c i, rowT c i ∈ [rowT "BadDealing" 0, rowT "BadRing" 1, rowT "BadString" 2, rowT "BadTakers" 3, rowT "BadText" 4, rowT "BadWeights" 5, rowT "Full" 6, rowT "NoBack" 7, rowT "NoChoice" 8, rowT "NoDealing" 9, rowT "NothingToUndo" 10, rowT "Odd" 11, rowT "NoPlace" 12, rowT "NoRun" 13] → (gloOf K mg exs fls).isExn c = true → Row (gloOf K mg exs fls) c i := fun c i hm hx => row_of hx fun t k b hb => hI t k b (List.mem_flatten.mpr ⟨_, hm, hb⟩)
  have R : Rows (gloOf K mg exs fls) := ⟨hR "BadDealing" 0 (by simp) (isX _ (by decide +kernel)), hR "BadRing" 1 (by simp) (isX _ (by decide +kernel)), hR "BadString" 2 (by simp) (isX _ (by decide +kernel)), hR "BadTakers" 3 (by simp) (isX _ (by decide +kernel)), hR "BadText" 4 (by simp) (isX _ (by decide +kernel)), hR "BadWeights" 5 (by simp) (isX _ (by decide +kernel)), hR "Full" 6 (by simp) (isX _ (by decide +kernel)), hR "NoBack" 7 (by simp) (isX _ (by decide +kernel)), hR "NoChoice" 8 (by simp) (isX _ (by decide +kernel)), hR "NoDealing" 9 (by simp) (isX _ (by decide +kernel)), hR "NothingToUndo" 10 (by simp) (isX _ (by decide +kernel)), hR "Odd" 11 (by simp) (isX _ (by decide +kernel)), hR "NoPlace" 12 (by simp) (isX _ (by decide +kernel)), hR "NoRun" 13 (by simp) (isX _ (by decide +kernel))⟩
  refine ⟨d_law, clOf mg, g_law (gloOf K mg exs fls), fun s u => ?_, fun ns hn => law_ok R ns hn, hlaw⟩
  obtain ⟨oc, od, kV, doc, pm, an, cdv, ct, osl, rfl, lk, hcd⟩ := F_law.ex
  exact .of_eq rfl
theorem walk {l : PySem.W.OpenLaw} {q : Program} {loose : List Str} {XP : (Str → Option Value) → Heap → Prop} {YP : World → Heap → Prop} {d : DefRec} {K : Params → PySem.W.Frag} (hn : l.most = some 63) (hdf : d.params.defaults = [])
    (hY : ∀ (w : World) (h : Heap), YP w h → (K w.params).In h)
    (F : ∀ (w : World) (mg : Str → Option Value) (fa : Addr) (h : Heap), (K w.params).In h → h.Ns mainGlobals mg → mg d.name = some (.ref fa) →
      noLists (K w.params) = true ∧ ∃ (fd : FuncData) (cl : ClsA) (g : List D → Store → Out D), (∀ (s : Shared) (u : Value), BindsTo s fd ⟨[u], []⟩ [("_law_script", u)]) ∧ (∀ ns : List Int, ns.length ≤ 63 → ∃ M, g [.ob 0] [.frl (ns.map D.int)] = .ok (.bl true) M) ∧
        ∀ base : Heap, (K w.params).In base → base.Ns mainGlobals mg → FnG l.prog w (K w.params) mg base cl 4 fa fd ["_law_script"] g) :
    PySem.W.WalkO q loose XP YP l.row.toRowW d [] (fun f vs => PySem.call f vs) :=
  walk_ofG (n := 63) (k := 4) (x := "_law_script") hn (by decide) hdf ⟨rfl, by decide, by decide⟩ hY F
end K39
open PySem PySem.W PyProof.Rows in
set_option maxRecDepth 100000 in
set_option maxHeartbeats 0 in
theorem PySem.Challenge.cw_beadshares_k39_errors_and_bounds_holds : PySem.Challenge.rw_beadshares_k39_errors_and_bounds.Holds := by
  w_on; o_law; k_head; (case hw => w_witness2)
  k_fill
  refine K39.walk (l := PySem.Challenge.rw_beadshares_k39_errors_and_bounds) rfl rfl (fun w h Y => PySem.W.kIn_of Y) ?F
  case F =>
    intro w mg fa h KX G hmg
    refine ⟨by kernel_rfl, ?_⟩
    refine' K39.all_mk KX G hmg ?a_ShareError ?l_ShareError ?e_ShareError ?a_BadDealing ?l_BadDealing ?e_BadDealing ?n_BadDealing_word ?i_BadDealing ?t_BadDealing ?f_BadDealing_ ?a_BadRing ?l_BadRing ?e_BadRing ?x_BadRing ?a_BadString ?l_BadString ?e_BadString ?n_BadString_number ?n_BadString_word ?i_BadString ?t_BadString ?f_BadString_ ?a_BadTakers ?l_BadTakers ?e_BadTakers ?n_BadTakers_many ?i_BadTakers ?t_BadTakers ?f_BadTakers_ ?a_BadText ?l_BadText ?e_BadText ?n_BadText_number ?i_BadText ?t_BadText ?f_BadText_ ?a_BadWeights ?l_BadWeights ?e_BadWeights ?n_BadWeights_weights ?i_BadWeights ?t_BadWeights ?f_BadWeights_ ?a_Full ?l_Full ?e_Full ?x_Full ?a_NoBack ?l_NoBack ?e_NoBack ?n_NoBack_many ?i_NoBack ?t_NoBack ?f_NoBack_ ?a_NoChoice ?l_NoChoice ?e_NoChoice ?n_NoChoice_choice ?i_NoChoice ?t_NoChoice ?f_NoChoice_ ?a_NoDealing ?l_NoDealing ?e_NoDealing ?n_NoDealing_cuts ?i_NoDealing ?t_NoDealing ?f_NoDealing_ ?a_NothingToUndo ?l_NothingToUndo ?e_NothingToUndo ?x_NothingToUndo ?a_Odd ?l_Odd ?e_Odd ?n_Odd_kind ?i_Odd ?t_Odd ?f_Odd_ ?a_NoPlace ?l_NoPlace ?e_NoPlace ?n_NoPlace_value ?i_NoPlace ?t_NoPlace ?f_NoPlace_ ?a_NoRun ?l_NoRun ?e_NoRun ?n_NoRun_number ?i_NoRun ?t_NoRun ?f_NoRun_ ?a__law_bag ?k__law_bag ?f__law_bag_ ?a__law_draw ?k__law_draw ?f__law_draw_ ?a__law_pick ?k__law_pick ?f__law_pick_ ?a__law_odd ?k__law_odd ?f__law_odd_ ?a__law_sorts ?k__law_sorts ?f__law_sorts_ ?a__law_made ?k__law_made ?f__law_made_ ?a_law ?k_law ?f_law_ ?v_MAX_BOTTOM_ ?v_MAX_CUTS_ ?v_MAX_EDITS_ ?v_MAX_FACTOR_ ?v_MAX_KINDS_ ?v_MAX_LENGTH_ ?v_MAX_RUNS_ ?v_MAX_STEP_ ?v_MAX_WEIGHT_ ?z_LookupError ?z_ValueError ?z_abs ?z_enumerate ?z_int ?z_isinstance ?z_len ?z_range ?z_repr ?isi_
    (case a_ShareError => k_is)
    (case l_ShareError => exact ⟨_, _, _, _, _, _, _, _, _, _, _, _, _, _, by k_is⟩)
    (case e_ShareError => kernel_rfl)
    (case a_BadDealing => k_is)
    (case l_BadDealing => exact ⟨_, _, _, _, _, _, _, _, _, _, _, _, _, _, by k_is⟩)
    (case e_BadDealing => kernel_rfl)
    (case n_BadDealing_word => k_is)
    (case i_BadDealing => k_is)
    (case t_BadDealing => k_is)
    (case f_BadDealing_ => exact ⟨_, L2.fun_mk (by k_is) (by k_is) (by k_is)⟩)
    (case a_BadRing => k_is)
    (case l_BadRing => exact ⟨_, _, _, _, _, _, _, _, _, _, _, _, _, _, by k_is⟩)
    (case e_BadRing => kernel_rfl)
    (case x_BadRing => kernel_rfl)
    (case a_BadString => k_is)
    (case l_BadString => exact ⟨_, _, _, _, _, _, _, _, _, _, _, _, _, _, by k_is⟩)
    (case e_BadString => kernel_rfl)
    (case n_BadString_number => k_is)
    (case n_BadString_word => k_is)
    (case i_BadString => k_is)
    (case t_BadString => k_is)
    (case f_BadString_ => exact ⟨_, L2.fun_mk (by k_is) (by k_is) (by k_is)⟩)
    (case a_BadTakers => k_is)
    (case l_BadTakers => exact ⟨_, _, _, _, _, _, _, _, _, _, _, _, _, _, by k_is⟩)
    (case e_BadTakers => kernel_rfl)
    (case n_BadTakers_many => k_is)
    (case i_BadTakers => k_is)
    (case t_BadTakers => k_is)
    (case f_BadTakers_ => exact ⟨_, L2.fun_mk (by k_is) (by k_is) (by k_is)⟩)
    (case a_BadText => k_is)
    (case l_BadText => exact ⟨_, _, _, _, _, _, _, _, _, _, _, _, _, _, by k_is⟩)
    (case e_BadText => kernel_rfl)
    (case n_BadText_number => k_is)
    (case i_BadText => k_is)
    (case t_BadText => k_is)
    (case f_BadText_ => exact ⟨_, L2.fun_mk (by k_is) (by k_is) (by k_is)⟩)
    (case a_BadWeights => k_is)
    (case l_BadWeights => exact ⟨_, _, _, _, _, _, _, _, _, _, _, _, _, _, by k_is⟩)
    (case e_BadWeights => kernel_rfl)
    (case n_BadWeights_weights => k_is)
    (case i_BadWeights => k_is)
    (case t_BadWeights => k_is)
    (case f_BadWeights_ => exact ⟨_, L2.fun_mk (by k_is) (by k_is) (by k_is)⟩)
    (case a_Full => k_is)
    (case l_Full => exact ⟨_, _, _, _, _, _, _, _, _, _, _, _, _, _, by k_is⟩)
    (case e_Full => kernel_rfl)
    (case x_Full => kernel_rfl)
    (case a_NoBack => k_is)
    (case l_NoBack => exact ⟨_, _, _, _, _, _, _, _, _, _, _, _, _, _, by k_is⟩)
    (case e_NoBack => kernel_rfl)
    (case n_NoBack_many => k_is)
    (case i_NoBack => k_is)
    (case t_NoBack => k_is)
    (case f_NoBack_ => exact ⟨_, L2.fun_mk (by k_is) (by k_is) (by k_is)⟩)
    (case a_NoChoice => k_is)
    (case l_NoChoice => exact ⟨_, _, _, _, _, _, _, _, _, _, _, _, _, _, by k_is⟩)
    (case e_NoChoice => kernel_rfl)
    (case n_NoChoice_choice => k_is)
    (case i_NoChoice => k_is)
    (case t_NoChoice => k_is)
    (case f_NoChoice_ => exact ⟨_, L2.fun_mk (by k_is) (by k_is) (by k_is)⟩)
    (case a_NoDealing => k_is)
    (case l_NoDealing => exact ⟨_, _, _, _, _, _, _, _, _, _, _, _, _, _, by k_is⟩)
    (case e_NoDealing => kernel_rfl)
    (case n_NoDealing_cuts => k_is)
    (case i_NoDealing => k_is)
    (case t_NoDealing => k_is)
    (case f_NoDealing_ => exact ⟨_, L2.fun_mk (by k_is) (by k_is) (by k_is)⟩)
    (case a_NothingToUndo => k_is)
    (case l_NothingToUndo => exact ⟨_, _, _, _, _, _, _, _, _, _, _, _, _, _, by k_is⟩)
    (case e_NothingToUndo => kernel_rfl)
    (case x_NothingToUndo => kernel_rfl)
    (case a_Odd => k_is)
    (case l_Odd => exact ⟨_, _, _, _, _, _, _, _, _, _, _, _, _, _, by k_is⟩)
    (case e_Odd => kernel_rfl)
    (case n_Odd_kind => k_is)
    (case i_Odd => k_is)
    (case t_Odd => k_is)
    (case f_Odd_ => exact ⟨_, L2.fun_mk (by k_is) (by k_is) (by k_is)⟩)
    (case a_NoPlace => k_is)
    (case l_NoPlace => exact ⟨_, _, _, _, _, _, _, _, _, _, _, _, _, _, by k_is⟩)
    (case e_NoPlace => kernel_rfl)
    (case n_NoPlace_value => k_is)
    (case i_NoPlace => k_is)
    (case t_NoPlace => k_is)
    (case f_NoPlace_ => exact ⟨_, L2.fun_mk (by k_is) (by k_is) (by k_is)⟩)
    (case a_NoRun => k_is)
    (case l_NoRun => exact ⟨_, _, _, _, _, _, _, _, _, _, _, _, _, _, by k_is⟩)
    (case e_NoRun => kernel_rfl)
    (case n_NoRun_number => k_is)
    (case i_NoRun => k_is)
    (case t_NoRun => k_is)
    (case f_NoRun_ => exact ⟨_, L2.fun_mk (by k_is) (by k_is) (by k_is)⟩)
    (case a__law_bag => k_is)
    (case k__law_bag => k_is)
    (case f__law_bag_ => exact ⟨_, L2.fun_mk (by k_is) (by k_is) (by k_is)⟩)
    (case a__law_draw => k_is)
    (case k__law_draw => k_is)
    (case f__law_draw_ => exact ⟨_, L2.fun_mk (by k_is) (by k_is) (by k_is)⟩)
    (case a__law_pick => k_is)
    (case k__law_pick => k_is)
    (case f__law_pick_ => exact ⟨_, L2.fun_mk (by k_is) (by k_is) (by k_is)⟩)
    (case a__law_odd => k_is)
    (case k__law_odd => k_is)
    (case f__law_odd_ => exact ⟨_, L2.fun_mk (by k_is) (by k_is) (by k_is)⟩)
    (case a__law_sorts => k_is)
    (case k__law_sorts => k_is)
    (case f__law_sorts_ => exact ⟨_, L2.fun_mk (by k_is) (by k_is) (by k_is)⟩)
    (case a__law_made => k_is)
    (case k__law_made => k_is)
    (case f__law_made_ => exact ⟨_, L2.fun_mk (by k_is) (by k_is) (by k_is)⟩)
    (case a_law => k_is)
    (case k_law => k_is)
    (case f_law_ => exact ⟨_, L2.fun_mk (by k_is) (by k_is) (by k_is)⟩)
    (case v_MAX_BOTTOM_ => exact ⟨_, by k_is⟩)
    (case v_MAX_CUTS_ => exact ⟨_, by k_is⟩)
    (case v_MAX_EDITS_ => exact ⟨_, by k_is⟩)
    (case v_MAX_FACTOR_ => exact ⟨_, by k_is⟩)
    (case v_MAX_KINDS_ => exact ⟨_, by k_is⟩)
    (case v_MAX_LENGTH_ => exact ⟨_, by k_is⟩)
    (case v_MAX_RUNS_ => exact ⟨_, by k_is⟩)
    (case v_MAX_STEP_ => exact ⟨_, by k_is⟩)
    (case v_MAX_WEIGHT_ => exact ⟨_, by k_is⟩)
    (case z_LookupError => k_is)
    (case z_ValueError => k_is)
    (case z_abs => k_is)
    (case z_enumerate => k_is)
    (case z_int => k_is)
    (case z_isinstance => k_is)
    (case z_len => k_is)
    (case z_range => k_is)
    (case z_repr => k_is)
    (case isi_ => kernel_rfl)


import PyProof.Rows.All
import Wide.All
import OpenK.AllK
import Wide.FinOn
import HandS.ForMost
import HandS.ForExc
import HandS.Wide
import HandS.TupAny
import HandS.IsInst
import HandS.Property
import HandS.OwnEq
import HandS.FStr
import HandS.Conv
import HandS.Style
import HandS.TryMany
import HandS.ExcField
import HandS.ExcInit
import HandS.RaiseMore
import HandS.Lambda
import HandS.ExcIs
import HandS.ExcValue
import HandS.Small
import KE.GoesMore
import PyProof.Draws
import PyProof.ReprLen
import HandS.SetFor
import HandS.Zip
import HandS.TupMul
import OpenK.KMeth
import OpenK.KOps
import KE.KCallOwn
import PyProof.InstNe
import PyProof.StrLawsRepr
import HandS.Star
import HandS.Flow
import HandS.FltList
import PySem.Challenge.RW_beadshares_k04_strings_of_strings
set_option Elab.async false
set_option linter.all false
set_option maxRecDepth 100000
set_option maxHeartbeats 4000000
/-! RI: a plain evaluator over data, and that the machine follows it. -/
namespace RI
open PySem PySem.Spec PyProof.Rows L2

/-- data: ob n is the n-th object of the store; clo: a function handed in, since the state θ H -/
inductive D where
  | non | bl (b : Bool) | int (i : Int) | str (x : Str) | tup (xs : List D) | ob (n : Nat) | clo (f : Addr) (θ : List Addr) (H : Hp)
  deriving Inhabited

inductive SO where
  | lst (xs : List D) | frl (xs : List D) | dct (kvs : List (Key × D)) | ins (c : Str) (fs : List (Str × D)) | exn (c : Str) (d : Option Nat) | xdo (fs : List (Str × D)) | tab (P : Addr) (q : Str)

abbrev Store := List SO
abbrev Env1 := List (Option D)

inductive Out (α : Type) where
  | ok (a : α) (M : Store) | exc (c : Str) (fs : List (Str × D)) (M : Store) | no

def Out.bind {α β : Type} (x : Out α) (f : α → Store → Out β) : Out β := match x with
  | .ok a M => f a M
  | .exc c fs M => .exc c fs M
  | .no => .no
@[simp] theorem Out.bind_ok {α β : Type} (a : α) (M : Store) (f : α → Store → Out β) : (Out.ok a M).bind f = f a M := rfl
@[simp] theorem Out.bind_exc {α β : Type} (c : Str) (fs : List (Str × D)) (M : Store) (f : α → Store → Out β) : (Out.exc c fs M : Out α).bind f = .exc c fs M := rfl
@[simp] theorem Out.bind_no {α β : Type} (f : α → Store → Out β) : (Out.no : Out α).bind f = .no := rfl
/-- an option as an outcome -/
def Out.of {α : Type} (x : Option α) (M : Store) : Out α := match x with
  | some a => .ok a M
  | none => .no

/-! ### what stands for what -/
/-- a tuple, of which the whole object is known -/
def TObj (o : Obj) : Prop := o.cls = .type "tuple" ∧ o.dict = none
def TupX (K : PySem.W.Frag) (H : Hp) (a : Addr) (vs : List V) : Prop := ∃ o, H a = some (.frz o (.tup vs)) ∧ TObj o
theorem TupX.sq {K : PySem.W.Frag} {H : Hp} {a : Addr} {vs : List V} (h : TupX K H a vs) : SqT K H a vs := let ⟨o, e, _⟩ := h; .inl (.inr ⟨o, e⟩)
instance {K : PySem.W.Frag} {H : Hp} {a : Addr} {vs : List V} : Coe (TupX K H a vs) (SqT K H a vs) := ⟨TupX.sq⟩
theorem TupX.of {K : PySem.W.Frag} {H : Hp} {a : Addr} {vs : List V} {o : Obj} (e : H a = some (.frz o (.tup vs))) (t : TObj o) : TupX K H a vs := ⟨o, e, t⟩
theorem laidX {X : Cx} {pins : List (Addr × Obj)} {σ : L2.St} {H : Hp} {s : Shared} {h' : Heap} {t' : Nat} {a : Addr} {o : Obj} {vs : List V} (I : Inv X pins σ H s) (k : ∀ b u, s.heap.get? b = some u → h'.get? b = some u) (hp : s.heap.objs.size ≤ a) (e : h'.get? a = some o) (new : ObjOk X.prog X.w (upd H a (.frz o (.tup vs))) h' a (.tup vs)) :
    Inv X pins σ (upd H a (.frz o (.tup vs))) { s with heap := h', toks := t' } := I.laid k hp ⟨e, new⟩
/-- the store has grown; tuples stand -/
structure Ext (K : PySem.W.Frag) (θ : List Addr) (H : Hp) (θ' : List Addr) (H' : Hp) : Prop where
  pre : ∀ (n : Nat) (a : Addr), θ[n]? = some a → θ'[n]? = some a
  tup : ∀ (a : Addr) (vs : List V), TupX K H a vs → TupX K H' a vs
  oth : ∀ (b : Addr) (u : HO), b ∉ θ → H b = some u → b ∉ θ' ∧ H' b = some u

theorem Ext.refl {K : PySem.W.Frag} {θ : List Addr} {H : Hp} : Ext K θ H θ H := ⟨fun _ _ h => h, fun _ _ h => h, fun _ _ h e => ⟨h, e⟩⟩
theorem Ext.trans {K : PySem.W.Frag} {θ θ' θ2 : List Addr} {H H' H2 : Hp} (a : Ext K θ H θ' H') (b : Ext K θ' H' θ2 H2) : Ext K θ H θ2 H2 := ⟨fun n x h => b.pre n x (a.pre n x h), fun x vs h => b.tup x vs (a.tup x vs h), fun x u h e => let ⟨h1, e1⟩ := a.oth x u h e; b.oth x u h1 e1⟩
section
variable (K : PySem.W.Frag) (θ : List Addr) (H : Hp)
mutual
inductive Rp : V → D → Prop where
  | non : Rp .non .non
  | bl (b : Bool) : Rp (.bl b) (.bl b)
  | int (i : Int) : Rp (.int i) (.int i)
  | str (x : Str) : Rp (.str x) (.str x)
  | tup {a : Addr} {vs : List V} {ds : List D} : TupX K H a vs → RpA vs ds → Rp (.ref a) (.tup ds)
  | ob {a : Addr} {n : Nat} : θ[n]? = some a → Rp (.ref a) (.ob n)
  | clo {f : Addr} {θ0 : List Addr} {H0 : Hp} : Ext K θ0 H0 θ H → Rp (.ref f) (.clo f θ0 H0)
inductive RpA : List V → List D → Prop where
  | nil : RpA [] []
  | cons {v : V} {vs : List V} {d : D} {ds : List D} : Rp v d → RpA vs ds → RpA (v :: vs) (d :: ds)
end
/-- attributes by name -/
inductive RpF : List (Str × V) → List (Str × D) → Prop where
  | nil : RpF [] []
  | cons {f : Str} {v : V} {d : D} {fs : List (Str × V)} {gs : List (Str × D)} : Rp K θ H v d → RpF fs gs → RpF ((f, v) :: fs) ((f, d) :: gs)
/-- entries of a dict -/
inductive RpK : List (Key × V) → List (Key × D) → Prop where
  | nil : RpK [] []
  | cons {k : Key} {v : V} {d : D} {fs : List (Key × V)} {gs : List (Key × D)} : Rp K θ H v d → RpK fs gs → RpK ((k, v) :: fs) ((k, d) :: gs)
end

/-- the table at a: each code object that it tells bears the name q and stands outside the store -/
def TabQ (θ : List Addr) (H : Hp) (a : Addr) (q : Str) : Prop := ∃ ps : Array Value, H a = some (.tbl ps) ∧ PySem.TriplesOk ps.toList ∧ ∀ (pos : Pos) (cv : Value), codeAmong pos ps.toList = some cv → ∃ c, cv = .ref c ∧ c ∉ θ ∧ H c = some (LamX.CodeO c q)
/-- where the classes stand -/
abbrev ClsA := Str → Option Addr
def RpS (K : PySem.W.Frag) (cl : ClsA) (θ : List Addr) (H : Hp) (a : Addr) : SO → Prop
  | .lst ds => ∃ vs, H a = some (.lst vs) ∧ RpA K θ H vs ds
  | .frl ds => ∃ o vs, H a = some (.frz o (.lst vs)) ∧ RpA K θ H vs ds
  | .dct kvs => ∃ ws, H a = some (.dK ws) ∧ RpK K θ H ws kvs
  | .ins c fs => ∃ C dx gs, cl c = some C ∧ H a = some (.ins C dx gs) ∧ RpF K θ H gs fs
  | .exn c none => ∃ C, cl c = some C ∧ H a = some (exo a C none)
  | .exn c (some m) => ∃ C dx, cl c = some C ∧ θ[m]? = some dx ∧ H a = some (exo a C (some dx))
  | .xdo fs => ∃ gs, H a = some (exd a gs) ∧ RpF K θ H gs fs
  | .tab P q => a = P ∧ TabQ θ H a q
structure Rep (K : PySem.W.Frag) (cl : ClsA) (θ : List Addr) (H : Hp) (M : Store) : Prop where
  len : θ.length = M.length
  nd : θ.Nodup
  at_ : ∀ (n : Nat) (a : Addr) (o : SO), θ[n]? = some a → M[n]? = some o → RpS K cl θ H a o
  tb : ∀ (b : Addr) (ps : Array Value), H b = some (.tbl ps) → b ∈ θ
structure RelE (K : PySem.W.Frag) (θ : List Addr) (H : Hp) (σ : L2.St) (ρ : Env1) : Prop where
  len : σ.length = ρ.length
  at_ : ∀ (i : Nat) (d : D), ρ[i]? = some (some d) → ∃ v, σ[i]? = some (some v) ∧ Rp K θ H v d
section
variable {K : PySem.W.Frag} {cl : ClsA} {θ θ' θ2 : List Addr} {H H' H2 : Hp}
mutual
theorem Rp.ext (e : Ext K θ H θ' H') : ∀ {v : V} {d : D}, Rp K θ H v d → Rp K θ' H' v d
  | _, _, .non => .non
  | _, _, .bl b => .bl b
  | _, _, .int i => .int i
  | _, _, .str x => .str x
  | _, _, .tup h hs => .tup (e.tup _ _ h) (RpA.ext e hs)
  | _, _, .ob h => .ob (e.pre _ _ h)
  | _, _, .clo h => .clo (h.trans e)
theorem RpA.ext (e : Ext K θ H θ' H') : ∀ {vs : List V} {ds : List D}, RpA K θ H vs ds → RpA K θ' H' vs ds
  | _, _, .nil => .nil
  | _, _, .cons h hs => .cons (Rp.ext e h) (RpA.ext e hs)
end
theorem RpF.ext (e : Ext K θ H θ' H') : ∀ {fs : List (Str × V)} {gs : List (Str × D)}, RpF K θ H fs gs → RpF K θ' H' fs gs
  | _, _, .nil => .nil
  | _, _, .cons h hs => .cons (h.ext e) (RpF.ext e hs)
theorem RpK.ext (e : Ext K θ H θ' H') : ∀ {fs : List (Key × V)} {gs : List (Key × D)}, RpK K θ H fs gs → RpK K θ' H' fs gs
  | _, _, .nil => .nil
  | _, _, .cons h hs => .cons (h.ext e) (RpK.ext e hs)
theorem RelE.ext {σ : L2.St} {ρ : Env1} (r : RelE K θ H σ ρ) (e : Ext K θ H θ' H') : RelE K θ' H' σ ρ := ⟨r.len, fun i d h => let ⟨v, h1, h2⟩ := r.at_ i d h; ⟨v, h1, h2.ext e⟩⟩
theorem RpA.length : ∀ {vs : List V} {ds : List D}, RpA K θ H vs ds → vs.length = ds.length
  | _, _, .nil => rfl
  | _, _, .cons _ hs => by simp [RpA.length hs]
theorem RpA.get : ∀ {vs : List V} {ds : List D}, RpA K θ H vs ds → ∀ {i : Nat} {d : D}, ds[i]? = some d → ∃ v, vs[i]? = some v ∧ Rp K θ H v d
  | _, _, .nil, i, d, h => by simp at h
  | _, _, .cons r _, 0, d, h => by
    simp at h
    subst h
    exact ⟨_, rfl, r⟩
  | _, _, .cons _ hs, i + 1, d, h => by
    obtain ⟨v, h1, h2⟩ := RpA.get hs (i := i) (d := d) (by simpa using h)
    exact ⟨v, by simpa using h1, h2⟩
theorem RpA.app : ∀ {vs : List V} {ds : List D} {ws : List V} {es : List D}, RpA K θ H vs ds → RpA K θ H ws es → RpA K θ H (vs ++ ws) (ds ++ es)
  | _, _, _, _, .nil, h => h
  | _, _, _, _, .cons r t, h => .cons r (RpA.app t h)
theorem RpA.take : ∀ {vs : List V} {ds : List D} (n : Nat), RpA K θ H vs ds → RpA K θ H (vs.take n) (ds.take n)
  | _, _, 0, _ => by simp only [List.take_zero]; exact .nil
  | _, _, _ + 1, .nil => .nil
  | _, _, n + 1, .cons r t => .cons r (RpA.take n t)
theorem RpA.drop : ∀ {vs : List V} {ds : List D} (n : Nat), RpA K θ H vs ds → RpA K θ H (vs.drop n) (ds.drop n)
  | _, _, 0, h => h
  | _, _, _ + 1, .nil => .nil
  | _, _, n + 1, .cons r t => RpA.drop n t
theorem RpA.set {v : V} {d : D} (r : Rp K θ H v d) : ∀ {vs : List V} {ds : List D} (n : Nat), RpA K θ H vs ds → RpA K θ H (vs.set n v) (ds.set n d)
  | _, _, _, .nil => .nil
  | _, _, 0, .cons _ t => .cons r t
  | _, _, n + 1, .cons q t => .cons q (RpA.set r n t)
theorem RpA.erase : ∀ {vs : List V} {ds : List D} (n : Nat), RpA K θ H vs ds → RpA K θ H (vs.eraseIdx n) (ds.eraseIdx n)
  | _, _, _, .nil => .nil
  | _, _, 0, .cons _ t => t
  | _, _, n + 1, .cons q t => .cons q (RpA.erase n t)
theorem RpA.rev : ∀ {vs : List V} {ds : List D}, RpA K θ H vs ds → RpA K θ H vs.reverse ds.reverse
  | _, _, .nil => .nil
  | _, _, .cons q t => by
    rw [List.reverse_cons, List.reverse_cons]
    exact (RpA.rev t).app (.cons q .nil)
theorem RpA.nil_iff {vs : List V} {ds : List D} (h : RpA K θ H vs ds) : vs = [] ↔ ds = [] := by cases h <;> simp

/-! ### the heap changes -/
theorem tupX_upd {a p : Addr} {vs : List V} {o : HO} (h : TupX K H a vs) (hp : ∀ u xs, H p = some (.frz u (.tup xs)) → False) : TupX K (upd H p o) a vs := by
  obtain ⟨u, h, t⟩ := h
  exact ⟨u, by rw [upd_ne (fun e => hp _ _ (e ▸ h))]; exact h, t⟩
/-- an object may be laid at p or changed there -/
def Free (θ : List Addr) (H : Hp) (p : Addr) : Prop := (p ∈ θ ∨ H p = none) ∧ ∀ o, H p = some o → (∀ xs, o ≠ .tup xs) ∧ ∀ u z, o ≠ .frz u z
theorem Free.none {p : Addr} (h : H p = none) : Free θ H p := ⟨.inr h, fun o e => by rw [h] at e; cases e⟩
theorem Ext.upd {p : Addr} {o : HO} (h : Free θ H p) : Ext K θ H θ (upd H p o) :=
  ⟨fun _ _ h => h, fun a vs q => tupX_upd q (fun u xs e => (h.2 _ e).2 u _ rfl), fun b u hb e => ⟨hb, by
    rw [upd_ne]
    · exact e
    · intro z
      subst z
      rcases h.1 with q | q
      · exact hb q
      · rw [q] at e
        cases e⟩⟩
theorem Ext.new {p : Addr} {o : HO} (hp : H p = Option.none) : Ext K θ H (θ ++ [p]) (L2.upd H p o) :=
  ⟨fun n a h => by
    rw [List.getElem?_append_left (List.getElem?_eq_some_iff.mp h).1]
    exact h, (Ext.upd (θ := θ) (Free.none hp)).tup, fun b u hb e => by
    have ne : b ≠ p := fun z => by
      rw [z, hp] at e
      cases e
    refine ⟨fun hm => ?_, by rw [upd_ne ne]; exact e⟩
    rcases List.mem_append.mp hm with q | q
    · exact hb q
    · exact ne (List.mem_singleton.mp q)⟩

/-- what RpS asks of the heap: at a alone -/
theorem RpS.mono {a : Addr} {o : SO} (h : RpS K cl θ H a o) (e : Ext K θ H θ' H') (k : ∀ u, H a = some u → H' a = some u) : RpS K cl θ' H' a o := by
  cases o with
  | lst ds => obtain ⟨vs, h1, h2⟩ := h; exact ⟨vs, k _ h1, h2.ext e⟩
  | frl ds => obtain ⟨o, vs, h1, h3⟩ := h; exact ⟨o, vs, k _ h1, h3.ext e⟩
  | dct kvs => obtain ⟨vs, h1, h2⟩ := h; exact ⟨vs, k _ h1, h2.ext e⟩
  | ins c fs => obtain ⟨C, dx, gs, h0, h1, h2⟩ := h; exact ⟨C, dx, gs, h0, k _ h1, h2.ext e⟩
  | exn c d =>
    cases d with
    | none => obtain ⟨C, h0, h1⟩ := h; exact ⟨C, h0, k _ h1⟩
    | some m => obtain ⟨C, dx, h0, h1, h2⟩ := h; exact ⟨C, dx, h0, e.pre _ _ h1, k _ h2⟩
  | xdo fs => obtain ⟨gs, h1, h2⟩ := h; exact ⟨gs, k _ h1, h2.ext e⟩
  | tab P q =>
    obtain ⟨h0, ps, h1, h2, h3⟩ := h
    exact ⟨h0, ps, k _ h1, h2, fun pos cv hc => let ⟨c, e1, e2, e3⟩ := h3 pos cv hc; ⟨c, e1, e.oth c _ e2 e3⟩⟩
theorem RpS.ex {a : Addr} {o : SO} (h : RpS K cl θ H a o) : ∃ u, H a = some u := by
  cases o with
  | lst ds => obtain ⟨vs, h1, _⟩ := h; exact ⟨_, h1⟩
  | frl ds => obtain ⟨o, vs, h1, _⟩ := h; exact ⟨_, h1⟩
  | dct kvs => obtain ⟨vs, h1, _⟩ := h; exact ⟨_, h1⟩
  | ins c fs => obtain ⟨C, dx, gs, h0, h1, _⟩ := h; exact ⟨_, h1⟩
  | exn c d =>
    cases d with
    | none => obtain ⟨C, h0, h1⟩ := h; exact ⟨_, h1⟩
    | some m => obtain ⟨C, dx, h0, h1, h2⟩ := h; exact ⟨_, h2⟩
  | xdo fs => obtain ⟨gs, h1, _⟩ := h; exact ⟨_, h1⟩
  | tab P q => obtain ⟨_, ps, h1, _⟩ := h; exact ⟨_, h1⟩
theorem Rep.atn {M : Store} (r : Rep K cl θ H M) {n : Nat} {a : Addr} (h : θ[n]? = some a) : ∃ o, M[n]? = some o ∧ RpS K cl θ H a o := by
  have hl := (List.getElem?_eq_some_iff.mp h).1
  rw [r.len] at hl
  exact ⟨M[n], List.getElem?_eq_getElem hl, r.at_ n a _ h (List.getElem?_eq_getElem hl)⟩
theorem Rep.addr {M : Store} (r : Rep K cl θ H M) {n : Nat} {o : SO} (h : M[n]? = some o) : ∃ a, θ[n]? = some a ∧ RpS K cl θ H a o := by
  have hl := (List.getElem?_eq_some_iff.mp h).1
  rw [← r.len] at hl
  exact ⟨θ[n], List.getElem?_eq_getElem hl, r.at_ n _ o (List.getElem?_eq_getElem hl) h⟩
theorem Rep.out {M : Store} (r : Rep K cl θ H M) {p : Addr} (h : H p = none) : p ∉ θ := fun hm => by
  obtain ⟨n, hn⟩ := List.getElem?_of_mem hm
  obtain ⟨o, _, ho⟩ := r.atn hn
  obtain ⟨u, hu⟩ := ho.ex
  rw [h] at hu
  cases hu
/-- a new object -/
theorem Rep.new {M : Store} (r : Rep K cl θ H M) {p : Addr} {u : HO} {o : SO} (hp : H p = none) (ho : RpS K cl (θ ++ [p]) (upd H p u) p o) : Rep K cl (θ ++ [p]) (upd H p u) (M ++ [o]) := by
  have ex : Ext K θ H (θ ++ [p]) (upd H p u) := Ext.new hp
  have pn := r.out hp
  refine ⟨by rw [List.length_append, List.length_append, r.len] <;> rfl, ?_, fun n a o' h1 h2 => ?_, fun b ps e => ?_⟩
  rotate_right
  · by_cases hb : b = p
    · exact List.mem_append.mpr (.inr (List.mem_singleton.mpr hb))
    · rw [upd_ne hb] at e
      exact List.mem_append.mpr (.inl (r.tb b ps e))
  · rw [List.nodup_append]
    exact ⟨r.nd, by simp, fun a ha b hb e => pn (by rw [List.mem_singleton] at hb; rw [← hb, ← e]; exact ha)⟩
  · by_cases hn : n < θ.length
    · rw [List.getElem?_append_left hn] at h1
      rw [List.getElem?_append_left (by rw [← r.len]; exact hn)] at h2
      have q := r.at_ n a o' h1 h2
      refine q.mono ex fun w hw => ?_
      rw [upd_ne (ne_of_none hw hp)]
      exact hw
    · have hl : n = θ.length := by
        have := (List.getElem?_eq_some_iff.mp h1).1
        rw [List.length_append, List.length_singleton] at this
        omega
      subst hl
      rw [List.getElem?_append_right (Nat.le_refl _), Nat.sub_self] at h1
      rw [r.len, List.getElem?_append_right (Nat.le_refl _), Nat.sub_self] at h2
      simp at h1 h2
      subst h1
      subst h2
      exact ho
/-- a new thing that the store does not hold -/
theorem Rep.keep {M : Store} (r : Rep K cl θ H M) {p : Addr} {u : HO} (hp : H p = none) (nt : ∀ ps, u ≠ .tbl ps := by intro _ z; cases z) : Rep K cl θ (upd H p u) M :=
  ⟨r.len, r.nd, fun n a o h1 h2 => (r.at_ n a o h1 h2).mono (Ext.upd (Free.none hp)) fun w hw => by rw [upd_ne (ne_of_none hw hp)]; exact hw, fun b ps e => by
    by_cases hb : b = p
    · rw [hb, upd_same] at e
      exact absurd (Option.some.inj e) (nt ps)
    · rw [upd_ne hb] at e
      exact r.tb b ps e⟩
/-- an object changed -/
theorem Rep.put {M : Store} (r : Rep K cl θ H M) {n : Nat} {a : Addr} {u' : HO} {o : SO} (ha : θ[n]? = some a) (fr : Free θ H a) (ho : RpS K cl θ (upd H a u') a o) : Rep K cl θ (upd H a u') (M.set n o) := by
  have ex : Ext K θ H θ (upd H a u') := Ext.upd fr
  refine ⟨by rw [List.length_set]; exact r.len, r.nd, fun m b o' h1 h2 => ?_, fun b ps e => by
    by_cases hb : b = a
    · rw [hb]
      exact List.mem_of_getElem? ha
    · rw [upd_ne hb] at e
      exact r.tb b ps e⟩
  by_cases hm : m = n
  · subst hm
    rw [ha] at h1
    cases h1
    have hl : m < M.length := by rw [← r.len]; exact (List.getElem?_eq_some_iff.mp ha).1
    rw [List.getElem?_set_self hl] at h2
    cases h2
    exact ho
  · rw [List.getElem?_set_ne (Ne.symm hm)] at h2
    have ne : b ≠ a := fun e => by
      subst e
      exact hm (nd_ix r.nd h1 ha)
    refine (r.at_ m b o' h1 h2).mono ex fun w hw => ?_
    rw [upd_ne ne]
    exact hw
end
end RI

namespace RI
open PySem PySem.Spec PyProof.Rows L2
/-- what an exception bears: its own dict's address -/
def XAt (K : PySem.W.Frag) (θ : List Addr) (H : Hp) (dd : Option Addr) (fs : List (Str × D)) : Prop :=
  (fs = [] ∧ dd = none) ∨ ∃ dx gs, dd = some dx ∧ H dx = some (.xd gs) ∧ RpF K θ H gs fs ∧ dx ∉ θ

section
variable {α β γ δ : Type} (K : PySem.W.Frag) (cl : ClsA)
def PostG (Rv : List Addr → Hp → β → α → Prop) (W : WX) (Q : β → Hp → Prop) (σ : L2.St) (θ : List Addr) (H : Hp) : Out α → Prop
  | .ok a M => ∀ θ' H' v, Ext K θ H θ' H' → Rep K cl θ' H' M → Rv θ' H' v a → Q v H'
  | .exc c fs M => ∀ θ' H' C dd, Ext K θ H θ' H' → Rep K cl θ' H' M → cl c = some C → XAt K θ' H' dd fs → W (.ref C) dd σ H'
  | .no => False
abbrev Den (α : Type) := Env1 → Store → Out α
def rdG (Rv : List Addr → Hp → β → α → Prop) (W : WX) (f : Den α) (σ : L2.St) (H : Hp) (Q : β → Hp → Prop) : Prop :=
  ∃ θ ρ M, RelE K θ H σ ρ ∧ Rep K cl θ H M ∧ PostG K cl Rv W Q σ θ H (f ρ M)
end
section
variable {α β γ δ : Type} {K : PySem.W.Frag} {cl : ClsA} {Rv : List Addr → Hp → β → α → Prop} {Rw : List Addr → Hp → δ → γ → Prop} {W : WX} {σ : L2.St} {θ θ1 : List Addr} {H H1 : Hp} {Q : β → Hp → Prop}
theorem PostG.ext {o : Out α} (h : PostG K cl Rv W Q σ θ H o) (e : Ext K θ H θ1 H1) : PostG K cl Rv W Q σ θ1 H1 o := by
  cases o with
  | ok a M => exact fun θ' H' v e' r rv => h θ' H' v (e.trans e') r rv
  | exc c fs M => exact fun θ' H' C dd e' r hc x => h θ' H' C dd (e.trans e') r hc x
  | no => exact h
theorem PostG.bind {x : Out γ} {f : γ → Store → Out α} {Q1 : δ → Hp → Prop} (h : PostG K cl Rv W Q σ θ H (x.bind f))
    (k : ∀ a M θ1 H1 v, Ext K θ H θ1 H1 → Rep K cl θ1 H1 M → Rw θ1 H1 v a → PostG K cl Rv W Q σ θ1 H1 (f a M) → Q1 v H1) : PostG K cl Rw W Q1 σ θ H x := by
  cases x with
  | ok a M => exact fun θ1 H1 v e r rv => k a M θ1 H1 v e r rv (h.ext e)
  | exc c fs M => exact h
  | no => exact h
theorem PostG.ok_ {a : α} {M : Store} {v : β} (h : PostG K cl Rv W Q σ θ H (.ok a M)) (r : Rep K cl θ H M) (rv : Rv θ H v a) : Q v H := h θ H v .refl r rv
end

section
variable {X : Cx} (cl : ClsA) (W : WX)
abbrev rd (K : PySem.W.Frag) (f : Den D) : TE := rdG K cl (Rp K) W f
abbrev rdA (K : PySem.W.Frag) (f : Den (List D)) : TA := rdG K cl (RpA K) W f
abbrev rdT (K : PySem.W.Frag) (f : Den Bool) : TT := rdG K cl (fun _ _ b c => b = c) W f
abbrev rdO (K : PySem.W.Frag) (f : Den (Option Int)) : TO := rdG K cl (fun _ _ b c => b = c) W f
end
theorem PE.imp {X : Cx} {e : Expr} {t t' : TE} (h : PE X e t) (k : ∀ σ H Q, t' σ H Q → t σ H Q) : PE X e t' := ⟨fun pins s σ H Q I q => h.run pins s σ H Q I (k σ H Q q)⟩
theorem PT.imp {X : Cx} {e : Expr} {t t' : TT} (h : PT X e t) (k : ∀ σ H Q, t' σ H Q → t σ H Q) : PT X e t' := ⟨fun pins s σ H Q I q => h.run pins s σ H Q I (k σ H Q q)⟩
theorem PA.imp {X : Cx} {e : List Expr} {t t' : TA} (h : PA X e t) (k : ∀ σ H Q, t' σ H Q → t σ H Q) : PA X e t' := ⟨fun pos pins s σ H Q I q => h.run pos pins s σ H Q I (k σ H Q q)⟩
theorem PS.imp {X : Cx} {e : Stmt} {t t' : TS} (h : PS X e t) (k : ∀ D σ H, t' D σ H → t D σ H) : PS X e t' := ⟨fun pins s σ H D I q => h.run pins s σ H D I (k D σ H q)⟩
theorem PSs.imp {X : Cx} {e : List Stmt} {t t' : TS} (h : PSs X e t) (k : ∀ D σ H, t' D σ H → t D σ H) : PSs X e t' := ⟨fun pins s σ H D I q => h.run pins s σ H D I (k D σ H q)⟩

/-! ### data as the library's plain data -/
def optAll {α β : Type} (f : α → Option β) : List α → Option (List β)
  | [] => some []
  | x :: r => (f x).bind fun y => (optAll f r).map (y :: ·)
def keyPy : Key → PyData
  | .inl i => .int i
  | .inr x => .str x
/-- lists and tuples of plain things -/
def toPy : Nat → Store → D → Option PyData
  | 0, _, _ => none
  | n + 1, M, d => match d with
    | .non => some .none
    | .bl b => some (.bool b)
    | .int i => some (.int i)
    | .str x => some (.str x)
    | .tup ds => (optAll (toPy n M) ds).map .tuple
    | .ob k => match M[k]? with
      | some (.lst ds) => (optAll (toPy n M) ds).map .list
      | some (.frl ds) => (optAll (toPy n M) ds).map .list
      | _ => none
    | .clo .. => none
section
variable {K : PySem.W.Frag} {cl : ClsA} {θ : List Addr} {H : Hp} {M : Store}
theorem dpAll_of {f : D → Option PyData} (h : ∀ v d p, Rp K θ H v d → f d = some p → Dp K H v p) : ∀ {vs : List V} {ds : List D} {ps : List PyData}, RpA K θ H vs ds → optAll f ds = some ps → DpAll K H vs ps
  | _, _, _, .nil, e => by
    simp [optAll] at e
    subst e
    exact .nil
  | _, _, _, .cons r t, e => by
    simp only [optAll, Option.bind_eq_some_iff, Option.map_eq_some_iff] at e
    obtain ⟨y, hy, l, hl, rfl⟩ := e
    exact .cons (h _ _ _ r hy) (dpAll_of h t hl)
theorem dp_of (r : Rep K cl θ H M) : ∀ (n : Nat) {v : V} {d : D} {p : PyData}, Rp K θ H v d → toPy n M d = some p → Dp K H v p
  | 0, _, _, _, _, e => by simp [toPy] at e
  | n + 1, _, _, p, .non, e => by simp [toPy] at e; subst e; exact .non
  | n + 1, _, _, p, .bl b, e => by simp [toPy] at e; subst e; exact .bl b
  | n + 1, _, _, p, .int b, e => by simp [toPy] at e; subst e; exact .int b
  | n + 1, _, _, p, .str b, e => by simp [toPy] at e; subst e; exact .str b
  | n + 1, _, _, p, .tup h hs, e => by
    simp only [toPy, Option.map_eq_some_iff] at e
    obtain ⟨l, hl, rfl⟩ := e
    exact .tup h.sq (dpAll_of (fun v d p => dp_of r n) hs hl)
  | n + 1, _, _, p, .clo h, e => by simp [toPy] at e
  | n + 1, _, _, p, .ob h, e => by
    obtain ⟨o, ho, hr⟩ := r.atn h
    simp only [toPy, ho] at e
    cases o with
    | lst ds =>
      simp only [Option.map_eq_some_iff] at e
      obtain ⟨l, hl, rfl⟩ := e
      obtain ⟨vs, h1, h2⟩ := hr
      exact .lst (SqL.of h1) (dpAll_of (fun v d p => dp_of r n) h2 hl)
    | frl ds =>
      simp only [Option.map_eq_some_iff] at e
      obtain ⟨l, hl, rfl⟩ := e
      obtain ⟨o, vs, h1, h2⟩ := hr
      exact .lst (.inl (.inr ⟨_, h1⟩)) (dpAll_of (fun v d p => dp_of r n) h2 hl)
    | dct _ => simp at e
    | ins _ _ => simp at e
    | exn _ _ => simp at e
    | xdo _ => simp at e
    | tab _ _ => simp at e
end

/-! ### operators on data -/
def line : Nat := 100000
theorem line_ok {n : Nat} (h : n ≤ line) : n ≤ sizeLine := Nat.le_trans h (by decide)
def newL (xs : List D) (M : Store) : Out D := if xs.length ≤ line then .ok (.ob M.length) (M ++ [.lst xs]) else .no
def listAt (M : Store) (k : Nat) : Option (List D) := match M[k]? with
  | some (.lst ds) => some ds
  | _ => none
/-- a list that may be read -/
def readAt (M : Store) (k : Nat) : Option (List D) := match M[k]? with
  | some (.lst ds) => some ds
  | some (.frl ds) => some ds
  | _ => none
def mulOk (i j : Int) : Bool := decide (-(2 ^ 64) < i ∧ i < 2 ^ 64) || decide (-(2 ^ 64) < j ∧ j < 2 ^ 64)
def opD (op : Operator) (x y : D) (M : Store) : Out D := match op, x, y with
  | .Add, .int i, .int j => .ok (.int (i + j)) M
  | .Add, .str a, .str b => if a.length + b.length ≤ line then .ok (.str (a ++ b)) M else .no
  | .Add, .tup xs, .tup ys => if xs.length + ys.length ≤ line then .ok (.tup (xs ++ ys)) M else .no
  | .Add, .ob a, .ob b => match listAt M a, listAt M b with
    | some xs, some ys => newL (xs ++ ys) M
    | _, _ => .no
  | .Sub, .int i, .int j => .ok (.int (i - j)) M
  | .Mult, .int i, .int j => if mulOk i j then .ok (.int (i * j)) M else .no
  | .Mult, .ob a, .int k => match listAt M a with
    | some xs => if 0 ≤ k ∧ k ≤ 100000 then newL (List.replicate k.toNat xs).flatten M else .no
    | _ => .no
  | .FloorDiv, .int i, .int j => if 0 < j ∧ j.natAbs.log2 < 9000 then .ok (.int (i / j)) M else .no
  | .Mod, .int i, .int j => if 0 < j then .ok (.int (i % j)) M else .no
  | .Pow, .int i, .int j => if 0 ≤ j ∧ j ≤ 1000000 ∧ i.natAbs < 2 ^ 64 then .ok (.int (i ^ j.toNat)) M else .no
  | _, _, _ => .no

section
variable {X : Cx} {cl : ClsA} {W : WX} {σ : L2.St} {θ : List Addr} {H : Hp} {M : Store} {Q : VK}
theorem lst_at {K : PySem.W.Frag} (r : Rep K cl θ H M) {a : Addr} {k : Nat} {xs : List D} (h : θ[k]? = some a) (e : listAt M k = some xs) : ∃ vs, H a = some (.lst vs) ∧ RpA K θ H vs xs := by
  obtain ⟨o, ho, hr⟩ := r.atn h
  unfold listAt at e
  rw [ho] at e
  cases o with
  | lst ds =>
    simp at e
    subst e
    exact hr
  | _ => simp at e
theorem read_at {K : PySem.W.Frag} (r : Rep K cl θ H M) {a : Addr} {k : Nat} {xs : List D} (h : θ[k]? = some a) (e : readAt M k = some xs) : ∃ vs, SqL K H a vs ∧ RpA K θ H vs xs := by
  obtain ⟨o, ho, hr⟩ := r.atn h
  unfold readAt at e
  rw [ho] at e
  cases o with
  | lst ds =>
    simp at e
    subst e
    obtain ⟨vs, h1, h2⟩ := hr
    exact ⟨vs, SqL.of h1, h2⟩
  | frl ds =>
    simp at e
    subst e
    obtain ⟨o, vs, h1, h2⟩ := hr
    exact ⟨vs, .inl (.inr ⟨_, h1⟩), h2⟩
  | _ => simp at e
/-- a new list of xs is laid -/
theorem newL_ok (r : Rep X.K cl θ H M) {vs : List V} {xs : List D} (hx : RpA X.K θ H vs xs) (h : PostG X.K cl (Rp X.K) W Q σ θ H (newL xs M)) : vs.length ≤ sizeLine ∧ ∀ p, H p = none → Q (.ref p) (upd H p (.lst vs)) := by
  unfold newL at h
  split at h
  · rename_i hl
    refine ⟨by rw [hx.length]; exact line_ok hl, fun p hp => ?_⟩
    have ex : Ext X.K θ H (θ ++ [p]) (upd H p (.lst vs)) := Ext.new hp
    exact h _ _ _ ex (r.new hp ⟨vs, upd_same, hx.ext ex⟩) (.ob (by rw [← r.len]; simp))
  · exact h.elim
/-- the operators: what is told of op by opD -/
def opR (K : PySem.W.Frag) (cl : ClsA) (W : WX) (σ : L2.St) (g : D → D → Store → Out D) : R2 := fun x y H Q =>
  ∃ θ M dx dy, Rep K cl θ H M ∧ Rp K θ H x dx ∧ Rp K θ H y dy ∧ PostG K cl (Rp K) W Q σ θ H (g dx dy M)
theorem OpR.imp {f : Value → Value → Sem Value} {r r' : R2} (h : OpR X f r) (k : ∀ x y H Q, r' x y H Q → r x y H Q) : OpR X f r' := fun pins s σ H x y v u Q I rx ry q => h pins s σ H x y v u Q I rx ry (k x y H Q q)
theorem RpA.flat_rep {K : PySem.W.Frag} {vs : List V} {xs : List D} (h : RpA K θ H vs xs) : ∀ k : Nat, RpA K θ H (List.replicate k vs).flatten (List.replicate k xs).flatten
  | 0 => .nil
  | k + 1 => by
    rw [List.replicate_succ, List.replicate_succ, List.flatten_cons, List.flatten_cons]
    exact h.app (RpA.flat_rep h k)
def rCatX (K : PySem.W.Frag) : R2 := fun x y H Q => ∃ a b xs ys, x = .ref a ∧ y = .ref b ∧ SqT K H a xs ∧ SqT K H b ys ∧ xs.length + ys.length ≤ sizeLine ∧
  (xs = [] → Q (.ref b) H) ∧ (xs ≠ [] → ys = [] → Q (.ref a) H) ∧ (xs ≠ [] → ys ≠ [] → ∀ p o, H p = none → TObj o → Q (.ref p) (upd H p (.frz o (.tup (xs ++ ys)))))
theorem op_catX : OpR X (binaryOp .Add) (rCatX X.K) := by
  intro pn s0 σ0 H0 l r vl vr R J hl hr goal
  obtain ⟨p, q, us, ws, el, er, su, sw, le, g0, g1, g2⟩ := goal
  subst el er
  cases hl
  cases hr
  obtain ⟨is, vi, ti, _⟩ := J.tuple su
  obtain ⟨js, vj, tj, _⟩ := J.tuple sw
  by_cases eu : us = []
  · subst eu
    cases vi
    exact cat_tup0 ti tj ⟨.ref q, H0, J, rfl, g0 rfl⟩
  · have whole : js = [] → EP X pn σ0 R (.ref p) s0 := fun ew => ⟨.ref p, H0, J, rfl, g1 eu (vj.nil_iff.mp ew)⟩
    refine HT.cat_tup ti tj (fun ew => eu (vi.nil_iff.mp ew)) whole (fun ew => ?_) (by have := vi.length; have := vj.length; omega)
    have nw := laidX J (t' := s0.toks) (vs := us ++ ws) (fun _ _ q => Heap.get?_push_of_some _ q) (Nat.le_refl _) (Heap.get?_push_size s0.heap rfl) ⟨by rw [List.length_append]; exact le, _, vi.append vj, IsTup.new _ _⟩
    exact ⟨.ref s0.heap.objs.size, _, nw, rfl, g2 eu (fun ez => ew (vj.nil_iff.mpr ez)) _ _ (J.hok.fresh (Nat.le_refl _)) ⟨rfl, rfl⟩⟩
theorem op_D (σ : L2.St) (op : Operator) : OpR X (binaryOp op) (opR X.K cl W σ (opD op)) := by
  intro pins s σ' H x y v u Q I rx ry q
  obtain ⟨θ, M, dx, dy, r, px, py, q⟩ := q
  unfold opD at q
  split at q
  · cases px; cases py
    exact op_add pins s σ' H _ _ v u Q I rx ry ⟨_, _, rfl, rfl, q.ok_ r (.int _)⟩
  · cases px; cases py
    split at q
    · rename_i hl
      exact op_add_str pins s σ' H _ _ v u Q I rx ry ⟨_, _, rfl, rfl, line_ok hl, q.ok_ r (.str _)⟩
    · exact q.elim
  · cases px; cases py
    rename_i a vs h1 h2 b ws g1 g2
    split at q
    · rename_i hl
      refine op_catX pins s σ' H _ _ v u Q I rx ry ⟨_, _, _, _, rfl, rfl, h1.sq, g1.sq, line_ok (by rw [h2.length, g2.length]; exact hl), fun e => ?_, fun _ e => ?_, fun _ _ p o hp to => ?_⟩
      · have e' := (h2.nil_iff).mp e
        subst e'
        exact q.ok_ r (.tup g1 g2)
      · have e' := (g2.nil_iff).mp e
        subst e'
        exact q.ok_ r (.tup h1 (by simpa using h2))
      · have ex : Ext X.K θ H θ (upd H p (.frz o (.tup (vs ++ ws)))) := Ext.upd (Free.none hp)
        exact q θ _ _ ex (r.keep hp) (.tup (TupX.of upd_same to) ((h2.app g2).ext ex))
    · exact q.elim
  · cases px; cases py
    rename_i a g1 b g2
    split at q
    · rename_i e1 e2
      obtain ⟨vs, h1, h2⟩ := lst_at r g1 e1
      obtain ⟨ws, h3, h4⟩ := lst_at r g2 e2
      have z := newL_ok r (h2.app h4) q
      exact op_cat pins s σ' H _ _ v u Q I rx ry ⟨_, _, _, _, rfl, rfl, h1, h3, by rw [← List.length_append]; exact z.1, z.2⟩
    · exact q.elim
  · cases px; cases py
    exact op_sub pins s σ' H _ _ v u Q I rx ry ⟨_, _, rfl, rfl, q.ok_ r (.int _)⟩
  · cases px; cases py
    split at q
    · rename_i hl
      refine op_mul pins s σ' H _ _ v u Q I rx ry ⟨_, _, rfl, rfl, ?_, q.ok_ r (.int _)⟩
      unfold mulOk at hl
      simp only [Bool.or_eq_true, decide_eq_true_eq] at hl
      exact hl
    · exact q.elim
  · cases px; cases py
    rename_i a g1
    split at q
    · rename_i e1
      split at q
      · rename_i hk
        obtain ⟨vs, h1, h2⟩ := lst_at r g1 e1
        have z := newL_ok r (h2.flat_rep _) q
        refine op_rep pins s σ' H _ _ v u Q I rx ry ⟨_, _, _, rfl, rfl, h1, by omega, by omega, ?_, z.2⟩
        have z1 := z.1
        rw [List.length_flatten, List.map_replicate, List.sum_replicate_nat, Nat.mul_comm] at z1
        exact z1
      · exact q.elim
    · exact q.elim
  · cases px; cases py
    split at q
    · rename_i hl
      exact op_fdivW pins s σ' H _ _ v u Q I rx ry ⟨_, _, rfl, rfl, hl, q.ok_ r (.int _)⟩
    · exact q.elim
  · cases px; cases py
    split at q
    · rename_i hl
      exact op_mod pins s σ' H _ _ v u Q I rx ry ⟨_, _, rfl, rfl, hl, q.ok_ r (.int _)⟩
    · exact q.elim
  · cases px; cases py
    split at q
    · rename_i hl
      exact op_pow pins s σ' H _ _ v u Q I rx ry ⟨_, _, rfl, rfl, hl, q.ok_ r (.int _)⟩
    · exact q.elim
  · exact q.elim
end
end RI

namespace RI
open PySem PySem.Spec PyProof.Rows L2

/-! ### comparisons on data -/
def isNonD : D → Bool
  | .non => true
  | _ => false
def flatD : D → Bool
  | .non | .bl _ | .int _ | .str _ => true
  | _ => false
def vOf : D → V
  | .bl b => .bl b
  | .int i => .int i
  | .str x => .str x
  | _ => .non
def seqD (M : Store) : D → Option (List D)
  | .tup xs => some xs
  | .ob k => readAt M k
  | _ => none
def blO (b : Bool) (M : Store) : Out D := .ok (.bl b) M
def cmpD (op : CmpOp) (x y : D) (M : Store) : Out D := match op with
  | .Eq => match x, y with
    | .str a, .str b => blO (decide (a = b)) M
    | x, y => match toPy 8 M x, toPy 8 M y with
      | some p, some q => if SeqAt.shaped p && SeqAt.shaped q then blO (PyData.eqv p q) M else .no
      | _, _ => .no
  | .NotEq => match x, y with
    | .str a, .str b => blO (!decide (a = b)) M
    | x, y => match toPy 8 M x, toPy 8 M y with
      | some p, some q => if SeqAt.shaped p && SeqAt.shaped q then blO (!PyData.eqv p q) M else .no
      | _, _ => .no
  | .Lt => match x, y with
    | .int i, .int j => blO (decide (i < j)) M
    | _, _ => .no
  | .LtE => match x, y with
    | .int i, .int j => blO (decide (i ≤ j)) M
    | _, _ => .no
  | .Gt => match x, y with
    | .int i, .int j => blO (decide (j < i)) M
    | _, _ => .no
  | .GtE => match x, y with
    | .int i, .int j => blO (decide (j ≤ i)) M
    | _, _ => .no
  | .Is => match y with
    | .non => blO (isNonD x) M
    | _ => .no
  | .IsNot => match y with
    | .non => blO (!isNonD x) M
    | _ => .no
  | .In => match seqD M y with
    | some ds => if flatD x && ds.all flatD then blO (inV (vOf x) (ds.map vOf)) M else .no
    | none => .no
  | .NotIn => match seqD M y with
    | some ds => if flatD x && ds.all flatD then blO (!inV (vOf x) (ds.map vOf)) M else .no
    | none => .no

section
variable {X : Cx} {cl : ClsA} {W : WX} {σ : L2.St} {θ : List Addr} {H : Hp} {M : Store} {Q : VK} {K : PySem.W.Frag}
theorem Rp.flat {v : V} {d : D} (h : Rp K θ H v d) (f : flatD d = true) : v = vOf d ∧ flatV v = true := by
  cases h with
  | tup _ _ => simp [flatD] at f
  | ob _ => simp [flatD] at f
  | clo _ => simp [flatD] at f
  | _ => exact ⟨rfl, rfl⟩
theorem RpA.flat : ∀ {vs : List V} {ds : List D}, RpA K θ H vs ds → ds.all flatD = true → vs = ds.map vOf ∧ vs.all flatV = true
  | _, _, .nil, _ => ⟨rfl, rfl⟩
  | _, _, .cons r t, f => by
    rw [List.all_cons, Bool.and_eq_true] at f
    obtain ⟨e1, e2⟩ := r.flat f.1
    obtain ⟨e3, e4⟩ := RpA.flat t f.2
    refine ⟨by rw [List.map_cons, ← e1, ← e3], ?_⟩
    rw [List.all_cons, e2, e4] <;> rfl
theorem Rp.non_iff {v : V} {d : D} (h : Rp K θ H v d) : decide (v = .non) = isNonD d := by
  cases h <;> rfl
theorem seq_at (r : Rep K cl θ H M) {v : V} {d : D} {ds : List D} (h : Rp K θ H v d) (e : seqD M d = some ds) : ∃ a vs, v = .ref a ∧ (SqL K H a vs ∨ SqT K H a vs) ∧ RpA K θ H vs ds := by
  cases h with
  | tup h1 h2 =>
    simp [seqD] at e
    subst e
    exact ⟨_, _, rfl, .inr h1, h2⟩
  | ob h1 =>
    obtain ⟨o, ho, hr⟩ := r.atn h1
    simp only [seqD, readAt, ho] at e
    cases o with
    | lst ds' =>
      simp at e
      subst e
      obtain ⟨vs, h3, h4⟩ := hr
      exact ⟨_, vs, rfl, .inl (SqL.of h3), h4⟩
    | frl ds' =>
      simp at e
      subst e
      obtain ⟨o, vs, h3, h4⟩ := hr
      exact ⟨_, vs, rfl, .inl (.inl (.inr ⟨_, h3⟩)), h4⟩
    | _ => simp at e
  | _ => simp [seqD] at e
theorem dec_strV {i j : Str} : decide (V.str i = V.str j) = decide (i = j) := by
  rw [Bool.eq_iff_iff]
  simp
theorem op_C (σ : L2.St) (op : CmpOp) (hu : X.A.units + 64 < cLine) : OpR X (compareOp op) (opR X.K cl W σ (cmpD op)) := by
  intro pins s σ' H x y v u Q I rx ry q
  obtain ⟨θ, M, dx, dy, r, px, py, q⟩ := q
  cases op with
  | Eq =>
    simp only [cmpD] at q
    split at q
    · cases px; cases py
      exact op_eq pins s σ' H _ _ v u Q I rx ry ⟨rfl, by rw [dec_strV]; exact q.ok_ r (.bl _)⟩
    split at q
    · rename_i p p' e1 e2
      split at q
      · rename_i hs
        rw [Bool.and_eq_true] at hs
        exact op_eqD hu pins s σ' H _ _ v u Q I rx ry ⟨p, p', dp_of r 8 px e1, dp_of r 8 py e2, hs.1, hs.2, q.ok_ r (.bl _)⟩
      · exact q.elim
    · exact q.elim
  | NotEq =>
    simp only [cmpD] at q
    split at q
    · cases px; cases py
      exact op_ne pins s σ' H _ _ v u Q I rx ry ⟨rfl, by rw [dec_strV]; exact q.ok_ r (.bl _)⟩
    split at q
    · rename_i p p' e1 e2
      split at q
      · rename_i hs
        rw [Bool.and_eq_true] at hs
        exact op_neD hu pins s σ' H _ _ v u Q I rx ry ⟨p, p', dp_of r 8 px e1, dp_of r 8 py e2, hs.1, hs.2, q.ok_ r (.bl _)⟩
      · exact q.elim
    · exact q.elim
  | Lt =>
    simp only [cmpD] at q
    split at q
    · cases px; cases py
      exact op_lt pins s σ' H _ _ v u Q I rx ry ⟨_, _, rfl, rfl, q.ok_ r (.bl _)⟩
    · exact q.elim
  | LtE =>
    simp only [cmpD] at q
    split at q
    · cases px; cases py
      exact op_le pins s σ' H _ _ v u Q I rx ry ⟨_, _, rfl, rfl, q.ok_ r (.bl _)⟩
    · exact q.elim
  | Gt =>
    simp only [cmpD] at q
    split at q
    · cases px; cases py
      exact op_gt pins s σ' H _ _ v u Q I rx ry ⟨_, _, rfl, rfl, q.ok_ r (.bl _)⟩
    · exact q.elim
  | GtE =>
    simp only [cmpD] at q
    split at q
    · cases px; cases py
      exact op_ge pins s σ' H _ _ v u Q I rx ry ⟨_, _, rfl, rfl, q.ok_ r (.bl _)⟩
    · exact q.elim
  | Is =>
    simp only [cmpD] at q
    split at q
    · cases py
      refine op_isN pins s σ' H _ _ v u Q I rx ry ⟨rfl, ?_⟩
      rw [px.non_iff]
      exact q.ok_ r (.bl _)
    · exact q.elim
  | IsNot =>
    simp only [cmpD] at q
    split at q
    · cases py
      refine op_notN pins s σ' H _ _ v u Q I rx ry ⟨rfl, ?_⟩
      rw [px.non_iff]
      exact q.ok_ r (.bl _)
    · exact q.elim
  | In =>
    simp only [cmpD] at q
    split at q
    · rename_i ds e
      split at q
      · rename_i hf
        rw [Bool.and_eq_true] at hf
        obtain ⟨a, vs, rfl, hs, ha⟩ := seq_at r py e
        obtain ⟨e1, e2⟩ := px.flat hf.1
        obtain ⟨e3, e4⟩ := ha.flat hf.2
        refine op_in_seq pins s σ' H _ _ v u Q I rx ry ⟨a, vs, rfl, hs, e2, e4, ?_⟩
        have z := q.ok_ r (.bl _)
        rw [← e1, ← e3] at z
        exact z
      · exact q.elim
    · exact q.elim
  | NotIn =>
    simp only [cmpD] at q
    split at q
    · rename_i ds e
      split at q
      · rename_i hf
        rw [Bool.and_eq_true] at hf
        obtain ⟨a, vs, rfl, hs, ha⟩ := seq_at r py e
        obtain ⟨e1, e2⟩ := px.flat hf.1
        obtain ⟨e3, e4⟩ := ha.flat hf.2
        refine op_notIn_seq pins s σ' H _ _ v u Q I rx ry ⟨a, vs, rfl, hs, e2, e4, ?_⟩
        have z := q.ok_ r (.bl _)
        rw [← e1, ← e3] at z
        exact z
      · exact q.elim
    · exact q.elim
end

/-! ### subscripts on data -/
def keyOf : D → Option Key
  | .int i => some (.inl i)
  | .str x => some (.inr x)
  | _ => none
def dctAt (M : Store) (k : Nat) : Option (List (Key × D)) := match M[k]? with
  | some (.dct kvs) => some kvs
  | _ => none
def valD (kvs : List (Key × D)) (k : Key) : Option D := (kvs.find? fun kv => decide (kv.1 = k)).map (·.2)
def ixD (x y : D) (M : Store) : Out D := match seqD M x, y with
  | some ds, .int i => Out.of (atI ds i) M
  | _, _ => match x, keyOf y with
    | .ob k, some key => match dctAt M k with
      | some kvs => Out.of (valD kvs key) M
      | none => .no
    | _, _ => .no
def cutD (ds : List D) (lo hi : Option Int) : List D := (ds.drop (HT.sIx ds.length 0 lo)).take (HT.sIx ds.length ds.length hi - HT.sIx ds.length 0 lo)
def slD (x : D) (lo hi : Option Int) (M : Store) : Out D := match x with
  | .tup ds => .ok (.tup (cutD ds lo hi)) M
  | .ob k => match readAt M k with
    | some ds => newL (cutD ds lo hi) M
    | none => .no
  | _ => .no
section
variable {X : Cx} {cl : ClsA} {W : WX} {σ : L2.St} {θ : List Addr} {H : Hp} {M : Store} {Q : VK} {K : PySem.W.Frag}
theorem RpA.atI {vs : List V} {ds : List D} (h : RpA K θ H vs ds) {i : Int} {d : D} (e : atI ds i = some d) : ∃ v, L2.atI vs i = some v ∧ Rp K θ H v d := by
  unfold L2.atI at e ⊢
  rw [h.length]
  cases q : ixN ds.length i with
  | none => rw [q] at e; simp at e
  | some j =>
    rw [q] at e
    simp only [Option.bind_some] at e ⊢
    exact h.get e
theorem RpK.val : ∀ {ws : List (Key × V)} {kvs : List (Key × D)}, RpK K θ H ws kvs → ∀ {k : Key} {d : D}, valD kvs k = some d → ∃ v, valV ws k = some v ∧ Rp K θ H v d
  | _, _, .nil, k, d, e => by simp [valD] at e
  | _, _, .cons (k := k0) r t, k, d, e => by
    by_cases hk : k0 = k
    · subst hk
      simp [valD] at e
      subst e
      exact ⟨_, valV_pos rfl, r⟩
    · unfold valD at e
      rw [List.find?_cons_of_neg (by simpa using hk)] at e
      obtain ⟨v, h1, h2⟩ := RpK.val t (k := k) (d := d) e
      exact ⟨v, by rw [valV_neg hk]; exact h1, h2⟩
theorem dct_at (r : Rep K cl θ H M) {a : Addr} {k : Nat} {kvs : List (Key × D)} (h : θ[k]? = some a) (e : dctAt M k = some kvs) : ∃ ws, H a = some (.dK ws) ∧ RpK K θ H ws kvs := by
  obtain ⟨o, ho, hr⟩ := r.atn h
  unfold dctAt at e
  rw [ho] at e
  cases o with
  | dct ds =>
    simp at e
    subst e
    exact hr
  | _ => simp at e
/-- a dict's item, by values -/
def rIxDK : R2 := fun x y H Q => ∃ a v, x = .ref a ∧ DGet H a y (some v) ∧ Q v H
theorem ix_dK (hu : X.A.units + 1 < cLine) : IxR X rIxDK := by
  intro value slice pins s σ H x y v u Q I rx ry h hs
  obtain ⟨a, w', rfl, g, q⟩ := h
  cases (show v = Value.ref a from rx)
  exact tail_any (dict_typeIs I g) slot_dict_getitem.lookup (d_getItem hu I g ry fun w2 s' I' r' => ⟨w', H, I', r', q⟩) hs
theorem ix_D (σ : L2.St) (hu : X.A.units + 1 < cLine) : IxR X (opR X.K cl W σ ixD) := by
  intro value slice pins s σ' H x y v u Q I rx ry q hs
  obtain ⟨θ, M, dx, dy, r, px, py, q⟩ := q
  unfold ixD at q
  split at q
  · rename_i ds i e
    cases py
    obtain ⟨a, vs, rfl, hq, ha⟩ := seq_at r px e
    cases h : atI ds i with
    | none => rw [h] at q; exact q.elim
    | some d =>
      rw [h] at q
      obtain ⟨v', h1, h2⟩ := ha.atI h
      rcases hq with hq | hq
      · exact ix_list value slice pins s σ' H _ _ v u Q I rx ry ⟨a, vs, _, v', rfl, rfl, hq, h1, q.ok_ r h2⟩ hs
      · exact ix_tup value slice pins s σ' H _ _ v u Q I rx ry ⟨a, vs, _, v', rfl, rfl, hq, h1, q.ok_ r h2⟩ hs
  · split at q
    · rename_i k key hk hz
      split at q
      · rename_i kvs e
        cases px with
        | ob h1 =>
          obtain ⟨ws, h2, h3⟩ := dct_at r h1 e
          cases hv : valD kvs key with
          | none => rw [hv] at q; exact q.elim
          | some d =>
            rw [hv] at q
            obtain ⟨v', h4, h5⟩ := h3.val hv
            have ey : y = kV key := by
              cases py <;> simp [keyOf] at hk <;> (subst hk; rfl)
            subst ey
            exact ix_dK hu value slice pins s σ' H _ _ v u Q I rx ry ⟨_, v', rfl, by have g := DGet.k (k := key) h2; rw [h4] at g; exact g, q.ok_ r h5⟩ hs
      · exact q.elim
    · exact q.elim

theorem cut_D {K : PySem.W.Frag} {vs : List V} {ds : List D} (h : RpA K θ H vs ds) (lo hi : Option Int) : RpA K θ H (cutV vs lo hi) (cutD ds lo hi) := by
  unfold cutV cutD
  rw [h.length]
  exact RpA.take _ (RpA.drop _ h)
/-- a slice's reading over data -/
def slR (K : PySem.W.Frag) (cl : ClsA) (W : WX) (σ : L2.St) : V → Option Int → Option Int → Hp → VK → Prop := fun x lo hi H Q =>
  ∃ θ M dx, Rep K cl θ H M ∧ Rp K θ H x dx ∧ PostG K cl (Rp K) W Q σ θ H (slD dx lo hi M)
theorem SlR.imp {r r' : V → Option Int → Option Int → Hp → VK → Prop} (h : SlR X r) (k : ∀ x lo hi H Q, r' x lo hi H Q → r x lo hi H Q) : SlR X r' := fun pins s σ H x v vl vu lo hi sl Q I rx h1 h2 h3 q => h pins s σ H x v vl vu lo hi sl Q I rx h1 h2 h3 (k x lo hi H Q q)
def rSlX (K : PySem.W.Frag) : V → Option Int → Option Int → Hp → VK → Prop := fun x lo hi H Q => ∃ a xs, x = .ref a ∧ SqT K H a xs ∧
  (HT.sIx xs.length 0 lo = 0 ∧ HT.sIx xs.length xs.length hi = xs.length → Q (.ref a) H) ∧ (¬ (HT.sIx xs.length 0 lo = 0 ∧ HT.sIx xs.length xs.length hi = xs.length) → ∀ p o, H p = none → TObj o → Q (.ref p) (upd H p (.frz o (.tup (cutV xs lo hi)))))
theorem sl_tupX : SlR X (rSlX X.K) := by
  intro pn s0 σ0 H0 t vt v1 v2 lo hi sl R J ht hsl h1 h2 goal
  obtain ⟨p, us, et, su, g1, g2⟩ := goal
  subst et
  cases ht
  obtain ⟨is, vi, ti, le⟩ := J.tuple su
  have sz : is.toArray.size = us.length := by
    rw [List.size_toArray]
    exact vi.length.symm
  refine ⟨"tuple", _, PyProof.Rows.slot_tuple_getitem.lookup, ti.typeIs, ?_⟩
  by_cases wh : HT.sIx us.length 0 lo = 0 ∧ HT.sIx us.length us.length hi = us.length
  · exact getItem_tuple_whole ti hsl h1 h2 (by rw [sz]; exact wh) ⟨.ref p, H0, J, rfl, g1 wh⟩
  · refine HT.getItem_tuple_cut ti hsl h1 h2 (by rw [sz]; exact wh) ?_ (by rw [sz]; exact le)
    rw [sz]
    have part := (vi.drop (HT.sIx us.length 0 lo)).take (HT.sIx us.length us.length hi - HT.sIx us.length 0 lo)
    have nw := laidX J (t' := s0.toks) (vs := cutV us lo hi) (fun _ _ q => Heap.get?_push_of_some _ q) (Nat.le_refl _) (Heap.get?_push_size s0.heap rfl) ⟨Nat.le_trans (cutV_length us lo hi) le, _, part, IsTup.new _ _⟩
    exact ⟨.ref s0.heap.objs.size, _, nw, rfl, g2 wh _ _ (J.hok.fresh (Nat.le_refl _)) ⟨rfl, rfl⟩⟩
theorem sl_D (σ : L2.St) : SlR X (slR X.K cl W σ) := by
  refine SlR.imp (sl_list.or sl_tupX) fun x lo hi H Q q => ?_
  obtain ⟨θ, M, dx, r, px, q⟩ := q
  unfold slD at q
  split at q
  · cases px
    rename_i a vs h1 h2
    refine .inr ⟨_, _, rfl, h1.sq, fun e => ?_, fun e p o hp to => ?_⟩
    · refine q.ok_ r (.tup h1 ?_)
      have z := cut_D h2 lo hi
      have e2 : cutV vs lo hi = vs := by
        unfold cutV
        rw [e.1, e.2]
        simp
      rw [e2] at z
      exact z
    · have ex : Ext X.K θ H θ (upd H p (.frz o (.tup (cutV vs lo hi)))) := Ext.upd (Free.none hp)
      exact q θ _ _ ex (r.keep hp) (.tup (TupX.of upd_same to) ((cut_D h2 lo hi).ext ex))
  · cases px
    rename_i a h1
    split at q
    · rename_i ds e
      obtain ⟨vs, h2, h3⟩ := read_at r h1 e
      exact .inl ⟨_, _, rfl, h2, (newL_ok r (cut_D h3 lo hi) q).2⟩
    · exact q.elim
  · exact q.elim

/-! ### the rules -/
variable {a b c : Expr} {es : List Expr} {fa fb fc : Den D} {fs : Den (List D)} {pos : Pos}
abbrev RD (X : Cx) (cl : ClsA) (W : WX) (e : Expr) (f : Den D) : Prop := PE X e (rd cl W X.K f)
abbrev RT (X : Cx) (cl : ClsA) (W : WX) (e : Expr) (f : Den Bool) : Prop := PT X e (rdT cl W X.K f)
abbrev RA (X : Cx) (cl : ClsA) (W : WX) (es : List Expr) (f : Den (List D)) : Prop := PA X es (rdA cl W X.K f)

/-- a constant that is flat -/
theorem rd_c {v : V} {d : D} (h : PE X a (tC v)) (k : ∀ θ H, Rp X.K θ H v d) : RD X cl W a (fun _ M => .ok d M) := PE.imp h fun σ H Q q => by
  obtain ⟨θ, ρ, M, hE, r, q⟩ := q
  exact q.ok_ r (k θ H)
theorem rd_var {i : Nat} {x : Str} (hN : X.N[i]? = some x) (hv : Vis X.env.scope x) (hd : (x == ("__debug__" : Str)) = false) (hcd : (x == ("__classdict__" : Str)) = false) :
    RD X cl W (.Name x pos) (fun ρ M => Out.of (ρ[i]?).join M) := PE.imp (pe_var hN hv hd hcd) fun σ H Q q => by
  obtain ⟨θ, ρ, M, hE, r, q⟩ := q
  dsimp only at q
  cases e : (ρ[i]?).join with
  | none => rw [e] at q; exact q.elim
  | some d =>
    rw [e] at q
    have e2 : ρ[i]? = some (some d) := by
      cases h : ρ[i]? with
      | none => rw [h] at e; simp at e
      | some o => rw [h] at e; simp at e; rw [e]
    obtain ⟨v, h1, h2⟩ := hE.at_ i d e2
    exact ⟨v, h1, q.ok_ r h2⟩
/-- two expressions, then an operation by values -/
def den2 (fa fb : Den D) (g : D → D → Store → Out D) : Den D := fun ρ M => (fa ρ M).bind fun x M => (fb ρ M).bind fun y M => g x y M
theorem rd_two {ro : R2} {g : D → D → Store → Out D} {σ : L2.St} {H : Hp} {Q : VK} (hr : ∀ x y H Q, opR X.K cl W σ g x y H Q → ro x y H Q) (q : rd cl W X.K (den2 fa fb g) σ H Q) : tOp ro (rd cl W X.K fa) (rd cl W X.K fb) σ H Q := by
  obtain ⟨θ, ρ, M, hE, r, q⟩ := q
  refine ⟨θ, ρ, M, hE, r, q.bind fun x M1 θ1 H1 v e1 r1 p1 q1 => ?_⟩
  refine ⟨θ1, ρ, M1, hE.ext e1, r1, q1.bind fun y M2 θ2 H2 v2 e2 r2 p2 q2 => ?_⟩
  exact hr _ _ _ _ ⟨θ2, M2, x, y, r2, p1.ext e2, p2, q2⟩
theorem rd_bin (op : Operator) (ha : RD X cl W a fa) (hb : RD X cl W b fb) : RD X cl W (.BinOp a op b pos) (den2 fa fb (opD op)) :=
  ⟨fun pins s σ H Q I q => (pe_op (op_D (cl := cl) (W := W) σ op) ha hb).run pins s σ H Q I (rd_two (fun x y H Q h => h) q)⟩
/-- a value as a test -/
def asB (f : Den D) : Den Bool := fun ρ M => (f ρ M).bind fun d M => match d with
  | .bl b => .ok b M
  | _ => .no
theorem rdT_of {t : TE} {f : Den D} {σ : L2.St} {H : Hp} {Q : Bool → Hp → Prop} (h : ∀ Q : VK, rd cl W X.K f σ H Q → t σ H Q) (q : rdT cl W X.K (asB f) σ H Q) : t σ H fun x H' => ∃ k, x = .bl k ∧ Q k H' := by
  refine h _ ?_
  obtain ⟨θ, ρ, M, hE, r, q⟩ := q
  refine ⟨θ, ρ, M, hE, r, q.bind fun x M1 θ1 H1 v e1 r1 p1 q1 => ?_⟩
  cases p1 with
  | bl b => exact ⟨b, rfl, q1.ok_ r1 rfl⟩
  | _ => exact q1.elim
theorem rt_cmp (op : CmpOp) (hu : X.A.units + 64 < cLine) (hm : behindInMarks op b = false) (ha : RD X cl W a fa) (hb : RD X cl W b fb) : RT X cl W (.Compare a [op] [b] pos) (asB (den2 fa fb (cmpD op))) :=
  ⟨fun pins s σ H Q I q => (pt_cmpR (op_C (cl := cl) (W := W) σ op hu) ha hb hm).run pins s σ H Q I (rdT_of (t := tOp (opR X.K cl W σ (cmpD op)) (rd cl W X.K fa) (rd cl W X.K fb)) (fun Q q => rd_two (fun x y H Q h => h) q) q)⟩
/-- a < b < c -/
def den3 (fa fb fc : Den D) (op op' : CmpOp) : Den D := fun ρ M => (fa ρ M).bind fun x M => (fb ρ M).bind fun y M => (cmpD op x y M).bind fun k M => match k with
  | .bl true => (fc ρ M).bind fun z M => cmpD op' y z M
  | .bl false => .ok (.bl false) M
  | _ => .no
theorem rd_three {op op' : CmpOp} {σ : L2.St} {H : Hp} {Q : VK} (q : rd cl W X.K (den3 fa fb fc op op') σ H Q) : tChain (opR X.K cl W σ (cmpD op)) (opR X.K cl W σ (cmpD op')) (rd cl W X.K fa) (rd cl W X.K fb) (rd cl W X.K fc) σ H Q := by
  obtain ⟨θ, ρ, M, hE, r, q⟩ := q
  refine ⟨θ, ρ, M, hE, r, q.bind fun x M1 θ1 H1 v e1 r1 p1 q1 => ?_⟩
  refine ⟨θ1, ρ, M1, hE.ext e1, r1, q1.bind fun y M2 θ2 H2 v2 e2 r2 p2 q2 => ?_⟩
  refine ⟨θ2, M2, x, y, r2, p1.ext e2, p2, q2.bind fun k M3 θ3 H3 v3 e3 r3 p3 q3 => ?_⟩
  cases p3 with
  | bl b =>
    refine ⟨b, rfl, ?_⟩
    cases b with
    | true =>
      refine iteT ⟨θ3, ρ, M3, hE.ext (e1.trans (e2.trans e3)), r3, PostG.bind q3 fun z M4 θ4 H4 v4 e4 r4 p4 q4 => ?_⟩
      exact ⟨θ4, M4, y, z, r4, p2.ext (e3.trans e4), p4, q4⟩
    | false => exact iteF (PostG.ok_ q3 r3 (.bl false))
  | _ => exact q3.elim
theorem rd_chain (op op' : CmpOp) (hu : X.A.units + 64 < cLine) (hm : lastMarks [op, op'] [b, c] = false) (ha : RD X cl W a fa) (hb : RD X cl W b fb) (hc : RD X cl W c fc) : RD X cl W (.Compare a [op, op'] [b, c] pos) (den3 fa fb fc op op') :=
  ⟨fun pins s σ H Q I q => (pe_chain (op_C (cl := cl) (W := W) σ op hu) (op_C (cl := cl) (W := W) σ op' hu) ha hb hc hm).run pins s σ H Q I (rd_three q)⟩
theorem rt_chain (op op' : CmpOp) (hu : X.A.units + 64 < cLine) (hm : lastMarks [op, op'] [b, c] = false) (ha : RD X cl W a fa) (hb : RD X cl W b fb) (hc : RD X cl W c fc) : RT X cl W (.Compare a [op, op'] [b, c] pos) (asB (den3 fa fb fc op op')) :=
  ⟨fun pins s σ H Q I q => (pt_chain (op_C (cl := cl) (W := W) σ op hu) (op_C (cl := cl) (W := W) σ op' hu) ha hb hc hm).run pins s σ H Q I (rdT_of (t := tChain (opR X.K cl W σ (cmpD op)) (opR X.K cl W σ (cmpD op')) (rd cl W X.K fa) (rd cl W X.K fb) (rd cl W X.K fc)) (fun Q q => rd_three q) q)⟩
theorem rt_val (ha : RD X cl W a fa) (he : ∀ whole, isTrue a X.env whole = (do let v ← whole; standAt a.pos; holding [v] (truthy v))) : RT X cl W a (asB fa) :=
  ⟨fun pins s σ H Q I q => (pt_val ha he).run pins s σ H Q I (rdT_of (t := rd cl W X.K fa) (fun Q q => q) q)⟩

/-! ### and, or, not, if -/
def denAnd (fa fb : Den Bool) : Den Bool := fun ρ M => (fa ρ M).bind fun k M => if k then fb ρ M else .ok false M
def denOr (fa fb : Den Bool) : Den Bool := fun ρ M => (fa ρ M).bind fun k M => if k then .ok true M else fb ρ M
def denNot (fa : Den Bool) : Den Bool := fun ρ M => (fa ρ M).bind fun k M => .ok (!k) M
variable {ga gb : Den Bool} {rest : List Expr}
abbrev RW (X : Cx) (cl : ClsA) (W : WX) (e : Expr) (f : Den Bool) : Prop := PW X e (rdT cl W X.K f)
theorem PW.imp' {X : Cx} {e : Expr} {t t' : TT} (h : PW X e t) (k : ∀ σ H Q, t' σ H Q → t σ H Q) : PW X e t' := ⟨fun wh pins s σ H Q I q => h.run wh pins s σ H Q I (k σ H Q q)⟩
theorem rw_and (ha : RT X cl W a ga) (hb : RW X cl W (.BoolOp .And (b :: rest) pos) gb) : RW X cl W (.BoolOp .And (a :: b :: rest) pos) (denAnd ga gb) := PW.imp' (pw_and ha hb) fun σ H Q q => by
  obtain ⟨θ, ρ, M, hE, r, q⟩ := q
  refine ⟨θ, ρ, M, hE, r, q.bind fun x M1 θ1 H1 v e1 r1 p1 q1 => ?_⟩
  subst p1
  cases v with
  | true => exact iteT ⟨θ1, ρ, M1, hE.ext e1, r1, q1⟩
  | false => exact iteF (PostG.ok_ q1 r1 rfl)
theorem rw_or (ha : RT X cl W a ga) (hb : RW X cl W (.BoolOp .Or (b :: rest) pos) gb) : RW X cl W (.BoolOp .Or (a :: b :: rest) pos) (denOr ga gb) := PW.imp' (pw_or ha hb) fun σ H Q q => by
  obtain ⟨θ, ρ, M, hE, r, q⟩ := q
  refine ⟨θ, ρ, M, hE, r, q.bind fun x M1 θ1 H1 v e1 r1 p1 q1 => ?_⟩
  subst p1
  cases v with
  | true => exact iteT (PostG.ok_ q1 r1 rfl)
  | false => exact iteF ⟨θ1, ρ, M1, hE.ext e1, r1, q1⟩
theorem rt_not (ha : RT X cl W a ga) : RT X cl W (.UnaryOp .Not a pos) (denNot ga) := PT.imp (pt_not ha) fun σ H Q q => by
  obtain ⟨θ, ρ, M, hE, r, q⟩ := q
  refine ⟨θ, ρ, M, hE, r, q.bind fun x M1 θ1 H1 v e1 r1 p1 q1 => ?_⟩
  subst p1
  exact PostG.ok_ q1 r1 rfl
/-- as values: all but the last a bool -/
def denAndV (fa fb : Den D) : Den D := fun ρ M => (fa ρ M).bind fun k M => match k with
  | .bl true => fb ρ M
  | .bl false => .ok (.bl false) M
  | _ => .no
def denNotV (fa : Den D) : Den D := fun ρ M => (fa ρ M).bind fun k M => match k with
  | .bl b => .ok (.bl (!b)) M
  | _ => .no
def denIf (g : Den Bool) (fa fb : Den D) : Den D := fun ρ M => (g ρ M).bind fun k M => if k then fa ρ M else fb ρ M
theorem rd_and (ha : RD X cl W a fa) (hb : RD X cl W (.BoolOp .And (b :: rest) pos) fb) : RD X cl W (.BoolOp .And (a :: b :: rest) pos) (denAndV fa fb) := PE.imp (pe_and ha hb) fun σ H Q q => by
  obtain ⟨θ, ρ, M, hE, r, q⟩ := q
  refine ⟨θ, ρ, M, hE, r, q.bind fun x M1 θ1 H1 v e1 r1 p1 q1 => ?_⟩
  cases p1 with
  | bl k =>
    refine ⟨k, rfl, ?_⟩
    cases k with
    | true => exact iteT ⟨θ1, ρ, M1, hE.ext e1, r1, q1⟩
    | false => exact iteF (PostG.ok_ q1 r1 (.bl false))
  | _ => exact q1.elim
theorem rd_not (ha : RD X cl W a fa) : RD X cl W (.UnaryOp .Not a pos) (denNotV fa) := PE.imp (pe_not ha) fun σ H Q q => by
  obtain ⟨θ, ρ, M, hE, r, q⟩ := q
  refine ⟨θ, ρ, M, hE, r, q.bind fun x M1 θ1 H1 v e1 r1 p1 q1 => ?_⟩
  cases p1 with
  | bl k => exact ⟨k, rfl, PostG.ok_ q1 r1 (.bl _)⟩
  | _ => exact q1.elim
theorem rd_ifx (hc : RT X cl W c ga) (ha : RD X cl W a fa) (hb : RD X cl W b fb) : RD X cl W (.IfExp c a b pos) (denIf ga fa fb) := PE.imp (pe_ifExp hc ha hb) fun σ H Q q => by
  obtain ⟨θ, ρ, M, hE, r, q⟩ := q
  refine ⟨θ, ρ, M, hE, r, q.bind fun x M1 θ1 H1 v e1 r1 p1 q1 => ?_⟩
  subst p1
  cases v with
  | true => exact iteT ⟨θ1, ρ, M1, hE.ext e1, r1, q1⟩
  | false => exact iteF ⟨θ1, ρ, M1, hE.ext e1, r1, q1⟩
def denNeg (fa : Den D) : Den D := fun ρ M => (fa ρ M).bind fun k M => match k with
  | .int i => .ok (.int (-i)) M
  | _ => .no
theorem rd_neg (ha : RD X cl W a fa) : RD X cl W (.UnaryOp .USub a pos) (denNeg fa) := PE.imp (pe_un un_neg ha) fun σ H Q q => by
  obtain ⟨θ, ρ, M, hE, r, q⟩ := q
  refine ⟨θ, ρ, M, hE, r, q.bind fun x M1 θ1 H1 v e1 r1 p1 q1 => ?_⟩
  cases p1 with
  | int k => exact ⟨k, rfl, PostG.ok_ q1 r1 (.int _)⟩
  | _ => exact q1.elim

/-! ### lists of expressions, displays -/
def isStar : Expr → Bool
  | .Starred _ _ => true
  | _ => false
theorem star_one (e : Expr) (es : List Expr) (env : Env) (h : isStar e = false) : starEach (e :: es) env = (false, eval e env) :: starEach es env := by
  cases e <;> first | rfl | (simp [isStar] at h)
theorem star_no (pos : Pos) (env : Env) : ∀ es : List Expr, es.any isStar = false → (backTo pos (starEach es env)).any (·.1) = false
  | [], _ => rfl
  | e :: es, h => by
    rw [List.any_cons, Bool.or_eq_false_iff] at h
    rw [star_one e es env h.1]
    show (false || (backTo pos (starEach es env)).any (·.1)) = false
    rw [star_no pos env es h.2] <;> rfl
def denNil : Den (List D) := fun _ M => .ok [] M
def denCons (fa : Den D) (fs : Den (List D)) : Den (List D) := fun ρ M => (fa ρ M).bind fun x M => (fs ρ M).bind fun xs M => .ok (x :: xs) M
theorem ra_nil : RA X cl W [] denNil := PA.imp pa_nil fun σ H Q q => by
  obtain ⟨θ, ρ, M, hE, r, q⟩ := q
  exact PostG.ok_ q r .nil
theorem ra_cons (ha : RD X cl W a fa) (hs : isStar a = false) (hr : RA X cl W es fs) : RA X cl W (a :: es) (denCons fa fs) := PA.imp (pa_cons ha hr (star_one a es X.env hs)) fun σ H Q q => by
  obtain ⟨θ, ρ, M, hE, r, q⟩ := q
  refine ⟨θ, ρ, M, hE, r, q.bind fun x M1 θ1 H1 v e1 r1 p1 q1 => ?_⟩
  refine ⟨θ1, ρ, M1, hE.ext e1, r1, q1.bind fun xs M2 θ2 H2 vs e2 r2 p2 q2 => ?_⟩
  exact PostG.ok_ q2 r2 (.cons (p1.ext e2) p2)
def denTup (fs : Den (List D)) : Den D := fun ρ M => (fs ρ M).bind fun xs M => if xs.length ≤ line then .ok (.tup xs) M else .no
def denLst (fs : Den (List D)) : Den D := fun ρ M => (fs ρ M).bind fun xs M => newL xs M
/-- a new tuple of xs -/
theorem newT_ok {K : PySem.W.Frag} (r : Rep K cl θ H M) {vs : List V} {xs : List D} (hx : RpA K θ H vs xs) (h : PostG K cl (Rp K) W Q σ θ H (.ok (.tup xs) M)) {p : Addr} {o : Obj} (hp : H p = none) (to : TObj o) : Q (.ref p) (upd H p (.frz o (.tup vs))) := by
  have ex : Ext K θ H θ (upd H p (.frz o (.tup vs))) := Ext.upd (Free.none hp)
  exact h θ _ _ ex (r.keep hp) (.tup (TupX.of upd_same to) (hx.ext ex))
def tTupX (t : TA) : TE := fun σ H Q => t σ H fun xs H1 => xs.length ≤ sizeLine ∧ ∀ p o, H1 p = none → TObj o → Q (.ref p) (upd H1 p (.frz o (.tup xs)))
theorem pe_tupX {t : TA} {x1 : Nat} (h : PA X es t) : PE X (.Tuple es x1 pos) (tTupX t) := by
  refine ⟨fun pn s0 σ0 H0 R J goal => wpAny_Tuple_spliced (thn (h.run pos pn s0 σ0 H0 _ J goal) fun us s2 ⟨xs, H2, J2, rv, le, g⟩ => ⟨by have := rv.length; omega, ?_⟩)⟩
  have nw := laidX J2 (t' := s2.toks) (vs := xs) (o := { cls := .type "tuple", data := .seq us.toArray }) (fun _ _ q => Heap.get?_push_of_some _ q) (Nat.le_refl _) (Heap.get?_push_size s2.heap rfl) ⟨le, us, rv, ⟨_, Heap.get?_push_size _ rfl, rfl, _, rfl⟩⟩
  exact ⟨.ref s2.heap.objs.size, _, nw, rfl, g _ _ (J2.hok.fresh (Nat.le_refl _)) ⟨rfl, rfl⟩⟩
theorem rd_tup {k : Nat} (h : RA X cl W es fs) : RD X cl W (.Tuple es k pos) (denTup fs) := PE.imp (pe_tupX h) fun σ H Q q => by
  obtain ⟨θ, ρ, M, hE, r, q⟩ := q
  refine ⟨θ, ρ, M, hE, r, q.bind fun x M1 θ1 H1 v e1 r1 p1 q1 => ?_⟩
  split at q1
  · rename_i hl
    exact ⟨by rw [p1.length]; exact line_ok hl, fun p ob hp to => newT_ok r1 p1 q1 hp to⟩
  · exact q1.elim
theorem rd_lst (h : RA X cl W es fs) : RD X cl W (.List es pos) (denLst fs) := PE.imp (pe_lst h) fun σ H Q q => by
  obtain ⟨θ, ρ, M, hE, r, q⟩ := q
  refine ⟨θ, ρ, M, hE, r, q.bind fun x M1 θ1 H1 v e1 r1 p1 q1 => ?_⟩
  exact newL_ok r1 p1 q1

/-! ### subscripts -/
def isSlice : Expr → Bool
  | .Slice _ _ _ _ => true
  | _ => false
theorem plainIx (b : Expr) (h : isSlice b = false) : PlainIx b := fun o i => by
  cases b <;> first | rfl | (simp [isSlice] at h)
theorem rd_ix (hu : X.A.units + 1 < cLine) (hs : isSlice b = false) (ha : RD X cl W a fa) (hb : RD X cl W b fb) : RD X cl W (.Subscript a b pos) (den2 fa fb ixD) :=
  ⟨fun pins s σ H Q I q => (pe_ix (ix_D (cl := cl) (W := W) σ hu) ha hb (plainIx b hs)).run pins s σ H Q I (rd_two (fun x y H Q h => h) q)⟩
def denNoPart : Den (Option Int) := fun _ M => .ok none M
def denPart (fa : Den D) : Den (Option Int) := fun ρ M => (fa ρ M).bind fun d M => match d with
  | .int i => .ok (some i) M
  | _ => .no
abbrev RO (X : Cx) (cl : ClsA) (W : WX) (e : Option Expr) (f : Den (Option Int)) : Prop := PO X e (rdO cl W X.K f)
theorem PO.imp' {X : Cx} {e : Option Expr} {t t' : TO} (h : PO X e t) (k : ∀ σ H Q, t' σ H Q → t σ H Q) : PO X e t' := ⟨fun pins s σ H Q I q => h.run pins s σ H Q I (k σ H Q q)⟩
theorem ro_none : RO X cl W none denNoPart := PO.imp' po_none fun σ H Q q => by
  obtain ⟨θ, ρ, M, hE, r, q⟩ := q
  exact PostG.ok_ q r rfl
theorem ro_some (ha : RD X cl W a fa) : RO X cl W (some a) (denPart fa) := PO.imp' (po_some ha) fun σ H Q q => by
  obtain ⟨θ, ρ, M, hE, r, q⟩ := q
  refine ⟨θ, ρ, M, hE, r, q.bind fun x M1 θ1 H1 v e1 r1 p1 q1 => ?_⟩
  cases p1 with
  | int i => exact ⟨i, rfl, PostG.ok_ q1 r1 rfl⟩
  | _ => exact q1.elim
def denSl (fa : Den D) (fl fh : Den (Option Int)) : Den D := fun ρ M => (fa ρ M).bind fun x M => (fl ρ M).bind fun lo M => (fh ρ M).bind fun hi M => slD x lo hi M
theorem rd_sl {lo hi : Option Expr} {fl fh : Den (Option Int)} {p2 : Pos} (ha : RD X cl W a fa) (hl : RO X cl W lo fl) (hh : RO X cl W hi fh) : RD X cl W (.Subscript a (.Slice lo hi none p2) pos) (denSl fa fl fh) :=
  ⟨fun pins s σ H Q I q => (pe_slice (sl_D (cl := cl) (W := W) σ) ha hl hh).run pins s σ H Q I (by
    obtain ⟨θ, ρ, M, hE, r, q⟩ := q
    refine ⟨θ, ρ, M, hE, r, q.bind fun x M1 θ1 H1 v e1 r1 p1 q1 => ?_⟩
    refine ⟨θ1, ρ, M1, hE.ext e1, r1, q1.bind fun lo M2 θ2 H2 v2 e2 r2 p2 q2 => ?_⟩
    refine ⟨θ2, ρ, M2, hE.ext (e1.trans e2), r2, q2.bind fun hi M3 θ3 H3 v3 e3 r3 p3 q3 => ?_⟩
    subst p2
    subst p3
    exact ⟨θ3, M3, x, r3, p1.ext (e2.trans e3), q3⟩)⟩
end
end RI

/-! repr of data that may hold dicts -/
namespace RI
open PySem PySem.Spec PyProof.Rows L2

mutual
/-- what stands at v is d, and no dict of it is the table of modules -/
inductive Sh (h : Heap) : PyData → Value → Prop
  | non : Sh h .none .none
  | bl (b : Bool) : Sh h (.bool b) (.bool b)
  | int (i : Int) (t : Tok) : Sh h (.int i) (.int i t)
  | str (x : Str) (t : Tok) : Sh h (.str x) (.str x t)
  | list {a : Addr} {o : Obj} {l : List Value} {n : Nat} {ds : List PyData} (g : h.get? a = some o) (c : o.cls = .type "list") (q : o.data = .seq l.toArray n) (p : ShA h ds l) : Sh h (.list ds) (.ref a)
  | tuple {a : Addr} {o : Obj} {l : List Value} {n : Nat} {ds : List PyData} (g : h.get? a = some o) (c : o.cls = .type "tuple") (q : o.data = .seq l.toArray n) (p : ShA h ds l) : Sh h (.tuple ds) (.ref a)
  | dict {a : Addr} {o : Obj} {l : List DictEntry} {n : Nat} {kvs : List (PyData × PyData)} (g : h.get? a = some o) (c : o.cls = .type "dict") (q : o.data = .dict l.toArray n) (y : (a == sysModules) = false)
      (p : ShK h kvs l) : Sh h (.dict kvs) (.ref a)
inductive ShA (h : Heap) : List PyData → List Value → Prop
  | nil : ShA h [] []
  | cons {d : PyData} {v : Value} {ds : List PyData} {vs : List Value} (x : Sh h d v) (t : ShA h ds vs) : ShA h (d :: ds) (v :: vs)
inductive ShK (h : Heap) : List (PyData × PyData) → List DictEntry → Prop
  | nil : ShK h [] []
  | cons {kv : PyData × PyData} {e : DictEntry} {ds : List (PyData × PyData)} {vs : List DictEntry} (x : Sh h kv.1 e.key) (y : Sh h kv.2 e.val) (t : ShK h ds vs) : ShK h (kv :: ds) (e :: vs)
end
theorem ShA.pr {h : Heap} : ∀ {ds : List PyData} {l : List Value}, ShA h ds l → Paired (Sh h) ds l
  | _, _, .nil => .nil
  | _, _, .cons x t => .cons x t.pr
theorem ShK.pr {h : Heap} : ∀ {ds : List (PyData × PyData)} {l : List DictEntry}, ShK h ds l → Paired (fun (kv : PyData × PyData) (e : DictEntry) => Sh h kv.1 e.key ∧ Sh h kv.2 e.val) ds l
  | _, _, .nil => .nil
  | _, _, .cons x y t => .cons ⟨x, y⟩ t.pr

theorem Paired.imp {α β : Type} {F G : α → β → Prop} : ∀ {xs : List α} {ys : List β}, Paired F xs ys → (∀ x y, x ∈ xs → F x y → G x y) → Paired G xs ys
  | _, _, .nil, _ => .nil
  | _, _, .cons h t, k => .cons (k _ _ List.mem_cons_self h) (Paired.imp t fun x y m => k x y (List.mem_cons_of_mem _ m))
theorem readsAll_of {h : Heap} : ∀ {ds : List PyData} {l : List Value}, Paired (fun d v => ∃ as, Reads h v d as) ds l → ∃ as, ReadsAll h l ds as
  | _, _, .nil => ⟨[], .nil⟩
  | _, _, .cons ⟨a1, h1⟩ t => let ⟨a2, h2⟩ := readsAll_of t; ⟨a1 ++ a2, .cons h1 h2⟩
theorem paired_map {α β γ δ : Type} {F : γ → δ → Prop} (f : α → γ) (g : β → δ) : ∀ {xs : List α} {ys : List β}, Paired (fun x y => F (f x) (g y)) xs ys → Paired F (xs.map f) (ys.map g)
  | _, _, .nil => .nil
  | _, _, .cons h t => .cons h (paired_map f g t)
theorem dAll_mem : ∀ {ds : List PyData} {d : PyData}, d ∈ ds → d.depth ≤ PyData.depthAll ds
  | x :: r, d, h => by
    simp only [PyData.depthAll]
    rcases List.mem_cons.mp h with rfl | h
    · exact Nat.le_max_left _ _
    · exact Nat.le_trans (dAll_mem h) (Nat.le_max_right _ _)
theorem dKv_mem : ∀ {ds : List (PyData × PyData)} {d : PyData × PyData}, d ∈ ds → d.1.depth ≤ PyData.depthKv ds ∧ d.2.depth ≤ PyData.depthKv ds
  | (a, b) :: r, d, h => by
    simp only [PyData.depthKv]
    rcases List.mem_cons.mp h with rfl | h
    · exact ⟨by dsimp only; omega, by dsimp only; omega⟩
    · have := dKv_mem h
      exact ⟨by omega, by omega⟩
theorem sh_reads {h : Heap} (n : Nat) : ∀ {d : PyData} {v : Value}, d.depth ≤ n → Sh h d v → ∃ as, Reads h v d as := by
  induction n with
  | zero =>
    intro d v hn z
    cases z with
    | non => exact ⟨_, .none⟩
    | bl b => exact ⟨_, .bool b⟩
    | int i t => exact ⟨_, .int i t⟩
    | str x t => exact ⟨_, .str x t⟩
    | list g c q p => simp only [PyData.depth] at hn; omega
    | tuple g c q p => simp only [PyData.depth] at hn; omega
    | dict g c q y p => simp only [PyData.depth] at hn; omega
  | succ n ih =>
    intro d v hn z
    cases z with
    | non => exact ⟨_, .none⟩
    | bl b => exact ⟨_, .bool b⟩
    | int i t => exact ⟨_, .int i t⟩
    | str x t => exact ⟨_, .str x t⟩
    | list g c q p =>
      simp only [PyData.depth] at hn
      obtain ⟨as, r⟩ := readsAll_of (Paired.imp p.pr fun d v m hs => ih (by have := dAll_mem m; omega) hs)
      exact ⟨_, .list g c q r⟩
    | tuple g c q p =>
      simp only [PyData.depth] at hn
      obtain ⟨as, r⟩ := readsAll_of (Paired.imp p.pr fun d v m hs => ih (by have := dAll_mem m; omega) hs)
      exact ⟨_, .tuple g c q r⟩
    | dict g c q y p =>
      rename_i a o l m kvs
      simp only [PyData.depth] at hn
      have p1 : Paired (fun (kv : PyData × PyData) (e : DictEntry) => ∃ as, Reads h e.key kv.1 as) kvs l := Paired.imp p.pr fun d v m hs => ih (by have := dKv_mem m; omega) hs.1
      have p2 : Paired (fun (kv : PyData × PyData) (e : DictEntry) => ∃ as, Reads h e.val kv.2 as) kvs l := Paired.imp p.pr fun d v m hs => ih (by have := dKv_mem m; omega) hs.2
      obtain ⟨as, r1⟩ := readsAll_of (paired_map (F := fun d v => ∃ as, Reads h v d as) (fun kv : PyData × PyData => kv.1) (fun e : DictEntry => e.key) p1)
      obtain ⟨bs, r2⟩ := readsAll_of (paired_map (F := fun d v => ∃ as, Reads h v d as) (fun kv : PyData × PyData => kv.2) (fun e : DictEntry => e.val) p2)
      exact ⟨_, .dict g c q (by simpa using r1) (by simpa using r2)⟩

section
variable {prog : Program} {w : World} {h : Heap}
/-- one's repr within a greater one -/
def In1 (prog : Program) (w : World) (h : Heap) (d : PyData) (v : Value) : Prop := ∃ bs, ReadAtMost h d.depth bs ∧ ReprK prog w bs h d.depth v d.shown
theorem all_of {m : Nat} : ∀ {ds : List PyData} {l : List Value}, Paired (fun d v => d.depth ≤ m ∧ In1 prog w h d v) ds l → ∃ bs, ReadAtMost h m bs ∧ ReprAllK prog w bs h m l (PyData.shownAll ds)
  | _, _, .nil => ⟨[], (fun _ z => nomatch z), by simp only [PyData.shownAll]; exact .nil⟩
  | _, _, .cons ⟨hm, b1, h1, k1⟩ t => by
    obtain ⟨b2, h2, k2⟩ := all_of t
    refine ⟨b1 ++ b2, (h1.mono hm).append h2, ?_⟩
    simp only [PyData.shownAll]
    exact .cons ((k1.more fun b hb => List.mem_append_left _ hb).level_le hm) (k2.more_le (fun b hb => List.mem_append_right _ hb) (Nat.le_refl _))
theorem kv_of {m : Nat} : ∀ {kvs : List (PyData × PyData)} {l : List DictEntry}, Paired (fun (kv : PyData × PyData) (e : DictEntry) => (kv.1.depth ≤ m ∧ In1 prog w h kv.1 e.key) ∧ kv.2.depth ≤ m ∧ In1 prog w h kv.2 e.val) kvs l →
    ∃ bs, ReadAtMost h m bs ∧ ReprEntriesK prog w bs h m l (PyData.shownKv kvs)
  | _, _, .nil => ⟨[], (fun _ z => nomatch z), by simp only [PyData.shownKv]; exact .nil⟩
  | (k, v) :: _, _, .cons ⟨⟨hk, bk, rk, kk⟩, hm, b1, h1, k1⟩ t => by
    obtain ⟨b2, h2, k2⟩ := kv_of t
    have up : ∀ {l : List DictEntry} {ps : List Str}, ReprEntriesK prog w b2 h m l ps → ReprEntriesK prog w (bk ++ b1 ++ b2) h m l ps := by
      intro l ps q
      induction q with
      | nil => exact .nil
      | cons x y _ ih => exact .cons (x.more fun b hb => List.mem_append_right _ hb) (y.more fun b hb => List.mem_append_right _ hb) ih
    refine ⟨bk ++ b1 ++ b2, ((rk.mono hk).append (h1.mono hm)).append h2, ?_⟩
    simp only [PyData.shownKv]
    exact .cons ((kk.more fun b hb => List.mem_append_left _ (List.mem_append_left _ hb)).level_le hk) ((k1.more fun b hb => List.mem_append_left _ (List.mem_append_right _ hb)).level_le hm) (up k2)
theorem sAll_mem : ∀ {ds : List PyData} {d : PyData}, d ∈ ds → d.shown ∈ PyData.shownAll ds ∧ (PyData.showableAll ds = true → d.showable = true)
  | x :: r, d, hm => by
    simp only [PyData.shownAll, PyData.showableAll, Bool.and_eq_true]
    rcases List.mem_cons.mp hm with rfl | hm
    · exact ⟨List.mem_cons_self, fun z => z.1⟩
    · have := sAll_mem hm
      exact ⟨List.mem_cons_of_mem _ this.1, fun z => this.2 z.2⟩
theorem sKv_mem : ∀ {ds : List (PyData × PyData)} {d : PyData × PyData}, d ∈ ds → (∃ p ∈ PyData.shownKv ds, d.1.shown.length ≤ p.length ∧ d.2.shown.length ≤ p.length) ∧ (PyData.showableKv ds = true → d.1.showable = true ∧ d.2.showable = true)
  | (a, b) :: r, d, hm => by
    simp only [PyData.shownKv, PyData.showableKv, Bool.and_eq_true]
    rcases List.mem_cons.mp hm with rfl | hm
    · exact ⟨⟨_, List.mem_cons_self, by rw [strLen_append, strLen_append]; dsimp only; omega, by rw [strLen_append, strLen_append]; dsimp only; omega⟩, fun z => z.1⟩
    · obtain ⟨⟨p, h1, h2⟩, h3⟩ := sKv_mem hm
      exact ⟨⟨p, List.mem_cons_of_mem _ h1, h2⟩, fun z => h3 z.2⟩
theorem in1_of (n : Nat) : ∀ {d : PyData} {v : Value}, d.depth ≤ n → Sh h d v → d.showable = true → d.shown.length ≤ sizeLine → In1 prog w h d v := by
  induction n with
  | zero =>
    intro d v hn z hs hz
    cases z with
    | non => exact ⟨[], (fun _ z => nomatch z), by simp only [PyData.shown]; exact .of_is ReprIs.none _ _ _⟩
    | bl b => exact ⟨[], (fun _ z => nomatch z), by simp only [PyData.shown]; exact .of_is (ReprIs.bool b) _ _ _⟩
    | int i t => exact ⟨[], (fun _ z => nomatch z), by simp only [PyData.shown]; exact .of_is (ReprIs.int t (by simpa [PyData.showable] using hs)) _ _ _⟩
    | str x t => exact ⟨[], (fun _ z => nomatch z), by simp only [PyData.shown]; exact .of_is (ReprIs.str x t (by simpa only [PyData.shown] using hz)) _ _ _⟩
    | list g c q p => simp only [PyData.depth] at hn; omega
    | tuple g c q p => simp only [PyData.depth] at hn; omega
    | dict g c q y p => simp only [PyData.depth] at hn; omega
  | succ n ih =>
    intro d v hn z hs hz
    cases z with
    | non => exact ⟨[], (fun _ z => nomatch z), by simp only [PyData.shown]; exact .of_is ReprIs.none _ _ _⟩
    | bl b => exact ⟨[], (fun _ z => nomatch z), by simp only [PyData.shown]; exact .of_is (ReprIs.bool b) _ _ _⟩
    | int i t => exact ⟨[], (fun _ z => nomatch z), by simp only [PyData.shown]; exact .of_is (ReprIs.int t (by simpa [PyData.showable] using hs)) _ _ _⟩
    | str x t => exact ⟨[], (fun _ z => nomatch z), by simp only [PyData.shown]; exact .of_is (ReprIs.str x t (by simpa only [PyData.shown] using hz)) _ _ _⟩
    | list g c q p =>
      rename_i a o l m ds
      obtain ⟨as, r⟩ := sh_reads (n + 1) hn (.list g c q p)
      simp only [PyData.depth] at hn
      simp only [PyData.showable] at hs
      simp only [PyData.shown] at hz
      obtain ⟨bs, hb, hk⟩ := all_of (prog := prog) (w := w) (Paired.imp p.pr fun d v m z => ⟨dAll_mem m, ih (by have := dAll_mem m; omega) z ((sAll_mem m).2 hs) (Nat.le_trans (listText_mem_le (sAll_mem m).1) hz)⟩)
      have hna : a ∉ bs := not_mem_of_deeper r (by simp only [PyData.depth]; omega) hb
      refine ⟨a :: bs, ReadAtMost.cons r (by simp only [PyData.depth]; omega) hb, ?_⟩
      simp only [PyData.depth, PyData.shown]
      cases l with
      | nil =>
        cases p
        simp only [PyData.shownAll, listText_nil]
        exact ReprK.listEmpty g c q
      | cons x l => exact ReprK.list g c q hna (by simpa using hk.length_eq) fun i y e => hk.item i y (by simpa using e)
    | tuple g c q p =>
      rename_i a o l m ds
      obtain ⟨as, r⟩ := sh_reads (n + 1) hn (.tuple g c q p)
      simp only [PyData.depth] at hn
      simp only [PyData.showable] at hs
      simp only [PyData.shown] at hz
      obtain ⟨bs, hb, hk⟩ := all_of (prog := prog) (w := w) (Paired.imp p.pr fun d v m z => ⟨dAll_mem m, ih (by have := dAll_mem m; omega) z ((sAll_mem m).2 hs) (Nat.le_trans (tupleText_mem_le (sAll_mem m).1) hz)⟩)
      have hna : a ∉ bs := not_mem_of_deeper r (by simp only [PyData.depth]; omega) hb
      refine ⟨a :: bs, ReadAtMost.cons r (by simp only [PyData.depth]; omega) hb, ?_⟩
      simp only [PyData.depth, PyData.shown]
      exact ReprK.tuple g c q hna (by simpa using hk)
    | dict g c q y p =>
      rename_i a o l m kvs
      obtain ⟨as, r⟩ := sh_reads (n + 1) hn (.dict g c q y p)
      simp only [PyData.depth] at hn
      simp only [PyData.showable] at hs
      simp only [PyData.shown] at hz
      have big : ∀ kv ∈ kvs, kv.1.shown.length ≤ sizeLine ∧ kv.2.shown.length ≤ sizeLine := fun kv m => by
        obtain ⟨⟨t, h1, h2, h3⟩, _⟩ := sKv_mem m
        have := dictText_mem_le h1
        exact ⟨by omega, by omega⟩
      obtain ⟨bs, hb, hk⟩ := kv_of (prog := prog) (w := w) (Paired.imp p.pr fun kv e m z => ⟨⟨(dKv_mem m).1, ih (by have := dKv_mem m; omega) z.1 ((sKv_mem m).2 hs).1 (big kv m).1⟩, (dKv_mem m).2, ih (by have := dKv_mem m; omega) z.2 ((sKv_mem m).2 hs).2 (big kv m).2⟩)
      have hna : a ∉ bs := not_mem_of_deeper r (by simp only [PyData.depth]; omega) hb
      refine ⟨a :: bs, ReadAtMost.cons r (by simp only [PyData.depth]; omega) hb, ?_⟩
      simp only [PyData.depth, PyData.shown]
      exact ReprK.dict g c q y hna (by simpa using hk)
/-- repr(v) -/
theorem call_repr {A : Around} {E : Value → Shared → Prop} {s : Shared} {Q : Value → Shared → Prop} {d : PyData} {v : Value} (z : Sh s.heap d v) (hs : d.showable = true) (hz : d.shown.length ≤ sizeLine) (hg : A.guards = some []) (hd : d.depth ≤ 40) (hu : A.units + 64 < cLine)
    (hQ : ∀ h' u tk, (∀ b o, s.heap.get? b = some o → h'.get? b = some o) → Q (.str d.shown u) { s with heap := h', toks := tk }) : wpAny (model prog w) A (call (.builtin "repr") [v]) Q E s := by
  cases z with
  | non => exact P.repr_of_none (by simp only [PyData.shown] at hQ; exact hQ s.heap _ _ fun _ _ e => e)
  | bl b => exact P.repr_of_bool (by simp only [PyData.shown] at hQ; exact hQ s.heap _ _ fun _ _ e => e)
  | int i t => exact P.repr_of_int (by simpa [PyData.showable] using hs) (by simp only [PyData.shown] at hQ; exact hQ s.heap _ _ fun _ _ e => e)
  | str x t => exact P.repr_of_str (by simp only [PyData.shown] at hQ; exact hQ s.heap _ _ fun _ _ e => e) (by simpa only [PyData.shown] using hz)
  | list g c q p =>
    rename_i a o l n ds
    obtain ⟨as, r⟩ := sh_reads 40 hd (.list g c q p)
    simp only [PyData.depth] at hd
    simp only [PyData.showable] at hs
    simp only [PyData.shown] at hz hQ
    obtain ⟨bs, hb, hk⟩ := all_of (prog := prog) (w := w) (Paired.imp p.pr fun d v m z => ⟨dAll_mem m, in1_of 40 (by have := dAll_mem m; omega) z ((sAll_mem m).2 hs) (Nat.le_trans (listText_mem_le (sAll_mem m).1) hz)⟩)
    have hna : a ∉ bs := not_mem_of_deeper r (by simp only [PyData.depth]; omega) hb
    refine call_repr_slot (T := "list") (idr := "list.__repr__") (by omega) ⟨o, g, c⟩ F.slot_list_repr.toG ?_
    cases l with
    | nil =>
      cases p
      refine call_list_repr_empty ⟨o, g, c⟩ g q ⟨_, _, rfl, ?_⟩
      simp only [PyData.shownAll, listText_nil] at hQ
      exact hQ s.heap _ _ fun _ _ e => e
    | cons x l =>
      exact call_list_reprK g c q hna (by simpa using hk.length_eq) (fun i y e => hk.item i y (by simpa using e)) hg (fun b _ => Clear.nil b) (by show A.units + 1 + _ < cLine; omega) (fun _ _ e => e) (fun h' u tk k => ⟨_, _, rfl, hQ h' u tk k⟩) hz
  | tuple g c q p =>
    rename_i a o l n ds
    obtain ⟨as, r⟩ := sh_reads 40 hd (.tuple g c q p)
    simp only [PyData.depth] at hd
    simp only [PyData.showable] at hs
    simp only [PyData.shown] at hz hQ
    obtain ⟨bs, hb, hk⟩ := all_of (prog := prog) (w := w) (Paired.imp p.pr fun d v m z => ⟨dAll_mem m, in1_of 40 (by have := dAll_mem m; omega) z ((sAll_mem m).2 hs) (Nat.le_trans (tupleText_mem_le (sAll_mem m).1) hz)⟩)
    have hna : a ∉ bs := not_mem_of_deeper r (by simp only [PyData.depth]; omega) hb
    refine call_repr_slot (T := "tuple") (idr := "tuple.__repr__") (by omega) ⟨o, g, c⟩ F.slot_tuple_repr ?_
    exact call_tuple_reprK g c q hna (by simpa using hk) hg (fun b _ => Clear.nil b) (by show A.units + 1 + _ < cLine; omega) (fun _ _ e => e) (fun h' u tk k => ⟨_, _, rfl, hQ h' u tk k⟩) hz
  | dict g c q y p =>
    rename_i a o l n kvs
    obtain ⟨as, r⟩ := sh_reads 40 hd (.dict g c q y p)
    simp only [PyData.depth] at hd
    simp only [PyData.showable] at hs
    simp only [PyData.shown] at hz hQ
    have big : ∀ kv ∈ kvs, kv.1.shown.length ≤ sizeLine ∧ kv.2.shown.length ≤ sizeLine := fun kv m => by
      obtain ⟨⟨t, h1, h2, h3⟩, _⟩ := sKv_mem m
      have := dictText_mem_le h1
      exact ⟨by omega, by omega⟩
    obtain ⟨bs, hb, hk⟩ := kv_of (prog := prog) (w := w) (Paired.imp p.pr fun kv e m z => ⟨⟨(dKv_mem m).1, in1_of 40 (by have := dKv_mem m; omega) z.1 ((sKv_mem m).2 hs).1 (big kv m).1⟩, (dKv_mem m).2, in1_of 40 (by have := dKv_mem m; omega) z.2 ((sKv_mem m).2 hs).2 (big kv m).2⟩)
    have hna : a ∉ bs := not_mem_of_deeper r (by simp only [PyData.depth]; omega) hb
    refine call_repr_slot (T := "dict") (idr := "dict.__repr__") (by omega) ⟨o, g, c⟩ F.slot_dict_repr ?_
    exact call_dict_reprK g c q y hna (by simpa using hk) hg (fun b _ => Clear.nil b) (by show A.units + 1 + _ < cLine; omega) (fun _ _ e => e) (fun h' u tk k => ⟨_, _, rfl, hQ h' u tk k⟩) hz
end
end RI

/-! built-in calls over data -/
namespace RI
open PySem PySem.Spec PyProof.Rows L2

/-- plain data, dicts too -/
def kvAll (f : D → Option PyData) : List (Key × D) → Option (List (PyData × PyData))
  | [] => some []
  | (k, x) :: r => (f x).bind fun y => (kvAll f r).map ((keyPy k, y) :: ·)
def toPyR : Nat → Store → D → Option PyData
  | 0, _, _ => none
  | n + 1, M, d => match d with
    | .non => some .none
    | .bl b => some (.bool b)
    | .int i => some (.int i)
    | .str x => some (.str x)
    | .tup ds => (optAll (toPyR n M) ds).map .tuple
    | .ob k => match M[k]? with
      | some (.lst ds) => (optAll (toPyR n M) ds).map .list
      | some (.frl ds) => (optAll (toPyR n M) ds).map .list
      | some (.dct kvs) => (kvAll (toPyR n M) kvs).map .dict
      | _ => none
    | .clo .. => none
section
variable {X : Cx} {cl : ClsA} {W : WX} {σ : L2.St} {θ : List Addr} {H : Hp} {M : Store} {Q : VK} {pins : List (Addr × Obj)} {s : Shared} {σ' : L2.St}
theorem shA_of {h : Heap} {f : D → Option PyData} (k : ∀ v d p u, Rp X.K θ H v d → RelV v u → f d = some p → Sh h p u) : ∀ {vs : List V} {ds : List D} {us : List Value} {ps : List PyData}, RpA X.K θ H vs ds → Vals vs us → optAll f ds = some ps → ShA h ps us
  | _, _, _, _, .nil, .nil, e => by
    simp [optAll] at e
    subst e
    exact .nil
  | _, _, _, _, .cons r t, .cons rv tv, e => by
    simp only [optAll, Option.bind_eq_some_iff, Option.map_eq_some_iff] at e
    obtain ⟨y, hy, l, hl, rfl⟩ := e
    exact .cons (k _ _ _ _ r rv hy) (shA_of k t tv hl)
theorem sh_key {h : Heap} {k : Key} {u : Value} (e : keyIs k u = true) : Sh h (keyPy k) u := by
  rcases keyIs_shape e with ⟨i, t, rfl, rfl⟩ | ⟨x, t, rfl, rfl⟩
  · exact .int i t
  · exact .str x t
theorem shK_of {h : Heap} {f : D → Option PyData} (k : ∀ v d p u, Rp X.K θ H v d → RelV v u → f d = some p → Sh h p u) : ∀ {ws : List (Key × V)} {kvs : List (Key × D)} {vs : List (Key × Value)} {es : List DictEntry} {ps : List (PyData × PyData)},
    RpK X.K θ H ws kvs → KV ws vs → Pairs (mixKind X.prog X.w) es vs → kvAll f kvs = some ps → ShK h ps es
  | _, _, _, _, _, .nil, .nil, .nil, e => by
    simp [kvAll] at e
    subst e
    exact .nil
  | _, _, _, _, _, .cons r t, .cons rv tv, .cons h1 h2 tp, e => by
    simp only [kvAll, Option.bind_eq_some_iff, Option.map_eq_some_iff] at e
    obtain ⟨y, hy, l, hl, rfl⟩ := e
    obtain ⟨ek, rv⟩ := rv
    dsimp only at ek rv
    subst ek
    exact .cons (sh_key h1) (k _ _ _ _ r (by rw [h2]; exact rv) hy) (shK_of k t tv tp hl)
theorem sh_of (I : Inv X pins σ' H s) (r : Rep X.K cl θ H M) : ∀ (n : Nat) {v : V} {d : D} {p : PyData} {u : Value}, Rp X.K θ H v d → RelV v u → toPyR n M d = some p → Sh s.heap p u
  | 0, _, _, _, _, _, _, e => by simp [toPyR] at e
  | n + 1, _, _, p, _, .non, rv, e => by simp [toPyR] at e; subst e; cases rv; exact .non
  | n + 1, _, _, p, _, .bl b, rv, e => by simp [toPyR] at e; subst e; cases rv; exact .bl b
  | n + 1, _, _, p, _, .int b, rv, e => by simp [toPyR] at e; subst e; obtain ⟨t, rfl⟩ := rv; exact .int b t
  | n + 1, _, _, p, _, .str b, rv, e => by simp [toPyR] at e; subst e; obtain ⟨t, rfl⟩ := rv; exact .str b t
  | n + 1, _, _, p, _, .tup h hs, rv, e => by
    simp only [toPyR, Option.map_eq_some_iff] at e
    obtain ⟨l, hl, rfl⟩ := e
    cases rv
    obtain ⟨its, r1, ⟨o, g, c, m, q⟩, _⟩ := I.tuple h.sq
    exact .tuple g c q (shA_of (fun v d p u a b c => sh_of I r n a b c) hs r1 hl)
  | n + 1, _, _, p, _, .clo h, rv, e => by simp [toPyR] at e
  | n + 1, _, _, p, _, .ob h, rv, e => by
    obtain ⟨o, ho, hr⟩ := r.atn h
    simp only [toPyR, ho] at e
    cases rv
    cases o with
    | lst ds =>
      simp only [Option.map_eq_some_iff] at e
      obtain ⟨l, hl, rfl⟩ := e
      obtain ⟨vs, h1, h2⟩ := hr
      obtain ⟨its, r1, ⟨ob, m, g, c, _, q⟩, _⟩ := I.list (SqL.of h1)
      exact .list g c q (shA_of (fun v d p u a b c => sh_of I r n a b c) h2 r1 hl)
    | frl ds =>
      simp only [Option.map_eq_some_iff] at e
      obtain ⟨l, hl, rfl⟩ := e
      obtain ⟨o, vs, h1, h2⟩ := hr
      obtain ⟨its, r1, ⟨ob, m, g, c, _, q⟩, _⟩ := I.list (xs := vs) (.inl (.inr ⟨_, h1⟩))
      exact .list g c q (shA_of (fun v d p u a b c => sh_of I r n a b c) h2 r1 hl)
    | dct kvs =>
      simp only [Option.map_eq_some_iff] at e
      obtain ⟨l, hl, rfl⟩ := e
      obtain ⟨ws, h1, h2⟩ := hr
      obtain ⟨_, y, vs, kv, ob, es, ep, g, ed, q, _, pr, _⟩ := I.hok _ _ h1
      exact .dict g ed.1 (by rw [q, Array.toArray_toList]) y (shK_of (fun v d p u a b c => sh_of I r n a b c) h2 kv pr hl)
    | ins _ _ => simp at e
    | exn _ _ => simp at e
    | tab _ _ => simp at e
    | xdo _ => simp at e

/-- a call of a built-in, over data -/
def cR (K : PySem.W.Frag) (cl : ClsA) (W : WX) (σ : L2.St) (g : List D → Store → Out D) : List V → Hp → VK → Prop := fun xs H Q =>
  ∃ θ M ds, Rep K cl θ H M ∧ RpA K θ H xs ds ∧ PostG K cl (Rp K) W Q σ θ H (g ds M)
def reprD (ds : List D) (M : Store) : Out D := match ds with
  | [d] => match toPyR 12 M d with
    | some p => if p.showable && decide (p.shown.length ≤ line) && decide (p.depth ≤ 40) then .ok (.str p.shown) M else .no
    | none => .no
  | _ => .no
def lenD (ds : List D) (M : Store) : Out D := match ds with
  | [.str x] => if x.length ≤ line then .ok (.int x.length) M else .no
  | [d] => match seqD M d with
    | some xs => .ok (.int xs.length) M
    | none => .no
  | _ => .no
def absD (ds : List D) (M : Store) : Out D := match ds with
  | [.int i] => .ok (.int (if i < 0 then -i else i)) M
  | _ => .no
def strD (ds : List D) (M : Store) : Out D := match ds with
  | [.int i] => if i.natAbs.log2 < 1920 then .ok (.str (toString i)) M else .no
  | [.str x] => .ok (.str x) M
  | _ => .no
def maxD (ds : List D) (M : Store) : Out D := match ds with
  | [.int i, .int j] => .ok (.int (if j > i then j else i)) M
  | _ => .no
def minD (ds : List D) (M : Store) : Out D := match ds with
  | [.int i, .int j] => .ok (.int (if j < i then j else i)) M
  | _ => .no
def listD (ds : List D) (M : Store) : Out D := match ds with
  | [d] => match seqD M d with
    | some xs => newL xs M
    | none => .no
  | _ => .no
def tupleD (ds : List D) (M : Store) : Out D := match ds with
  | [.tup xs] => .ok (.tup xs) M
  | [.ob k] => match readAt M k with
    | some xs => .ok (.tup xs) M
    | none => .no
  | _ => .no
def intsOf : List D → Option (List Int)
  | [] => some []
  | .int i :: r => (intsOf r).map (i :: ·)
  | _ => none
def sumD (ds : List D) (M : Store) : Out D := match ds with
  | [.ob k] => match readAt M k with
    | some xs => match intsOf xs with
      | some ns => .ok (.int ns.sum) M
      | none => .no
    | none => .no
  | _ => .no
theorem ints_rp {K : PySem.W.Frag} : ∀ {vs : List V} {xs : List D} {ns : List Int}, RpA K θ H vs xs → intsOf xs = some ns → vs = ns.map V.int
  | _, _, _, .nil, e => by
    simp [intsOf] at e
    subst e
    rfl
  | _, _, _, .cons (d := d) r t, e => by
    cases r with
    | int i =>
      simp only [intsOf, Option.map_eq_some_iff] at e
      obtain ⟨l, hl, rfl⟩ := e
      rw [ints_rp t hl] <;> rfl
    | _ => simp [intsOf] at e
theorem CallR.imp' {f : Value} {r r' : List V → Hp → VK → Prop} (h : CallR X f r) (k : ∀ xs H Q, r' xs H Q → r xs H Q) : CallR X f r' := fun pins s σ H xs us Q I rv q => h pins s σ H xs us Q I rv (k xs H Q q)

theorem c_repr (hg : X.A.guards = some []) (hu : X.A.units + 64 < cLine) : CallR X (.builtin "repr") (cR X.K cl W σ reprD) := by
  intro pins s σ' H xs us Q I rv q
  obtain ⟨θ, M, ds, r, ra, q⟩ := q
  unfold reprD at q
  split at q
  · cases ra with
    | cons rx t =>
      cases t
      cases rv with
      | cons rv tv =>
        cases tv
        split at q
        · rename_i p e
          split at q
          · rename_i hc
            simp only [Bool.and_eq_true, decide_eq_true_eq] at hc
            obtain ⟨⟨h1, h2⟩, h3⟩ := hc
            exact call_repr (sh_of I r 12 rx rv e) h1 (line_ok h2) hg h3 hu fun h' u tk k => ⟨.str p.shown, H, I.kept k, ⟨u, rfl⟩, q.ok_ r (.str _)⟩
          · exact q.elim
        · exact q.elim
  · exact q.elim
theorem c_len : CallR X (.builtin "len") (cR X.K cl W σ lenD) := CallR.imp' call_len fun xs H Q q => by
  obtain ⟨θ, M, ds, r, ra, q⟩ := q
  unfold lenD at q
  split at q
  · split at q
    · rename_i hl
      cases ra with
      | cons rx t =>
        cases t
        cases rx
        exact ⟨_, _, rfl, ⟨line_ok hl, rfl⟩, q.ok_ r (.int _)⟩
    · exact q.elim
  · cases ra with
    | cons rx t =>
      cases t
      split at q
      · rename_i ys e
        obtain ⟨a, vs, rfl, hs, ha⟩ := seq_at r rx e
        refine ⟨_, vs.length, rfl, ?_, ?_⟩
        · rcases hs with hs | hs
          · exact .inl ⟨vs, hs, rfl⟩
          · exact .inr ⟨vs, hs, rfl⟩
        · rw [ha.length]
          exact q.ok_ r (.int _)
      · exact q.elim
  · exact q.elim
theorem c_abs : CallR X (.builtin "abs") (cR X.K cl W σ absD) := CallR.imp' call_abs fun xs H Q q => by
  obtain ⟨θ, M, ds, r, ra, q⟩ := q
  unfold absD at q
  split at q
  · cases ra with
    | cons rx t =>
      cases t
      cases rx
      exact ⟨_, rfl, q.ok_ r (.int _)⟩
  · exact q.elim
theorem c_str : CallR X (.type "str") (cR X.K cl W σ strD) := CallR.imp' (call_str_int.or SkE.call_str_str) fun xs H Q q => by
  obtain ⟨θ, M, ds, r, ra, q⟩ := q
  unfold strD at q
  split at q
  · split at q
    · rename_i hl
      cases ra with
      | cons rx t =>
        cases t
        cases rx
        exact .inl ⟨_, rfl, hl, q.ok_ r (.str _)⟩
    · exact q.elim
  · cases ra with
    | cons rx t =>
      cases t
      cases rx
      exact .inr ⟨_, rfl, q.ok_ r (.str _)⟩
  · exact q.elim
theorem c_max (hc : X.calm = true) : CallR X (.builtin "max") (cR X.K cl W σ maxD) := CallR.imp' (call_max2 hc) fun xs H Q q => by
  obtain ⟨θ, M, ds, r, ra, q⟩ := q
  unfold maxD at q
  split at q
  · cases ra with
    | cons rx t =>
      cases t with
      | cons ry t =>
        cases t
        cases rx
        cases ry
        exact ⟨_, _, rfl, q.ok_ r (.int _)⟩
  · exact q.elim
theorem c_min (hc : X.calm = true) : CallR X (.builtin "min") (cR X.K cl W σ minD) := CallR.imp' (call_min2 hc) fun xs H Q q => by
  obtain ⟨θ, M, ds, r, ra, q⟩ := q
  unfold minD at q
  split at q
  · cases ra with
    | cons rx t =>
      cases t with
      | cons ry t =>
        cases t
        cases rx
        cases ry
        exact ⟨_, _, rfl, q.ok_ r (.int _)⟩
  · exact q.elim
theorem c_list : CallR X (.type "list") (cR X.K cl W σ listD) := CallR.imp' call_list_of fun xs H Q q => by
  obtain ⟨θ, M, ds, r, ra, q⟩ := q
  unfold listD at q
  split at q
  · cases ra with
    | cons rx t =>
      cases t
      split at q
      · rename_i ys e
        obtain ⟨a, vs, rfl, hs, ha⟩ := seq_at r rx e
        exact ⟨_, vs, rfl, hs, (newL_ok r ha q).2⟩
      · exact q.elim
  · exact q.elim
theorem call_tupleX : CallR X (.type "tuple") (fun xs H Q => ∃ p ys, xs = [.ref p] ∧ ((SqL X.K H p ys ∧ ∀ l o, H l = none → TObj o → Q (.ref l) (upd H l (.frz o (.tup ys)))) ∨ (SqT X.K H p ys ∧ Q (.ref p) H))) := by
  intro pn s0 σ0 H0 args vals R J rv goal
  obtain ⟨p, ys, ea, goal⟩ := goal
  subst ea
  obtain ⟨v, ev, hv⟩ := vals1 rv
  subst ev
  cases hv
  rcases goal with ⟨sq, g⟩ | ⟨sq, g⟩
  · obtain ⟨is, vi, li, le⟩ := J.list sq
    have sz := vi.length
    refine call_tuple_list li.isList (fun h2 kp => ?_) (by simp only [List.size_toArray]; omega)
    have J2 : Inv X pn σ0 H0 { s0 with heap := h2 } := J.kept (t' := s0.toks) kp
    have nw := laidX J2 (t' := s0.toks) (vs := ys) (fun _ _ q => Heap.get?_push_of_some _ q) (Nat.le_refl _) (Heap.get?_push_size h2 rfl) ⟨le, is, vi, IsTup.new _ _⟩
    exact ⟨.ref h2.objs.size, _, nw, rfl, g _ _ (J2.hok.fresh (Nat.le_refl _)) ⟨rfl, rfl⟩⟩
  · obtain ⟨is, vi, ti, _⟩ := J.tuple sq
    exact call_tuple_same ti ⟨.ref p, H0, J, rfl, g⟩
theorem c_tuple : CallR X (.type "tuple") (cR X.K cl W σ tupleD) := CallR.imp' call_tupleX fun xs H Q q => by
  obtain ⟨θ, M, ds, r, ra, q⟩ := q
  unfold tupleD at q
  split at q
  · cases ra with
    | cons rx t =>
      cases t
      cases rx with
      | tup h1 h2 => exact ⟨_, _, rfl, .inr ⟨h1.sq, q.ok_ r (.tup h1 h2)⟩⟩
  · cases ra with
    | cons rx t =>
      cases t
      cases rx with
      | ob h =>
        split at q
        · rename_i ys e
          obtain ⟨vs, h1, h2⟩ := read_at r h e
          exact ⟨_, vs, rfl, .inl ⟨h1, fun l o hl to => newT_ok r h2 q hl to⟩⟩
        · exact q.elim
  · exact q.elim
theorem c_sum (hc : X.calm = true) : CallR X (.builtin "sum") (cR X.K cl W σ sumD) := CallR.imp' (cr_sum hc) fun xs H Q q => by
  obtain ⟨θ, M, ds, r, ra, q⟩ := q
  unfold sumD at q
  split at q
  · cases ra with
    | cons rx t =>
      cases t
      cases rx with
      | ob h =>
        split at q
        · rename_i ys e
          split at q
          · rename_i ns e2
            obtain ⟨vs, h1, h2⟩ := read_at r h e
            have ev := ints_rp h2 e2
            subst ev
            exact ⟨_, ns, rfl, h1, q.ok_ r (.int _)⟩
          · exact q.elim
        · exact q.elim
  · exact q.elim
end
end RI

/-! statements' outcomes; defs of one's own and their calls -/
namespace RI
open PySem PySem.Spec PyProof.Rows L2

inductive Fl where
  | nx | brk | ct | ret (d : D)
inductive SOut where
  | fl (f : Fl) (ρ : Env1) (M : Store) | exc (c : Str) (fs : List (Str × D)) (ρ : Env1) (M : Store) | no
abbrev DenS := Env1 → Store → SOut
def PostS (K : PySem.W.Frag) (cl : ClsA) (W : WX) (E : Ends) (θ : List Addr) (H : Hp) : SOut → Prop
  | .fl .nx ρ M => ∀ θ' H' σ', Ext K θ H θ' H' → Rep K cl θ' H' M → RelE K θ' H' σ' ρ → E.nx σ' H'
  | .fl .brk ρ M => ∀ θ' H' σ', Ext K θ H θ' H' → Rep K cl θ' H' M → RelE K θ' H' σ' ρ → E.bk σ' H'
  | .fl .ct ρ M => ∀ θ' H' σ', Ext K θ H θ' H' → Rep K cl θ' H' M → RelE K θ' H' σ' ρ → E.ct σ' H'
  | .fl (.ret d) _ M => ∀ θ' H' v, Ext K θ H θ' H' → Rep K cl θ' H' M → Rp K θ' H' v d → E.rt v H'
  | .exc c fs ρ M => ∀ θ' H' σ' C dd, Ext K θ H θ' H' → Rep K cl θ' H' M → RelE K θ' H' σ' ρ → cl c = some C → XAt K θ' H' dd fs → W (.ref C) dd σ' H'
  | .no => False
def rdS (cl : ClsA) (W : WX) (K : PySem.W.Frag) (g : DenS) : TS := fun E σ H => ∃ θ ρ M, RelE K θ H σ ρ ∧ Rep K cl θ H M ∧ PostS K cl W E θ H (g ρ M)
section
variable {K : PySem.W.Frag} {cl : ClsA} {W : WX} {E E' : Ends} {θ θ1 : List Addr} {H H1 : Hp}
theorem PostS.ext {o : SOut} (h : PostS K cl W E θ H o) (e : Ext K θ H θ1 H1) : PostS K cl W E θ1 H1 o := by
  cases o with
  | fl f ρ M =>
    cases f with
    | nx => exact fun θ' H' σ' e' r rv => h θ' H' σ' (e.trans e') r rv
    | brk => exact fun θ' H' σ' e' r rv => h θ' H' σ' (e.trans e') r rv
    | ct => exact fun θ' H' σ' e' r rv => h θ' H' σ' (e.trans e') r rv
    | ret d => exact fun θ' H' v e' r rv => h θ' H' v (e.trans e') r rv
  | exc c fs ρ M => exact fun θ' H' σ' C dd e' r rv hc x => h θ' H' σ' C dd (e.trans e') r rv hc x
  | no => exact h
end
/-- an outcome of an expression carried on -/
def bindS {α : Type} (x : Out α) (ρ : Env1) (f : α → Store → SOut) : SOut := match x with
  | .ok a M => f a M
  | .exc c fs M => .exc c fs ρ M
  | .no => .no
@[simp] theorem bindS_ok {α : Type} (a : α) (M : Store) (ρ : Env1) (f : α → Store → SOut) : bindS (.ok a M) ρ f = f a M := rfl
@[simp] theorem bindS_exc {α : Type} (c : Str) (fs : List (Str × D)) (M : Store) (ρ : Env1) (f : α → Store → SOut) : bindS (.exc c fs M : Out α) ρ f = .exc c fs ρ M := rfl
@[simp] theorem bindS_no {α : Type} (ρ : Env1) (f : α → Store → SOut) : bindS (.no : Out α) ρ f = .no := rfl
/-- one statement, then the rest -/
def andThen (x : SOut) (f : Env1 → Store → SOut) : SOut := match x with
  | .fl .nx ρ M => f ρ M
  | o => o
section
variable {α β : Type} {K : PySem.W.Frag} {cl : ClsA} {W : WX} {E : Ends} {θ : List Addr} {H : Hp} {Rv : List Addr → Hp → β → α → Prop} {σ : L2.St} {ρ : Env1}
theorem PostS.bind {x : Out α} {f : α → Store → SOut} {Q : β → Hp → Prop} (h : PostS K cl W E θ H (bindS x ρ f)) (hE : RelE K θ H σ ρ)
    (k : ∀ a M θ1 H1 v, Ext K θ H θ1 H1 → Rep K cl θ1 H1 M → Rv θ1 H1 v a → PostS K cl W E θ1 H1 (f a M) → Q v H1) : PostG K cl Rv W Q σ θ H x := by
  cases x with
  | ok a M => exact fun θ1 H1 v e r rv => k a M θ1 H1 v e r rv (h.ext e)
  | exc c fs M => exact fun θ' H' C dd e' r hc x => h θ' H' σ C dd e' r (hE.ext e') hc x
  | no => exact h
theorem PostS.seq {x : SOut} {f : Env1 → Store → SOut} {nx : L2.St → Hp → Prop} (h : PostS K cl W E θ H (andThen x f))
    (k : ∀ ρ M θ1 H1 σ1, Ext K θ H θ1 H1 → Rep K cl θ1 H1 M → RelE K θ1 H1 σ1 ρ → PostS K cl W E θ1 H1 (f ρ M) → nx σ1 H1) : PostS K cl W { E with nx := nx } θ H x := by
  cases x with
  | fl fl ρ M =>
    cases fl with
    | nx => exact fun θ1 H1 σ1 e r rv => k ρ M θ1 H1 σ1 e r rv (PostS.ext h e)
    | brk => exact h
    | ct => exact h
    | ret d => exact h
  | exc c fs ρ M => exact h
  | no => exact h
end

/-! ### a def -/
/-- what a def does, over data: called with so many values -/
def FnG (P : Program) (w : World) (K : PySem.W.Frag) (mg : Str → Option Value) (base : Heap) (cl : ClsA) (k : Nat) (f : Addr) (fd : FuncData) (ps : List Str) (g : List D → Store → Out D) : Prop :=
  ∀ (A : Around) (outer : List Env) (s : Shared) (H : Hp) (args : Args) (us : List Value) (vs : List V) (θ : List Addr) (M : Store) (ds : List D) (Q : VK) (E : XK), Room k A → A.guards = some [] → Env0 P w K mg base A outer s H →
    BindsTo s fd args (ps.zip us) → Vals vs us → Rep K cl θ H M → RpA K θ H vs ds → ds.length = ps.length → PostG K cl (Rp K) (fun c d _ h => E c d h) Q [] θ H (g ds M) →
    codeAny (model P w) A (.call (.ref f) args) (CR (L2.CX P w) outer P w H s Q E) s
theorem FnG.up {P : Program} {w : World} {K : PySem.W.Frag} {mg : Str → Option Value} {base : Heap} {cl : ClsA} {j k : Nat} {f : Addr} {fd : FuncData} {ps : List Str} {g : List D → Store → Out D} (F : FnG P w K mg base cl j f fd ps g) (h : j ≤ k) : FnG P w K mg base cl k f fd ps g :=
  fun A outer s H args us vs θ M ds Q E hr => F A outer s H args us vs θ M ds Q E (hr.mono h)
/-- a def's end -/
def finD (o : SOut) : Out D := match o with
  | .fl .nx _ M => .ok .non M
  | .fl (.ret d) _ M => .ok d M
  | .fl _ _ _ => .no
  | .exc c fs _ M => .exc c fs M
  | .no => .no
def startE (n : Nat) (ds : List D) : Env1 := ds.map some ++ List.replicate (n - ds.length) none
theorem relE_start {K : PySem.W.Frag} {θ : List Addr} {H : Hp} {N : List Str} {vs : List V} {ds : List D} (h : RpA K θ H vs ds) : RelE K θ H (L2.start N vs) (startE N.length ds) := by
  refine ⟨?_, fun i d e => ?_⟩
  · unfold L2.start startE
    simp [h.length]
  · unfold startE at e
    by_cases hi : i < ds.length
    · rw [List.getElem?_append_left (by simpa using hi), List.getElem?_map, Option.map_eq_some_iff] at e
      obtain ⟨d', h1, h2⟩ := e
      obtain ⟨v, h3, h4⟩ := h.get h1
      have h2' := Option.some.inj h2
      subst h2'
      refine ⟨v, ?_, h4⟩
      unfold L2.start
      rw [List.getElem?_append_left (by simpa [h.length] using hi), List.getElem?_map, h3] <;> rfl
    · rw [List.getElem?_append_right (by simpa using hi)] at e
      have := List.mem_of_getElem? e
      rw [List.mem_replicate] at this
      simp at this
section
variable {P : Program} {w : World} {K : PySem.W.Frag} {mg : Str → Option Value} {base : Heap} {cl : ClsA} {k : Nat}
/-- a def run at one state -/
theorem fn_run {f : Addr} {x qual : Str} {st : Stmt} {N ps : List Str} {g : DenS} {oc cdv ct kV doc pm : Value} {od an : Option Addr} {osl : Array (Option Value)} (S : FnScope N ps (defScope st))
    (lk : K.lookup f = some ⟨oc, od, .func (PySem.W.fnOf x qual (defArgs st) (defBody st) (defScope st) .none kV doc pm an cdv ct), osl⟩) (hcd : PySem.W.codeIn K cdv qual = true)
    {A : Around} {outer : List Env} {s : Shared} {H : Hp} {args : Args} {us : List Value} {vs : List V} {θ : List Addr} {M : Store} {ds : List D} {Q : VK} {E : XK}
    (hb : Room k (A.deeper (envOfC qual (defScope st) s.heap.objs.size f cdv)) → PSs (cxOf (L2.CX P w) P w K mg base N qual (defScope st) f cdv A outer s H E) (defBody st) (rdS cl (fun c d _ h => E c d h) K g))
    (hr : Room (k + 1) A) (e0 : Env0 P w K mg base A outer s H) (hbt : BindsTo s (PySem.W.fnOf x qual (defArgs st) (defBody st) (defScope st) .none kV doc pm an cdv ct) args (ps.zip us)) (rv : Vals vs us) (rp : Rep K cl θ H M) (ra : RpA K θ H vs ds) (hl : ds.length = ps.length)
    (q : PostG K cl (Rp K) (fun c d _ h => E c d h) Q [] θ H (finD (g (startE N.length ds) M))) :
    codeAny (model P w) A (.call (.ref f) args) (CR (L2.CX P w) outer P w H s Q E) s := by
  have hlen : vs.length = ps.length := by rw [ra.length]; exact hl
  have stay : ∀ b o, base.get? b = some o → s.heap.get? b = some o := fun b o e => (e0.bs b o e).1
  have KX : K.In s.heap := e0.mod.kin.keeps stay
  have lim : s.heap.NoLimit := e0.mod.nolimit.keeps stay
  have par : ∀ y ∈ ps.zip us, (defScope st).names.lookup y.1 = some .local ∨
      ((defScope st).names.lookup y.1 = some .cell ∧ ((cellsFrom (s.heap.objs.size + 1) (defScope st).names []).lookup y.1).isSome = true) := by
    intro y hy
    rcases S.par y.1 (List.of_mem_zip hy).1 with z | z
    · exact .inl z
    · exact .inr ⟨z, PySem.W.cellsFrom_some _ _ _ (.inl z)⟩
  refine codeAny_call_function hr.depth (KX f _ lk) rfl S.co S.gen rfl (PySem.W.codeRec_of KX hcd) (hbt _ _ _ _ ?_)
  refine wpAny_newFunctionEnv_cells S.kind par fun env ee s1 x1 => ?_
  subst ee
  refine ⟨lim.keeps x1.toInCall.keep, codeAny_func ?_⟩
  have I : Inv (cxOf (L2.CX P w) P w K mg base N qual (defScope st) f cdv A outer s H E) [] (L2.start N vs) H s1 :=
    inv_start S hr.hd e0 hlen rv x1
  have body := hb (hr.deeper _)
  have q' : rdS cl (fun c d _ h => E c d h) K g { nx := fun _ H' => Q .non H', rt := Q } (L2.start N vs) H := by
    refine ⟨θ, startE N.length ds, M, relE_start ra, rp, ?_⟩
    cases e : g (startE N.length ds) M with
    | fl fl ρ M' =>
      rw [e] at q
      cases fl with
      | nx => exact fun θ' H' σ' e1 r1 _ => q θ' H' .non e1 r1 .non
      | brk => exact q.elim
      | ct => exact q.elim
      | ret d => exact q
    | exc c fs ρ M' =>
      rw [e] at q
      exact fun θ' H' σ' C dd e1 r1 _ hc hx => q θ' H' C dd e1 r1 hc hx
    | no =>
      rw [e] at q
      exact q.elim
  refine wpAny_mono (body.run [] s1 _ H _ I q') (fun fl s' hs => ?_) fun e s' hs => hs
  cases fl with
  | ret u =>
    obtain ⟨v, σ', H', J, r, z⟩ := hs
    exact ⟨v, H', J.os, J.bare, J.base, J.hok, r, z⟩
  | next =>
    obtain ⟨σ', H', J, z⟩ := hs
    exact ⟨.non, H', J.os, J.bare, J.base, J.hok, rfl, z⟩
  | brk =>
    obtain ⟨_, _, _, z⟩ := hs
    exact False.elim z
  | cont =>
    obtain ⟨_, _, _, z⟩ := hs
    exact False.elim z
/-- a def from its body -/
theorem fnG_of {f : Addr} {x qual : Str} {st : Stmt} {fd : FuncData} {N ps : List Str} {g : DenS} (F : Fun K x qual st f fd) (S : FnScope N ps (defScope st))
    (hb : ∀ (cdv : Value) (A : Around) (outer : List Env) (s : Shared) (H : Hp) (E : XK), Room k (A.deeper (envOfC qual (defScope st) s.heap.objs.size f cdv)) → A.guards = some [] →
      PSs (cxOf (L2.CX P w) P w K mg base N qual (defScope st) f cdv A outer s H E) (defBody st) (rdS cl (fun c d _ h => E c d h) K g)) :
    FnG P w K mg base cl (k + 1) f fd ps (fun ds M => finD (g (startE N.length ds) M)) := by
  obtain ⟨oc, od, kV, doc, pm, an, cdv, ct, osl, rfl, lk, hcd⟩ := F.ex
  exact fun A outer s H args us vs θ M ds Q E hr hg e0 hbt rv rp ra hl q => fn_run S lk hcd (fun z => hb cdv A outer s H E z hg) hr e0 hbt rv rp ra hl q
/-- a def whose code object is known -/
structure FunC (K : PySem.W.Frag) (x qual : Str) (st : Stmt) (f : Addr) (fd : FuncData) (c : Addr) : Prop where
  ex : ∃ (oc : Value) (od : Option Addr) (kV doc pm : Value) (an : Option Addr) (ct : Value) (osl : Array (Option Value)),
    fd = PySem.W.fnOf x qual (defArgs st) (defBody st) (defScope st) .none kV doc pm an (.ref c) ct ∧ K.lookup f = some ⟨oc, od, .func fd, osl⟩ ∧ PySem.W.codeIn K (.ref c) qual = true
theorem fnG_ofC {f c : Addr} {x qual : Str} {st : Stmt} {fd : FuncData} {N ps : List Str} {g : DenS} (F : FunC K x qual st f fd c) (S : FnScope N ps (defScope st))
    (hb : ∀ (A : Around) (outer : List Env) (s : Shared) (H : Hp) (E : XK), Room k (A.deeper (envOfC qual (defScope st) s.heap.objs.size f (.ref c))) → A.guards = some [] →
      PSs (cxOf (L2.CX P w) P w K mg base N qual (defScope st) f (.ref c) A outer s H E) (defBody st) (rdS cl (fun c d _ h => E c d h) K g)) :
    FnG P w K mg base cl (k + 1) f fd ps (fun ds M => finD (g (startE N.length ds) M)) := by
  obtain ⟨oc, od, kV, doc, pm, an, ct, osl, rfl, lk, hcd⟩ := F.ex
  exact fun A outer s H args us vs θ M ds Q E hr hg e0 hbt rv rp ra hl q => fn_run S lk hcd (fun z => hb A outer s H E z hg) hr e0 hbt rv rp ra hl q
end

/-! ### calls -/
section
variable {X : Cx} {cl : ClsA} {W : WX} {k : Nat} {f : Addr} {fd : FuncData} {ps : List Str} {g : List D → Store → Out D} {x : Str} {p pos : Pos} {e : Expr} {es : List Expr} {fs : Den (List D)}
/-- what a def answers where it is called -/
theorem runG {pins : List (Addr × Obj)} {σ : L2.St} {H : Hp} {s : Shared} {Q : VK} {us : List Value} {vs : List V} {θ : List Addr} {M : Store} {ds : List D} (F : FnG X.prog X.w X.K X.mg X.base cl k f fd ps g) (hr : Room k X.A) (hg : X.A.guards = some [])
    (hb : Binds X.K fd ps []) (tk : Takes X W) (I : Inv X pins σ H s) (rv : Vals vs us) (rp : Rep X.K cl θ H M) (ra : RpA X.K θ H vs ds) (hl : ds.length = ps.length) (q : PostG X.K cl (Rp X.K) W Q σ θ H (g ds M)) :
    wpAny (model X.prog X.w) X.A (call (.ref f) us) (EP X pins σ Q) X.xe s := by
  have n1 : us.length = ps.length := by rw [← rv.length, ra.length]; exact hl
  have b := hb s us I.kIn (by rw [List.append_nil]; exact n1)
  rw [List.append_nil] at b
  have q' : PostG X.K cl (Rp X.K) (fun c d _ h => WE W σ c d h) Q [] θ H (g ds M) := by
    cases e : g ds M with
    | ok a M' => rw [e] at q; exact q
    | exc c fs M' => rw [e] at q; exact q
    | no => rw [e] at q; exact q
  refine wpAny_call (codeAny_mono (F X.A X.stack s H ⟨us, []⟩ us vs θ M ds Q (WE W σ) hr hg I.env0 b rv rp ra hl q') fun r s' z => ?_)
  cases r with
  | error er => exact passAt tk σ pins H s er s' I z
  | ok fl =>
    cases fl with
    | ret u => exact I.after z
    | next => exact False.elim z
    | brk => exact False.elim z
    | cont => exact False.elim z
/-- with the right number of values -/
def arity (n : Nat) (g : List D → Store → Out D) : List D → Store → Out D := fun ds M => if ds.length = n then g ds M else .no
def denCall (fs : Den (List D)) (g : List D → Store → Out D) : Den D := fun ρ M => (fs ρ M).bind g
theorem rd_call (F : FnG X.prog X.w X.K X.mg X.base cl k f fd ps g) (hr : Room k X.A) (hgd : X.A.guards = some []) (hb : Binds X.K fd ps []) (tk : Takes X W) (hg : Gl X x) (hm : X.mg x = some (.ref f)) (hk : PySem.W.keepIn X.K (.ref f) = true)
    (hdb : (x == ("__debug__" : Str)) = false) (ha : RA X cl W (e :: es) fs) (h1 : isStar e = false) (h2 : es.any isStar = false) : RD X cl W (.Call (.Name x p) (e :: es) [] pos) (denCall fs (arity ps.length g)) := by
  refine ⟨fun pins s σ H Q I q => ?_⟩
  obtain ⟨θ, ρ, M, hE, r, q⟩ := q
  refine wpAny_Call_Name_kw (ld_glob I hg hm ?_ hdb)
  refine PySem.W.callWith_K (h₀ := X.base) I.ok.mod.kin hk ?_ (star_one e es X.env h1) (star_no pos X.env es h2)
  refine thn (ha.run pos pins s σ H (fun vs H1 => ∃ θ1 M1 ds, Rep X.K cl θ1 H1 M1 ∧ RpA X.K θ1 H1 vs ds ∧ PostG X.K cl (Rp X.K) W Q σ θ1 H1 (arity ps.length g ds M1)) I
    ⟨θ, ρ, M, hE, r, PostG.bind q fun ds M1 θ1 H1 vs e1 r1 p1 q1 => ⟨θ1, M1, ds, r1, p1, q1⟩⟩) fun us s1 ⟨vs, H1, I1, rv, θ1, M1, ds, r1, p1, q1⟩ => ⟨I1.kIn, ?_⟩
  unfold arity at q1
  split at q1
  · rename_i hl
    exact runG F hr hgd hb tk I1 rv r1 p1 hl q1
  · exact q1.elim
/-- a built-in function, a built-in class -/
theorem rd_bi {id : String} {gD : List D → Store → Out D} (hc : ∀ σ, CallR X (.builtin id) (cR X.K cl W σ gD)) (hg : Gl X x) (hm : X.mg x = none) (hv : bootBuiltins x = some (.builtin id)) (ha : RA X cl W (e :: es) fs) (h1 : isStar e = false) (h2 : es.any isStar = false)
    (hn : x ≠ "__name__") (hdb : (x == ("__debug__" : Str)) = false) : RD X cl W (.Call (.Name x p) (e :: es) [] pos) (denCall fs gD) :=
  ⟨fun pins s σ H Q I q => (pe_callB (hc σ) hg hm hv ha hn hdb (star_one e es X.env h1) (star_no pos X.env es h2)).run pins s σ H Q I (by
    obtain ⟨θ, ρ, M, hE, r, q⟩ := q
    exact ⟨θ, ρ, M, hE, r, PostG.bind q fun ds M1 θ1 H1 vs e1 r1 p1 q1 => ⟨θ1, M1, ds, r1, p1, q1⟩⟩)⟩
theorem rd_ty {T : String} {gD : List D → Store → Out D} (hc : ∀ σ, CallR X (.type T) (cR X.K cl W σ gD)) (hg : Gl X x) (hm : X.mg x = none) (hv : bootBuiltins x = some (.type T)) (ha : RA X cl W (e :: es) fs) (h1 : isStar e = false) (h2 : es.any isStar = false)
    (hn : x ≠ "__name__") (hdb : (x == ("__debug__" : Str)) = false) : RD X cl W (.Call (.Name x p) (e :: es) [] pos) (denCall fs gD) :=
  ⟨fun pins s σ H Q I q => (pe_callTy (hc σ) hg hm hv ha hn hdb (star_one e es X.env h1) (star_no pos X.env es h2)).run pins s σ H Q I (by
    obtain ⟨θ, ρ, M, hE, r, q⟩ := q
    exact ⟨θ, ρ, M, hE, r, PostG.bind q fun ds M1 θ1 H1 vs e1 r1 p1 q1 => ⟨θ1, M1, ds, r1, p1, q1⟩⟩)⟩
end
end RI

/-! targets, walks, loops, comprehensions -/
namespace RI
open PySem PySem.Spec PyProof.Rows L2

/-! ### targets -/
inductive Tgt where
  | name (i : Nat) | tup (is : List Nat) | nest (i : Nat) (js : List Nat)
def inT : Tgt → Nat → Prop
  | .name i, k => k = i
  | .tup is, k => k ∈ is
  | .nest i js, k => k = i ∨ k ∈ js
def setAll : List Nat → List D → Env1 → Env1
  | i :: is, d :: ds, ρ => setAll is ds (ρ.set i (some d))
  | _, _, ρ => ρ
def setN (i : Nat) (js : List Nat) (d : D) (ρ : Env1) : Option Env1 := match d with
  | .tup [x, .tup ds] => if js.length = ds.length then some (setAll js ds (ρ.set i (some x))) else none
  | _ => none
def setT (t : Tgt) (d : D) (ρ : Env1) : Option Env1 := match t, d with
  | .name i, d => some (ρ.set i (some d))
  | .tup is, .tup ds => if is.length = ds.length then some (setAll is ds ρ) else none
  | .nest i js, d => setN i js d ρ
  | _, _ => none
theorem RelE.set {K : PySem.W.Frag} {θ : List Addr} {H : Hp} {σ : L2.St} {ρ : Env1} (h : RelE K θ H σ ρ) {v : V} {d : D} (r : Rp K θ H v d) (i : Nat) : RelE K θ H (σ.set i (some v)) (ρ.set i (some d)) := by
  refine ⟨by rw [List.length_set, List.length_set]; exact h.len, fun j d' e => ?_⟩
  by_cases hj : j = i
  · subst hj
    by_cases hl : j < ρ.length
    · rw [List.getElem?_set_self hl] at e
      cases e
      exact ⟨v, List.getElem?_set_self (by rw [h.len]; exact hl), r⟩
    · rw [List.getElem?_eq_none_iff.mpr (by rw [List.length_set]; omega)] at e
      cases e
  · rw [List.getElem?_set_ne (Ne.symm hj)] at e
    obtain ⟨v', h1, h2⟩ := h.at_ j d' e
    exact ⟨v', by rw [List.getElem?_set_ne (Ne.symm hj)]; exact h1, h2⟩
/-- a target's reading -/
def rdG1 (K : PySem.W.Frag) (t : Tgt) : TG := fun v σ H Q => ∃ θ ρ d ρ', RelE K θ H σ ρ ∧ Rp K θ H v d ∧ setT t d ρ = some ρ' ∧ ∀ σ', RelE K θ H σ' ρ' → (∀ j, (σ'[j]? = σ[j]?) ∨ inT t j) → Q σ' H
def rdGs (K : PySem.W.Frag) (is : List Nat) : TGs := fun vs σ H Q => ∃ θ ρ ds, RelE K θ H σ ρ ∧ RpA K θ H vs ds ∧ is.length = ds.length ∧ ∀ σ', RelE K θ H σ' (setAll is ds ρ) → (∀ j, j ∉ is → σ'[j]? = σ[j]?) → Q σ' H
theorem PG.imp {X : Cx} {e : Expr} {t t' : TG} (h : PG X e t) (k : ∀ v σ H Q, t' v σ H Q → t v σ H Q) : PG X e t' := ⟨fun pins s σ H v u Q I r q => h.run pins s σ H v u Q I r (k v σ H Q q)⟩
theorem PGs.imp {X : Cx} {e : List Expr} {t t' : TGs} (h : PGs X e t) (k : ∀ v σ H Q, t' v σ H Q → t v σ H Q) : PGs X e t' := ⟨fun pins s σ H v u Q I r q => h.run pins s σ H v u Q I r (k v σ H Q q)⟩
/-- the slot of a local name -/
def slotL (N : List Str) (sc : Scope) (x : Str) : Option Nat := match sc.names.lookup x with
  | some .local => N.idxOf? x
  | some .cell => N.idxOf? x
  | _ => none
theorem idx_get {N : List Str} {x : Str} {i : Nat} (h : N.idxOf? x = some i) : N[i]? = some x := by
  unfold List.idxOf? at h
  rw [List.findIdx?_eq_some_iff_getElem] at h
  obtain ⟨hl, he, _⟩ := h
  rw [List.getElem?_eq_getElem hl]
  simpa using he
theorem slotL_ok {N : List Str} {sc : Scope} {x : Str} {i : Nat} (h : slotL N sc x = some i) : N[i]? = some x ∧ Loc sc x := by
  unfold slotL at h
  split at h
  · rename_i e
    exact ⟨idx_get h, .inl e⟩
  · rename_i e
    exact ⟨idx_get h, .inr e⟩
  · cases h
def namesT (N : List Str) (sc : Scope) : List Expr → Option (List Nat)
  | [] => some []
  | .Name x _ :: r => match slotL N sc x, namesT N sc r with
    | some i, some is => some (i :: is)
    | _, _ => none
  | _ :: _ => none
def tgtOf (N : List Str) (sc : Scope) : Expr → Option Tgt
  | .Name x _ => (slotL N sc x).map .name
  | .Tuple es _ _ => match namesT N sc es with
    | some is => some (.tup is)
    | none => match es with
      | [.Name x _, .Tuple fs _ _] => match slotL N sc x, namesT N sc fs with
        | some i, some js => some (.nest i js)
        | _, _ => none
      | _ => none
  | _ => none
section
variable {X : Cx} {cl : ClsA}
theorem pg_nm (hN : X.N.Nodup) {x : Str} {pos : Pos} {i : Nat} (h : slotL X.N X.env.scope x = some i) (hf : X.fn x = true ∨ X.env.scope.names.lookup x = some .local) : PG X (.Name x pos) (rdG1 X.K (.name i)) := by
  obtain ⟨h1, h2⟩ := slotL_ok h
  refine PG.imp (pg_name hN h1 h2 hf) fun v σ H Q q => ?_
  obtain ⟨θ, ρ, d, ρ', hE, r, e, q⟩ := q
  have e' : ρ' = ρ.set i (some d) := by
    unfold setT at e
    exact (Option.some.inj e).symm
  subst e'
  refine q _ (hE.set r i) fun j => ?_
  by_cases hj : j = i
  · exact .inr hj
  · exact .inl (List.getElem?_set_ne (Ne.symm hj))
/-- the names that a target holds -/
def fnOk (X : Cx) (x : Str) : Prop := X.fn x = true ∨ X.env.scope.names.lookup x = some .local
def nameIn : Expr → List Str
  | .Name x _ => [x]
  | _ => []
theorem pgs_nms (hN : X.N.Nodup) : ∀ (es : List Expr) (is : List Nat), namesT X.N X.env.scope es = some is → (∀ x ∈ es.flatMap nameIn, fnOk X x) → PGs X es (rdGs X.K is) ∧ (assignEach es X.env).length = es.length ∧ (assignEach es X.env).findIdx? (·.1) = none ∧ is.length = es.length
  | [], is, h, _ => by
    simp [namesT] at h
    subst h
    refine ⟨PGs.imp pgs_nil fun v σ H Q q => ?_, rfl, rfl, rfl⟩
    obtain ⟨θ, ρ, ds, hE, r, e, q⟩ := q
    cases ds with
    | nil =>
      cases r
      exact ⟨rfl, q σ hE fun _ _ => rfl⟩
    | cons _ _ => simp at e
  | .Name x pos :: r, is, h, hf => by
    unfold namesT at h
    split at h
    · rename_i i js h1 h2
      have h' := Option.some.inj h
      subst h'
      obtain ⟨p1, p2, p3, p4⟩ := pgs_nms hN r js h2 fun y hy => hf y (by rw [List.flatMap_cons]; exact List.mem_append_right _ hy)
      have hx : fnOk X x := hf x (by rw [List.flatMap_cons]; exact List.mem_append_left _ (List.mem_singleton.mpr rfl))
      refine ⟨PGs.imp (pgs_cons (pg_nm hN h1 hx) p1 rfl) fun vs σ H Q q => ?_, ?_, ?_, by rw [List.length_cons, List.length_cons, p4]⟩
      · obtain ⟨θ, ρ, ds, hE, ra, e, q⟩ := q
        cases ra with
        | nil => simp at e
        | cons rv t =>
          rename_i v vs d ds
          refine ⟨_, _, rfl, θ, ρ, d, _, hE, rv, rfl, fun σ' hE' hs => ?_⟩
          refine ⟨θ, ρ.set i (some d), ds, hE', t, by simpa using e, fun σ2 hE2 hs2 => q σ2 hE2 fun j hj => ?_⟩
          rw [List.mem_cons, not_or] at hj
          rw [hs2 j hj.2]
          rcases hs j with z | z
          · exact z
          · exact absurd z hj.1
      · show ((false, assign (.Name x pos) X.env) :: assignEach r X.env).length = _
        rw [List.length_cons, p2, List.length_cons]
      · show ((false, assign (.Name x pos) X.env) :: assignEach r X.env).findIdx? (·.1) = none
        rw [List.findIdx?_cons, p3] <;> rfl
    · cases h
theorem pg_t (hc : X.calm = true) (hN : X.N.Nodup) {es : List Expr} {kk : Nat} {tpos : Pos} {is : List Nat} (h1 : namesT X.N X.env.scope es = some is) (hf : ∀ x ∈ es.flatMap nameIn, fnOk X x) : PG X (.Tuple es kk tpos) (rdG1 X.K (.tup is)) := by
  obtain ⟨p1, p2, p3, p4⟩ := pgs_nms hN _ is h1 hf
  refine PG.imp (pg_tup (n := is.length) hc p1 (by rw [p2, p4]) p3) fun v σ H Q q => ?_
  obtain ⟨θ, ρ, d, ρ', hE, r, e, q⟩ := q
  cases r with
  | tup h2 h3 =>
    simp only [setT] at e
    split at e
    · rename_i hl
      have e' := Option.some.inj e
      subst e'
      refine ⟨_, _, rfl, h2.sq, by rw [h3.length]; exact hl.symm, θ, ρ, _, hE, h3, hl, fun σ' hE' hs => q σ' hE' fun j => ?_⟩
      by_cases hj : j ∈ is
      · exact .inr hj
      · exact .inl (hs j hj)
    · cases e
  | _ => simp [setT] at e
theorem setT_nest {i : Nat} {js : List Nat} {d : D} {ρ ρ' : Env1} (e : setT (.nest i js) d ρ = some ρ') : ∃ x ds, d = .tup [x, .tup ds] ∧ js.length = ds.length ∧ ρ' = setAll js ds (ρ.set i (some x)) := by
  have e : setN i js d ρ = some ρ' := e
  unfold setN at e
  split at e
  · split at e
    · rename_i hl
      exact ⟨_, _, rfl, hl, (Option.some.inj e).symm⟩
    · cases e
  · cases e
theorem pg_nest (hc : X.calm = true) (hN : X.N.Nodup) {x : Str} {pos p2 p3 : Pos} {es : List Expr} {kk kk2 : Nat} {i : Nat} {js : List Nat} (h1 : slotL X.N X.env.scope x = some i) (h2 : namesT X.N X.env.scope es = some js) (hf : ∀ x, fnOk X x) : PG X (.Tuple [.Name x pos, .Tuple es kk p2] kk2 p3) (rdG1 X.K (.nest i js)) := by
  have pp : PGs X [.Name x pos, .Tuple es kk p2] (gCons (rdG1 X.K (.name i)) (gCons (rdG1 X.K (.tup js)) gNil)) := pgs_cons (pg_nm hN h1 (hf x)) (pgs_cons (pg_t hc hN h2 fun y _ => hf y) pgs_nil rfl) rfl
  refine PG.imp (pg_tup (n := 2) hc pp rfl rfl) fun v σ H Q q => ?_
  obtain ⟨θ, ρ, d, ρ', hE, r, e, q⟩ := q
  obtain ⟨y, ds, rfl, hl, rfl⟩ := setT_nest e
  obtain ⟨a, vs, rfl, h3, h4⟩ : ∃ a vs, v = .ref a ∧ TupX X.K H a vs ∧ RpA X.K θ H vs [y, .tup ds] := by
    cases r with
    | tup h3 h4 => exact ⟨_, _, rfl, h3, h4⟩
  obtain ⟨v1, v2, rfl, p1, p2⟩ : ∃ v1 v2, vs = [v1, v2] ∧ Rp X.K θ H v1 y ∧ Rp X.K θ H v2 (.tup ds) := by
    cases h4 with
    | cons p1 t =>
      cases t with
      | cons p2 t2 =>
        cases t2
        exact ⟨_, _, rfl, p1, p2⟩
  refine ⟨a, [v1, v2], rfl, h3.sq, rfl, v1, [v2], rfl, θ, ρ, y, _, hE, p1, rfl, fun σ1 hE1 hs1 => ⟨v2, [], rfl, θ, ρ.set i (some y), .tup ds, setAll js ds (ρ.set i (some y)), hE1, p2, by simp only [setT, hl, if_true], fun σ2 hE2 hs2 => ⟨rfl, q σ2 hE2 fun j => ?_⟩⟩⟩
  rcases hs2 j with z | z
  · rcases hs1 j with w | w
    · exact .inl (z.trans w)
    · exact .inr (.inl w)
  · exact .inr (.inr z)
theorem pg_of (hc : X.calm = true) (hN : X.N.Nodup) {e : Expr} {t : Tgt} (h : tgtOf X.N X.env.scope e = some t) (hf : ∀ x, fnOk X x) : PG X e (rdG1 X.K t) := by
  unfold tgtOf at h
  split at h
  · rw [Option.map_eq_some_iff] at h
    obtain ⟨i, h1, rfl⟩ := h
    exact pg_nm hN h1 (hf _)
  · rename_i es kk pos
    cases h0 : namesT X.N X.env.scope es with
    | some is =>
      rw [h0] at h
      cases h
      exact pg_t hc hN h0 fun x _ => hf x
    | none =>
      rw [h0] at h
      split at h
      · rename_i hx
        cases hx
      · split at h
        · split at h
          · rename_i i js h1 h2
            cases h
            exact pg_nest hc hN h1 h2 hf
          · cases h
        · cases h
  · cases h
end

/-! ### walks -/
/-- what is walked: the items, and the list of the store that stands meanwhile -/
structure ItD where
  ds : List D
  chk : Option (Nat × List D)
def chkM (c : Option (Nat × List D)) (M : Store) : Prop := match c with
  | none => True
  | some (k, l) => readAt M k = some l
def ItOk (K : PySem.W.Frag) (cl : ClsA) (θ1 : List Addr) (H1 : Hp) (J : It) (it : ItD) : Prop :=
  ∀ θ H M, Ext K θ1 H1 θ H → Rep K cl θ H M → chkM it.chk M →
    (∀ i, it.ds.length ≤ i → J.stop i H) ∧ ∀ i d, it.ds[i]? = some d → J.go i H ∧ ∀ x H', J.yld i H x H' → Ext K θ H θ H' ∧ Rep K cl θ H' M ∧ Rp K θ H' x d
def rdI (cl : ClsA) (W : WX) (K : PySem.W.Frag) (f : Den ItD) : TI := rdG K cl (fun θ H J it => ItOk K cl θ H J it) W f
theorem PI.imp {X : Cx} {tg e : Expr} {t t' : TI} (h : PI X tg e t) (k : ∀ σ H Q, t' σ H Q → t σ H Q) : PI X tg e t' := ⟨fun pins s σ H R I q => h.run pins s σ H R I (k σ H R q)⟩
section
variable {X : Cx} {cl : ClsA} {W : WX} {a b : Expr} {fa fb : Den D} {fs : Den (List D)} {tg : Expr} {p pos : Pos}
/-- a list or a tuple -/
def itOf (d : D) (M : Store) : Out ItD := match d with
  | .tup ds => .ok ⟨ds, none⟩ M
  | .ob k => match readAt M k with
    | some l => .ok ⟨l, some (k, l)⟩ M
    | none => .no
  | _ => .no
def denIt (fa : Den D) : Den ItD := fun ρ M => (fa ρ M).bind itOf
theorem itl_ok {K : PySem.W.Frag} {θ : List Addr} {H : Hp} {a : Addr} {k : Nat} {l : List D} (h : θ[k]? = some a) : ItOk K cl θ H (Itl K a) ⟨l, some (k, l)⟩ := by
  intro θ2 H2 M e r hc
  obtain ⟨vs, h1, h2⟩ := (show ∃ vs, SqL K H2 a vs ∧ RpA K θ2 H2 vs l by
    obtain ⟨o, ho, hr⟩ := r.atn (e.pre k a h)
    simp only [chkM, readAt, ho] at hc
    cases o with
    | lst ds =>
      simp at hc
      subst hc
      obtain ⟨vs, q1, q2⟩ := hr
      exact ⟨vs, SqL.of q1, q2⟩
    | frl ds =>
      simp at hc
      subst hc
      obtain ⟨o, vs, q1, q2⟩ := hr
      exact ⟨vs, .inl (.inr ⟨_, q1⟩), q2⟩
    | _ => simp at hc)
  refine ⟨fun i hi => ⟨vs, h1, by rw [h2.length]; exact hi⟩, fun i d hd => ?_⟩
  obtain ⟨v, h3, h4⟩ := h2.get hd
  refine ⟨⟨vs, v, h1, h3⟩, fun x H' q => ?_⟩
  obtain ⟨rfl, q⟩ := q
  have e2 := q vs h1
  rw [h3] at e2
  cases e2
  exact ⟨.refl, r, h4⟩
theorem itt_ok {K : PySem.W.Frag} {θ : List Addr} {H : Hp} {a : Addr} {vs : List V} {l : List D} (h : TupX K H a vs) (hr : RpA K θ H vs l) : ItOk K cl θ H (Itt K a) ⟨l, none⟩ := by
  intro θ2 H2 M e r _
  have h1 := (e.tup a vs h).sq
  have h2 := hr.ext e
  refine ⟨fun i hi => ⟨vs, h1, by rw [h2.length]; exact hi⟩, fun i d hd => ?_⟩
  obtain ⟨v, h3, h4⟩ := h2.get hd
  refine ⟨⟨vs, v, h1, h3⟩, fun x H' q => ?_⟩
  obtain ⟨rfl, q⟩ := q
  have e2 := q vs h1
  rw [h3] at e2
  cases e2
  exact ⟨.refl, r, h4⟩
theorem pi_seq (ha : RD X cl W a fa) : PI X tg a (rdI cl W X.K (denIt fa)) := by
  refine ⟨fun pins s σ H R I q => ?_⟩
  obtain ⟨θ, ρ, M, hE, r, q⟩ := q
  have both : rd cl W X.K fa σ H fun x H1 => (∃ a, x = .ref a ∧ (∃ xs, SqL X.K H1 a xs) ∧ R (Itl X.K a) H1) ∨ ∃ a, x = .ref a ∧ (∃ xs, SqT X.K H1 a xs) ∧ R (Itt X.K a) H1 := by
    refine ⟨θ, ρ, M, hE, r, PostG.bind q fun d M1 θ1 H1 v e1 r1 p1 q1 => ?_⟩
    unfold itOf at q1
    split at q1
    · cases p1 with
      | tup h1 h2 => exact .inr ⟨_, rfl, ⟨_, h1.sq⟩, PostG.ok_ q1 r1 (itt_ok h1 h2)⟩
    · cases p1 with
      | ob h1 =>
        split at q1
        · rename_i l e
          obtain ⟨vs, h2, _⟩ := read_at r1 h1 e
          exact .inl ⟨_, rfl, ⟨vs, h2⟩, PostG.ok_ q1 r1 (itl_ok h1)⟩
        · exact q1.elim
    · exact q1.elim
  refine thn (ha.run pins s σ H _ I both) fun v s1 ⟨x, H1, I1, r1, q1⟩ => ?_
  have fresh : FpOk X pins H1 s1.heap.objs.size := I1.fpOk (Nat.le_refl _) (I1.hok.fresh (Nat.le_refl _))
  rcases q1 with ⟨c, e, ⟨xs, hq⟩, q⟩ | ⟨c, e, ⟨xs, hq⟩, q⟩
  · subst e
    cases r1
    obtain ⟨its, rv, pl, _⟩ := I1.list hq
    exact wpAny_pyIter_list pl.isList ⟨_, [s1.heap.objs.size], _, _, H1, rfl, I1.kept (t' := s1.toks) (fun b o e => Heap.get?_push_of_some _ e), turn_list c _, ⟨_, Heap.get?_push_size _ rfl, rfl, rfl⟩, fun b hb => by rw [List.mem_singleton] at hb; rw [hb]; exact fresh, q⟩
  · subst e
    cases r1
    obtain ⟨its, rv, pl, _⟩ := I1.tuple hq
    exact wpAny_pyIter_tuple (show s1.heap.IsTuple c its.toArray from pl) ⟨_, [s1.heap.objs.size], _, _, H1, rfl, I1.kept (t' := s1.toks) (fun b o e => Heap.get?_push_of_some _ e), turn_tuple c _, ⟨_, Heap.get?_push_size _ rfl, rfl, rfl⟩, fun b hb => by rw [List.mem_singleton] at hb; rw [hb]; exact fresh, q⟩
/-- range(n), range(a, b) -/
def rangeD (lo : Int) (n : Nat) : List D := (List.range n).map fun i => .int (lo + (i : Nat))
def itRange1 (ds : List D) (M : Store) : Out ItD := match ds with
  | [.int n] => if -(2 ^ 62) ≤ n ∧ n < 2 ^ 62 then .ok ⟨rangeD 0 n.toNat, none⟩ M else .no
  | _ => .no
def itRange2 (ds : List D) (M : Store) : Out ItD := match ds with
  | [.int i, .int j] => if -(2 ^ 62) ≤ i ∧ i < 2 ^ 62 ∧ -(2 ^ 62) ≤ j ∧ j < 2 ^ 62 then .ok ⟨rangeD i (j - i).toNat, none⟩ M else .no
  | _ => .no
def denRange1 (fs : Den (List D)) : Den ItD := fun ρ M => (fs ρ M).bind itRange1
def denRange2 (fs : Den (List D)) : Den ItD := fun ρ M => (fs ρ M).bind itRange2
theorem itr_ok {K : PySem.W.Frag} {θ : List Addr} {H : Hp} (lo : Int) (n : Nat) : ItOk K cl θ H (Itr lo n) ⟨rangeD lo n, none⟩ := by
  intro θ2 H2 M e r _
  refine ⟨fun i hi => (show n ≤ i by simpa [rangeD] using hi), fun i d hd => ?_⟩
  have hi : i < n := by
    have := (List.getElem?_eq_some_iff.mp hd).1
    simpa [rangeD] using this
  refine ⟨hi, fun x H' q => ?_⟩
  obtain ⟨rfl, rfl⟩ := q
  unfold rangeD at hd
  rw [List.getElem?_map, List.getElem?_range hi] at hd
  have e2 := Option.some.inj hd
  rw [← e2]
  exact ⟨.refl, r, .int _⟩
theorem pi_rng1 (hg : Gl X "range") (hm : X.mg "range" = none) (hs : isStar a = false) (ha : RA X cl W [a] fs) : PI X tg (.Call (.Name "range" p) [a] [] pos) (rdI cl W X.K (denRange1 fs)) :=
  PI.imp (pi_range1 hg hm ha (star_one a [] X.env hs)) fun σ H R q => by
    obtain ⟨θ, ρ, M, hE, r, q⟩ := q
    refine ⟨θ, ρ, M, hE, r, PostG.bind q fun ds M1 θ1 H1 vs e1 r1 p1 q1 => ?_⟩
    unfold itRange1 at q1
    split at q1
    · split at q1
      · rename_i hl
        cases p1 with
        | cons x t =>
          cases t
          cases x
          exact ⟨_, rfl, hl.1, hl.2, PostG.ok_ q1 r1 (itr_ok 0 _)⟩
      · exact q1.elim
    · exact q1.elim
/-- enumerate of a list -/
def pairsD : Nat → List D → List D
  | _, [] => []
  | i, d :: r => .tup [.int (i : Nat), d] :: pairsD (i + 1) r
theorem pairs_get : ∀ (ds : List D) (k i : Nat) (d : D), (pairsD k ds)[i]? = some d → ∃ x, ds[i]? = some x ∧ d = .tup [.int ((k + i : Nat)), x]
  | [], k, i, d, h => by simp [pairsD] at h
  | x :: r, k, 0, d, h => by
    simp [pairsD] at h
    exact ⟨x, rfl, h.symm⟩
  | x :: r, k, i + 1, d, h => by
    obtain ⟨y, h1, h2⟩ := pairs_get r (k + 1) i d (by simpa [pairsD] using h)
    exact ⟨y, by simpa using h1, by rw [h2, Nat.add_right_comm, Nat.add_assoc]⟩
theorem pairs_len : ∀ (ds : List D) (k : Nat), (pairsD k ds).length = ds.length
  | [], _ => rfl
  | _ :: r, k => by simp [pairsD, pairs_len r (k + 1)]
def itEnum (ds : List D) (M : Store) : Out ItD := match ds with
  | [.ob k] => match readAt M k with
    | some l => .ok ⟨pairsD 0 l, some (k, l)⟩ M
    | none => .no
  | _ => .no
def denEnum (fs : Den (List D)) : Den ItD := fun ρ M => (fs ρ M).bind itEnum
end

/-! ### for -/
open Classical in
/-- a loop over data -/
noncomputable def forD (c : Option (Nat × List D)) (body : D → Env1 → Store → SOut) : List D → Env1 → Store → SOut
  | [], ρ, M => if chkM c M then .fl .nx ρ M else .no
  | d :: r, ρ, M => if chkM c M then (match body d ρ M with
      | .fl .nx ρ' M' => forD c body r ρ' M'
      | .fl .ct ρ' M' => forD c body r ρ' M'
      | .fl .brk ρ' M' => .fl .nx ρ' M'
      | o => o) else .no
/-- a target set, then a block -/
def onT (t : Tgt) (b : DenS) (d : D) (ρ : Env1) (M : Store) : SOut := match setT t d ρ with
  | some ρ' => b ρ' M
  | none => .no
noncomputable def denFor (f : Den ItD) (t : Tgt) (b : DenS) : DenS := fun ρ M => bindS (f ρ M) ρ fun it M => forD it.chk (onT t b) it.ds ρ M
abbrev RS (X : Cx) (cl : ClsA) (W : WX) (st : Stmt) (g : DenS) : Prop := PS X st (rdS cl W X.K g)
abbrev RB (X : Cx) (cl : ClsA) (W : WX) (sts : List Stmt) (g : DenS) : Prop := PSs X sts (rdS cl W X.K g)
section
variable {X : Cx} {cl : ClsA} {W : WX} {f : Den ItD} {t : Tgt} {b : DenS} {tg iter : Expr} {body : List Stmt} {pos : Pos}
theorem rs_for (hp : PassesOwn (model X.prog X.w) X.A X.env X.xe) (hc : X.calm = true) (hi : PI X tg iter (rdI cl W X.K f)) (hg : PG X tg (rdG1 X.K t)) (hb : RB X cl W body b) (hs : ∀ x, foldedSetIterable iter X.env x = pure x) :
    RS X cl W (.For tg iter body [] pos) (denFor f t b) := PS.imp (ps_for hp hc hi hg hb hs) fun E σ H q => by
  obtain ⟨θ, ρ, M, hE, r, q⟩ := q
  refine ⟨θ, ρ, M, hE, r, PostS.bind (Rv := fun θ H J it => ItOk X.K cl θ H J it) q hE fun it M1 θ1 H1 J e1 r1 ok q1 => ?_⟩
  let Wv : Nat → Nat → L2.St → Hp → Prop := fun i m σ2 H2 => m + i = it.ds.length ∧ ∃ θ2 ρ2 M2, Ext X.K θ1 H1 θ2 H2 ∧ RelE X.K θ2 H2 σ2 ρ2 ∧ Rep X.K cl θ2 H2 M2 ∧ PostS X.K cl W E θ2 H2 (forD it.chk (onT t b) (it.ds.drop i) ρ2 M2)
  refine ⟨Wv, ⟨it.ds.length, by simp, θ1, ρ, M1, .refl, hE.ext e1, r1, by simpa using q1⟩, fun i m σ2 H2 hw => ?_⟩
  obtain ⟨hm, θ2, ρ2, M2, e2, hE2, r2, q2⟩ := hw
  cases hd : it.ds[i]? with
  | none =>
    have hl : it.ds.length ≤ i := List.getElem?_eq_none_iff.mp hd
    rw [List.drop_eq_nil_of_le hl, forD] at q2
    split at q2
    · rename_i hck
      exact .inl ⟨(ok θ2 H2 M2 e2 r2 hck).1 i hl, q2 θ2 H2 σ2 .refl r2 hE2⟩
    · exact q2.elim
  | some d =>
    obtain ⟨hl, hget⟩ := List.getElem?_eq_some_iff.mp hd
    rw [List.drop_eq_getElem_cons hl, hget, forD] at q2
    split at q2
    · rename_i hck
      obtain ⟨go, yl⟩ := (ok θ2 H2 M2 e2 r2 hck).2 i d hd
      refine .inr ⟨go, fun σ' H' => ∃ θ3 ρ3 M3, Ext X.K θ1 H1 θ3 H' ∧ RelE X.K θ3 H' σ' ρ3 ∧ Rep X.K cl θ3 H' M3 ∧ PostS X.K cl W E θ3 H' (forD it.chk (onT t b) (it.ds.drop (i + 1)) ρ3 M3),
        fun σ' H' hN => ⟨m - 1, by omega, by omega, hN⟩, fun x H' hy => ?_⟩
      obtain ⟨e3, r3, p3⟩ := yl x H' hy
      cases ht : setT t d ρ2 with
      | none =>
        simp only [onT, ht] at q2
        exact q2.elim
      | some ρ' =>
        simp only [onT, ht] at q2
        refine ⟨θ2, ρ2, d, ρ', hE2.ext e3, p3, ht, fun σ3 hE3 _ => ⟨θ2, ρ', M2, hE3, r3, ?_⟩⟩
        have q3 := PostS.ext (o := _) q2 e3
        cases hb : b ρ' M2 with
        | fl fl ρ4 M4 =>
          rw [hb] at q3
          cases fl with
          | nx => exact fun θ' H'' σ' e r hE' => ⟨θ', ρ4, M4, e2.trans (e3.trans e), hE', r, PostS.ext q3 e⟩
          | ct => exact fun θ' H'' σ' e r hE' => ⟨θ', ρ4, M4, e2.trans (e3.trans e), hE', r, PostS.ext q3 e⟩
          | brk => exact q3
          | ret d => exact q3
        | exc c fs ρ4 M4 =>
          rw [hb] at q3
          exact q3
        | no =>
          rw [hb] at q3
          exact q3
    · exact q2.elim
end
end RI

/-! comprehensions; plain statements -/
namespace RI
open PySem PySem.Spec PyProof.Rows L2

/-! ### comprehensions -/
def WF : WX := fun _ _ _ _ => False
/-- nothing is raised within -/
def noX {α : Type} : Out α → Out α
  | .exc _ _ _ => .no
  | o => o
@[simp] theorem noX_ok {α : Type} (a : α) (M : Store) : noX (.ok a M) = .ok a M := rfl
def wipeE (ρ : Env1) : List Nat → Env1
  | [] => ρ
  | v :: vs => (wipeE ρ vs).set v none
theorem wipe_get (σ : L2.St) (j : Nat) : ∀ vs : List Nat, (wipe σ vs)[j]? = if j ∈ vs ∧ j < σ.length then some none else σ[j]?
  | [] => by simp [wipe]
  | v :: vs => by
    unfold wipe
    by_cases hj : j = v
    · subst hj
      by_cases hl : j < σ.length
      · rw [List.getElem?_set_self (by rw [wipe_length]; exact hl), if_pos ⟨List.mem_cons_self, hl⟩]
      · rw [List.getElem?_eq_none_iff.mpr (by rw [List.length_set, wipe_length]; omega), if_neg (fun z => hl z.2)]
        exact (List.getElem?_eq_none_iff.mpr (by omega)).symm
    · rw [List.getElem?_set_ne (Ne.symm hj), wipe_get σ j vs]
      simp [hj]
theorem relE_wipe {K : PySem.W.Frag} {θ : List Addr} {H : Hp} {σ : L2.St} {ρ : Env1} (h : RelE K θ H σ ρ) : ∀ vs : List Nat, RelE K θ H (wipe σ vs) (wipeE ρ vs)
  | [] => h
  | v :: vs => by
    have ih := relE_wipe h vs
    unfold wipe wipeE
    refine ⟨by rw [List.length_set, List.length_set]; exact ih.len, fun i d e => ?_⟩
    by_cases hi : i = v
    · subst hi
      by_cases hl : i < (wipeE ρ vs).length
      · rw [List.getElem?_set_self hl] at e
        cases e
      · rw [List.getElem?_eq_none_iff.mpr (by rw [List.length_set]; omega)] at e
        cases e
    · rw [List.getElem?_set_ne (Ne.symm hi)] at e
      obtain ⟨v', h1, h2⟩ := ih.at_ i d e
      exact ⟨v', by rw [List.getElem?_set_ne (Ne.symm hi)]; exact h1, h2⟩
def tgtIn (t : Tgt) (vs : List Nat) : Bool := match t with
  | .name i => vs.contains i
  | .tup is => is.all vs.contains
  | .nest i js => vs.contains i && js.all vs.contains
theorem wipe_same {σ σ2 : L2.St} {vs : List Nat} {t : Tgt} (ht : tgtIn t vs = true) (hl : σ2.length = (wipe σ vs).length) (h : ∀ j, (σ2[j]? = (wipe σ vs)[j]?) ∨ inT t j) : wipe σ2 vs = wipe σ vs := by
  refine List.ext_getElem? fun j => ?_
  rw [wipe_length] at hl
  by_cases hj : j ∈ vs
  · rw [wipe_get, wipe_get, hl]
    by_cases hlt : j < σ.length
    · rw [if_pos ⟨hj, hlt⟩, if_pos ⟨hj, hlt⟩]
    · rw [if_neg (fun z => hlt z.2), if_neg (fun z => hlt z.2), List.getElem?_eq_none_iff.mpr (by omega), List.getElem?_eq_none_iff.mpr (by omega)]
  · rw [wipe_get, if_neg (fun z => hj z.1)]
    rcases h j with z | z
    · exact z
    · exfalso
      apply hj
      cases t with
      | name i =>
        have z : j = i := z
        subst z
        simpa [tgtIn] using ht
      | tup is =>
        have z : j ∈ is := z
        simp only [tgtIn, List.all_eq_true] at ht
        simpa using ht j z
      | nest i js =>
        have z : j = i ∨ j ∈ js := z
        simp only [tgtIn, Bool.and_eq_true, List.all_eq_true] at ht
        rcases z with rfl | z
        · simpa using ht.1
        · simpa using ht.2 j z
open Classical in
noncomputable def lcD (n : Nat) (c : Option (Nat × List D)) (t : Tgt) (g : Den Bool) (e : Den D) (ρw : Env1) : List D → Store → Out Unit
  | [], M => if chkM c M then .ok () M else .no
  | d :: r, M => if chkM c M then (match setT t d ρw with
      | none => .no
      | some ρ' => (noX (g ρ' M)).bind fun b M1 => if b then (noX (e ρ' M1)).bind fun y M2 => (match listAt M2 n with
          | some acc => if acc.length < line then lcD n c t g e ρw r (M2.set n (.lst (acc ++ [y]))) else .no
          | none => .no) else lcD n c t g e ρw r M1) else .no
noncomputable def denLc (f : Den ItD) (t : Tgt) (g : Den Bool) (e : Den D) (vs : List Nat) : Den D := fun ρ M => (f ρ M).bind fun it M1 => (lcD M1.length it.chk t g e (wipeE ρ vs) it.ds (M1 ++ [.lst []])).bind fun _ M2 => .ok (.ob M1.length) M2
abbrev RTs (X : Cx) (cl : ClsA) (W : WX) (es : List Expr) (f : Den Bool) : Prop := PTs X es (rdT cl W X.K f)
def denYes : Den Bool := fun _ M => .ok true M
section
variable {X : Cx} {cl : ClsA} {W : WX}
theorem PTs.imp {es : List Expr} {t t' : TT} (h : PTs X es t) (k : ∀ σ H Q, t' σ H Q → t σ H Q) : PTs X es t' := ⟨fun pins s σ H Q I q => h.run pins s σ H Q I (k σ H Q q)⟩
theorem rts_nil : RTs X cl W [] denYes := PTs.imp pts_nil fun σ H Q q => by
  obtain ⟨θ, ρ, M, hE, r, q⟩ := q
  exact PostG.ok_ q r rfl
theorem rts_one {c : Expr} {f : Den Bool} (h : RT X cl W c f) : RTs X cl W [c] f := pts_one h
/-- a comprehension's reading over data -/
theorem lc_read {f : Den ItD} {t : Tgt} {g : Den Bool} {e : Den D} {vs : List Nat} (ht : tgtIn t vs = true) {σ : L2.St} {H : Hp} {Q : VK} (q : rd cl W X.K (denLc f t g e vs) σ H Q) :
    tLc (rdI cl W X.K f) (rdG1 X.K t) (rdT cl WF X.K g) (rd cl WF X.K e) vs σ H Q := by
  obtain ⟨θ, ρ, M, hE, r, q⟩ := q
  refine ⟨θ, ρ, M, hE, r, PostG.bind (Rw := fun θ H J it => ItOk X.K cl θ H J it) q fun it M1 θ1 H1 J e1 r1 ok q1 => ?_⟩
  intro Da hD
  have exD : Ext X.K θ1 H1 (θ1 ++ [Da]) (upd H1 Da (.lst [])) := Ext.new hD
  have rD : Rep X.K cl (θ1 ++ [Da]) (upd H1 Da (.lst [])) (M1 ++ [.lst []]) := r1.new hD ⟨[], upd_same, .nil⟩
  have nD : (θ1 ++ [Da])[M1.length]? = some Da := by rw [← r1.len]; simp
  let Wv : Nat → Nat → Hp → Prop := fun i m H2 => m + i = it.ds.length ∧ ∃ θ2 M2, Ext X.K (θ1 ++ [Da]) (upd H1 Da (.lst [])) θ2 H2 ∧ Rep X.K cl θ2 H2 M2 ∧
    PostG X.K cl (Rp X.K) W Q σ θ2 H2 ((lcD M1.length it.chk t g e (wipeE ρ vs) (it.ds.drop i) M2).bind fun _ M3 => .ok (.ob M1.length) M3)
  refine ⟨Wv, ⟨it.ds.length, by simp, _, _, .refl, rD, PostG.ext (by simpa using q1) exD⟩, fun i m H2 hw => ?_⟩
  obtain ⟨hm, θ2, M2, e2, r2, q2⟩ := hw
  have e12 := exD.trans e2
  cases hd : it.ds[i]? with
  | none =>
    have hl : it.ds.length ≤ i := List.getElem?_eq_none_iff.mp hd
    rw [List.drop_eq_nil_of_le hl, lcD] at q2
    split at q2
    · rename_i hck
      refine .inl ⟨(ok θ2 H2 M2 e12 r2 hck).1 i hl, ?_⟩
      exact PostG.ok_ q2 r2 (.ob (e2.pre _ _ nD))
    · exact q2.elim
  | some d =>
    obtain ⟨hl, hget⟩ := List.getElem?_eq_some_iff.mp hd
    rw [List.drop_eq_getElem_cons hl, hget, lcD] at q2
    split at q2
    · rename_i hck
      obtain ⟨go, yl⟩ := (ok θ2 H2 M2 e12 r2 hck).2 i d hd
      refine .inr ⟨go, fun H' => ∃ θ3 M3, Ext X.K (θ1 ++ [Da]) (upd H1 Da (.lst [])) θ3 H' ∧ Rep X.K cl θ3 H' M3 ∧
        PostG X.K cl (Rp X.K) W Q σ θ3 H' ((lcD M1.length it.chk t g e (wipeE ρ vs) (it.ds.drop (i + 1)) M3).bind fun _ M3 => .ok (.ob M1.length) M3), fun H' hN => ⟨m - 1, by omega, by omega, hN⟩, fun x H' hy => ?_⟩
      obtain ⟨e3, r3, p3⟩ := yl x H' hy
      have hEw : RelE X.K θ2 H' (wipe σ vs) (wipeE ρ vs) := relE_wipe (hE.ext (e1.trans (e12.trans e3))) vs
      cases hst : setT t d (wipeE ρ vs) with
      | none =>
        simp only [hst] at q2
        exact q2.elim
      | some ρ' =>
        simp only [hst] at q2
        refine ⟨θ2, wipeE ρ vs, d, ρ', hEw, p3, hst, fun σ3 hE3 hs3 => ⟨wipe_same ht ?_ hs3, θ2, ρ', M2, hE3, r3, ?_⟩⟩
        · rw [hE3.len, hEw.len]
          have hlen : ∀ (is : List Nat) (ds : List D) (ρ : Env1), (setAll is ds ρ).length = ρ.length := by
            intro is
            induction is with
            | nil => intro ds ρ; cases ds <;> rfl
            | cons i is ih => intro ds ρ; cases ds with
              | nil => rfl
              | cons d ds => simp only [setAll]; rw [ih, List.length_set]
          cases t with
          | name i =>
            unfold setT at hst
            rw [← Option.some.inj hst, List.length_set]
          | tup is =>
            cases d with
            | tup ds =>
              simp only [setT] at hst
              split at hst
              · rw [← Option.some.inj hst, hlen]
              · cases hst
            | _ => simp [setT] at hst
          | nest i js =>
            obtain ⟨x, ds, _, _, h⟩ := setT_nest hst
            rw [h, hlen, List.length_set]
        · have q3 := PostG.ext q2 e3
          cases hg : g ρ' M2 with
          | no =>
            rw [hg] at q3
            exact q3.elim
          | exc c fs M4 =>
            rw [hg] at q3
            exact q3.elim
          | ok b M4 =>
            rw [hg] at q3
            intro θ4 H4 b' e4 r4 eb
            subst eb
            have q4 := PostG.ext q3 e4
            cases b' with
            | false =>
              refine iteF ⟨θ4, M4, e2.trans (e3.trans e4), r4, ?_⟩
              simpa using q4
            | true =>
              simp only [noX_ok, Out.bind_ok, if_true] at q4
              refine iteT ⟨θ4, ρ', M4, hE3.ext e4, r4, ?_⟩
              cases he : e ρ' M4 with
              | no =>
                rw [he] at q4
                exact q4.elim
              | exc c fs M5 =>
                rw [he] at q4
                exact q4.elim
              | ok y M5 =>
                rw [he] at q4
                simp only [noX_ok, Out.bind_ok] at q4
                intro θ5 H5 v e5 r5 p5
                have q5 := PostG.ext q4 e5
                split at q5
                · rename_i acc hacc
                  split at q5
                  · rename_i hlt
                    have eA := e2.trans (e3.trans (e4.trans e5))
                    have n5 := eA.pre _ _ nD
                    obtain ⟨ws, h1, h2⟩ := lst_at r5 n5 hacc
                    have fr : Free θ5 H5 Da := ⟨.inl (List.mem_of_getElem? n5), fun o eo => by
                      rw [h1] at eo
                      cases eo
                      exact ⟨fun _ z => (by cases z), fun _ _ z => (by cases z)⟩⟩
                    have ex6 : Ext X.K θ5 H5 θ5 (upd H5 Da (.lst (ws ++ [v]))) := Ext.upd fr
                    refine ⟨ws, h1, by rw [h2.length]; exact Nat.lt_of_lt_of_le hlt (line_ok (Nat.le_refl _)), θ5, _, eA.trans ex6, r5.put (u' := .lst (ws ++ [v])) (o := .lst (acc ++ [y])) n5 fr ⟨ws ++ [v], upd_same, (h2.app (.cons p5 .nil)).ext ex6⟩, PostG.ext q5 ex6⟩
                  · exact q5.elim
                · exact q5.elim
    · exact q2.elim
theorem rd_lc {f : Den ItD} {t : Tgt} {g : Den Bool} {e : Den D} {elt tg iter : Expr} {ifs : List Expr} {scope : Scope} {own : List (Str × Nat)} {pos : Pos} (hc : X.calm = true) (hN : X.N.Nodup) (hi : PI X tg iter (rdI cl W X.K f)) (ok : BlkOk X.N X.env.scope scope own)
    (hg : ∀ (s : Shared) (H : Hp) (C : Addr) (cs : List (Str × Addr)) (fp : List Addr), PG (X.blk s H scope (compEnvC scope cs C X.env) fp) tg (rdG1 X.K t)) (ht : ∀ (s : Shared) (H : Hp) (C : Addr) (cs : List (Str × Addr)) (fp : List Addr), RTs (X.blk s H scope (compEnvC scope cs C X.env) fp) cl WF ifs g)
    (he : ∀ (s : Shared) (H : Hp) (C : Addr) (cs : List (Str × Addr)) (fp : List Addr), RD (X.blk s H scope (compEnvC scope cs C X.env) fp) cl WF elt e) (hs : ∀ x, foldedSetIterable iter X.env x = pure x) (hv : tgtIn t (own.map (·.2)) = true) :
    RD X cl W (.ListComp elt [⟨tg, iter, ifs, 0⟩] scope pos) (denLc f t g e (own.map (·.2))) := PE.imp (pe_lc hc hN hi ok hg ht he hs) fun σ H Q q => lc_read hv q
end

/-! ### plain statements -/
section
variable {X : Cx} {cl : ClsA} {W : WX} {a b : Expr} {fa fb : Den D} {pos : Pos} {es : List Expr} {fs : Den (List D)} {st : Stmt} {rest : List Stmt} {g h : DenS} {gb : Den Bool}
def denNx : DenS := fun ρ M => .fl .nx ρ M
def denSeq (g h : DenS) : DenS := fun ρ M => andThen (g ρ M) h
theorem rb_nil : RB X cl W [] denNx := PSs.imp pss_nil fun E σ H q => by
  obtain ⟨θ, ρ, M, hE, r, q⟩ := q
  exact q θ H σ .refl r hE
theorem rb_cons (h1 : RS X cl W st g) (h2 : RB X cl W rest h) : RB X cl W (st :: rest) (denSeq g h) := PSs.imp (pss_cons h1 h2) fun E σ H q => by
  obtain ⟨θ, ρ, M, hE, r, q⟩ := q
  exact ⟨θ, ρ, M, hE, r, PostS.seq q fun ρ1 M1 θ1 H1 σ1 e1 r1 hE1 q1 => ⟨θ1, ρ1, M1, hE1, r1, q1⟩⟩
def denRet (fa : Den D) : DenS := fun ρ M => bindS (fa ρ M) ρ fun d M => .fl (.ret d) ρ M
theorem rs_ret (ha : RD X cl W a fa) : RS X cl W (.Return (some a) pos) (denRet fa) := PS.imp (ps_ret ha) fun E σ H q => by
  obtain ⟨θ, ρ, M, hE, r, q⟩ := q
  exact ⟨θ, ρ, M, hE, r, PostS.bind (Rv := Rp X.K) q hE fun d M1 θ1 H1 v e1 r1 p1 q1 => q1 θ1 H1 v .refl r1 p1⟩
def denDrop (fa : Den D) : DenS := fun ρ M => bindS (fa ρ M) ρ fun _ M => .fl .nx ρ M
theorem rs_expr (ha : RD X cl W a fa) (hs : swapsWith a none pos.line X.env = pure false) : RS X cl W (.Expr a pos) (denDrop fa) := PS.imp (ps_expr ha hs) fun E σ H q => by
  obtain ⟨θ, ρ, M, hE, r, q⟩ := q
  exact ⟨θ, ρ, M, hE, r, PostS.bind (Rv := Rp X.K) q hE fun d M1 θ1 H1 v e1 r1 p1 q1 => q1 θ1 H1 σ .refl r1 (hE.ext e1)⟩
def denIfS (t : Den Bool) (g h : DenS) : DenS := fun ρ M => bindS (t ρ M) ρ fun b M => if b then g ρ M else h ρ M
theorem rs_if {A B : List Stmt} (ht : RT X cl W a gb) (h1 : RB X cl W A g) (h2 : RB X cl W B h) : RS X cl W (.If a A B pos) (denIfS gb g h) := PS.imp (ps_if ht h1 h2) fun E σ H q => by
  obtain ⟨θ, ρ, M, hE, r, q⟩ := q
  refine ⟨θ, ρ, M, hE, r, PostS.bind (Rv := fun _ _ b c => b = c) q hE fun d M1 θ1 H1 v e1 r1 p1 q1 => ?_⟩
  subst p1
  cases v with
  | true => exact iteT ⟨θ1, ρ, M1, hE.ext e1, r1, q1⟩
  | false => exact iteF ⟨θ1, ρ, M1, hE.ext e1, r1, q1⟩
/-- target = e -/
def denAsg (fa : Den D) (t : Tgt) : DenS := fun ρ M => bindS (fa ρ M) ρ fun d M => match setT t d ρ with
  | some ρ' => .fl .nx ρ' M
  | none => .no
theorem rs_asg {tg : Expr} {t : Tgt} (ha : RD X cl W a fa) (hg : PG X tg (rdG1 X.K t)) (hs : swapsWithSole [tg] a pos.line X.env = pure false) (hw : swappedStores [tg] a X.env = pure none) (h1 : (assignEach [tg] X.env).map (·.2) = [assign tg X.env]) :
    RS X cl W (.Assign [tg] a pos) (denAsg fa t) := PS.imp (ps_asg ha hg hs hw h1) fun E σ H q => by
  obtain ⟨θ, ρ, M, hE, r, q⟩ := q
  refine ⟨θ, ρ, M, hE, r, PostS.bind (Rv := Rp X.K) q hE fun d M1 θ1 H1 v e1 r1 p1 q1 => ?_⟩
  cases hst : setT t d ρ with
  | none =>
    rw [hst] at q1
    exact q1.elim
  | some ρ' =>
    rw [hst] at q1
    exact ⟨θ1, ρ, d, ρ', hE.ext e1, p1, hst, fun σ' hE' _ => q1 θ1 H1 σ' .refl r1 hE'⟩
/-- a, b = x, y : stored from the right -/
def denPar (i j : Nat) (fs : Den (List D)) : DenS := fun ρ M => bindS (fs ρ M) ρ fun ds M => match ds with
  | [x, y] => .fl .nx ((ρ.set i (some x)).set j (some y)) M
  | _ => .no
theorem rs_par {i j : Nat} {x y : Str} {px py pt : Pos} {kt k2 : Nat} {pt2 : Pos} (hc : X.calm = true) (hN : X.N.Nodup) (hi : X.N[i]? = some x) (hj : X.N[j]? = some y) (hij : i ≠ j) (hx : X.env.scope.names.lookup x = some .local) (hy : X.env.scope.names.lookup y = some .local) (ha : RA X cl W [a, b] fs)
    (hw : swappedStores [.Tuple [.Name x px, .Name y py] kt pt] (.Tuple [a, b] k2 pt2) X.env = pure (some [x, y])) (hs : swapsWithSole [.Tuple [.Name x px, .Name y py] kt pt] (.Tuple [a, b] k2 pt2) pos.line X.env = pure false) :
    RS X cl W (.Assign [.Tuple [.Name x px, .Name y py] kt pt] (.Tuple [a, b] k2 pt2) pos) (denPar i j fs) := PS.imp (ps_par hc hN hi hj hij hx hy ha hw hs) fun E σ H q => by
  obtain ⟨θ, ρ, M, hE, r, q⟩ := q
  refine ⟨θ, ρ, M, hE, r, PostS.bind (Rv := RpA X.K) q hE fun ds M1 θ1 H1 vs e1 r1 p1 q1 => ?_⟩
  cases p1 with
  | nil => exact q1.elim
  | cons r1' t =>
    cases t with
    | nil => exact q1.elim
    | cons r2' t =>
      cases t with
      | nil => exact ⟨_, _, rfl, q1 θ1 H1 _ .refl r1 (((hE.ext e1).set r1' i).set r2' j)⟩
      | cons _ _ => exact q1.elim
def denPar3 (i j l : Nat) (fs : Den (List D)) : DenS := fun ρ M => bindS (fs ρ M) ρ fun ds M => match ds with
  | [x, y, z] => .fl .nx (((ρ.set i (some x)).set j (some y)).set l (some z)) M
  | _ => .no
end
end RI

/-! exceptions of one's own: made, their fields stored and read, asked by isinstance -/
namespace PySem
namespace ExG
open PySem.W PySem.Calls PyProof.Rows PySem.HandSPX PySem.OEX
/-- a chain: classes of one's own, then the built-in base's -/
structure Base (newId : String) (tail : List Value) : Prop where
  fact : ∃ B initId, ExcBaseFacts B newId initId tail
  pass : ∀ self : Value, refuseLoop self "__setattr__" tail = pure ()
  obj : tail.contains (.type "object") = true
theorem base_VE : Base "ValueError.__new__" [.type "ValueError", .type "Exception", .type "BaseException", .type "object"] :=
  ⟨⟨_, _, F.excBase_ValueError⟩, fun self => by kernel_rfl, by decide +kernel⟩
theorem base_LE : Base "LookupError.__new__" [.type "LookupError", .type "Exception", .type "BaseException", .type "object"] :=
  ⟨⟨_, _, F.excBase_LookupError⟩, fun self => by kernel_rfl, by decide +kernel⟩
theorem refs_has (X : String) (tail : List Value) : ∀ rs : List Addr, (rs.map Value.ref ++ tail).contains (.type X) = tail.contains (.type X)
  | [] => rfl
  | r :: rs => by
    rw [List.map_cons, List.cons_append, List.contains_cons, refs_has X tail rs]
    rfl
theorem refs_pass (self : Value) (what : Str) (tail : List Value) : ∀ rs : List Addr, refuseLoop self what (rs.map Value.ref ++ tail) = refuseLoop self what tail
  | [] => rfl
  | r :: rs => by
    rw [List.map_cons, List.cons_append, refuseLoop_ref, refs_pass self what tail rs]
section
open Builtin Builtin.ObjectAttr
variable {prog : Program} {w : World} {A : Around} {E : Value → Shared → Prop} {R : Result → Shared → Prop} {hp : Heap} {g : Array GenState} {d : Drawn} {t : Nat} {os : OsState}
/-- what object.__setattr__ does of an exception of one's own: the store into its own dict is left to be told -/
theorem sa_of {K : Frag} {name : Str} {tk : Tok} {v : Value} {x C : Addr} {ox : Obj} {od : Option Obj} {cd : ClassData} (X : K.In hp) (I : InstAt hp x ox C od) (hcd : clsIn K C = some cd)
    (hpass : refuseLoop (.ref x) "__setattr__" cd.mro = pure ()) (hne : cd.mro.isEmpty = false) (hob : cd.mro.contains (.type "object") = true) (ha : findIn K (.ref C) name = some none)
    (h : ∀ t', wpAny (model prog w) A.in1 (storeInOwnDict (.ref x) (.ref C) (.str name tk) name v false)
      (fun fin s' => match fin with
        | .done fl => R (.ok fl) s'
        | .again c => c.quiet = true ∧ codeAny (model prog w) A c R s') (fun e s' => R (.error e) s') ⟨hp, g, d, t', os⟩) :
    codeAny (model prog w) A (.call (.builtin "object.__setattr__") ⟨[.ref x, .str name tk, v], []⟩) R ⟨hp, g, d, t, os⟩ := by
  have SF := F.store_object
  have mro1 : Looks (model prog w) hp (mroOf (.ref C)) cd.mro :=
    (looks_clsIn X hcd).andThen .now
  have inst : Looks (model prog w) hp (isInstance (.ref x) (.type "object")) true := I.type.andThen (looks_mroIn X
    (by unfold mroIn; rw [hcd, Option.bind_some, if_neg (by rw [hne]; decide), hob]))
  refine codeAny_call_builtin SF.slot.plain SF.entry (@check_slot (model prog w) _ _ ⟨hp, g, d, t, os⟩ "object.__setattr__" "object" "__setattr__" (.ref x) [.str name tk, v] [] _
    SF.kind SF.split inst (SF.args _ _ v) ?_)
  rw [osa_eq, refuse_eq]
  refine wpAny_bind (wpAny_bind (I.type.at (wpAny_bind (mro1.at ?_))))
  rw [hpass]
  have noTaker : Looks (model prog w) hp (storeTaker? none) none := .now
  refine wpAny_pure (wpAny_bind (I.type.at (wpAny_bind ((looks_findIn X ha).at (wpAny_bind (noTaker.at ?_))))))
  exact h t
/-- the first field: a dict is made -/
theorem sa_new {K : Frag} {name : Str} {tk : Tok} {v : Value} {x C : Addr} {fv : Array Value} {cd : ClassData} (X : K.In hp) (hx : hp.get? x = some { cls := .ref C, data := .fields fv }) (hcd : clsIn K C = some cd)
    (hpass : refuseLoop (.ref x) "__setattr__" cd.mro = pure ()) (hne : cd.mro.isEmpty = false) (hob : cd.mro.contains (.type "object") = true) (hh : cd.hasDict = true) (ha : findIn K (.ref C) name = some none)
    (hq : ∀ h' tk' dx, (∀ b o, b ≠ x → hp.get? b = some o → h'.get? b = some o) → hp.objs.size ≤ dx → dx ≠ x → h'.get? x = some { cls := .ref C, dict := some dx, data := .fields fv } →
      h'.Ns1 dx (fun y => if y = name then some v else none) → R (.ok (.ret .none)) ⟨h', g, d, tk', os⟩) :
    codeAny (model prog w) A (.call (.builtin "object.__setattr__") ⟨[.ref x, .str name tk, v], []⟩) R ⟨hp, g, d, t, os⟩ := by
  refine sa_of (ox := { cls := .ref C, data := .fields fv }) (od := none) X ⟨hx, rfl, rfl, trivial⟩ hcd hpass hne hob ha fun t' => ?_
  have cls1 : Looks (model prog w) hp (classData C) cd := looks_clsIn X hcd
  have apart : x ≠ hp.objs.size := Nat.ne_of_lt (Heap.lt_size hx)
  obtain ⟨nm, bs, mro, ns, qn, hd, sn, sb, ab, col, del⟩ := cd
  obtain rfl : hd = true := hh
  unfold storeInOwnDict ownDictForStores
  repeat (first | (with_reducible refine store_in_new ?_ ?_) | (with_reducible refine wpAny_loadPart_at hx ?_) | (with_reducible refine cls1.at ?_) | wp_step)
  · refine ⟨_, #[], _, (Heap.get?_update_ne _ _ _ _ apart.symm).trans (Heap.get?_push_at rfl rfl), rfl, fun e he => ?_, fun _ => rfl⟩
    simp at he
  · intro h' tk' hn' sb
    have keepx := Heap.get?_push_of_some ({ cls := .type "dict", data := .dict #[] } : Obj) hx
    refine hq h' tk' hp.objs.size (fun b o hb ho => (sb.2 b (Nat.ne_of_lt (Heap.lt_size ho))).trans ?_) (Nat.le_refl _) apart.symm ((sb.2 x apart).trans (Heap.get?_update_self _ keepx rfl)) hn'
    exact (Heap.get?_update_ne _ _ _ _ hb).trans (Heap.get?_push_of_some _ ho)
/-- a further field -/
theorem sa_old {K : Frag} {name : Str} {tk : Tok} {v : Value} {x C dx : Addr} {fv : Array Value} {cd : ClassData} {m0 : Str → Option Value} {nl : List Str} (X : K.In hp) (hx : hp.get? x = some { cls := .ref C, dict := some dx, data := .fields fv })
    (hns : hp.Ns1 dx m0) (hw : Within m0 nl) (hz : nl.length ≤ 1000) (hcd : clsIn K C = some cd)
    (hpass : refuseLoop (.ref x) "__setattr__" cd.mro = pure ()) (hne : cd.mro.isEmpty = false) (hob : cd.mro.contains (.type "object") = true) (hh : cd.hasDict = true) (ha : findIn K (.ref C) name = some none)
    (hq : ∀ h' tk', (∀ b o, b ≠ dx → hp.get? b = some o → h'.get? b = some o) → h'.Ns1 dx (fun y => if y = name then some v else m0 y) → R (.ok (.ret .none)) ⟨h', g, d, tk', os⟩) :
    codeAny (model prog w) A (.call (.builtin "object.__setattr__") ⟨[.ref x, .str name tk, v], []⟩) R ⟨hp, g, d, t, os⟩ := by
  obtain ⟨oD, _, _, hoD, _, _⟩ := hns.count hw
  refine sa_of (ox := { cls := .ref C, dict := some dx, data := .fields fv }) (od := some oD) X ⟨hx, rfl, rfl, hoD⟩ hcd hpass hne hob ha fun t' => ?_
  have cls1 : Looks (model prog w) hp (classData C) cd := looks_clsIn X hcd
  obtain ⟨nm, bs, mro, ns, qn, hd, sn, sb, ab, col, del⟩ := cd
  obtain rfl : hd = true := hh
  unfold storeInOwnDict ownDictForStores
  repeat (first | (with_reducible refine store_in_old hns hw hz ?_) | (with_reducible refine wpAny_loadPart_at hx ?_) | (with_reducible refine cls1.at ?_) | wp_step)
  intro h' tk' hn' sb
  exact hq h' tk' (fun b o hb ho => (sb.2 b hb).trans ho) hn'
end
end ExG
end PySem

namespace RI
open PySem PySem.Spec PyProof.Rows L2
/-- an exception class of one's own -/
structure ExC (K : PySem.W.Frag) (C : Addr) : Prop where
  cls : ∃ nm q N bs rs tail sn sub ab col dd k0 k1 k2 k3 k5 newId, ExG.Base newId tail ∧ K.lookup C = some (excClassObj nm q C N bs (List.map Value.ref rs ++ tail) true sn sub ab col dd k0 k1 k2 k3 k5 newId)
  sa : PySem.W.findIn K (.ref C) "__setattr__" = some (some (.builtin "object.__setattr__"))
  exC : PySem.W.subIn K (.ref C) (.type "BaseException") = some true
  tyC : PySem.W.typeIn K (.ref C) = some (.type "type")
  kC : PySem.W.keepIn K (.ref C) = true
  ga : PySem.W.findIn K (.ref C) "__getattribute__" = some (some (.builtin "BaseException.__getattribute__"))
  gg : PySem.W.findIn K (.ref C) "__getattr__" = some none
  hd : PySem.W.hasDictIn K C = true
  cc : PySem.W.findIn K (.ref C) "__class__" = some (some (.builtin "object.__class__"))
  cg : PySem.W.specialIn K (.builtin "object.__class__") "__get__" = some (some (.builtin "getset_descriptor.__get__"))
  ct : PySem.W.takesIn K (.builtin "object.__class__") = some true
  mo : PySem.W.mroIn K C (.type "object") = some true
section
variable {X : Cx} {pins : List (Addr × Obj)} {σ : L2.St} {H : Hp} {s : Shared} {a C dx : Addr} {f : Str} {y : V} {u : Value} {fs : List (Str × V)} {Q : Unit → Shared → Prop} {E : Value → Shared → Prop} {A : Around}
theorem ExC.data {K : PySem.W.Frag} (T : ExC K C) : ∃ cd : ClassData, PySem.W.clsIn K C = some cd ∧ cd.hasDict = true ∧ cd.mro.isEmpty = false ∧ cd.mro.contains (.type "object") = true ∧ ∀ self, refuseLoop self "__setattr__" cd.mro = pure () := by
  obtain ⟨nm, q, N, bs, rs, tail, sn, sub, ab, col, dd, k0, k1, k2, k3, k5, newId, b, hC⟩ := T.cls
  refine ⟨{ name := nm, bases := bs, mro := .ref C :: (List.map Value.ref rs ++ tail), ns := N, qualname := q, hasDict := true, slotNames := sn, subclasses := sub, abstract := ab, collection := col, hasDel := false }, ?_, rfl, rfl, ?_, fun self => ?_⟩
  · unfold PySem.W.clsIn
    rw [hC] <;> rfl
  · show ((List.map Value.ref (C :: rs)) ++ tail).contains (.type "object") = true
    rw [ExG.refs_has]
    exact b.obj
  · show refuseLoop self "__setattr__" ((List.map Value.ref (C :: rs)) ++ tail) = pure ()
    rw [ExG.refs_pass]
    exact b.pass self
/-- e.f = y, the first one -/
theorem xset_new (T : ExC X.K C) (I : Inv X pins σ H s) (e : H a = some (exo a C none)) (hno : PySem.W.findIn X.K (.ref C) f = some none) (ry : RelV y u)
    (h : ∀ dx s', H dx = none → dx ≠ a → Inv X pins σ (upd (upd H dx (exd dx [(f, y)])) a (exo a C (some dx))) s' → Q () s') : wpAny (model X.prog X.w) A (setAttr (.ref a) f u) Q E s := by
  obtain ⟨cd, hcd, h1, h2, h3, h4⟩ := T.data
  obtain ⟨t1, ho⟩ := exo_at I.hok e
  obtain ⟨hp, g, d, t, os⟩ := s
  refine PySem.W.set_plain I.kIn (ox := { cls := .ref C, dict := none, data := .fields #[.ref t1, .none, .none, .none, .bool false, .none] }) (od := none) ⟨ho, rfl, rfl, trivial⟩ T.sa ?_
  refine ExG.sa_new I.kIn ho hcd (h4 _) h2 h3 h1 hno fun h' tk' dx k dn dne hx hn => ?_
  have hnd : H dx = none := I.hok.fresh dn
  have old : ∀ {b : Addr} {o : Obj}, hp.get? b = some o → b ≠ dx := fun {b o} q => Nat.ne_of_lt (Nat.lt_of_lt_of_le (Heap.lt_size q) dn)
  have noa : ∀ {b : Addr}, H b = none → b ≠ a := fun {b} n z => by
    rw [z, e] at n
    cases n
  have un : Un X.fs [] H (upd (upd H dx (exd dx [(f, y)])) a (exo a C (some dx))) hp h' := by
    refine ⟨fun b o q n _ _ => k b o (noa n) q, fun b o q n _ _ => ⟨o.slots, k b o (noa n) q⟩, fun b o q n _ => ?_, fun b o q _ => ?_, fun b xs q => ?_, fun b o v q => ?_, fun b ps q => ⟨#[], ?_⟩⟩
    · rw [upd_ne (noa n), upd_ne (old q)]
      exact n
    · by_cases hb : b = a
      · exact ⟨_, by rw [hb]; exact hx⟩
      · exact ⟨o, k b o hb q⟩
    · rw [upd_ne (at_ne e q exo_tup), upd_ne (ne_of_none q hnd)]
      exact q
    · rw [upd_ne (at_ne e q exo_frz), upd_ne (ne_of_none q hnd)]
      exact q
    · rw [upd_ne (at_ne e q exo_tbl), upd_ne (ne_of_none q hnd), q]
      simp
  refine h dx _ hnd dne (I.un (t' := tk') un fun b o q => ?_)
  by_cases hb : b = a
  · subst hb
    rw [upd_same] at q
    cases q
    exact exo_ok hx
  · rw [upd_ne hb] at q
    by_cases hd : b = dx
    · subst hd
      rw [upd_same] at q
      cases q
      exact exd_ok hn (relO_put (fs := []) ry fun g => True.intro)
    · rw [upd_ne hd] at q
      refine (I.hok b o q).stay (fun c v hc z => k c v ?_ z) (fun c hc => ?_) (fun c xs hc => ?_)
      · rcases hc with hc | hc
        · rw [hc]
          exact hb
        · exact at_ne e hc exo_own
      · rw [upd_ne (at_ne e hc exo_own), upd_ne (ne_of_none hc hnd)]
        exact hc
      · rw [upd_ne (at_ne e hc exo_tup), upd_ne (ne_of_none hc hnd)]
        exact hc
/-- e.f = y, a further one -/
theorem xset_old (T : ExC X.K C) (I : Inv X pins σ H s) (e : H a = some (exo a C (some dx))) (ed : H dx = some (exd dx fs)) (hl : fs.length ≤ 900) (hno : PySem.W.findIn X.K (.ref C) f = some none) (ry : RelV y u)
    (h : ∀ s', Inv X pins σ (upd H dx (exd dx ((f, y) :: fs))) s' → Q () s') : wpAny (model X.prog X.w) A (setAttr (.ref a) f u) Q E s := by
  obtain ⟨cd, hcd, h1, h2, h3, h4⟩ := T.data
  obtain ⟨t1, ho⟩ := exo_at I.hok e
  obtain ⟨mA, hns, rel⟩ := exd_at I.hok ed
  have hw := within_of rel
  obtain ⟨hp, g, d, t, os⟩ := s
  obtain ⟨oD, _, _, hoD, _, _⟩ := hns.count hw
  refine PySem.W.set_plain I.kIn (ox := { cls := .ref C, dict := some dx, data := .fields #[.ref t1, .none, .none, .none, .bool false, .none] }) (od := some oD) ⟨ho, rfl, rfl, hoD⟩ T.sa ?_
  refine ExG.sa_old I.kIn ho hns hw (by rw [List.length_map]; omega) hcd (h4 _) h2 h3 h1 hno fun h' tk' k hn => ?_
  obtain ⟨o', _, _, there, _⟩ := id hn
  exact h _ (I.write (t' := tk') (x := dx) (e := dx) (o := exd dx ((f, y) :: fs)) (by rw [ed]; exact True.intro) (.inl rfl) k ⟨o', there⟩ (exd_ok hn (relO_put ry rel)))
/-- e.f read -/
theorem xget {b : Bool} {v : V} {Q : Value → Shared → Prop} (T : ExC X.K C) (I : Inv X pins σ H s) (e : H a = some (exo a C (some dx))) (ed : H dx = some (exd dx fs)) (hno : PySem.W.findIn X.K (.ref C) f = some none) (l : fs.lookup f = some v)
    (h : ∀ u s', Inv X pins σ H s' → RelV v u → Q u s') : wpAny (model X.prog X.w) A (getAttr (.ref a) f b) Q E s := by
  obtain ⟨t1, ho⟩ := exo_at I.hok e
  obtain ⟨mA, hns, rel⟩ := exd_at I.hok ed
  obtain ⟨od, hod, look⟩ := lookIn_ns hns
  obtain ⟨u, hu, ru⟩ := RelO.some_of (v := v) (o := mA f) (by rw [← l]; exact rel f)
  have J : PySem.W.InstAt s.heap a { cls := .ref C, dict := some dx, data := .fields #[.ref t1, .none, .none, .none, .bool false, .none] } C (some od) := ⟨ho, rfl, rfl, hod⟩
  exact HandSPX.exc_get I.kIn J T.ga T.gg T.exC (PySem.W.findObj_own T.hd hno rfl (by rw [look, hu])) (handed_of ru) (h u _ (I.tok _) ru)
end
end RI

namespace PySem
namespace ExG
open PySem.W PySem.Calls PyProof.Rows
section
variable {prog : Program} {w : World} {A : Around} {E : Value → Shared → Prop} {s : Shared} {K : Frag} {x D : Addr} {ox : Obj} {od : Option Obj}
/-- e.__class__ of an exception of one's own, its dict there or not -/
theorem class_of {Q : Option Value → Shared → Prop} (hga : findIn K (.ref D) "__getattribute__" = some (some (.builtin "BaseException.__getattribute__"))) (hgt : findIn K (.ref D) "__getattr__" = some none)
    (hsub : subIn K (.ref D) (.type "BaseException") = some true) (hf : findObj K D od "__class__" = some (.bind (.builtin "getset_descriptor.__get__") (.builtin "object.__class__"))) (hm : mroIn K D (.type "object") = some true)
    (X : K.In s.heap) (I : InstAt s.heap x ox D od) (h : Q (some (.ref D)) { s with toks := s.toks + 1 }) : wpAny (model prog w) A (getAttr? (.ref x) "__class__") Q E s := by
  obtain ⟨hp, g, d, t, os⟩ := s
  have a0 := I.type (M := model prog w)
  have a1 := looks_findIn (M := model prog w) X hga
  have a2 := looks_findIn (M := model prog w) X hgt
  have a3 := looks_find (M := model prog w) X I hf
  have isB : Looks (model prog w) hp (isInstance (.ref x) (.type "BaseException")) true :=
    a0.andThen (looks_subIn X hsub)
  have n1 : (false && onTheHeap (Value.builtin "BaseException.__getattribute__")) = false := rfl
  have n2 : (onTheHeap (Value.ref D) && Value.builtin "BaseException.__getattribute__" == Value.builtin "object.__getattribute__") = false := by
    rw [show (Value.builtin "BaseException.__getattribute__" == Value.builtin "object.__getattribute__") = false by decide +kernel] <;> rfl
  unfold getAttr? getAttrBy? getAttrBy
  refine wpAny_bind (wpAny_mkText (wpAny_bind (wpAny_attempt (wpAny_holding (wpAny_bind (a0.at (wpAny_bind (a1.at ?_))))))))
  show wpAny _ _ (if (onTheHeap (Value.ref D) && Value.builtin "BaseException.__getattribute__" == Value.builtin "object.__getattribute__") = true then _ else _) _ _ _
  rw [n2, if_neg Bool.false_ne_true]
  unfold getAttrByItsOwn hookBefore
  refine wpAny_bind ?_
  rw [if_pos (show onTheHeap (Value.ref D) = true from rfl)]
  refine a2.at (wpAny_bind (wpAny_attempt (wpAny_holding ?_)))
  unfold callGetattribute
  rw [n1, if_neg Bool.false_ne_true]
  unfold boundAndCalled
  rw [F.excAttr_ValueError.ga.bind (.ref x)]
  refine wpAny_bind (wpAny_pure ?_)
  show wpAny _ _ (call (.builtin "BaseException.__getattribute__") [.ref x, .str "__class__" t]) _ _ _
  refine wpAny_call (codeAny_call_builtin F.excAttr_ValueError.ga.plain F.entry_bexc_ga ?_)
  refine @check_slot (model prog w) _ _ ⟨hp, g, d, t + 1, os⟩ "BaseException.__getattribute__" "BaseException" "__getattribute__" (.ref x) [.str "__class__" t] [] _
    (by decide +kernel) (by decide +kernel) isB (F.args_bexc_ga _ _) ?_
  unfold Builtin.«object.__getattribute__»
  refine wpAny_bind (wpAny_of_eq (a := ((Value.ref x : Value), [Value.str "__class__" t])) (by first | rfl | (simp only [slotArgs]; rfl)) ?_)
  refine wpAny_bind (wpAny_pure (wpAny_bind (a0.at (wpAny_bind (a3.at ?_)))))
  show wpAny _ _ (holding [Value.builtin "object.__class__"] (call (.builtin "getset_descriptor.__get__") [.builtin "object.__class__", .ref x, .ref D]) >>= ret) _ _ _
  refine wpAny_bind (wpAny_holding (wpAny_call (class_get (s := ⟨hp, g, d, t + 1, os⟩) (ox := ox) (od := od) X I hm (wpAny_pure ?_))))
  show wpAny _ _ (handedOut (.ref D)) _ _ _
  rw [handedOut_of (v := .ref D) rfl]
  first
    | exact wpAny_pure (wpAny_pure h)
    | exact wpAny_pure h
    | exact wpAny_pure (wpAny_bind (wpAny_pure (wpAny_pure h)))
theorem kitx_own (hga : findIn K (.ref D) "__getattribute__" = some (some (.builtin "BaseException.__getattribute__"))) (hgt : findIn K (.ref D) "__getattr__" = some none) (hsub : subIn K (.ref D) (.type "BaseException") = some true) (hd : hasDictIn K D = true)
    (hf : findObj K D od "__class__" = some (.bind (.builtin "getset_descriptor.__get__") (.builtin "object.__class__"))) (hm : mroIn K D (.type "object") = some true) :
    KitX K (.ref x) (.ref D) (fun h => InstAt h x ox D od) := by
  obtain ⟨cd, hcd, _⟩ := any_some hd
  have there : ∃ o, K.lookup D = some o ∧ ∀ dd its n sl, o ≠ ⟨.type "tuple", dd, .seq its n, sl⟩ := by
    unfold clsIn at hcd
    split at hcd
    · rename_i ho
      exact ⟨_, ho, fun _ _ _ _ z => by cases z⟩
    · cases hcd
  obtain ⟨o, ho, no⟩ := there
  refine ⟨fun _ _ _ I => I.type, fun M h X _ => ?_, fun h tp dd its n sl X htp => ?_, fun X I k => class_of hga hgt hsub hf hm X I k⟩
  · intro A' Q' E' s' k q
    unfold clsIn at hcd
    split at hcd
    · rename_i ho'
      unfold isType loadHead
      exact wpAny_bind (wpAny_loadPart (k _ _ (X _ _ ho')) (wpAny_pure q))
    · cases hcd
  · refine Bool.eq_false_iff.mpr fun q => ?_
    obtain rfl : D = tp := Value.ref.inj (beq_iff_eq.mp q)
    have z := (X _ _ ho).symm.trans htp
    exact no _ _ _ _ (Option.some.inj z)
end
end ExG
end PySem

namespace RI
open PySem PySem.Spec PyProof.Rows L2
/-! ### isinstance -/
section
variable {X : Cx} {cl : ClsA} {pins : List (Addr × Obj)} {σ : L2.St} {H : Hp} {s : Shared} {θ : List Addr} {M : Store}
theorem kit_exn {K : PySem.W.Frag} {C a : Addr} (T : ExC K C) {t1 : Addr} {d : Option Addr} {od : Option Obj} (hod : od.isSome = d.isSome) :
    PySem.W.KitX K (.ref a) (.ref C) (fun h => PySem.W.InstAt h a { cls := .ref C, dict := d, data := .fields #[.ref t1, .none, .none, .none, .bool false, .none] } C od) := by
  have hc : (PySem.W.clsIn K C).isSome = true := by
    obtain ⟨cd, hcd, _⟩ := T.data
    rw [hcd] <;> rfl
  refine ExG.kitx_own T.ga T.gg T.exC T.hd ?_ T.mo
  cases od with
  | none => exact PySem.W.findObj_dataN hc T.cc T.cg T.ct
  | some od => exact PySem.W.findObj_data hc T.cc T.cg T.ct
end
end RI

namespace RI
open PySem PySem.Spec PyProof.Rows L2
/-! ### classes -/
inductive Cid where
  | ty (n : String) | own (c : Str)
  deriving DecidableEq
def cidV (cl : ClsA) : Cid → Option Value
  | .ty n => some (.type n)
  | .own c => (cl c).map Value.ref
def kindC (M : Store) : D → Option (Cid × Nat)
  | .non => some (.ty "NoneType", 0)
  | .bl _ => some (.ty "bool", 0)
  | .int _ => some (.ty "int", 0)
  | .str _ => some (.ty "str", 0)
  | .tup _ => some (.ty "tuple", 0)
  | .ob k => match M[k]? with
    | some (.lst _) => some (.ty "list", 0)
    | some (.frl _) => some (.ty "list", 0)
    | some (.dct _) => some (.ty "dict", 0)
    | some (.ins c _) => some (.own c, 1)
    | some (.exn c _) => some (.own c, 2)
    | some (.xdo _) => none
    | some (.tab ..) => none
    | none => none
  | .clo .. => none
/-- a class of instances, asked by isinstance -/
structure InsC (K : PySem.W.Frag) (C : Addr) : Prop where
  cls : Cls K C
  cc : PySem.W.findIn K (.ref C) "__class__" = some (some (.builtin "object.__class__"))
  cg : PySem.W.specialIn K (.builtin "object.__class__") "__get__" = some (some (.builtin "getset_descriptor.__get__"))
  ct : PySem.W.takesIn K (.builtin "object.__class__") = some true
  mo : PySem.W.mroIn K C (.type "object") = some true
/-- what is known of the module's names -/
structure Glo where
  const : Str → Option D
  bi : Str → Bool
  fn : Str → Option (Nat × (List D → Store → Out D))
  mkI : Str → Option (Nat × (List D → Store → Out D))
  mkX : Str → Option (Nat × (List D → Store → Out D))
  mkX0 : Str → Bool
  meth : Str → Option (Str × Nat × (List D → Store → Out D))
  prop : Str → Option (Str × (List D → Store → Out D))
  fld : Str → Str → Bool
  isIns : Str → Bool
  isExn : Str → Bool
  isi : Cid → Cid → Option Bool
  exm : Str → Str → Option Bool
def tagOk (G : Glo) : Cid → Nat → Bool
  | _, 0 => true
  | .own c, 1 => G.isIns c
  | .own c, 2 => G.isExn c
  | _, _ => false
def isiD (G : Glo) (d : D) (c : Cid) (M : Store) : Out D := match kindC M d with
  | some (t, n) => match G.isi t c with
    | some b => if tagOk G t n then .ok (.bl b) M else .no
    | none => .no
  | none => .no
structure IsiOk (K : PySem.W.Frag) (cl : ClsA) (G : Glo) : Prop where
  isi : ∀ t c b tv cv, G.isi t c = some b → cidV cl t = some tv → cidV cl c = some cv → PySem.W.kitOne K tv cv = some b
  ins : ∀ c C, G.isIns c = true → cl c = some C → InsC K C
  exn : ∀ c C, G.isExn c = true → cl c = some C → ExC K C
section
variable {X : Cx} {cl : ClsA} {W : WX} {G : Glo} {σ : L2.St} {θ : List Addr} {H : Hp} {M : Store} {Q : VK}
theorem isi_ok (O : IsiOk X.K cl G) {pins : List (Addr × Obj)} {s : Shared} {A : Around} {E : Value → Shared → Prop} {x : V} {u : Value} {d : D} {c : Cid} {cv : Value} {b : D} {M' : Store} {Q : Value → Shared → Prop} (I : Inv X pins σ H s) (r : Rep X.K cl θ H M) (p : Rp X.K θ H x d) (rv : RelV x u)
    (hc : cidV cl c = some cv) (h : isiD G d c M = .ok b M') (hq : ∀ k tk, b = .bl k → M' = M → Q (.bool k) { s with toks := tk }) : wpAny (model X.prog X.w) A (call (.builtin "isinstance") [u, cv]) Q E s := by
  unfold isiD at h
  split at h
  · rename_i t n ht
    split at h
    · rename_i k hk
      split at h
      case isFalse => cases h
      rename_i htag
      have fin : ∀ tk, (b = .bl k ∧ M' = M) → Q (.bool k) { s with toks := tk } := fun tk e => hq k tk e.1 e.2
      cases p with
      | non =>
        cases ht
        cases h
        exact isinst_ok I rv .non (O.isi _ _ _ _ _ hk rfl hc) fun tk => fin tk ⟨rfl, rfl⟩
      | bl b0 =>
        cases ht
        cases h
        exact isinst_ok I rv (.bl _) (O.isi _ _ _ _ _ hk rfl hc) fun tk => fin tk ⟨rfl, rfl⟩
      | int b0 =>
        cases ht
        cases h
        exact isinst_ok I rv (.int _) (O.isi _ _ _ _ _ hk rfl hc) fun tk => fin tk ⟨rfl, rfl⟩
      | str b0 =>
        cases ht
        cases h
        exact isinst_ok I rv (.str _) (O.isi _ _ _ _ _ hk rfl hc) fun tk => fin tk ⟨rfl, rfl⟩
      | tup h1 h2 =>
        cases ht
        cases h
        cases (show u = Value.ref _ from rv)
        obtain ⟨its, _, ⟨o, g1, g2, _⟩, _⟩ := I.tuple h1.sq
        exact PySem.W.kia_one PySem.W.kitx_tuple I.kIn ⟨o, g1, g2⟩ (O.isi _ _ _ _ _ hk rfl hc) (fun z => nomatch z) fun tk => fin tk ⟨rfl, rfl⟩
      | clo h1 => cases ht
      | ob h1 =>
        obtain ⟨o, ho, hr⟩ := r.atn h1
        simp only [kindC, ho] at ht
        cases o with
        | tab _ _ => cases ht
        | lst ds =>
          cases ht
          cases h
          obtain ⟨vs, q1, _⟩ := hr
          exact isinst_ok I rv (.lst q1) (O.isi _ _ _ _ _ hk rfl hc) fun tk => fin tk ⟨rfl, rfl⟩
        | frl ds =>
          cases ht
          cases h
          obtain ⟨o, vs, q1, _⟩ := hr
          exact isinst_ok I rv (.frz q1) (O.isi _ _ _ _ _ hk rfl hc) fun tk => fin tk ⟨rfl, rfl⟩
        | dct ds =>
          cases ht
          cases h
          obtain ⟨vs, q1, _⟩ := hr
          exact isinst_ok I rv (.dK q1) (O.isi _ _ _ _ _ hk rfl hc) fun tk => fin tk ⟨rfl, rfl⟩
        | ins c' fs =>
          obtain ⟨C, dx, gs, hC, q1, _⟩ := hr
          cases ht
          cases h
          obtain ⟨z1, z2, z3, z4, z5⟩ := O.ins c' C htag hC
          exact isinst_ok I rv (.ins q1 z1 z2 z3 z4 z5) (O.isi _ _ _ _ _ hk (by simp [cidV, hC]) hc) fun tk => fin tk ⟨rfl, rfl⟩
        | xdo fs => cases ht
        | exn c' d =>
          cases ht
          cases h
          cases (show u = Value.ref _ from rv)
          cases d with
          | none =>
            obtain ⟨C, hC, hx⟩ := hr
            have hkk := O.isi _ _ _ _ _ hk (show cidV cl (.own c') = some (.ref C) by simp [cidV, hC]) hc
            obtain ⟨t1, g1⟩ := exo_at I.hok hx
            exact PySem.W.kia_one (kit_exn (od := none) (O.exn c' C htag hC) rfl) I.kIn ⟨g1, rfl, rfl, trivial⟩ hkk (fun z => nomatch z) fun tk => fin tk ⟨rfl, rfl⟩
          | some m =>
            obtain ⟨C, dx, hC, hm, hx⟩ := hr
            have hkk := O.isi _ _ _ _ _ hk (show cidV cl (.own c') = some (.ref C) by simp [cidV, hC]) hc
            obtain ⟨t1, g1⟩ := exo_at I.hok hx
            obtain ⟨o2, ho2, hr2⟩ := r.atn hm
            obtain ⟨u2, hu2⟩ := hr2.ex
            obtain ⟨od, hod⟩ := objOk_get (I.hok _ _ hu2)
            exact PySem.W.kia_one (kit_exn (od := some od) (O.exn c' C htag hC) rfl) I.kIn ⟨g1, rfl, rfl, hod⟩ hkk (fun z => nomatch z) fun tk => fin tk ⟨rfl, rfl⟩
    · cases h
  · cases h
end
end RI

namespace RI
open PySem PySem.Spec PyProof.Rows L2
section
variable {X : Cx} {cl : ClsA} {W : WX} {G : Glo} {a b e : Expr} {es : List Expr} {fa fb : Den D} {fs : Den (List D)} {p p2 pos pos' : Pos} {x c f : Str} {C : Addr}

/-! ### isinstance(e, c) -/
def denIsi (G : Glo) (fa : Den D) (c : Cid) : Den D := fun ρ M => (fa ρ M).bind fun d M => isiD G d c M
theorem isiD_M {d : D} {c : Cid} {M : Store} : (∃ k, isiD G d c M = .ok (.bl k) M) ∨ isiD G d c M = .no := by
  unfold isiD
  split
  · split
    · split
      · exact .inl ⟨_, rfl⟩
      · exact .inr rfl
    · exact .inr rfl
  · exact .inr rfl
theorem rd_isi (O : IsiOk X.K cl G) {cid : Cid} {cv : Value} {cV : V} (hg : Gl X "isinstance") (hm : X.mg "isinstance" = none) (hc : PE X (.Name c p2) (tC cV)) (hcv : ∀ u, RelV cV u → u = cv) (hi : cidV cl cid = some cv) (hs : isStar a = false) (ha : RD X cl W a fa) :
    RD X cl W (.Call (.Name "isinstance" p) [a, .Name c p2] [] pos) (denIsi G fa cid) := by
  refine ⟨fun pins s σ H Q I q => ?_⟩
  have call1 : CallR X (.builtin "isinstance") (fun xs H Q => ∃ θ M d x, xs = [x, cV] ∧ Rep X.K cl θ H M ∧ Rp X.K θ H x d ∧ PostG X.K cl (Rp X.K) W Q σ θ H (isiD G d cid M)) := by
    intro pins s σ' H xs us Q I rv q
    obtain ⟨θ, M, d, x, rfl, r, px, q⟩ := q
    cases rv with
    | cons rx t =>
      cases t with
      | cons rc t =>
        cases t
        obtain rfl := hcv _ rc
        rcases isiD_M (G := G) (d := d) (c := cid) (M := M) with ⟨k, hk⟩ | hk
        · rw [hk] at q
          refine isi_ok O I r px rx hi hk fun k' tk e1 _ => ?_
          cases e1
          exact ⟨.bl k, H, I.tok tk, rfl, PostG.ok_ q r (.bl _)⟩
        · rw [hk] at q
          exact q.elim
  have args : PA X [a, .Name c p2] (tCons (rd cl W X.K fa) (tCons (tC cV) tNil)) := pa_cons ha (pa_cons hc pa_nil rfl) (star_one a _ X.env hs)
  refine (pe_callB call1 hg hm (by decide +kernel) args (by decide) (by decide) (star_one a _ X.env hs) (star_no pos X.env [.Name c p2] rfl)).run pins s σ H Q I ?_
  obtain ⟨θ, ρ, M, hE, r, q⟩ := q
  exact ⟨θ, ρ, M, hE, r, PostG.bind q fun d M1 θ1 H1 v e1 r1 p1 q1 => ⟨θ1, M1, d, v, rfl, r1, p1, q1⟩⟩

/-! ### exceptions made -/
end
end RI

/-! items and attributes stored, attributes read, while -/
namespace RI
open PySem PySem.Spec PyProof.Rows L2
/-! ### o[i] = e -/
def putKD (kvs : List (Key × D)) (k : Key) (v : D) : List (Key × D) :=
  if (kvs.any fun kv => decide (kv.1 = k)) = true then kvs.map (fun kv => if kv.1 = k then (kv.1, v) else kv) else kvs ++ [(k, v)]
def setD (x i d : D) (M : Store) : Option Store := match x with
  | .ob n => match M[n]? with
    | some (.lst xs) => (match i with
      | .int k => (ixN xs.length k).map fun j => M.set n (.lst (xs.set j d))
      | _ => none)
    | some (.dct kvs) => (match keyOf i with
      | some k => if kvs.length < 1000 then some (M.set n (.dct (putKD kvs k d))) else none
      | none => none)
    | _ => none
  | _ => none
def rSet (K : PySem.W.Frag) (cl : ClsA) : TSet := fun o i v H Q => ∃ θ M dx di d M', Rep K cl θ H M ∧ Rp K θ H o dx ∧ Rp K θ H i di ∧ Rp K θ H v d ∧ setD dx di d M = some M' ∧ ∀ H', Ext K θ H θ H' → Rep K cl θ H' M' → Q H'
theorem PSet.imp {X : Cx} {t t' : TSet} (h : PSet X t) (k : ∀ o i v H Q, t' o i v H Q → t o i v H Q) : PSet X t' := fun pins s σ H o i v ov iv u Q I ro ri rv q => h pins s σ H o i v ov iv u Q I ro ri rv (k _ _ _ _ _ q)
theorem free_of {θ : List Addr} {H : Hp} {a : Addr} {n : Nat} {o : HO} (hn : θ[n]? = some a) (e : H a = some o) (h1 : ∀ xs, o ≠ .tup xs) (h2 : ∀ u z, o ≠ .frz u z) : Free θ H a := ⟨.inl (List.mem_of_getElem? hn), fun o' e' => by
  rw [e] at e'
  cases e'
  exact ⟨h1, h2⟩⟩
theorem RpK.length {K : PySem.W.Frag} {θ : List Addr} {H : Hp} : ∀ {ws : List (Key × V)} {kvs : List (Key × D)}, RpK K θ H ws kvs → ws.length = kvs.length
  | _, _, .nil => rfl
  | _, _, .cons _ t => by simp [RpK.length t]
theorem RpK.any {K : PySem.W.Frag} {θ : List Addr} {H : Hp} {k : Key} : ∀ {ws : List (Key × V)} {kvs : List (Key × D)}, RpK K θ H ws kvs → (ws.any fun kv => decide (kv.1 = k)) = (kvs.any fun kv => decide (kv.1 = k))
  | _, _, .nil => rfl
  | _, _, .cons _ t => by simp [RpK.any t]
theorem RpK.mapput {K : PySem.W.Frag} {θ : List Addr} {H : Hp} {k : Key} {v : V} {d : D} (p : Rp K θ H v d) : ∀ {ws : List (Key × V)} {kvs : List (Key × D)}, RpK K θ H ws kvs → RpK K θ H (ws.map fun kv => if kv.1 = k then (kv.1, v) else kv) (kvs.map fun kv => if kv.1 = k then (kv.1, d) else kv)
  | _, _, .nil => .nil
  | _, _, .cons (k := g) q t => by
    rw [List.map_cons, List.map_cons]
    by_cases h : g = k
    · simp only [h, if_true]
      exact .cons p (RpK.mapput p t)
    · simp only [h, if_false]
      exact .cons q (RpK.mapput p t)
theorem RpK.app {K : PySem.W.Frag} {θ : List Addr} {H : Hp} {k : Key} {v : V} {d : D} (p : Rp K θ H v d) : ∀ {ws : List (Key × V)} {kvs : List (Key × D)}, RpK K θ H ws kvs → RpK K θ H (ws ++ [(k, v)]) (kvs ++ [(k, d)])
  | _, _, .nil => .cons p .nil
  | _, _, .cons q t => .cons q (RpK.app p t)
theorem RpK.put {K : PySem.W.Frag} {θ : List Addr} {H : Hp} {k : Key} {v : V} {d : D} (p : Rp K θ H v d) {ws : List (Key × V)} {kvs : List (Key × D)} (h : RpK K θ H ws kvs) : RpK K θ H (putK ws k v) (putKD kvs k d) := by
  unfold putK putKD
  rw [h.any]
  split
  · exact h.mapput p
  · exact h.app p
theorem Rp.key {K : PySem.W.Frag} {θ : List Addr} {H : Hp} {v : V} {d : D} {k : Key} (p : Rp K θ H v d) (h : keyOf d = some k) : v = kV k := by
  cases p <;> simp [keyOf] at h
  · subst h; rfl
  · subst h; rfl
theorem pset_or {X : Cx} {t t' : TSet} (h : PSet X t) (h' : PSet X t') : PSet X (fun o i v H Q => t o i v H Q ∨ t' o i v H Q) := fun pins s σ H o i v ov iv u Q I ro ri rv q => by
  rcases q with q | q
  · exact h pins s σ H o i v ov iv u Q I ro ri rv q
  · exact h' pins s σ H o i v ov iv u Q I ro ri rv q
theorem set_D {X : Cx} {cl : ClsA} (hu : X.A.units + 1 < cLine) : PSet X (rSet X.K cl) := PSet.imp (pset_or set_list (set_dict hu)) fun o i v H Q q => by
  obtain ⟨θ, M, dx, di, d, M', r, po, pi, pv, e, q⟩ := q
  unfold setD at e
  split at e
  · cases po
    rename_i n a ha
    obtain ⟨u, hu, hr⟩ := r.atn ha
    rw [hu] at e
    cases u with
    | lst xs =>
      simp only at e
      split at e
      · cases pi
        rename_i k
        simp only [Option.map_eq_some_iff] at e
        obtain ⟨j, hj, rfl⟩ := e
        obtain ⟨vs, h1, h2⟩ := hr
        have fr : Free _ H a := free_of ha h1 (fun _ z => by cases z) (fun _ _ z => by cases z)
        exact .inl ⟨a, vs, k, j, rfl, rfl, h1, by rw [h2.length]; exact hj, q _ (Ext.upd fr) (r.put ha fr ⟨_, upd_same, (h2.set pv j).ext (Ext.upd fr)⟩)⟩
      · cases e
    | dct kvs =>
      simp only at e
      split at e
      · rename_i k hk
        split at e
        · rename_i hl
          cases e
          obtain ⟨ws, h1, h2⟩ := hr
          have fr : Free _ H a := free_of ha h1 (fun _ z => by cases z) (fun _ _ z => by cases z)
          have ek := pi.key hk
          subst ek
          exact .inr ⟨a, _, rfl, DPut.k h1 (by rw [h2.length]; exact small1000 (Nat.le_of_lt hl)), q _ (Ext.upd fr) (r.put ha fr ⟨_, upd_same, (h2.put pv).ext (Ext.upd fr)⟩)⟩
        · cases e
      · cases e
    | _ => cases e
  · cases e
section
variable {X : Cx} {cl : ClsA} {W : WX} {G : Glo} {a b e o i : Expr} {fa fb fo fi fe : Den D} {pos p2 : Pos} {f : Str} {E : Ends}
def denSetIx (fe fo fi : Den D) : DenS := fun ρ M => bindS (fe ρ M) ρ fun d M => bindS (fo ρ M) ρ fun x M => bindS (fi ρ M) ρ fun k M => match setD x k d M with
  | some M' => .fl .nx ρ M'
  | none => .no
theorem rs_setIx (hu : X.A.units + 64 < cLine) (he : RD X cl W e fe) (ho : RD X cl W o fo) (hi : RD X cl W i fi) (hs : swapsWithSole [.Subscript o i p2] e pos.line X.env = pure false) (hw : swappedStores [.Subscript o i p2] e X.env = pure none)
    (h1 : (assignEach [.Subscript o i p2] X.env).map (·.2) = [assign (.Subscript o i p2) X.env])
    (ha : ∀ v, assign (.Subscript o i p2) X.env v = (do
      let ov ← holding [v] (eval o X.env)
      let iv ← holding [v, ov] (eval i X.env)
      standAt p2
      holding [v, ov, iv] (setItem ov iv v)
      release [v, ov, iv] [])) :
    RS X cl W (.Assign [.Subscript o i p2] e pos) (denSetIx fe fo fi) := PS.imp (ps_asg he (pg_sub ho hi (set_D (cl := cl) (by omega)) ha) hs hw h1) fun E σ H q => by
  obtain ⟨θ, ρ, M, hE, r, q⟩ := q
  refine ⟨θ, ρ, M, hE, r, PostS.bind (Rv := Rp X.K) q hE fun d M1 θ1 H1 v e1 r1 p1 q1 => ?_⟩
  have hE1 := hE.ext e1
  refine ⟨θ1, ρ, M1, hE1, r1, PostS.bind (Rv := Rp X.K) q1 hE1 fun x M2 θ2 H2 vx e2 r2 px q2 => ?_⟩
  have hE2 := hE1.ext e2
  refine ⟨θ2, ρ, M2, hE2, r2, PostS.bind (Rv := Rp X.K) q2 hE2 fun k M3 θ3 H3 vk e3 r3 pk q3 => ?_⟩
  cases hst : setD x k d M3 with
  | none =>
    rw [hst] at q3
    exact q3.elim
  | some M' =>
    rw [hst] at q3
    exact ⟨θ3, M3, x, k, d, M', r3, px.ext e3, pk, (p1.ext e2).ext e3, hst, fun H' ee rr => q3 θ3 H' σ ee rr ((hE2.ext e3).ext ee)⟩

/-! ### o.f = e -/
def putFD (f : Str) (v : D) : List (Str × D) → List (Str × D)
  | [] => [(f, v)]
  | (g, x) :: r => if g = f then (g, v) :: r else (g, x) :: putFD f v r
def setFD (G : Glo) (x : D) (f : Str) (d : D) (M : Store) : Option Store := match x with
  | .ob n => match M[n]? with
    | some (.ins c fs) => if G.isIns c && (G.fld c f && decide (fs.length < 1000)) then some (M.set n (.ins c (putFD f d fs))) else none
    | some (.exn c none) => if G.isExn c && G.fld c f then some (List.set (M ++ [SO.xdo [(f, d)]]) n (.exn c (some M.length))) else none
    | some (.exn c (some m)) => if G.isExn c && G.fld c f then (match M[m]? with
      | some (.xdo fs) => if fs.length ≤ 900 then some (M.set m (.xdo ((f, d) :: fs))) else none
      | _ => none) else none
    | _ => none
  | _ => none
def getFD (G : Glo) (x : D) (f : Str) (M : Store) : Option D := match x with
  | .ob n => match M[n]? with
    | some (.ins c fs) => if G.isIns c && G.fld c f then fs.lookup f else none
    | some (.exn c (some m)) => if G.isExn c && G.fld c f then (match M[m]? with
      | some (.xdo fs) => fs.lookup f
      | _ => none) else none
    | _ => none
  | _ => none
def FldOk (K : PySem.W.Frag) (cl : ClsA) (G : Glo) : Prop := ∀ c C f, G.fld c f = true → cl c = some C → PySem.W.findIn K (.ref C) f = some none
theorem RpF.put {K : PySem.W.Frag} {θ : List Addr} {H : Hp} {f : Str} {v : V} {d : D} (p : Rp K θ H v d) : ∀ {gs : List (Str × V)} {fs : List (Str × D)}, RpF K θ H gs fs → RpF K θ H (putF f v gs) (putFD f d fs)
  | _, _, .nil => .cons p .nil
  | _, _, .cons (f := g) q t => by
    unfold putF putFD
    by_cases h : g = f
    · rw [if_pos h, if_pos h]
      exact .cons p t
    · rw [if_neg h, if_neg h]
      exact .cons q (RpF.put p t)
theorem RpF.look {K : PySem.W.Frag} {θ : List Addr} {H : Hp} {f : Str} {d : D} : ∀ {gs : List (Str × V)} {fs : List (Str × D)}, RpF K θ H gs fs → fs.lookup f = some d → ∃ v, gs.lookup f = some v ∧ Rp K θ H v d
  | _, _, .nil, h => by simp at h
  | _, _, .cons (f := g) q t, h => by
    rw [List.lookup_cons] at h
    split at h
    · rename_i hb
      cases h
      exact ⟨_, by rw [List.lookup_cons, hb], q⟩
    · rename_i hb
      obtain ⟨v, h1, h2⟩ := RpF.look t h
      exact ⟨v, by rw [List.lookup_cons, hb]; exact h1, h2⟩
theorem RpF.length {K : PySem.W.Frag} {θ : List Addr} {H : Hp} : ∀ {gs : List (Str × V)} {fs : List (Str × D)}, RpF K θ H gs fs → gs.length = fs.length
  | _, _, .nil => rfl
  | _, _, .cons _ t => by simp [RpF.length t]
def denSetF (G : Glo) (fe fo : Den D) (f : Str) : DenS := fun ρ M => bindS (fe ρ M) ρ fun d M => bindS (fo ρ M) ρ fun x M => match setFD G x f d M with
  | some M' => .fl .nx ρ M'
  | none => .no
theorem rs_setF (O : IsiOk X.K cl G) (F : FldOk X.K cl G) (he : RD X cl W e fe) (ho : RD X cl W o fo) (hs : swapsWith e (some (.Attribute o f p2)) pos.line X.env = pure false) :
    RS X cl W (.Assign [.Attribute o f p2] e pos) (denSetF G fe fo f) := by
  refine ⟨fun pins s σ H E I q => ?_⟩
  obtain ⟨θ, ρ, M, hE, r, q⟩ := q
  refine plainObj_wpAny_Assign_Attribute (thn (he.run pins s σ H (fun v H2 => ∃ θ2 M2 d, Ext X.K θ H θ2 H2 ∧ Rep X.K cl θ2 H2 M2 ∧ Rp X.K θ2 H2 v d ∧ PostS X.K cl W E θ2 H2 (bindS (fo ρ M2) ρ fun x M => match setFD G x f d M with
    | some M' => .fl .nx ρ M'
    | none => .no)) I ⟨θ, ρ, M, hE, r, PostS.bind q hE fun d M1 θ1 H1 v e1 r1 p1 q1 => ⟨θ1, M1, d, e1, r1, p1, q1⟩⟩) fun u s1 ⟨y, H1, I1, ry, θ1, M1, d, e1, r1, p1, q1⟩ => ?_) hs
  refine thn (ho.run pins s1 σ H1 (fun v H2 => ∃ θ2 M2 x, Ext X.K θ1 H1 θ2 H2 ∧ Rep X.K cl θ2 H2 M2 ∧ Rp X.K θ2 H2 v x ∧ PostS X.K cl W E θ2 H2 (match setFD G x f d M2 with
    | some M' => .fl .nx ρ M'
    | none => .no)) I1 ⟨θ1, ρ, M1, hE.ext e1, r1, PostS.bind q1 (hE.ext e1) fun x M2 θ2 H2 v e2 r2 p2 q2 => ⟨θ2, M2, x, e2, r2, p2, q2⟩⟩) fun ov s2 ⟨vx, H2, I2, rx, θ2, M2, x, e2, r2, px, q2⟩ => ?_
  have hE2 := (hE.ext e1).ext e2
  have pd := p1.ext e2
  cases hst : setFD G x f d M2 with
  | none =>
    rw [hst] at q2
    exact q2.elim
  | some M' =>
    rw [hst] at q2
    have fin : ∀ s' θ' H', Inv X pins σ H' s' → Ext X.K θ2 H2 θ' H' → Rep X.K cl θ' H' M' → ∃ σ' H', Inv X pins σ' H' s' ∧ E.nx σ' H' := fun s' θ' H' I' e' r' => ⟨σ, H', I', q2 θ' H' σ e' r' (hE2.ext e')⟩
    unfold setFD at hst
    split at hst
    case h_2 => cases hst
    rename_i n
    cases px
    rename_i a hn
    cases (show ov = Value.ref a from rx)
    obtain ⟨u2, hu, hr⟩ := r2.atn hn
    rw [hu] at hst
    cases u2 with
    | ins c fs =>
      simp only at hst
      split at hst
      case isFalse => cases hst
      rename_i hk
      cases hst
      simp only [Bool.and_eq_true, decide_eq_true_eq] at hk
      obtain ⟨C, dx, gs, hC, h1, h2⟩ := hr
      have fr : Free _ H2 a := free_of hn h1 (fun _ z => by cases z) (fun _ _ z => by cases z)
      exact setattr_ok I2 h1 (O.ins c C hk.1 hC).cls (F c C f hk.2.1 hC) (by rw [h2.length]; exact hk.2.2) ry fun s3 I3 => fin s3 θ2 _ I3 (Ext.upd fr) (r2.put hn fr ⟨C, dx, _, hC, upd_same, (RpF.put pd h2).ext (Ext.upd fr)⟩)
    | exn c dd =>
      cases dd with
      | none =>
        simp only at hst
        split at hst
        case isFalse => cases hst
        rename_i hk
        cases hst
        simp only [Bool.and_eq_true] at hk
        obtain ⟨C, hC, h1⟩ := hr
        refine xset_new (O.exn c C hk.1 hC) I2 h1 (F c C f hk.2 hC) ry fun dx s3 hdn hne I3 => ?_
        have ex1 : Ext X.K θ2 H2 (θ2 ++ [dx]) (upd H2 dx (exd dx [(f, y)])) := Ext.new hdn
        have r3 : Rep X.K cl (θ2 ++ [dx]) (upd H2 dx (exd dx [(f, y)])) (M2 ++ [.xdo [(f, d)]]) := r2.new hdn ⟨[(f, y)], upd_same, .cons (pd.ext ex1) .nil⟩
        have h1' : upd H2 dx (exd dx [(f, y)]) a = some (exo a C none) := by rw [upd_ne (Ne.symm hne)]; exact h1
        have fr : Free _ (upd H2 dx (exd dx [(f, y)])) a := free_of (ex1.pre _ _ hn) h1' (fun _ z => by cases z) (fun _ _ z => by cases z)
        refine fin s3 (θ2 ++ [dx]) _ I3 (ex1.trans (Ext.upd fr)) (r3.put (ex1.pre _ _ hn) fr ⟨C, dx, hC, by rw [← r2.len]; simp, upd_same⟩)
      | some m =>
        simp only at hst
        split at hst
        case isFalse => cases hst
        rename_i hk
        simp only [Bool.and_eq_true] at hk
        obtain ⟨C, dx, hC, hm, h1⟩ := hr
        obtain ⟨u3, hu3, hr3⟩ := r2.atn hm
        rw [hu3] at hst
        cases u3 with
        | xdo fs =>
          simp only at hst
          split at hst
          case isFalse => cases hst
          rename_i hl
          cases hst
          obtain ⟨gs, h2, h3⟩ := hr3
          have fr : Free _ H2 dx := free_of hm h2 (fun _ z => by cases z) (fun _ _ z => by cases z)
          exact xset_old (O.exn c C hk.1 hC) I2 h1 h2 (by rw [h3.length]; exact hl) (F c C f hk.2 hC) ry fun s3 I3 => fin s3 θ2 _ I3 (Ext.upd fr) (r2.put hm fr ⟨_, upd_same, .cons (pd.ext (Ext.upd fr)) (h3.ext (Ext.upd fr))⟩)
        | _ => cases hst
    | _ => cases hst
/-- e.f -/
def denAttr (G : Glo) (fa : Den D) (f : Str) : Den D := fun ρ M => (fa ρ M).bind fun x M => match getFD G x f M with
  | some d => .ok d M
  | none => .no
theorem rd_attr (O : IsiOk X.K cl G) (F : FldOk X.K cl G) (ha : RD X cl W a fa) (hb : attributeBase a f X.env (eval a X.env) = eval a X.env) : RD X cl W (.Attribute a f pos) (denAttr G fa f) := by
  refine ⟨fun pins s σ H Q I q => ?_⟩
  obtain ⟨θ, ρ, M, hE, r, q⟩ := q
  refine attr_of hb (thn (ha.run pins s σ H (fun v H2 => ∃ θ2 M2 x, Rep X.K cl θ2 H2 M2 ∧ Rp X.K θ2 H2 v x ∧ PostG X.K cl (Rp X.K) W Q σ θ2 H2 (match getFD G x f M2 with
    | some d => .ok d M2
    | none => .no)) I ⟨θ, ρ, M, hE, r, PostG.bind q fun x M1 θ1 H1 v e1 r1 p1 q1 => ⟨θ1, M1, x, r1, p1, q1⟩⟩) fun u s1 ⟨vx, H1, I1, rx, θ1, M1, x, r1, px, q1⟩ => ?_)
  cases hst : getFD G x f M1 with
  | none =>
    rw [hst] at q1
    exact q1.elim
  | some d =>
    rw [hst] at q1
    unfold getFD at hst
    split at hst
    case h_2 => cases hst
    rename_i n
    cases px
    rename_i a' hn
    cases (show u = Value.ref a' from rx)
    obtain ⟨u2, hu, hr⟩ := r1.atn hn
    rw [hu] at hst
    cases u2 with
    | ins c fs =>
      simp only at hst
      split at hst
      case isFalse => cases hst
      rename_i hk
      simp only [Bool.and_eq_true] at hk
      obtain ⟨C, dx, gs, hC, h1, h2⟩ := hr
      obtain ⟨v, hl, pv⟩ := h2.look hst
      exact getattr_ok I1 h1 (O.ins c C hk.1 hC).cls (F c C f hk.2 hC) hl fun u' s2 I2 ru => ⟨v, H1, I2, ru, q1.ok_ r1 pv⟩
    | exn c dd =>
      cases dd with
      | none => cases hst
      | some m =>
        simp only at hst
        split at hst
        case isFalse => cases hst
        rename_i hk
        simp only [Bool.and_eq_true] at hk
        obtain ⟨C, dx, hC, hm, h1⟩ := hr
        obtain ⟨u3, hu3, hr3⟩ := r1.atn hm
        rw [hu3] at hst
        cases u3 with
        | xdo fs =>
          obtain ⟨gs, h2, h3⟩ := hr3
          obtain ⟨v, hl, pv⟩ := h3.look hst
          exact xget (O.exn c C hk.1 hC) I1 h1 h2 (F c C f hk.2 hC) hl fun u' s2 I2 ru => ⟨v, H1, I2, ru, q1.ok_ r1 pv⟩
        | _ => cases hst
    | _ => cases hst
end

/-! ### while -/
def whileD (c : Den Bool) (b : DenS) : Nat → DenS
  | 0, _, _ => .no
  | n + 1, ρ, M => bindS (c ρ M) ρ fun k M => if k then (match b ρ M with
      | .fl .nx ρ' M' => whileD c b n ρ' M'
      | .fl .ct ρ' M' => whileD c b n ρ' M'
      | .fl .brk ρ' M' => .fl .nx ρ' M'
      | o => o) else .fl .nx ρ M
open Classical in
noncomputable def denWhile (c : Den Bool) (b : DenS) : DenS := fun ρ M => if h : ∃ n, whileD c b n ρ M ≠ .no then whileD c b h.choose ρ M else .no
theorem whileD_mono {c : Den Bool} {b : DenS} : ∀ (n m : Nat) (ρ : Env1) (M : Store), n ≤ m → whileD c b n ρ M ≠ .no → whileD c b m ρ M = whileD c b n ρ M
  | 0, _, _, _, _, h => (h rfl).elim
  | n + 1, 0, _, _, hl, _ => by omega
  | n + 1, m + 1, ρ, M, hl, h => by
    unfold whileD at h ⊢
    cases hc : c ρ M with
    | no => rfl
    | exc cc fs M1 => rfl
    | ok k M1 =>
      rw [hc] at h
      cases k with
      | false => rfl
      | true =>
        simp only [bindS_ok, if_true] at h ⊢
        cases hb : b ρ M1 with
        | fl fl ρ2 M2 =>
          rw [hb] at h
          cases fl with
          | nx => exact whileD_mono n m _ _ (by omega) h
          | ct => exact whileD_mono n m _ _ (by omega) h
          | brk => rfl
          | ret d => rfl
        | exc c2 f2 ρ2 M2 => rfl
        | no => rfl
theorem denWhile_of {c : Den Bool} {b : DenS} {n : Nat} {ρ : Env1} {M : Store} {o : SOut} (h : whileD c b n ρ M = o) (hn : o ≠ .no) : denWhile c b ρ M = o := by
  have ex : ∃ n, whileD c b n ρ M ≠ .no := ⟨n, by rw [h]; exact hn⟩
  unfold denWhile
  rw [dif_pos ex, ← whileD_mono ex.choose (max n ex.choose) ρ M (Nat.le_max_right _ _) ex.choose_spec, whileD_mono n (max n ex.choose) ρ M (Nat.le_max_left _ _) (by rw [h]; exact hn), h]
theorem rs_while {X : Cx} {cl : ClsA} {W : WX} {c : Expr} {body : List Stmt} {pos : Pos} {fc : Den Bool} {fb : DenS} (hp : PassesOwn (model X.prog X.w) X.A X.env X.xe) (hc : RT X cl W c fc) (hb : RB X cl W body fb) : RS X cl W (.While c body [] pos) (denWhile fc fb) := PS.imp (ps_while hp hc hb) fun E σ H q => by
  obtain ⟨θ, ρ, M, hE, r, q⟩ := q
  unfold denWhile at q
  split at q
  case isFalse => exact q.elim
  rename_i hx
  refine ⟨fun m σ2 H2 => ∃ θ2 ρ2 M2, RelE X.K θ2 H2 σ2 ρ2 ∧ Rep X.K cl θ2 H2 M2 ∧ PostS X.K cl W E θ2 H2 (whileD fc fb m ρ2 M2), ⟨_, θ, ρ, M, hE, r, q⟩, fun m σ2 H2 hw => ?_⟩
  obtain ⟨θ2, ρ2, M2, hE2, r2, q2⟩ := hw
  cases m with
  | zero => exact q2.elim
  | succ m =>
    unfold whileD at q2
    refine ⟨θ2, ρ2, M2, hE2, r2, PostS.bind (Rv := fun _ _ b c => b = c) q2 hE2 fun k M3 θ3 H3 v e3 r3 p3 q3 => ?_⟩
    subst p3
    cases v with
    | false => exact q3 θ3 H3 σ2 .refl r3 (hE2.ext e3)
    | true =>
      rw [if_pos rfl] at q3 ⊢
      refine ⟨fun σ' H' => ∃ θ4 ρ4 M4, RelE X.K θ4 H' σ' ρ4 ∧ Rep X.K cl θ4 H' M4 ∧ PostS X.K cl W E θ4 H' (whileD fc fb m ρ4 M4), fun σ' H' hN => ⟨m, by omega, hN⟩, θ3, ρ2, M3, hE2.ext e3, r3, ?_⟩
      cases hb : fb ρ2 M3 with
      | fl fl ρ4 M4 =>
        rw [hb] at q3
        cases fl with
        | nx => exact fun θ' H'' σ' e r hE' => ⟨θ', ρ4, M4, hE', r, PostS.ext q3 e⟩
        | ct => exact fun θ' H'' σ' e r hE' => ⟨θ', ρ4, M4, hE', r, PostS.ext q3 e⟩
        | brk => exact q3
        | ret d => exact q3
      | exc c fs ρ4 M4 =>
        rw [hb] at q3
        exact q3
      | no =>
        rw [hb] at q3
        exact q3
end RI

/-! the law's end over FnG -/
namespace RI
open PySem PySem.Spec PyProof.Rows L2
def noLists (K : PySem.W.Frag) : Bool := K.all fun p => match p.2.cls with
  | .type n => n != "list"
  | _ => true
theorem noLists_ok {K : PySem.W.Frag} (h : noLists K = true) {a : Addr} {o : Obj} (e : K.lookup a = some o) : o.cls ≠ .type "list" := by
  have hm : ∀ l : List (Addr × Obj), l.lookup a = some o → (a, o) ∈ l := by
    intro l
    induction l with
    | nil => intro z; cases z
    | cons p r ih =>
      intro z
      rw [List.lookup_cons] at z
      split at z
      · rename_i hb
        cases z
        have := eq_of_beq hb
        subst this
        exact List.mem_cons_self
      · exact List.mem_cons_of_mem _ (ih z)
  have q := List.all_eq_true.mp h (a, o) (hm K e)
  intro z
  rw [z] at q
  simp at q
end RI

/-! the rules in short, for written terms -/
namespace RI
open PySem PySem.Spec PyProof.Rows L2
/-- a def by its name -/
structure FnB (P : Program) (w : World) (K : PySem.W.Frag) (mg : Str → Option Value) (base : Heap) (cl : ClsA) (k : Nat) (x : Str) (ps : List Str) (g : List D → Store → Out D) : Prop where
  ex : ∃ f fd, mg x = some (.ref f) ∧ PySem.W.keepIn K (.ref f) = true ∧ Binds K fd ps [] ∧ FnG P w K mg base cl k f fd ps g
/-- an exception class by its name, with its own __init__ -/
structure XcB (P : Program) (w : World) (K : PySem.W.Frag) (mg : Str → Option Value) (base : Heap) (cl : ClsA) (k : Nat) (x : Str) (ps : List Str) (g : List D → Store → Out D) : Prop where
  ex : ∃ C fI fd, mg x = some (.ref C) ∧ cl x = some C ∧ ExC K C ∧ PySem.W.findIn K (.ref C) "__init__" = some (some (.ref fI)) ∧ PySem.W.typeIn K (.ref fI) = some (.type "function") ∧ Binds K fd ps [] ∧ FnG P w K mg base cl k fI fd ps g
def dv (i : Nat) : Den D := fun ρ M => Out.of (ρ[i]?).join M
def dc (d : D) : Den D := fun _ M => .ok d M
def dk0 (x : Str) : Den D := fun _ M => .ok (.ob M.length) (M ++ [.exn x none])
def dd0 : Den D := fun _ M => .ok (.ob M.length) (M ++ [.dct []])
section
variable {X : Cx} {cl : ClsA} {W : WX} {G : Glo} {a b c e o i : Expr} {es : List Expr} {fa fb fc fe fo fi : Den D} {fs : Den (List D)} {ga gb : Den Bool} {p p2 pos pos' : Pos} {x y f : Str} {k : Nat} {ps : List Str} {g : List D → Store → Out D}
theorem xv (i : Nat) {x : Str} (hN : X.N[i]? = some x := by rfl) (hv : Vis X.env.scope x := by first | exact Or.inl rfl | exact Or.inr (Or.inl rfl) | exact Or.inr (Or.inr rfl)) (hd : (x == ("__debug__" : Str)) = false := by decide)
    (hcd : (x == ("__classdict__" : Str)) = false := by decide) : RD X cl W (.Name x pos) (dv i) := rd_var hN hv hd hcd
theorem xi {z : Int} {j : Nat} : RD X cl W (.Constant (.int z) j pos) (dc (.int z)) := rd_c pe_int fun _ _ => .int _
theorem xb {z : Bool} {j : Nat} : RD X cl W (.Constant (.bool z) j pos) (dc (.bl z)) := rd_c pe_bl fun _ _ => .bl _
theorem xn {j : Nat} : RD X cl W (.Constant .none j pos) (dc .non) := rd_c pe_non fun _ _ => .non
theorem xs {z : Str} {j : Nat} : RD X cl W (.Constant (.str z) j pos) (dc (.str z)) := rd_c pe_str fun _ _ => .str _
theorem xgI (z : Int) (hm : ∃ t, X.mg x = some (.int z t)) (hg : Gl X x := by rfl) (hd : (x == ("__debug__" : Str)) = false := by decide) : RD X cl W (.Name x pos) (dc (.int z)) := by
  obtain ⟨t, hm⟩ := hm
  exact rd_c (pe_glob hg hm (v := .int z) ⟨t, rfl⟩ hd) fun _ _ => .int _
theorem xcall (B : FnB X.prog X.w X.K X.mg X.base cl k x ps g) (hr : Room k X.A) (hgd : X.A.guards = some []) (tk : Takes X W) (ha : RA X cl W (e :: es) fs) (hg : Gl X x := by rfl) (hdb : (x == ("__debug__" : Str)) = false := by decide)
    (h1 : isStar e = false := by rfl) (h2 : es.any isStar = false := by rfl) : RD X cl W (.Call (.Name x p) (e :: es) [] pos) (denCall fs (arity ps.length g)) := by
  obtain ⟨f, fd, hm, hk, hb, F⟩ := B.ex
  exact rd_call F hr hgd hb tk hg hm hk hdb ha h1 h2
theorem xbi {id : String} {gD : List D → Store → Out D} (hc : ∀ σ, CallR X (.builtin id) (cR X.K cl W σ gD)) (hm : X.mg x = none) (hv : bootBuiltins x = some (.builtin id)) (ha : RA X cl W (e :: es) fs) (hg : Gl X x := by rfl) (h1 : isStar e = false := by rfl) (h2 : es.any isStar = false := by rfl)
    (hn : x ≠ "__name__" := by decide) (hdb : (x == ("__debug__" : Str)) = false := by decide) : RD X cl W (.Call (.Name x p) (e :: es) [] pos) (denCall fs gD) := rd_bi hc hg hm hv ha h1 h2 hn hdb
theorem xty {T : String} {gD : List D → Store → Out D} (hc : ∀ σ, CallR X (.type T) (cR X.K cl W σ gD)) (hm : X.mg x = none) (hv : bootBuiltins x = some (.type T)) (ha : RA X cl W (e :: es) fs) (hg : Gl X x := by rfl) (h1 : isStar e = false := by rfl) (h2 : es.any isStar = false := by rfl)
    (hn : x ≠ "__name__" := by decide) (hdb : (x == ("__debug__" : Str)) = false := by decide) : RD X cl W (.Call (.Name x p) (e :: es) [] pos) (denCall fs gD) := rd_ty hc hg hm hv ha h1 h2 hn hdb
theorem xbin (op : Operator) (ha : RD X cl W a fa) (hb : RD X cl W b fb) : RD X cl W (.BinOp a op b pos) (den2 fa fb (opD op)) := rd_bin op ha hb
theorem tcmp (op : CmpOp) (hu : X.A.units + 64 < cLine) (ha : RD X cl W a fa) (hb : RD X cl W b fb) (hm : behindInMarks op b = false := by first | exact nomark _ | rfl) : RT X cl W (.Compare a [op] [b] pos) (asB (den2 fa fb (cmpD op))) := rt_cmp op hu hm ha hb
theorem xix (hu : X.A.units + 64 < cLine) (ha : RD X cl W a fa) (hb : RD X cl W b fb) (hs : isSlice b = false := by rfl) : RD X cl W (.Subscript a b pos) (den2 fa fb ixD) := rd_ix (by omega) hs ha hb
theorem xcons (ha : RD X cl W a fa) (hr : RA X cl W es fs) (hs : isStar a = false := by rfl) : RA X cl W (a :: es) (denCons fa fs) := ra_cons ha hs hr
theorem xlst (h : RA X cl W es fs) : RD X cl W (.List es pos) (denLst fs) := rd_lst h
theorem xtup {k : Nat} (h : RA X cl W es fs) : RD X cl W (.Tuple es k pos) (denTup fs) := rd_tup h
theorem xattr (O : IsiOk X.K cl G) (F : FldOk X.K cl G) (ha : RD X cl W a fa) (hb : attributeBase a f X.env (eval a X.env) = eval a X.env := by rfl) : RD X cl W (.Attribute a f pos) (denAttr G fa f) := rd_attr O F ha hb
/-- c a built-in class -/
theorem xisiT (O : IsiOk X.K cl G) {T : String} (hm : X.mg c' = none) (hv : bootBuiltins c' = some (.type T)) (hi : X.mg "isinstance" = none) (ha : RD X cl W a fa) (hg : Gl X "isinstance" := by rfl) (hg2 : Gl X c' := by rfl) (hd : (c' == ("__debug__" : Str)) = false := by decide) (hn : c' ≠ "__name__" := by decide)
    (hs : isStar a = false := by rfl) : RD X cl W (.Call (.Name "isinstance" p) [a, .Name c' p2] [] pos) (denIsi G fa (.ty T)) :=
  rd_isi O (cid := .ty T) (cv := .type T) (cV := .ty T) hg hi (pe_bltn hg2 hm hv rfl hn hd) (fun u h => h) rfl hs ha
/-- {} -/
theorem xd0 : RD X cl W (.Dict [] [] pos) dd0 := PE.imp pe_dnewK fun σ H Q q => by
  obtain ⟨θ, ρ, M, hE, r, q⟩ := q
  intro p hp
  have ex : Ext X.K θ H (θ ++ [p]) (upd H p (.dK [])) := Ext.new hp
  exact q _ _ _ ex (r.new hp ⟨[], upd_same, .nil⟩) (.ob (by rw [← r.len]; simp))
/-- the statements -/
theorem sset (i : Nat) (hN : X.N.Nodup) {y : Str} (ha : RD X cl W e fe) (hy : slotL X.N X.env.scope y = some i := by rfl) (hf : X.fn y = true ∨ X.env.scope.names.lookup y = some .local := by first | exact .inl rfl | exact .inr rfl)
    (hs : swapsWithSole [.Name y p] e pos.line X.env = pure false := by rfl) (hw : swappedStores [.Name y p] e X.env = pure none := by rfl) : RS X cl W (.Assign [.Name y p] e pos) (denAsg fe (.name i)) :=
  rs_asg ha (pg_nm hN hy hf) hs hw rfl
theorem ssetIx (hu : X.A.units + 64 < cLine) (he : RD X cl W e fe) (ho : RD X cl W o fo) (hi : RD X cl W i fi) (hs : swapsWithSole [.Subscript o i p2] e pos.line X.env = pure false := by rfl) (hw : swappedStores [.Subscript o i p2] e X.env = pure none := by rfl)
    (h1 : (assignEach [.Subscript o i p2] X.env).map (·.2) = [assign (.Subscript o i p2) X.env] := by rfl)
    (ha : ∀ v, assign (.Subscript o i p2) X.env v = (do
      let ov ← holding [v] (eval o X.env)
      let iv ← holding [v, ov] (eval i X.env)
      standAt p2
      holding [v, ov, iv] (setItem ov iv v)
      release [v, ov, iv] []) := by intro _; rfl) : RS X cl W (.Assign [.Subscript o i p2] e pos) (denSetIx fe fo fi) := rs_setIx hu he ho hi hs hw h1 ha
theorem ssetF (O : IsiOk X.K cl G) (F : FldOk X.K cl G) (he : RD X cl W e fe) (ho : RD X cl W o fo) (hs : swapsWith e (some (.Attribute o f p2)) pos.line X.env = pure false := by rfl) : RS X cl W (.Assign [.Attribute o f p2] e pos) (denSetF G fe fo f) := rs_setF O F he ho hs
end
/-! ### the module's classes -/
def clOf (mg : Str → Option Value) : ClsA := fun x => match mg x with
  | some (.ref a) => some a
  | _ => none
theorem clOf_of {mg : Str → Option Value} : ∀ (c : Str) (C : Addr), mg c = some (.ref C) → clOf mg c = some C := fun c C h => by
  unfold clOf
  rw [h]
theorem of_clOf {mg : Str → Option Value} {c : Str} {C D : Addr} (h : mg c = some (.ref C)) (q : clOf mg c = some D) : D = C := by
  rw [clOf_of c C h] at q
  exact (Option.some.inj q).symm
def gloOf (K : PySem.W.Frag) (mg : Str → Option Value) (xs : List Str) (fl : List (Str × Str)) : Glo where
  const := fun _ => none
  bi := fun _ => false
  fn := fun _ => none
  mkI := fun _ => none
  mkX := fun _ => none
  mkX0 := fun _ => false
  meth := fun _ => none
  prop := fun _ => none
  fld := fun c f => decide ((c, f) ∈ fl)
  isIns := fun _ => false
  isExn := fun c => decide (c ∈ xs)
  isi := fun t c => match cidV (clOf mg) t, cidV (clOf mg) c with
    | some tv, some cv => PySem.W.kitOne K tv cv
    | _, _ => none
  exm := fun c d => match clOf mg c, clOf mg d with
    | some C, some D => PySem.W.exmOne K (.ref C) (.ref D)
    | _, _ => none
def exB (K : PySem.W.Frag) (C : Addr) : Bool :=
  decide (PySem.W.findIn K (.ref C) "__setattr__" = some (some (.builtin "object.__setattr__"))) && (decide (PySem.W.subIn K (.ref C) (.type "BaseException") = some true) && (decide (PySem.W.typeIn K (.ref C) = some (.type "type")) && (PySem.W.keepIn K (.ref C) &&
  (decide (PySem.W.findIn K (.ref C) "__getattribute__" = some (some (.builtin "BaseException.__getattribute__"))) && (decide (PySem.W.findIn K (.ref C) "__getattr__" = some none) && (PySem.W.hasDictIn K C && (decide (PySem.W.findIn K (.ref C) "__class__" = some (some (.builtin "object.__class__"))) &&
  (decide (PySem.W.specialIn K (.builtin "object.__class__") "__get__" = some (some (.builtin "getset_descriptor.__get__"))) && (decide (PySem.W.takesIn K (.builtin "object.__class__") = some true) && decide (PySem.W.mroIn K C (.type "object") = some true))))))))))
theorem exC_of {K : PySem.W.Frag} {C : Addr} {nm q N bs tail sn sub ab col dd k0 k1 k2 k3 k5 newId} (rs : List Addr) (l : K.lookup C = some (excClassObj nm q C N bs (List.map Value.ref rs ++ tail) true sn sub ab col dd k0 k1 k2 k3 k5 newId)) (b : ExG.Base newId tail) (h : exB K C = true) : ExC K C := by
  unfold exB at h
  simp only [Bool.and_eq_true, decide_eq_true_eq] at h
  obtain ⟨h1, h2, h3, h4, h5, h6, h7, h8, h9, h10, h11⟩ := h
  exact ⟨⟨_, _, _, _, rs, tail, _, _, _, _, _, _, _, _, _, _, newId, b, l⟩, h1, h2, h3, h4, h5, h6, h7, h8, h9, h10, h11⟩
def AllX (K : PySem.W.Frag) (mg : Str → Option Value) (xs : List Str) : Prop := ∀ c ∈ xs, ∀ C, clOf mg c = some C → ExC K C
def AllF (K : PySem.W.Frag) (mg : Str → Option Value) (fl : List (Str × Str)) : Prop := ∀ p ∈ fl, ∀ C, clOf mg p.1 = some C → PySem.W.findIn K (.ref C) p.2 = some none
theorem allX_nil {K : PySem.W.Frag} {mg : Str → Option Value} : AllX K mg [] := fun _ h => by cases h
theorem allX_cons {K : PySem.W.Frag} {mg : Str → Option Value} {c : Str} {C : Addr} {xs : List Str} (h : mg c = some (.ref C)) (e : ExC K C) (r : AllX K mg xs) : AllX K mg (c :: xs) := fun d hd D hD => by
  cases hd with
  | head => rw [of_clOf h hD]; exact e
  | tail _ hd => exact r d hd D hD
theorem allF_nil {K : PySem.W.Frag} {mg : Str → Option Value} : AllF K mg [] := fun _ h => by cases h
theorem allF_cons {K : PySem.W.Frag} {mg : Str → Option Value} {c f : Str} {C : Addr} {xs : List (Str × Str)} (h : mg c = some (.ref C)) (e : PySem.W.findIn K (.ref C) f = some none) (r : AllF K mg xs) : AllF K mg ((c, f) :: xs) := fun d hd D hD => by
  cases hd with
  | head => rw [of_clOf h hD]; exact e
  | tail _ hd => exact r d hd D hD
theorem isiOk_of {K : PySem.W.Frag} {mg : Str → Option Value} {xs : List Str} {fl : List (Str × Str)} (h : AllX K mg xs) : IsiOk K (clOf mg) (gloOf K mg xs fl) := by
  refine ⟨fun t c b tv cv h1 h2 h3 => ?_, fun c C h1 => ?_, fun c C h1 h2 => h c (of_decide_eq_true h1) C h2⟩
  · unfold gloOf at h1
    simp only [h2, h3] at h1
    exact h1
  · cases h1
theorem fldOk_of {K : PySem.W.Frag} {mg : Str → Option Value} {xs : List Str} {fl : List (Str × Str)} (h : AllF K mg fl) : FldOk K (clOf mg) (gloOf K mg xs fl) := fun c C f h1 h2 => h (c, f) (of_decide_eq_true h1) C h2
end RI

/-! a dict of one pair -/
namespace RI
open PySem PySem.Spec PyProof.Rows L2
def denD1 (fk fv : Den D) : Den D := fun ρ M => (fk ρ (M ++ [.dct []])).bind fun k M1 => (fv ρ M1).bind fun v M2 => match keyOf k, M2[M.length]? with
  | some kk, some (.dct []) => .ok (.ob M.length) (M2.set M.length (.dct [(kk, v)]))
  | _, _ => .no
theorem xd1 {X : Cx} {cl : ClsA} {W : WX} {k v : Expr} {fk fv : Den D} {pos : Pos} (hk : RD X cl W k fk) (hv : RD X cl W v fv) : RD X cl W (.Dict [some k] [v] pos) (denD1 fk fv) :=
  PE.imp (pe_disp (pps_cons hk hv pps_nil) rfl rfl (by simp) (by simp)) fun σ H Q q => by
  obtain ⟨θ, ρ, M, hE, r, q⟩ := q
  intro p hp
  have ex : Ext X.K θ H (θ ++ [p]) (upd H p (.dK [])) := Ext.new hp
  have r1 : Rep X.K cl (θ ++ [p]) (upd H p (.dK [])) (M ++ [.dct []]) := r.new hp ⟨[], upd_same, .nil⟩
  have n1 : (θ ++ [p])[M.length]? = some p := by rw [← r.len]; simp
  refine ⟨θ ++ [p], ρ, M ++ [.dct []], hE.ext ex, r1, PostG.bind (PostG.ext q ex) fun kd M1 θ1 H1 x e1 rr1 p1 q1 => ?_⟩
  refine ⟨θ1, ρ, M1, (hE.ext ex).ext e1, rr1, PostG.bind q1 fun vd M2 θ2 H2 y e2 rr2 p2 q2 => ?_⟩
  split at q2
  · rename_i kk hkk hM
    obtain ⟨a, ha, hr⟩ := rr2.addr hM
    have n2 := e2.pre _ _ (e1.pre _ _ n1)
    rw [n2] at ha
    cases ha
    obtain ⟨ws, h1, h2⟩ := hr
    cases h2
    have fr : Free _ H2 p := free_of n2 h1 (fun _ z => by cases z) (fun _ _ z => by cases z)
    refine ⟨h1, [(kk, y)], ?_, by simp, q2 θ2 _ _ (Ext.upd fr) (rr2.put n2 fr ⟨[(kk, y)], upd_same, .cons (p2.ext (Ext.upd fr)) .nil⟩) (.ob n2)⟩
    rw [p1.key hkk]
    rfl
  · exact q2.elim
end RI

/-! the readings applied: for simp -/
namespace RI
open PySem PySem.Spec PyProof.Rows L2
section
variable {G : Glo} {fa fb fe fo fi : Den D} {fs : Den (List D)} {ga gb : Den Bool} {g h : DenS} {ρ : Env1} {M : Store} {f : Env1 → Store → SOut} {d : D} {c : Str} {gD : List D → Store → Out D}
@[simp] theorem ap_seq : denSeq g h ρ M = andThen (g ρ M) h := rfl
@[simp] theorem ap_nx : denNx ρ M = .fl .nx ρ M := rfl
@[simp] theorem th_nx : andThen (.fl .nx ρ M) f = f ρ M := rfl
@[simp] theorem th_brk : andThen (.fl .brk ρ M) f = .fl .brk ρ M := rfl
@[simp] theorem th_ct : andThen (.fl .ct ρ M) f = .fl .ct ρ M := rfl
@[simp] theorem th_ret : andThen (.fl (.ret d) ρ M) f = .fl (.ret d) ρ M := rfl
@[simp] theorem th_exc {fs : List (Str × D)} : andThen (.exc c fs ρ M) f = .exc c fs ρ M := rfl
@[simp] theorem th_den {x : SOut} : andThen x denNx = x := by
  cases x with
  | fl f ρ M => cases f <;> rfl
  | exc _ _ _ _ => rfl
  | no => rfl
@[simp] theorem fin_nx : finD (.fl .nx ρ M) = .ok .non M := rfl
@[simp] theorem fin_ret : finD (.fl (.ret d) ρ M) = .ok d M := rfl
@[simp] theorem ap_ifs : denIfS ga g h ρ M = bindS (ga ρ M) ρ fun b M => if b then g ρ M else h ρ M := rfl
@[simp] theorem ap_ret : denRet fa ρ M = bindS (fa ρ M) ρ fun d M => .fl (.ret d) ρ M := rfl
@[simp] theorem th_bret {x : Out D} {ρ' : Env1} : andThen (bindS x ρ fun d M => .fl (.ret d) ρ' M) f = bindS x ρ fun d M => .fl (.ret d) ρ' M := by cases x <;> rfl
@[simp] theorem fin_bret {x : Out D} {ρ' : Env1} : finD (bindS x ρ fun d M => .fl (.ret d) ρ' M) = x := by cases x <;> rfl
@[simp] theorem ap_drop : denDrop fa ρ M = bindS (fa ρ M) ρ fun _ M => .fl .nx ρ M := rfl
@[simp] theorem ap_asg {t : Tgt} : denAsg fa t ρ M = bindS (fa ρ M) ρ fun d M => match setT t d ρ with
  | some ρ' => .fl .nx ρ' M
  | none => .no := rfl
@[simp] theorem set_nm {i : Nat} : setT (.name i) d ρ = some (ρ.set i (some d)) := by unfold setT; rfl
@[simp] theorem ap_par {i j : Nat} : denPar i j fs ρ M = bindS (fs ρ M) ρ fun ds M => match ds with
  | [x, y] => .fl .nx ((ρ.set i (some x)).set j (some y)) M
  | _ => .no := rfl
@[simp] theorem ap_setIx : denSetIx fe fo fi ρ M = bindS (fe ρ M) ρ fun d M => bindS (fo ρ M) ρ fun x M => bindS (fi ρ M) ρ fun k M => match setD x k d M with
  | some M' => .fl .nx ρ M'
  | none => .no := rfl
@[simp] theorem ap_setF {x : Str} : denSetF G fe fo x ρ M = bindS (fe ρ M) ρ fun d M => bindS (fo ρ M) ρ fun y M => match setFD G y x d M with
  | some M' => .fl .nx ρ M'
  | none => .no := rfl
@[simp] theorem ap_for {fit : Den ItD} {t : Tgt} : denFor fit t g ρ M = bindS (fit ρ M) ρ fun it M => forD it.chk (onT t g) it.ds ρ M := rfl
@[simp] theorem ap_v {i : Nat} : dv i ρ M = Out.of (ρ[i]?).join M := rfl
@[simp] theorem ap_c : dc d ρ M = .ok d M := rfl
@[simp] theorem of_some {α : Type} {a : α} : Out.of (some a) M = .ok a M := rfl
@[simp] theorem ap_two {op : D → D → Store → Out D} : den2 fa fb op ρ M = (fa ρ M).bind fun x M => (fb ρ M).bind fun y M => op x y M := rfl
@[simp] theorem ap_asB : asB fa ρ M = (fa ρ M).bind fun d M => match d with
  | .bl b => .ok b M
  | _ => .no := by
  unfold asB
  cases fa ρ M with
  | ok d M => cases d <;> rfl
  | exc _ _ _ => rfl
  | no => rfl
@[simp] theorem ap_call : denCall fs gD ρ M = (fs ρ M).bind gD := rfl
@[simp] theorem ap_nil : denNil ρ M = .ok [] M := rfl
@[simp] theorem ap_cons : denCons fa fs ρ M = (fa ρ M).bind fun x M => (fs ρ M).bind fun xs M => .ok (x :: xs) M := rfl
@[simp] theorem ap_tup : denTup fs ρ M = (fs ρ M).bind fun xs M => if xs.length ≤ line then .ok (.tup xs) M else .no := rfl
@[simp] theorem ap_lst : denLst fs ρ M = (fs ρ M).bind fun xs M => newL xs M := rfl
@[simp] theorem ap_attr {x : Str} : denAttr G fa x ρ M = (fa ρ M).bind fun y M => match getFD G y x M with
  | some d => .ok d M
  | none => .no := rfl
@[simp] theorem ap_isi {k : Cid} : denIsi G fa k ρ M = (fa ρ M).bind fun d M => isiD G d k M := rfl
@[simp] theorem ap_sl {fl fh : Den (Option Int)} : denSl fa fl fh ρ M = (fa ρ M).bind fun x M => (fl ρ M).bind fun lo M => (fh ρ M).bind fun hi M => slD x lo hi M := rfl
@[simp] theorem ap_nopart : denNoPart ρ M = .ok none M := rfl
@[simp] theorem ap_it : denIt fa ρ M = (fa ρ M).bind itOf := rfl
@[simp] theorem ap_rng1 : denRange1 fs ρ M = (fs ρ M).bind itRange1 := rfl
@[simp] theorem ap_en : denEnum fs ρ M = (fs ρ M).bind itEnum := rfl
@[simp] theorem ap_yes : denYes ρ M = .ok true M := rfl
@[simp] theorem ap_k0 {x : Str} : dk0 x ρ M = .ok (.ob M.length) (M ++ [.exn x none]) := rfl
@[simp] theorem ap_d0 : dd0 ρ M = .ok (.ob M.length) (M ++ [.dct []]) := rfl
theorem newL_small {xs : List D} (h : xs.length ≤ 1000) : newL xs M = .ok (.ob M.length) (M ++ [.lst xs]) := by
  unfold newL
  rw [if_pos (Nat.le_trans h (by decide))]
@[simp] theorem line_1 {n : Nat} (h : n ≤ 1000) : n ≤ line := Nat.le_trans h (by decide)
@[simp] theorem op_addI {i j : Int} : opD .Add (.int i) (.int j) M = .ok (.int (i + j)) M := rfl
@[simp] theorem op_subI {i j : Int} : opD .Sub (.int i) (.int j) M = .ok (.int (i - j)) M := rfl
theorem op_mulI {i j : Int} (h : mulOk i j = true) : opD .Mult (.int i) (.int j) M = .ok (.int (i * j)) M := if_pos h
theorem op_divI {i j : Int} (h : 0 < j) (h2 : j < 1000000) : opD .FloorDiv (.int i) (.int j) M = .ok (.int (i / j)) M := by
  have : j.natAbs.log2 < 9000 := by
    by_cases h0 : j.natAbs = 0
    · rw [h0]
      decide
    · exact Nat.lt_trans ((Nat.log2_lt h0).mpr (show j.natAbs < 2 ^ 20 by omega)) (by decide)
  exact if_pos ⟨h, this⟩
theorem op_modI {i j : Int} (h : 0 < j) : opD .Mod (.int i) (.int j) M = .ok (.int (i % j)) M := if_pos h
theorem op_powI {i j : Int} (h : 0 ≤ j ∧ j ≤ 1000000 ∧ i.natAbs < 2 ^ 64) : opD .Pow (.int i) (.int j) M = .ok (.int (i ^ j.toNat)) M := if_pos h
theorem op_catL {a b : Nat} {xs ys : List D} (h1 : listAt M a = some xs) (h2 : listAt M b = some ys) (h : (xs ++ ys).length ≤ 1000) : opD .Add (.ob a) (.ob b) M = .ok (.ob M.length) (M ++ [.lst (xs ++ ys)]) := by
  unfold opD
  simp only [h1, h2]
  exact newL_small h
end
end RI

/-! isinstance by a table -/
namespace RI
open PySem PySem.Spec PyProof.Rows L2
def isiChk (K : PySem.W.Frag) (ad : List (Str × Addr)) (tbl : List (Cid × Cid × Bool)) : Bool := tbl.all fun e => match cidV (fun x => ad.lookup x) e.1, cidV (fun x => ad.lookup x) e.2.1 with
  | some tv, some cv => decide (PySem.W.kitOne K tv cv = some e.2.2)
  | _, _ => false
def AllM (mg : Str → Option Value) (ad : List (Str × Addr)) : Prop := ∀ x a, ad.lookup x = some a → mg x = some (.ref a)
theorem allM_nil {mg : Str → Option Value} : AllM mg [] := fun _ _ h => by cases h
theorem allM_cons {mg : Str → Option Value} {c : Str} {a : Addr} {ad : List (Str × Addr)} (h : mg c = some (.ref a)) (r : AllM mg ad) : AllM mg ((c, a) :: ad) := fun x b e => by
  rw [List.lookup_cons] at e
  split at e
  · rename_i hb
    cases e
    rw [eq_of_beq hb]
    exact h
  · exact r x b e
theorem cidV_of {mg : Str → Option Value} {ad : List (Str × Addr)} (h : AllM mg ad) {c : Cid} {v : Value} (e : cidV (fun x => ad.lookup x) c = some v) : cidV (clOf mg) c = some v := by
  cases c with
  | ty n => exact e
  | own x =>
    simp only [cidV, Option.map_eq_some_iff] at e ⊢
    obtain ⟨a, ha, rfl⟩ := e
    exact ⟨a, clOf_of x a (h x a ha), rfl⟩
theorem isi_tbl {K : PySem.W.Frag} {mg : Str → Option Value} {xs : List Str} {fl : List (Str × Str)} {ad : List (Str × Addr)} {tbl : List (Cid × Cid × Bool)} (h : AllM mg ad) (hc : isiChk K ad tbl = true) {t c : Cid} {b : Bool} (hm : (t, c, b) ∈ tbl) : (gloOf K mg xs fl).isi t c = some b := by
  have q := List.all_eq_true.mp hc _ hm
  dsimp only at q
  split at q
  · rename_i tv cv e1 e2
    have e3 := cidV_of h e1
    have e4 := cidV_of h e2
    unfold gloOf
    simp only [e3, e4]
    exact of_decide_eq_true q
  · cases q
/-- the object of an exception class, but for what nobody asks -/
def ExcCls (K : PySem.W.Frag) (C : Addr) (rs : List Addr) (tail : List Value) (newId : String) : Prop := ∃ nm q N bs sn sub ab col dd k0 k1 k2 k3 k5, K.lookup C = some (excClassObj nm q C N bs (List.map Value.ref rs ++ tail) true sn sub ab col dd k0 k1 k2 k3 k5 newId)
theorem ExcCls.exC {K : PySem.W.Frag} {C : Addr} {rs : List Addr} {tail : List Value} {newId : String} (h : ExcCls K C rs tail newId) (b : ExG.Base newId tail) (e : exB K C = true) : ExC K C := by
  obtain ⟨_, _, _, _, _, _, _, _, _, _, _, _, _, _, l⟩ := h
  exact exC_of rs l b e
abbrev tailVE : List Value := [.type "ValueError", .type "Exception", .type "BaseException", .type "object"]
abbrev tailLE : List Value := [.type "LookupError", .type "Exception", .type "BaseException", .type "object"]
end RI

/-! lists' methods, a dict's item set, and/or of one, tests by and/or -/
namespace RI
open PySem PySem.Spec PyProof.Rows L2
/-! ### append, pop -/
def appD (x : D) (ds : List D) (M : Store) : Out D := match x, ds with
  | .ob n, [y] => match M[n]? with
    | some (.lst xs) => if xs.length + 1 ≤ line then .ok .non (M.set n (.lst (xs ++ [y]))) else .no
    | _ => .no
  | _, _ => .no
def popD (x : D) (ds : List D) (M : Store) : Out D := match x, ds with
  | .ob n, [.int i] => match M[n]? with
    | some (.lst xs) => match ixN xs.length i with
      | some j => match xs[j]? with
        | some d => if xs.length ≤ line then .ok d (M.set n (.lst (xs.eraseIdx j))) else .no
        | none => .no
      | none => .no
    | _ => .no
  | _, _ => .no
def isL (M : Store) : D → Bool
  | .ob n => match M[n]? with
    | some (.lst _) => true
    | some (.frl _) => true
    | _ => false
  | _ => false
def denMt (fo : Den D) (fs : Den (List D)) (g : D → List D → Store → Out D) : Den D := fun ρ M => (fo ρ M).bind fun x M => if isL M x then (fs ρ M).bind fun ds M => g x ds M else .no
def mR (K : PySem.W.Frag) (cl : ClsA) (W : WX) (σ : L2.St) (g : D → List D → Store → Out D) : V → List V → Hp → VK → Prop := fun x xs H Q =>
  ∃ θ M dx ds, Rep K cl θ H M ∧ Rp K θ H x dx ∧ RpA K θ H xs ds ∧ PostG K cl (Rp K) W Q σ θ H (g dx ds M)
section
variable {X : Cx} {cl : ClsA} {W : WX} {o e : Expr} {es : List Expr} {fo : Den D} {fs : Den (List D)} {apos cpos : Pos}
theorem mt_imp {id : String} {r r' : V → List V → Hp → VK → Prop} (h : MtM X id r) (k : ∀ x xs H Q, r' x xs H Q → r x xs H Q) : MtM X id r' := fun pins s σ H x xs v us Q I rx rv q => h pins s σ H x xs v us Q I rx rv (k _ _ _ _ q)
theorem m_append (σ : L2.St) : MtM X "list.append" (mR X.K cl W σ appD) := mt_imp mt_append fun x xs H Q q => by
  obtain ⟨θ, M, dx, ds, r, px, pa, q⟩ := q
  unfold appD at q
  split at q
  · cases px
    rename_i n y a hn
    cases pa with
    | cons py t =>
      cases t
      split at q
      · rename_i xs hM
        split at q
        · rename_i hl
          obtain ⟨u, hu, hr⟩ := r.atn hn
          rw [hM] at hu
          cases hu
          obtain ⟨vs, h1, h2⟩ := hr
          have fr : Free _ H a := free_of hn h1 (fun _ z => by cases z) (fun _ _ z => by cases z)
          refine ⟨a, vs, _, rfl, rfl, h1, by rw [h2.length]; exact Nat.lt_of_lt_of_le (Nat.lt_succ_self _) (line_ok hl), q θ _ _ (Ext.upd fr) (r.put hn fr ⟨_, upd_same, (h2.app (.cons py .nil)).ext (Ext.upd fr)⟩) .non⟩
        · exact q.elim
      · exact q.elim
  · exact q.elim
theorem m_pop (σ : L2.St) : MtM X "list.pop" (mR X.K cl W σ popD) := mt_imp mt_popAt fun x xs H Q q => by
  obtain ⟨θ, M, dx, ds, r, px, pa, q⟩ := q
  unfold popD at q
  split at q
  · cases px
    rename_i n i a hn
    cases pa with
    | cons py t =>
      cases t
      cases py
      split at q
      · rename_i xs hM
        split at q
        · rename_i j hj
          split at q
          · rename_i d hd
            split at q
            · rename_i hl
              obtain ⟨u, hu, hr⟩ := r.atn hn
              rw [hM] at hu
              cases hu
              obtain ⟨vs, h1, h2⟩ := hr
              obtain ⟨v, hv, pv⟩ := h2.get hd
              obtain ⟨g1, g2, g3, g4⟩ := ixN_seq hj
              have hn63 := line63
              have hl2 : xs.length ≤ sizeLine := line_ok hl
              have fr : Free _ H a := free_of hn h1 (fun _ z => by cases z) (fun _ _ z => by cases z)
              refine ⟨a, vs, i, j, v, rfl, rfl, h1, by omega, by omega, by rw [h2.length]; exact g1, hv, q θ _ _ (Ext.upd fr) (r.put hn fr ⟨_, upd_same, (h2.erase j).ext (Ext.upd fr)⟩) (pv.ext (Ext.upd fr))⟩
            · exact q.elim
          · exact q.elim
        · exact q.elim
      · exact q.elim
  · exact q.elim
theorem isL_ty {K : PySem.W.Frag} {θ : List Addr} {H : Hp} {M : Store} {v : V} {d : D} (r : Rep K cl θ H M) (p : Rp K θ H v d) (h : isL M d = true) : tyV K "list" v H := by
  unfold isL at h
  split at h
  · cases p
    rename_i n a hn
    obtain ⟨u, hu, hr⟩ := r.atn hn
    rw [hu] at h
    cases u with
    | lst xs =>
      obtain ⟨vs, h1, _⟩ := hr
      exact .inl ⟨rfl, _, SqL.of h1⟩
    | frl xs =>
      obtain ⟨o, vs, h1, _⟩ := hr
      exact .inl ⟨rfl, _, .inl (.inr ⟨_, h1⟩)⟩
    | _ => cases h
  · cases h
theorem rd_mt {name : Str} {id : String} {g : D → List D → Store → Out D} (slot : Slot "list" name id) (hty : typeOf (.builtin id) = pure (.type "method_descriptor")) (hm : ∀ σ, MtM X id (mR X.K cl W σ g)) (ho : RD X cl W o fo) (ha : RA X cl W (e :: es) fs)
    (hbase : attributeBase o name X.env (eval o X.env) = eval o X.env := by rfl)
    (hfew : ((backTo cpos (starEach (e :: es) X.env)).all (fun x => !x.1) && (backToKw cpos (keywordEach [] X.env)).all (fun x => x.1.isSome)
      && decide ((e :: es).length + ([] : List Keyword).length + (if ([] : List Keyword).isEmpty then 0 else 1) < 30)) = true := by rfl)
    (hline : (apos.endLine == cpos.line) = true := by rfl) (h1 : isStar e = false := by rfl) (h2 : es.any isStar = false := by rfl) :
    RD X cl W (.Call (.Attribute o name apos) (e :: es) [] cpos) (denMt fo fs g) :=
  ⟨fun pins s σ H Q I q => (pe_bm PySem.F.plainAttrs_list slot hty (hm σ) ho ha hbase hfew hline (star_one e es X.env h1) (star_no cpos X.env es h2)).run pins s σ H Q I (by
    obtain ⟨θ, ρ, M, hE, r, q⟩ := q
    refine ⟨θ, ρ, M, hE, r, PostG.bind q fun d M1 θ1 H1 v e1 r1 p1 q1 => ?_⟩
    split at q1
    · rename_i hl
      exact ⟨isL_ty r1 p1 hl, θ1, ρ, M1, hE.ext e1, r1, PostG.bind q1 fun ds M2 θ2 H2 vs e2 r2 pa q2 => ⟨θ2, M2, d, ds, r2, p1.ext e2, pa, q2⟩⟩
    · exact q1.elim)⟩
theorem xapp (ho : RD X cl W o fo) (ha : RA X cl W [e] fs) (hbase : attributeBase o "append" X.env (eval o X.env) = eval o X.env := by rfl) (hline : (apos.endLine == cpos.line) = true := by rfl) (h1 : isStar e = false := by rfl)
    (hfew : ((backTo cpos (starEach [e] X.env)).all (fun x => !x.1) && (backToKw cpos (keywordEach [] X.env)).all (fun x => x.1.isSome)
      && decide ([e].length + ([] : List Keyword).length + (if ([] : List Keyword).isEmpty then 0 else 1) < 30)) = true := by rfl) : RD X cl W (.Call (.Attribute o "append" apos) [e] [] cpos) (denMt fo fs appD) :=
  rd_mt PySem.F.slot_list_append PySem.F.type_list_append (fun σ => m_append σ) ho ha hbase hfew hline h1 rfl
theorem xpop (ho : RD X cl W o fo) (ha : RA X cl W [e] fs) (hbase : attributeBase o "pop" X.env (eval o X.env) = eval o X.env := by rfl) (hline : (apos.endLine == cpos.line) = true := by rfl) (h1 : isStar e = false := by rfl)
    (hfew : ((backTo cpos (starEach [e] X.env)).all (fun x => !x.1) && (backToKw cpos (keywordEach [] X.env)).all (fun x => x.1.isSome)
      && decide ([e].length + ([] : List Keyword).length + (if ([] : List Keyword).isEmpty then 0 else 1) < 30)) = true := by rfl) : RD X cl W (.Call (.Attribute o "pop" apos) [e] [] cpos) (denMt fo fs popD) :=
  rd_mt PySem.F.slot_list_pop PySem.F.type_list_pop (fun σ => m_pop σ) ho ha hbase hfew hline h1 rfl
end
end RI

/-! list(range(n)), dicts of several pairs, and/or -/
namespace RI
open PySem PySem.Spec PyProof.Rows L2
def denLrg (fa : Den D) : Den D := fun ρ M => (fa ρ M).bind fun d M => match d with
  | .int n => if 0 ≤ n ∧ n ≤ 1000 then .ok (.ob M.length) (M ++ [.lst (rangeD 0 n.toNat)]) else .no
  | _ => .no
theorem rg_rp {K : PySem.W.Frag} {θ : List Addr} {H : Hp} (lo : Int) : ∀ l : List Nat, RpA K θ H (l.map fun i => V.int (lo + (i : Nat))) (l.map fun i => D.int (lo + (i : Nat)))
  | [] => .nil
  | _ :: r => .cons (.int _) (rg_rp lo r)
section
variable {X : Cx} {cl : ClsA} {W : WX} {a : Expr} {fa : Den D} {p p2 pos pos2 : Pos}
theorem rd_lrg (hc : X.calm = true) (hm : X.mg "list" = none) (hm2 : X.mg "range" = none) (ha : RD X cl W a fa) (hg : Gl X "list" := by rfl) (hg2 : Gl X "range" := by rfl) (hs : isStar a = false := by rfl)
    (na : starEach [.Call (.Name "range" p2) [a] [] pos2] X.env = (false, eval (.Call (.Name "range" p2) [a] [] pos2) X.env) :: starEach [] X.env := by rfl) :
    RD X cl W (.Call (.Name "list" p) [.Call (.Name "range" p2) [a] [] pos2] [] pos) (denLrg fa) := PE.imp (pe_listRg hc hg hm (prg_1 hg2 hm2 ha (star_one a [] X.env hs)) na) fun σ H Q q => by
  obtain ⟨θ, ρ, M, hE, r, q⟩ := q
  refine ⟨θ, ρ, M, hE, r, PostG.bind q fun d M1 θ1 H1 v e1 r1 p1 q1 => ?_⟩
  cases p1 with
  | int n =>
    dsimp only at q1
    split at q1
    · rename_i hn
      refine ⟨n, rfl, RgOk.of_le (by omega) (by omega) (by omega) (by omega), fun l hl => ?_⟩
      have ex : Ext X.K θ1 H1 (θ1 ++ [l]) (upd H1 l (.lst (rgV 0 n))) := Ext.new hl
      have rr : RpA X.K (θ1 ++ [l]) (upd H1 l (.lst (rgV 0 n))) (rgV 0 n) (rangeD 0 n.toNat) := by
        unfold rgV rangeD
        rw [Int.sub_zero]
        exact rg_rp 0 _
      exact q1 _ _ _ ex (r1.new hl ⟨_, upd_same, rr⟩) (.ob (by rw [← r1.len]; simp))
    · exact q1.elim
  | _ => exact q1.elim
/-! ### {k: v, ..} -/
def denPairs : List (Den D × Den D) → Env1 → Store → Out (List (D × D))
  | [], _, M => .ok [] M
  | (fk, fv) :: r, ρ, M => (fk ρ M).bind fun k M => (fv ρ M).bind fun v M => (denPairs r ρ M).bind fun ps M => .ok ((k, v) :: ps) M
def keysD : List (D × D) → Option (List (Key × D))
  | [] => some []
  | (k, v) :: r => match keyOf k, keysD r with
    | some k, some r => some ((k, v) :: r)
    | _, _ => none
def mergeKD (kvs more : List (Key × D)) : List (Key × D) := more.foldl (fun acc kv => putKD acc kv.1 kv.2) kvs
def denDN (fs : List (Den D × Den D)) : Den D := fun ρ M => (denPairs fs ρ (M ++ [.dct []])).bind fun ps M2 => match keysD ps, M2[M.length]? with
  | some kvs, some (.dct []) => if kvs.length ≤ 15 then .ok (.ob M.length) (M2.set M.length (.dct (mergeKD [] kvs))) else .no
  | _, _ => .no
inductive RpP (K : PySem.W.Frag) (θ : List Addr) (H : Hp) : List (V × V) → List (D × D) → Prop where
  | nil : RpP K θ H [] []
  | cons {x y : V} {k d : D} {ps : List (V × V)} {qs : List (D × D)} : Rp K θ H x k → Rp K θ H y d → RpP K θ H ps qs → RpP K θ H ((x, y) :: ps) ((k, d) :: qs)
theorem RpP.ext {K : PySem.W.Frag} {θ θ' : List Addr} {H H' : Hp} (e : Ext K θ H θ' H') : ∀ {ps : List (V × V)} {qs : List (D × D)}, RpP K θ H ps qs → RpP K θ' H' ps qs
  | _, _, .nil => .nil
  | _, _, .cons a b t => .cons (a.ext e) (b.ext e) (RpP.ext e t)
theorem RpP.keys {K : PySem.W.Frag} {θ : List Addr} {H : Hp} : ∀ {ps : List (V × V)} {qs : List (D × D)}, RpP K θ H ps qs → ∀ {kvs : List (Key × D)}, keysD qs = some kvs → ∃ ws, ps = ws.map (fun kv => (kV kv.1, kv.2)) ∧ RpK K θ H ws kvs
  | _, _, .nil, kvs, h => by
    cases h
    exact ⟨[], rfl, .nil⟩
  | _, _, .cons (k := k) a b t, kvs, h => by
    unfold keysD at h
    split at h
    · rename_i k' r' h1 h2
      cases h
      obtain ⟨ws, e, rr⟩ := RpP.keys t h2
      exact ⟨(k', _) :: ws, by rw [List.map_cons, ← e, a.key h1], .cons b rr⟩
    · cases h
theorem RpK.merge {K : PySem.W.Frag} {θ : List Addr} {H : Hp} : ∀ {ws : List (Key × V)} {kvs : List (Key × D)}, RpK K θ H ws kvs → ∀ {as : List (Key × V)} {bs : List (Key × D)}, RpK K θ H as bs → RpK K θ H (mergeK as ws) (mergeKD bs kvs)
  | _, _, .nil, _, _, h => h
  | _, _, .cons p t, _, _, h => RpK.merge t (RpK.put p h)
def rdP (cl : ClsA) (W : WX) (K : PySem.W.Frag) (fs : List (Den D × Den D)) : L2.St → Hp → (List (V × V) → Hp → Prop) → Prop := rdG K cl (RpP K) W (denPairs fs)
theorem pairs_rd {K : PySem.W.Frag} : ∀ (fs : List (Den D × Den D)) {σ : L2.St} {H : Hp} {Q : List (V × V) → Hp → Prop}, rdP cl W K fs σ H Q → tPairs (fs.map fun p => (rd cl W K p.1, rd cl W K p.2)) σ H Q
  | [], σ, H, Q, q => by
    obtain ⟨θ, ρ, M, hE, r, q⟩ := q
    exact PostG.ok_ q r .nil
  | (fk, fv) :: rest, σ, H, Q, q => by
    obtain ⟨θ, ρ, M, hE, r, q⟩ := q
    refine ⟨θ, ρ, M, hE, r, PostG.bind q fun k M1 θ1 H1 x e1 r1 p1 q1 => ?_⟩
    refine ⟨θ1, ρ, M1, hE.ext e1, r1, PostG.bind q1 fun v M2 θ2 H2 y e2 r2 p2 q2 => ?_⟩
    refine pairs_rd rest ⟨θ2, ρ, M2, (hE.ext e1).ext e2, r2, PostG.bind q2 fun ps M3 θ3 H3 vs e3 r3 p3 q3 => ?_⟩
    exact q3.ok_ r3 (.cons ((p1.ext e2).ext e3) (p2.ext e3) p3)
abbrev RPs (X : Cx) (cl : ClsA) (W : WX) (pos : Pos) (ks : List (Option Expr)) (vs : List Expr) (fs : List (Den D × Den D)) : Prop := PPs X pos ks vs (fs.map fun p => (rd cl W X.K p.1, rd cl W X.K p.2))
theorem xdN {ks : List (Option Expr)} {vs : List Expr} {fs : List (Den D × Den D)} (h : RPs X cl W pos ks vs fs) (hall : ks.all (·.isSome) = true := by rfl) (hl : ks.length = vs.length := by rfl) (h0 : ks ≠ [] := by simp) (h15 : ks.length ≤ 15 := by decide) : RD X cl W (.Dict ks vs pos) (denDN fs) :=
  PE.imp (pe_disp h hall hl h0 h15) fun σ H Q q => by
  obtain ⟨θ, ρ, M, hE, r, q⟩ := q
  intro p hp
  have ex : Ext X.K θ H (θ ++ [p]) (upd H p (.dK [])) := Ext.new hp
  have r1 : Rep X.K cl (θ ++ [p]) (upd H p (.dK [])) (M ++ [.dct []]) := r.new hp ⟨[], upd_same, .nil⟩
  have n1 : (θ ++ [p])[M.length]? = some p := by rw [← r.len]; simp
  refine pairs_rd fs ⟨θ ++ [p], ρ, M ++ [.dct []], hE.ext ex, r1, PostG.bind (PostG.ext q ex) fun ps M2 θ2 H2 xs e2 rr2 p2 q2 => ?_⟩
  split at q2
  · rename_i kvs hk hM
    split at q2
    · rename_i hl
      obtain ⟨a, ha, hr⟩ := rr2.addr hM
      have n2 := e2.pre _ _ n1
      rw [n2] at ha
      cases ha
      obtain ⟨ws, h1, h2⟩ := hr
      cases h2
      obtain ⟨us, eu, ru⟩ := p2.keys hk
      have fr : Free _ H2 p := free_of n2 h1 (fun _ z => by cases z) (fun _ _ z => by cases z)
      exact ⟨h1, us, eu, by rw [ru.length]; exact hl, q2 θ2 _ _ (Ext.upd fr) (rr2.put n2 fr ⟨_, upd_same, (RpK.merge ru .nil).ext (Ext.upd fr)⟩) (.ob n2)⟩
    · exact q2.elim
  · exact q2.elim
theorem xps_nil : RPs X cl W pos [] [] [] := pps_nil
theorem xps_cons {k v : Expr} {fk fv : Den D} {ks : List (Option Expr)} {vs : List Expr} {fs : List (Den D × Den D)} (hk : RD X cl W k fk) (hv : RD X cl W v fv) (hr : RPs X cl W pos ks vs fs) : RPs X cl W pos (some k :: ks) (v :: vs) ((fk, fv) :: fs) := pps_cons hk hv hr
end
end RI

/-! raise C(e, ..), C with an __init__ of its own -/
namespace RI
open PySem PySem.Spec PyProof.Rows L2
/-! ### the store cut back -/
mutual
def belowD (n : Nat) : D → Bool
  | .ob k => decide (k < n)
  | .tup ds => belowA n ds
  | .clo _ θ _ => decide (θ.length ≤ n)
  | _ => true
def belowA (n : Nat) : List D → Bool
  | [] => true
  | d :: r => belowD n d && belowA n r
end
section
variable {K : PySem.W.Frag} {cl : ClsA} {θ θ' : List Addr} {H H' H2 : Hp}
mutual
theorem Rp.blw : ∀ {v : V} {d : D}, Rp K θ H v d → belowD θ.length d = true
  | _, _, .non => rfl
  | _, _, .bl b => rfl
  | _, _, .int i => rfl
  | _, _, .str x => rfl
  | _, _, .tup h hs => RpA.blw hs
  | _, _, .ob h => decide_eq_true (List.getElem?_eq_some_iff.mp h).1
  | _, _, .clo (θ0 := θ0) e => decide_eq_true (by
    cases hn : θ0.length with
    | zero => exact Nat.zero_le _
    | succ k =>
      have h1 : θ0[k]? = some θ0[k] := List.getElem?_eq_getElem (by omega)
      have := (List.getElem?_eq_some_iff.mp (e.pre _ _ h1)).1
      omega)
theorem RpA.blw : ∀ {vs : List V} {ds : List D}, RpA K θ H vs ds → belowA θ.length ds = true
  | _, _, .nil => rfl
  | _, _, .cons h hs => by
    unfold belowA
    rw [Rp.blw h, RpA.blw hs]
    rfl
end
/-- θ' is longer than θ; tuples of H' stand in H2 -/
structure Cut (K : PySem.W.Frag) (θ' : List Addr) (H' : Hp) (θ : List Addr) (H2 : Hp) : Prop where
  at_ : ∀ (n : Nat) (a : Addr), n < θ.length → θ'[n]? = some a → θ[n]? = some a
  tup : ∀ (a : Addr) (vs : List V), TupX K H' a vs → TupX K H2 a vs
  sub : ∀ b, b ∈ θ → b ∈ θ'
  oth : ∀ (b : Addr) (u : HO), b ∉ θ' → H' b = some u → H2 b = some u
mutual
theorem Rp.cut (c : Cut K θ' H' θ H2) : ∀ {v : V} {d : D}, Rp K θ' H' v d → belowD θ.length d = true → Rp K θ H2 v d
  | _, _, .non, _ => .non
  | _, _, .bl b, _ => .bl b
  | _, _, .int i, _ => .int i
  | _, _, .str x, _ => .str x
  | _, _, .tup h hs, hb => .tup (c.tup _ _ h) (RpA.cut c hs hb)
  | _, _, .ob h, hb => .ob (c.at_ _ _ (of_decide_eq_true hb) h)
  | _, _, .clo e, hb => .clo ⟨fun n a h => c.at_ n a (Nat.lt_of_lt_of_le (List.getElem?_eq_some_iff.mp h).1 (of_decide_eq_true hb)) (e.pre n a h), fun a vs h => c.tup a vs (e.tup a vs h), fun b u h1 h2 =>
    let ⟨g1, g2⟩ := e.oth b u h1 h2
    ⟨fun hm => g1 (c.sub b hm), c.oth b u g1 g2⟩⟩
theorem RpA.cut (c : Cut K θ' H' θ H2) : ∀ {vs : List V} {ds : List D}, RpA K θ' H' vs ds → belowA θ.length ds = true → RpA K θ H2 vs ds
  | _, _, .nil, _ => .nil
  | _, _, .cons h hs, hb => by
    unfold belowA at hb
    rw [Bool.and_eq_true] at hb
    exact .cons (Rp.cut c h hb.1) (RpA.cut c hs hb.2)
end
def belowF (n : Nat) (fs : List (Str × D)) : Bool := fs.all fun f => belowD n f.2
theorem RpF.blw : ∀ {gs : List (Str × V)} {fs : List (Str × D)}, RpF K θ H gs fs → belowF θ.length fs = true
  | _, _, .nil => rfl
  | _, _, .cons h hs => by
    unfold belowF
    rw [List.all_cons, h.blw]
    exact RpF.blw hs
theorem RpF.cut (c : Cut K θ' H' θ H2) : ∀ {gs : List (Str × V)} {fs : List (Str × D)}, RpF K θ' H' gs fs → belowF θ.length fs = true → RpF K θ H2 gs fs
  | _, _, .nil, _ => .nil
  | _, _, .cons h hs, hb => by
    unfold belowF at hb
    rw [List.all_cons, Bool.and_eq_true] at hb
    exact .cons (h.cut c hb.1) (RpF.cut c hs hb.2)
def belowK (n : Nat) (fs : List (Key × D)) : Bool := fs.all fun f => belowD n f.2
theorem RpK.blw : ∀ {gs : List (Key × V)} {fs : List (Key × D)}, RpK K θ H gs fs → belowK θ.length fs = true
  | _, _, .nil => rfl
  | _, _, .cons h hs => by
    unfold belowK
    rw [List.all_cons, h.blw]
    exact RpK.blw hs
theorem RpK.cut (c : Cut K θ' H' θ H2) : ∀ {gs : List (Key × V)} {fs : List (Key × D)}, RpK K θ' H' gs fs → belowK θ.length fs = true → RpK K θ H2 gs fs
  | _, _, .nil, _ => .nil
  | _, _, .cons h hs, hb => by
    unfold belowK at hb
    rw [List.all_cons, Bool.and_eq_true] at hb
    exact .cons (h.cut c hb.1) (RpK.cut c hs hb.2)
theorem RpS.cut (c : Cut K θ' H' θ H2) {a : Addr} {o : SO} (old : RpS K cl θ H a o) (h : RpS K cl θ' H' a o) (k : ∀ u, H' a = some u → H2 a = some u) (pre : ∀ (n : Nat) (x : Addr), θ[n]? = some x → θ'[n]? = some x) : RpS K cl θ H2 a o := by
  cases o with
  | lst ds =>
    obtain ⟨vs, h1, h2⟩ := h
    obtain ⟨_, _, h3⟩ := old
    exact ⟨vs, k _ h1, h2.cut c h3.blw⟩
  | frl ds =>
    obtain ⟨o, vs, h1, h2⟩ := h
    obtain ⟨_, _, _, h3⟩ := old
    exact ⟨o, vs, k _ h1, h2.cut c h3.blw⟩
  | dct kvs =>
    obtain ⟨vs, h1, h2⟩ := h
    obtain ⟨_, _, h3⟩ := old
    exact ⟨vs, k _ h1, h2.cut c h3.blw⟩
  | ins cc fs =>
    obtain ⟨C, dx, gs, h0, h1, h2⟩ := h
    obtain ⟨_, _, _, _, _, h3⟩ := old
    exact ⟨C, dx, gs, h0, k _ h1, h2.cut c h3.blw⟩
  | exn cc d =>
    cases d with
    | none =>
      obtain ⟨C, h0, h1⟩ := h
      exact ⟨C, h0, k _ h1⟩
    | some m =>
      obtain ⟨C, dx, h0, h1, h2⟩ := h
      obtain ⟨_, dy, _, g1, _⟩ := old
      have e := pre _ _ g1
      rw [h1] at e
      cases e
      exact ⟨C, dx, h0, g1, k _ h2⟩
  | xdo fs =>
    obtain ⟨gs, h1, h2⟩ := h
    obtain ⟨_, _, h3⟩ := old
    exact ⟨gs, k _ h1, h2.cut c h3.blw⟩
  | tab P q =>
    obtain ⟨h0, ps, h1, h2, h3⟩ := h
    exact ⟨h0, ps, k _ h1, h2, fun pos cv hc => let ⟨x, e1, e2, e3⟩ := h3 pos cv hc; ⟨x, e1, fun hm => e2 (c.sub x hm), c.oth x _ e2 e3⟩⟩
end
/-! ### raise -/
open Classical in
noncomputable def raiseD (n : Nat) (c : Str) (g : List D → Store → Out D) (ds : List D) (ρ : Env1) (M : Store) : SOut :=
  if ds.length + 1 = n ∧ ds.length ≤ 1000 then (match g (.ob M.length :: ds) (M ++ [.exn c none]) with
    | .ok .non M' => (match M'.drop M.length with
      | [.exn c' (some m), .xdo fs] => if M'.take M.length = M ∧ c' = c ∧ m = M.length + 1 ∧ belowF M.length fs = true then .exc c fs ρ M else .no
      | _ => .no)
    | _ => .no) else .no
noncomputable def denRaise (fs : Den (List D)) (n : Nat) (c : Str) (g : List D → Store → Out D) : DenS := fun ρ M => bindS (fs ρ M) ρ fun ds M => raiseD n c g ds ρ M
theorem raiseD_of {n : Nat} {c : Str} {g : List D → Store → Out D} {ds : List D} {ρ : Env1} {M : Store} {K : PySem.W.Frag} {cl : ClsA} {W : WX} {E : Ends} {θ : List Addr} {H : Hp} (q : PostS K cl W E θ H (raiseD n c g ds ρ M)) :
    ds.length + 1 = n ∧ ds.length ≤ 1000 ∧ ∃ fs, g (.ob M.length :: ds) (M ++ [.exn c none]) = .ok .non (M ++ [.exn c (some (M.length + 1)), .xdo fs]) ∧ belowF M.length fs = true ∧ PostS K cl W E θ H (.exc c fs ρ M) ∧ raiseD n c g ds ρ M = .exc c fs ρ M := by
  have q0 := q
  unfold raiseD at q
  split at q
  case isFalse => exact q.elim
  rename_i hl
  split at q
  · rename_i M' hg
    split at q
    · rename_i c' m fs hd
      split at q
      · rename_i hc
        obtain ⟨h1, h2, h3, h4⟩ := hc
        subst h2
        subst h3
        have e : M' = M ++ [.exn c' (some (M.length + 1)), .xdo fs] := by
          have z := List.take_append_drop M.length M'
          rw [h1, hd] at z
          exact z.symm
        rw [e] at hg
        refine ⟨hl.1, hl.2, fs, hg, h4, q, ?_⟩
        unfold raiseD
        rw [if_pos hl, hg]
        simp [h4]
      · exact q.elim
    · exact q.elim
  · exact q.elim
section
variable {X : Cx} {cl : ClsA} {W : WX} {e : Expr} {es : List Expr} {fs : Den (List D)} {p pos pos' : Pos} {x c : Str} {C : Addr}
theorem rs_raiseX {k : Nat} {fI : Addr} {fd : FuncData} {ps : List Str} {g : List D → Store → Out D} (hcm : X.calm = true) (T : ExC X.K C) (hcl : cl c = some C) (iC : PySem.W.findIn X.K (.ref C) "__init__" = some (some (.ref fI))) (tI : PySem.W.typeIn X.K (.ref fI) = some (.type "function"))
    (F : FnG X.prog X.w X.K X.mg X.base cl k fI fd ps g) (hr : Room (k + 1) X.A) (hgd : X.A.guards = some []) (hb : Binds X.K fd ps []) (tk : Takes X W) (hg : Gl X x) (hm : X.mg x = some (.ref C)) (hdb : (x == ("__debug__" : Str)) = false)
    (ha : RA X cl W (e :: es) fs) (h1 : isStar e = false) (h2 : es.any isStar = false) : RS X cl W (.Raise (some (.Call (.Name x p) (e :: es) [] pos)) none pos') (denRaise fs ps.length c g) := by
  have pm : PMk X (.Call (.Name x p) (e :: es) [] pos) (fun σ H Q => ∃ θ ρ M, RelE X.K θ H σ ρ ∧ Rep X.K cl θ H M ∧ PostG X.K cl (RpA X.K) W (fun vs H1 => ∃ θ1 M1 ds, RelE X.K θ1 H1 σ ρ ∧ Rep X.K cl θ1 H1 M1 ∧ RpA X.K θ1 H1 vs ds ∧
      PostS X.K cl (fun cls d _ H' => Q cls d H') { nx := fun _ _ => False, rt := fun _ _ => False } θ1 H1 (raiseD ps.length c g ds ρ M1)) σ θ H (fs ρ M)) := by
    intro pins s σ H Q I q
    obtain ⟨θ, ρ, M, hE, r, q⟩ := q
    refine wpAny_Call_Name_kw (ld_glob I hg hm ?_ hdb)
    refine PySem.W.callWith_K (h₀ := X.base) I.ok.mod.kin T.kC ?_ (star_one e es X.env h1) (star_no pos X.env es h2)
    refine thn (ha.run pos pins s σ H _ I ⟨θ, ρ, M, hE, r, q⟩) fun us s1 ⟨vs, H1, I1, rv, θ1, M1, ds, hE1, r1, p1, q1⟩ => ⟨I1.kIn, ?_⟩
    obtain ⟨hl1, hl2, fsD, hgM, hbF, q2, _⟩ := raiseD_of q1
    obtain ⟨nm, qn, N, bs, rs, tail, sn, sub, ab, col, dd, k0, k1, k2, k3, k5, newId, bse, hC⟩ := T.cls
    obtain ⟨B, initId, FB⟩ := bse.fact
    obtain ⟨hp, g1, dr, tk1, os⟩ := s1
    have up : hp.objs.size ≤ hp.objs.size + 1 := Nat.le_succ _
    have n1 : H1 (hp.objs.size + 1) = none := I1.hok.fresh up
    have old : ∀ b o, hp.get? b = some o → ((hp.push (PySem.W.kdv_tup us)).push (PySem.HandSPX.excO C hp.objs.size)).get? b = some o :=
      fun b o z => Heap.get?_push_of_some _ (Heap.get?_push_of_some _ z)
    have new : ((hp.push (PySem.W.kdv_tup us)).push (PySem.HandSPX.excO C hp.objs.size)).get? (hp.objs.size + 1) = some (PySem.HandSPX.excO C hp.objs.size) := by heap_get
    generalize hA : hp.objs.size + 1 = a at *
    have I2 : Inv X pins σ (upd H1 a (exo a C none)) ⟨(hp.push (PySem.W.kdv_tup us)).push (PySem.HandSPX.excO C hp.objs.size), g1, dr, tk1, os⟩ :=
      I1.laid (t' := tk1) (a := a) (o := exo a C none) old up (exo_ok new)
    have ex2 : Ext X.K θ1 H1 (θ1 ++ [a]) (upd H1 a (exo a C none)) := Ext.new n1
    have r2 : Rep X.K cl (θ1 ++ [a]) (upd H1 a (exo a C none)) (M1 ++ [.exn c none]) := r1.new n1 ⟨C, hcl, upd_same⟩
    have at1 : (θ1 ++ [a])[M1.length]? = some a := by rw [← r1.len]; simp
    have rv2 : Vals (V.ref a :: vs) (Value.ref a :: us) := .cons rfl rv
    have lus : us.length = ds.length := by rw [← rv.length, p1.length]
    have bnd := hb ⟨(hp.push (PySem.W.kdv_tup us)).push (PySem.HandSPX.excO C hp.objs.size), g1, dr, tk1, os⟩ (Value.ref a :: us) I2.kIn (by rw [List.append_nil, List.length_cons, lus]; exact hl1)
    rw [List.append_nil] at bnd
    have hus : us.length ≤ sizeLine := by
      rw [lus, sizeLine_eq]
      omega
    have q3 : PostG X.K cl (Rp X.K) (fun _ _ _ _ => False) (fun v H2 => v = .non ∧ ∃ (d : Addr) (gs : List (Str × V)), H2 a = some (exo a C (some d)) ∧ H2 d = some (exd d gs) ∧ H1 d = none ∧ Q (.ref C) (some d) (upd (del H2 a) d (.xd gs))) [] (θ1 ++ [a]) (upd H1 a (exo a C none)) (g (.ob M1.length :: ds) (M1 ++ [.exn c none])) := by
      rw [hgM]
      intro θ' H' v ee rr pp
      cases pp
      refine ⟨rfl, ?_⟩
      have hn := ee.pre _ _ at1
      have rs1 := rr.at_ _ _ _ hn (show (M1 ++ [.exn c (some (M1.length + 1)), .xdo fsD])[M1.length]? = some (.exn c (some (M1.length + 1))) by simp)
      obtain ⟨C', dx, hC', hdx, hxa⟩ := rs1
      rw [hcl] at hC'
      cases hC'
      have rs2 := rr.at_ _ _ _ hdx (show (M1 ++ [.exn c (some (M1.length + 1)), .xdo fsD])[M1.length + 1]? = some (.xdo fsD) by simp)
      obtain ⟨gs, hxd, hgs⟩ := rs2
      have pre1 : ∀ (n : Nat) (b : Addr), θ1[n]? = some b → θ'[n]? = some b := fun n b h => ee.pre n b (ex2.pre n b h)
      have ane : a ≠ dx := fun z => by
        subst z
        have := nd_ix rr.nd hn hdx
        omega
      have dxn : dx ∉ θ1 := fun hm => by
        obtain ⟨n, hn2⟩ := List.getElem?_of_mem hm
        have := nd_ix rr.nd (pre1 _ _ hn2) hdx
        have hl := (List.getElem?_eq_some_iff.mp hn2).1
        rw [r1.len] at hl
        omega
      have ann : a ∉ θ1 := r1.out n1
      have hd1 : H1 dx = none := by
        cases z : H1 dx with
        | none => rfl
        | some u =>
          have q := ee.oth dx u (fun hm => by
            rcases List.mem_append.mp hm with h | h
            · exact dxn h
            · exact ane (List.mem_singleton.mp h).symm) (by rw [upd_ne (Ne.symm ane)]; exact z)
          exact absurd (List.mem_of_getElem? hdx) q.1
      have same : ∀ b, b ≠ a → b ≠ dx → upd (del H' a) dx (.xd gs) b = H' b := fun b e1 e2 => by rw [upd_ne e2, del_ne e1]
      have tupK : ∀ (b : Addr) (ws : List V), TupX X.K H' b ws → TupX X.K (upd (del H' a) dx (.xd gs)) b ws := fun b ws h => by
        obtain ⟨u, h, t⟩ := h
        have e1 : b ≠ a := fun z => by
          rw [z, hxa] at h
          cases h
        have e2 : b ≠ dx := fun z => by
          rw [z, hxd] at h
          cases h
        exact ⟨u, by rw [same b e1 e2]; exact h, t⟩
      have cut : Cut X.K θ' H' θ1 (upd (del H' a) dx (.xd gs)) := ⟨fun n b hn2 hb => by
        obtain ⟨b', hb'⟩ : ∃ b', θ1[n]? = some b' := ⟨_, List.getElem?_eq_getElem hn2⟩
        have := pre1 _ _ hb'
        rw [hb] at this
        cases this
        exact hb', tupK, fun b hm => by
        obtain ⟨n, hn2⟩ := List.getElem?_of_mem hm
        exact List.mem_of_getElem? (pre1 _ _ hn2), fun b u nb hu => by
        rw [same b (fun z => nb (z ▸ List.mem_of_getElem? hn)) (fun z => nb (z ▸ List.mem_of_getElem? hdx))]
        exact hu⟩
      refine ⟨dx, gs, hxa, hxd, hd1, ?_⟩
      have ext3 : Ext X.K θ1 H1 θ1 (upd (del H' a) dx (.xd gs)) := ⟨fun _ _ h => h, fun b ws h => tupK b ws (ee.tup b ws (ex2.tup b ws h)), fun b u hb he => by
        have e1 : b ≠ a := fun z => by rw [z, n1] at he; cases he
        have e2 : b ≠ dx := fun z => by rw [z, hd1] at he; cases he
        refine ⟨hb, ?_⟩
        rw [same b e1 e2]
        exact (ee.oth b u (fun hm => by
          rcases List.mem_append.mp hm with h | h
          · exact hb h
          · exact e1 (List.mem_singleton.mp h)) (by rw [upd_ne e1]; exact he)).2⟩
      have rep3 : Rep X.K cl θ1 (upd (del H' a) dx (.xd gs)) M1 := ⟨r1.len, r1.nd, fun n b o h3 h4 => by
        have hl := (List.getElem?_eq_some_iff.mp h4).1
        refine (r1.at_ n b o h3 h4).cut cut (rr.at_ n b o (pre1 _ _ h3) (by rw [List.getElem?_append_left hl]; exact h4)) (fun u hu => ?_) pre1
        rw [same b (fun z => ann (z ▸ List.mem_of_getElem? h3)) (fun z => dxn (z ▸ List.mem_of_getElem? h3))]
        exact hu, fun b ps hb => by
        by_cases e2 : b = dx
        · rw [e2, upd_same] at hb
          cases hb
        · by_cases e1 : b = a
          · rw [upd_ne e2, e1] at hb
            simp [del] at hb
          · rw [same b e1 e2] at hb
            obtain ⟨n, hn2⟩ := List.getElem?_of_mem (rr.tb b ps hb)
            have hl := (List.getElem?_eq_some_iff.mp hn2).1
            rw [rr.len, List.length_append] at hl
            by_cases c1 : n < θ1.length
            · have h1 : θ1[n]? = some θ1[n] := List.getElem?_eq_getElem c1
              have := pre1 _ _ h1
              rw [hn2] at this
              cases this
              exact List.getElem_mem c1
            · have c2 : n = M1.length ∨ n = M1.length + 1 := by
                rw [r1.len] at c1
                simp at hl
                omega
              rcases c2 with rfl | rfl
              · rw [hn] at hn2
                exact absurd (Option.some.inj hn2).symm e1
              · rw [hdx] at hn2
                exact absurd (Option.some.inj hn2).symm e2⟩
      exact q2 θ1 _ σ C (some dx) ext3 rep3 (hE1.ext ext3) hcl (.inr ⟨dx, gs, rfl, upd_same, hgs.cut cut (by rw [r1.len]; exact hbF), dxn⟩)
    refine wpAny_call (PySem.HandSPX.call_own FB (fun Y => ExG.refs_has Y tail rs) (I1.kIn _ _ hC) (PySem.W.looks_findIn I1.kIn iC) (fun self => PySem.W.bind_fn I1.kIn self tI) hus ?_)
    rw [hA]
    refine codeAny_mono (F _ X.stack _ _ ⟨Value.ref a :: us, []⟩ (Value.ref a :: us) (V.ref a :: vs) (θ1 ++ [a]) (M1 ++ [.exn c none]) (.ob M1.length :: ds) _ (fun _ _ _ => False) (hr.make C us []) hgd (I2.env0.make C us []) bnd rv2 r2
      (.cons (.ob at1) (p1.ext ex2)) (by rw [List.length_cons]; exact hl1) q3) fun r' s' z => ?_
    cases r' with
    | error er =>
      obtain ⟨_, _, _, _, _, _, _, _, _, _, _, _, z⟩ := z
      exact z.elim
    | ok fl =>
      cases fl with
      | ret u =>
        obtain ⟨v, H2, os2, bare2, un2, hok2, rv', ev, d, gs, ea, ed, hd1, q4⟩ := z
        subst ev
        obtain ⟨h2', g2, d2, t2, os'⟩ := s'
        exact ⟨rv', mk_end (raises_own T.exC T.tyC) I1 up old un2 hok2 os2 bare2 ea ed hd1 q4⟩
      | next => exact False.elim z
      | brk => exact False.elim z
      | cont => exact False.elim z
  exact PS.imp (ps_raise hcm tk pm) fun E σ H q => by
    obtain ⟨θ, ρ, M, hE, r, q⟩ := q
    refine ⟨θ, ρ, M, hE, r, PostS.bind (Rv := RpA X.K) q hE fun ds M1 θ1 H1 vs e1 r1 p1 q1 => ⟨θ1, M1, ds, hE.ext e1, r1, p1, ?_⟩⟩
    obtain ⟨_, _, fs', hg', hb', q5, e5⟩ := raiseD_of q1
    rw [e5]
    exact fun θ' H' σ' C dd ee rr _ hc hx => q5 θ' H' σ C dd ee rr ((hE.ext e1).ext ee) hc hx
end
end RI

/-! try .. except C as e -/
namespace RI
open PySem PySem.Spec PyProof.Rows L2
theorem XAt.ext {K : PySem.W.Frag} {θ θ' : List Addr} {H H' : Hp} {d : Option Addr} {fs : List (Str × D)} (h : XAt K θ H d fs) (e : Ext K θ H θ' H') : XAt K θ' H' d fs := by
  rcases h with h | ⟨dx, gs, h1, h2, h3, h4⟩
  · exact .inl h
  · obtain ⟨g1, g2⟩ := e.oth dx _ h4 h2
    exact .inr ⟨dx, gs, h1, g2, h3.ext e, g1⟩
section
variable {α β : Type} (K : PySem.W.Frag) (cl : ClsA)
/-- readings in an except suite: e stands in slot i, is a, its dict is d and holds fs -/
def rdJ (Rv : List Addr → Hp → β → α → Prop) (i : Nat) (a : Addr) (d : Option Addr) (fs : List (Str × D)) (f : Den α) (σ : L2.St) (H : Hp) (Q : β → Hp → Prop) : Prop :=
  σ[i]? = some (some (.ref a)) ∧ ∃ θ ρ M, XAt K θ H d fs ∧ RelE K θ H σ ρ ∧ Rep K cl θ H M ∧ PostG K cl Rv WF Q σ θ H (f ρ M)
def rdSJ (i : Nat) (a : Addr) (d : Option Addr) (fs : List (Str × D)) (g : DenS) : TS := fun E σ H =>
  σ[i]? = some (some (.ref a)) ∧ ∃ θ ρ M, XAt K θ H d fs ∧ RelE K θ H σ ρ ∧ Rep K cl θ H M ∧ PostS K cl WF E θ H (g ρ M)
end
abbrev JD (X : Cx) (cl : ClsA) (i : Nat) (a : Addr) (d : Option Addr) (fs : List (Str × D)) (e : Expr) (f : Den D) : Prop := PE X e (rdJ X.K cl (Rp X.K) i a d fs f)
abbrev JA (X : Cx) (cl : ClsA) (i : Nat) (a : Addr) (d : Option Addr) (fs : List (Str × D)) (e : List Expr) (f : Den (List D)) : Prop := PA X e (rdJ X.K cl (RpA X.K) i a d fs f)
abbrev JB (X : Cx) (cl : ClsA) (i : Nat) (a : Addr) (d : Option Addr) (fs : List (Str × D)) (e : List Stmt) (g : DenS) : Prop := PSs X e (rdSJ X.K cl i a d fs g)
section
variable {X : Cx} {cl : ClsA} {G : Glo} {i j : Nat} {a : Addr} {d : Option Addr} {fs : List (Str × D)} {e e2 : Expr} {es rest : List Expr} {f g : Den D} {ff : Den (List D)} {pos p p2 : Pos}
theorem j_of (h : RD X cl WF e f) : JD X cl i a d fs e f := PE.imp h fun σ H Q q => by
  obtain ⟨_, θ, ρ, M, _, hE, r, q⟩ := q
  exact ⟨θ, ρ, M, hE, r, q⟩
theorem j_nil : JA X cl i a d fs [] denNil := PA.imp ra_nil fun σ H Q q => by
  obtain ⟨_, θ, ρ, M, _, hE, r, q⟩ := q
  exact (⟨θ, ρ, M, hE, r, q⟩ : rdA cl WF X.K denNil σ H Q)
theorem j_cons (h : JD X cl i a d fs e f) (hr : JA X cl i a d fs es ff) (hs : isStar e = false := by rfl) : JA X cl i a d fs (e :: es) (denCons f ff) := PA.imp (pa_cons h hr (star_one e es X.env hs)) fun σ H Q q => by
  obtain ⟨sl, θ, ρ, M, xa, hE, r, q⟩ := q
  refine ⟨sl, θ, ρ, M, xa, hE, r, PostG.bind q fun x M1 θ1 H1 v e1 r1 p1 q1 => ?_⟩
  refine ⟨sl, θ1, ρ, M1, xa.ext e1, hE.ext e1, r1, PostG.bind q1 fun xs M2 θ2 H2 vs e2 r2 p2 q2 => ?_⟩
  exact q2.ok_ r2 (.cons (p1.ext e2) p2)
theorem j_lst (h : JA X cl i a d fs es ff) : JD X cl i a d fs (.List es pos) (denLst ff) := PE.imp (pe_lst h) fun σ H Q q => by
  obtain ⟨sl, θ, ρ, M, xa, hE, r, q⟩ := q
  refine ⟨sl, θ, ρ, M, xa, hE, r, PostG.bind q fun xs M1 θ1 H1 vs e1 r1 p1 q1 => ?_⟩
  exact newL_ok r1 p1 q1
end
section
variable {X : Cx} {cl : ClsA} {G : Glo} {i j : Nat} {a : Addr} {oe : Obj} {pn : List (Addr × Obj)} {d : Option Addr} {fs : List (Str × D)} {C : Addr} {c f : Str} {e : Expr} {pos p p2 : Pos} {x c' : Str}
/-- e.f of the error -/
def denXf (fs : List (Str × D)) (f : Str) : Den D := fun _ M => Out.of (fs.lookup f) M
theorem j_attr (T : ExC X.K C) (hz : Zc (.ref C) d oe) (hf : ∃ vs, oe.data = .fields vs) (hno : PySem.W.findIn X.K (.ref C) f = some none) (hN : X.N[i]? = some x) (hv : Vis X.env.scope x) (hd : (x == ("__debug__" : Str)) = false) (hcd : (x == ("__classdict__" : Str)) = false)
    (hb : attributeBase (.Name x p) f X.env (eval (.Name x p) X.env) = eval (.Name x p) X.env := by rfl) : JD (X.suite a ((a, oe) :: pn)) cl i a d fs (.Attribute (.Name x p) f pos) (denXf fs f) :=
  PE.imp (pe_xf (X := X) (a := a) (C := C) (oe := oe) (cls := .ref C) (d := d) (pn := pn) ⟨T.ga, T.gg, T.exC, T.hd⟩ hno hz hf (pe_var (X := X.suite a ((a, oe) :: pn)) (i := i) hN hv hd hcd) hb) fun σ H Q q => by
  obtain ⟨sl, θ, ρ, M, xa, hE, r, q⟩ := q
  unfold denXf at q
  cases hl : fs.lookup f with
  | none =>
    rw [hl] at q
    exact q.elim
  | some y =>
    rw [hl] at q
    rcases xa with ⟨h1, _⟩ | ⟨dx, gs, h1, h2, h3, _⟩
    · rw [h1] at hl
      cases hl
    · obtain ⟨v, g1, g2⟩ := h3.look hl
      exact ⟨_, sl, rfl, rfl, dx, gs, v, h1, h2, g1, q.ok_ r g2⟩
/-- isinstance(e, k), e the error -/
def denXi (b : Option Bool) : Den D := fun _ M => Out.of (b.map D.bl) M
/-! ### suites -/
theorem jb_nil : JB X cl i a d fs [] denNx := PSs.imp pss_nil fun E σ H q => by
  obtain ⟨_, θ, ρ, M, _, hE, r, q⟩ := q
  exact q θ H σ .refl r hE
theorem jb_set {j : Nat} {y : Str} {py : Pos} {rest : List Stmt} {fe : Den D} {g : DenS} (hN : X.N.Nodup) (he : JD X cl i a d fs e fe) (hr : JB X cl i a d fs rest g) (hij : i ≠ j) (hy : X.N[j]? = some y) (hyl : Loc X.env.scope y) (hff : X.fn y = true ∨ X.env.scope.names.lookup y = some .local)
    (hs : swapsWith e (some (.Name y py)) pos.line X.env = pure false) : JB X cl i a d fs (.Assign [.Name y py] e pos :: rest) (denSeq (denAsg fe (.name j)) g) :=
  PSs.imp (pss_cons (ps_set hN hy hyl he hs hff) hr) fun E σ H q => by
  obtain ⟨sl, θ, ρ, M, xa, hE, r, q⟩ := q
  have q' : PostS X.K cl WF E θ H (bindS (fe ρ M) ρ fun v M' => g (ρ.set j (some v)) M') := by
    have e0 : (denSeq (denAsg fe (.name j)) g) ρ M = bindS (fe ρ M) ρ fun v M' => g (ρ.set j (some v)) M' := by
      unfold denSeq denAsg
      cases fe ρ M with
      | ok v M' => rfl
      | exc _ _ _ => rfl
      | no => rfl
    rw [← e0]
    exact q
  refine ⟨sl, θ, ρ, M, xa, hE, r, PostS.bind q' hE fun v M1 θ1 H1 w e1 r1 p1 q1 => ?_⟩
  refine ⟨?_, θ1, _, M1, xa.ext e1, (hE.ext e1).set p1 j, r1, q1⟩
  rw [List.getElem?_set_ne (Ne.symm hij)]
  exact sl
end
/-! ### the statement -/
def unsetE (i : Nat) (o : SOut) : SOut := match o with
  | .fl f ρ M => .fl f (ρ.set i none) M
  | _ => .no
def denTry (i : Nat) (em : Str → Option Bool) (g : DenS) (sg : Str → List (Str × D) → DenS) : DenS := fun ρ M => match g ρ M with
  | .exc c fs ρ1 M1 => (match em c with
    | some true => if i < ρ1.length then unsetE i (sg c fs (ρ1.set i none) M1) else .no
    | some false => .exc c fs ρ1 M1
    | none => .no)
  | o => o
theorem RelE.unset {K : PySem.W.Frag} {θ : List Addr} {H : Hp} {σ : L2.St} {ρ : Env1} (h : RelE K θ H σ ρ) (i : Nat) (x : Option V) : RelE K θ H (σ.set i x) (ρ.set i none) := by
  refine ⟨by rw [List.length_set, List.length_set]; exact h.len, fun j d e => ?_⟩
  by_cases hj : j = i
  · subst hj
    by_cases hl : j < ρ.length
    · rw [List.getElem?_set_self hl] at e
      cases e
    · rw [List.getElem?_eq_none_iff.mpr (by rw [List.length_set]; omega)] at e
      cases e
  · rw [List.getElem?_set_ne (Ne.symm hj)] at e
    obtain ⟨v, h1, h2⟩ := h.at_ j d e
    exact ⟨v, by rw [List.getElem?_set_ne (Ne.symm hj)]; exact h1, h2⟩
end RI

/-! enumerate of a tuple -/
namespace PySem
namespace EnT
open Sem (wp)
open AutoSeq1 (wpAny_loadPart')
theorem meets_new (l : Addr) (items : Array Value) (n : Nat) (dct : Option Addr) (sl : Array (Option Value)) :
    Meets (Builtin.«enumerate.__new__» ⟨[.type "enumerate", .ref l], []⟩) (fun _ R s => s.heap.get? l = some { cls := .type "tuple", dict := dct, data := .seq items n, slots := sl } ∧
      R (.ok (.ret (.ref (s.heap.push { cls := .type "tuple_iterator", data := .fields #[.ref l, .int 0 0] }).objs.size)))
        { s with heap := (s.heap.push { cls := .type "tuple_iterator", data := .fields #[.ref l, .int 0 0] }).push { cls := .type "enumerate", data := .fields #[.none, .bool false, .ref s.heap.objs.size, rawInt 0, .none, .none] } }) :=
  .of_wp fun prog w A R s h => by
    obtain ⟨hp, g, d, tk, os⟩ := s
    obtain ⟨hl, h⟩ := h
    have hsub := sub_enumerate
    have hL : Heap.IsTuple (Shared.heap ⟨hp, g, d, tk, os⟩) l items := ⟨_, hl, rfl, n, rfl⟩
    wp_walk using wpAny_loadPart' hl
    refine wpAny_stack_any fun st => wpAny_pure ?_
    split
    · rename_i c _ _ _ _ _
      cases (c == Value.type "enumerate")
      · wp_walk using wpAny_loadPart' hl, wpAny_pyIter_tuple hL
        exact ⟨_, rfl, h⟩
      · wp_walk using wpAny_loadPart' hl, wpAny_pyIter_tuple hL
        exact ⟨_, rfl, h⟩
    · wp_walk using wpAny_loadPart' hl, wpAny_pyIter_tuple hL
      exact ⟨_, rfl, h⟩
theorem call_new {prog : Program} {w : World} {A : Around} {E : Value → Shared → Prop} {s : Shared} {l : Addr} {items : Array Value} {Q : Value → Shared → Prop} (hL : s.heap.IsTuple l items)
    (h : ∀ h', IsEnum h' (s.heap.objs.size + 1) s.heap.objs.size 0 .none → h'.IsTupleIter s.heap.objs.size l 0 → h'.objs.size = s.heap.objs.size + 2 →
      (∀ b o, s.heap.get? b = some o → h'.get? b = some o) → Q (.ref (s.heap.objs.size + 1)) { s with heap := h' }) :
    wpAny (model prog w) A (call (.type "enumerate") [.ref l]) Q E s := by
  obtain ⟨⟨c, dct, dt, sl⟩, hl, hc, n, hd⟩ := hL
  dsimp only at hc hd
  subst hc
  subst hd
  refine callType_new F.called_enumerate (by decide) (F.typeCall_enumerate_1 _) (F.newCall_enumerate_1 _) (fun obj => F.args_object_init_2 obj _) F.entry_enumerate_new
    (meets_new l items n dct sl) ⟨hl, ?_⟩
  have hz : (s.heap.push { cls := .type "tuple_iterator", data := .fields #[.ref l, .int 0 0] }).objs.size = s.heap.objs.size + 1 := Heap.size_push ..
  show _ ∧ _
  rw [hz]
  have he : IsEnum ((s.heap.push { cls := .type "tuple_iterator", data := .fields #[.ref l, .int 0 0] }).push
      { cls := .type "enumerate", data := .fields #[.none, .bool false, .ref s.heap.objs.size, rawInt 0, .none, .none] }) (s.heap.objs.size + 1) s.heap.objs.size 0 .none := by
    have := Heap.get?_push_size (s.heap.push { cls := .type "tuple_iterator", data := .fields #[.ref l, .int 0 0] })
      (o := { cls := .type "enumerate", data := .fields #[.none, .bool false, .ref s.heap.objs.size, rawInt 0, .none, .none] }) rfl
    rw [hz] at this
    exact this
  exact ⟨⟨_, he, rfl⟩, h _ he ⟨_, Heap.get?_push_of_some _ (Heap.get?_push_size _ rfl), rfl, rfl⟩ (by rw [Heap.size_push, hz]) fun b o x => Heap.get?_push_of_some _ (Heap.get?_push_of_some _ x)⟩
end EnT
end PySem
namespace RI
open PySem PySem.Spec PyProof.Rows L2
/-- the tuple at a, each item in a new pair -/
def Iet (K : PySem.W.Frag) (a : Addr) (n : Nat) : It :=
  ⟨fun i H => i < n ∧ ∃ (xs : List V) (x : V), SqT K H a xs ∧ xs.length = n ∧ xs[i]? = some x, fun i H v H' => ∃ T x, v = .ref T ∧ H T = none ∧ (∃ o, TObj o ∧ H' = upd H T (.frz o (.tup [.int (i : Nat), x]))) ∧ ∀ xs, SqT K H a xs → xs[i]? = some x, fun i H => n ≤ i ∧ ∃ xs : List V, SqT K H a xs ∧ xs.length = n⟩
theorem turn_enT {P : Program} {w : World} {K : PySem.W.Frag} {elts : List Expr} {kk : Nat} {tpos : Pos} (a e it : Addr) (its : Array Value) (hne : e ≠ it) (hat : a ≠ it) (hae : e ≠ a) :
    Turn P w K (.Tuple elts kk tpos) (Iet K a its.size) [e, it] e (fun i h => i ≤ its.size ∧ (∃ old, IsEnum h e it ((i : Nat) : Int) old) ∧ h.IsTupleIter it a i) where
  mem := by simp
  obj := fun i h st b hb => by
    obtain ⟨_, ⟨old, he⟩, ⟨o, ho, hc, hd⟩⟩ := st
    have e' : b = e ∨ b = it := by simpa using hb
    rcases e' with z | z
    · rw [z]; exact ⟨_, he, fun v q => nomatch q⟩
    · rw [z]; exact ⟨o, ho, fun v q => by rw [hd] at q; cases q⟩
  keep := fun i h h' st k => let ⟨hl, ⟨old, he⟩, hi⟩ := st; ⟨hl, ⟨old, k e (by simp) _ he⟩, hi.at fun o q => k it (by simp) o q⟩
  item := by
    intro X hP hw hK hc i pins s σ H E I hf st hg
    subst hP hw hK
    obtain ⟨_, ⟨old, he⟩, hit⟩ := st
    obtain ⟨hlt, xs, x, hq, hxl, hx⟩ := hg
    obtain ⟨us, rv, p, hz⟩ := I.tuple hq
    obtain ⟨u, hu, ru⟩ := rv.get hx
    have hel : e < s.heap.objs.size := Heap.lt_size he
    have hil : it < s.heap.objs.size := by obtain ⟨_, q, _⟩ := hit; exact Heap.lt_size q
    have hsz2 : us.toArray.size = its.size := by rw [List.size_toArray, ← rv.length, hxl]
    refine wpAny_pyNext_enum_itemD (Draws.tuple (A := X.A.in1) (show X.A.in1.handled = none from I.ok.hd hc) it a hat us.toArray) he ⟨hit, p⟩ (by rw [hsz2]; exact hlt) hne (by simp [hne, hae]) fun x' h' tk hx' ho hst' hT hsz hk => ?_
    have ex : x' = u := by
      have q : us.toArray[i]? = some u := by simpa using hu
      rw [q] at hx'
      exact (Option.some.inj hx').symm
    subst ex
    obtain ⟨hit', _⟩ := hst'
    refine ⟨_, rfl, wpAny_letOwnedTupleGo_enum (s := { s with heap := h', toks := tk + 1 }) ho fun h'' he' sb => ?_⟩
    have hT2 : h''.get? s.heap.objs.size = some { cls := .type "tuple", data := .seq #[.int i tk, x'] } := (sb.2 _ (Nat.ne_of_gt hel)).trans hT
    obtain ⟨ob, hob⟩ : ∃ ob : Obj, ob = { cls := .type "tuple", data := .seq #[.int i tk, x'] } := ⟨_, rfl⟩
    rw [← hob] at hT2
    have new : ObjOk X.prog X.w (upd H s.heap.objs.size (.frz ob (.tup [.int (i : Nat), x]))) h'' s.heap.objs.size (.frz ob (.tup [.int (i : Nat), x])) :=
      ⟨hT2, by show 2 ≤ sizeLine; decide, [.int i tk, x'], .cons ⟨_, rfl⟩ (.cons ru .nil), ⟨_, hT2, by rw [hob], _, by rw [hob]⟩⟩
    have I1 : Inv X pins σ (upd H s.heap.objs.size (.frz ob (.tup [.int (i : Nat), x]))) { s with heap := h'', toks := tk + 1 } :=
      I.turnedNew (ch := [e, it]) (fun b ob hb q => (sb.2 b (fun z => hb (by simp [z]))).trans (hk b ob (fun z => hb (by simp [z])) (fun z => hb (by simp [z])) q)) hf (Nat.le_refl _) new
    refine ⟨.ref s.heap.objs.size, _, I1, rfl, ⟨_, x, rfl, I.hok.fresh (Nat.le_refl _), ⟨ob, by rw [hob]; exact ⟨rfl, rfl⟩, rfl⟩, fun ys hy => by rw [I.tuple_inj hy hq]; exact hx⟩, ⟨hlt, ⟨x', ?_⟩, hit'.at fun o q => (sb.2 it (Ne.symm hne)).trans q⟩, fun b hb => ?_⟩
    · have e1 : ((i + 1 : Nat) : Int) = (i : Int) + 1 := by omega
      rw [e1]
      exact he'
    · have hb' : b < s.heap.objs.size := by
        have e' : b = e ∨ b = it := by simpa using hb
        rcases e' with z | z
        · rw [z]; exact hel
        · rw [z]; exact hil
      rw [upd_ne (Nat.ne_of_lt hb')]
      exact (hf b hb).1
  done := by
    intro X hP hw hK hc i pins s σ H E I hf st hg
    subst hP hw hK
    obtain ⟨hle, ⟨old, he⟩, hit⟩ := st
    obtain ⟨hge, xs, hq, hxl⟩ := hg
    obtain ⟨us, rv, p, hz⟩ := I.tuple hq
    have hsz2 : us.toArray.size = its.size := by rw [List.size_toArray, ← rv.length, hxl]
    obtain ⟨f0, f1, f2, f3, f4, f5⟩ := hf it (by simp)
    have ei : i = us.toArray.size := by omega
    subst ei
    exact wpAny_pyNext_enum_endD (Draws.tuple (A := X.A.in1) (show X.A.in1.handled = none from I.ok.hd hc) it a hat us.toArray) he ⟨hit, p⟩ fun h' eb => ⟨rfl, I.turned (t' := s.toks) (fun b o hb q => eb b o hb q) f0 f1 f3 f4 f5⟩
  self := fun A i s Q E st h => let ⟨_, ⟨_, he⟩, _⟩ := st; wpAny_pyIter_enum he h
/-- the list at a, each item in a new pair -/
def Iel (K : PySem.W.Frag) (a : Addr) (n : Nat) : It :=
  ⟨fun i H => i < n ∧ ∃ (xs : List V) (x : V), SqL K H a xs ∧ xs.length = n ∧ xs[i]? = some x, fun i H v H' => ∃ T x, v = .ref T ∧ H T = none ∧ (∃ o, TObj o ∧ H' = upd H T (.frz o (.tup [.int (i : Nat), x]))) ∧ ∀ xs, SqL K H a xs → xs[i]? = some x, fun i H => n ≤ i ∧ ∃ xs : List V, SqL K H a xs ∧ xs.length = n⟩
theorem turn_enL {P : Program} {w : World} {K : PySem.W.Frag} {elts : List Expr} {kk : Nat} {tpos : Pos} (a e it : Addr) (its : Array Value) (hne : e ≠ it) (hat : a ≠ it) (hae : e ≠ a) :
    Turn P w K (.Tuple elts kk tpos) (Iel K a its.size) [e, it] e (fun i h => i ≤ its.size ∧ (∃ old, IsEnum h e it ((i : Nat) : Int) old) ∧ h.IsListIter it a i) where
  mem := by simp
  obj := fun i h st b hb => by
    obtain ⟨_, ⟨old, he⟩, ⟨o, ho, hc, hd⟩⟩ := st
    have e' : b = e ∨ b = it := by simpa using hb
    rcases e' with z | z
    · rw [z]; exact ⟨_, he, fun v q => nomatch q⟩
    · rw [z]; exact ⟨o, ho, fun v q => by rw [hd] at q; cases q⟩
  keep := fun i h h' st k => let ⟨hl, ⟨old, he⟩, hi⟩ := st; ⟨hl, ⟨old, k e (by simp) _ he⟩, hi.at fun o q => k it (by simp) o q⟩
  item := by
    intro X hP hw hK hc i pins s σ H E I hf st hg
    subst hP hw hK
    obtain ⟨_, ⟨old, he⟩, hit⟩ := st
    obtain ⟨hlt, xs, x, hq, hxl, hx⟩ := hg
    obtain ⟨us, rv, p, hz⟩ := I.list hq
    obtain ⟨u, hu, ru⟩ := rv.get hx
    have hel : e < s.heap.objs.size := Heap.lt_size he
    have hil : it < s.heap.objs.size := by obtain ⟨_, q, _⟩ := hit; exact Heap.lt_size q
    have hsz2 : us.toArray.size = its.size := by rw [List.size_toArray, ← rv.length, hxl]
    refine wpAny_pyNext_enum_itemD (Draws.list (A := X.A.in1) (show X.A.in1.handled = none from I.ok.hd hc) it a hat us.toArray) he ⟨hit, p.isList⟩ (by rw [hsz2]; exact hlt) hne (by simp [hne, hae]) fun x' h' tk hx' ho hst' hT hsz hk => ?_
    have ex : x' = u := by
      have q : us.toArray[i]? = some u := by simpa using hu
      rw [q] at hx'
      exact (Option.some.inj hx').symm
    subst ex
    obtain ⟨hit', _⟩ := hst'
    refine ⟨_, rfl, wpAny_letOwnedTupleGo_enum (s := { s with heap := h', toks := tk + 1 }) ho fun h'' he' sb => ?_⟩
    have hT2 : h''.get? s.heap.objs.size = some { cls := .type "tuple", data := .seq #[.int i tk, x'] } := (sb.2 _ (Nat.ne_of_gt hel)).trans hT
    obtain ⟨ob, hob⟩ : ∃ ob : Obj, ob = { cls := .type "tuple", data := .seq #[.int i tk, x'] } := ⟨_, rfl⟩
    rw [← hob] at hT2
    have new : ObjOk X.prog X.w (upd H s.heap.objs.size (.frz ob (.tup [.int (i : Nat), x]))) h'' s.heap.objs.size (.frz ob (.tup [.int (i : Nat), x])) :=
      ⟨hT2, by show 2 ≤ sizeLine; decide, [.int i tk, x'], .cons ⟨_, rfl⟩ (.cons ru .nil), ⟨_, hT2, by rw [hob], _, by rw [hob]⟩⟩
    have I1 : Inv X pins σ (upd H s.heap.objs.size (.frz ob (.tup [.int (i : Nat), x]))) { s with heap := h'', toks := tk + 1 } :=
      I.turnedNew (ch := [e, it]) (fun b ob hb q => (sb.2 b (fun z => hb (by simp [z]))).trans (hk b ob (fun z => hb (by simp [z])) (fun z => hb (by simp [z])) q)) hf (Nat.le_refl _) new
    refine ⟨.ref s.heap.objs.size, _, I1, rfl, ⟨_, x, rfl, I.hok.fresh (Nat.le_refl _), ⟨ob, by rw [hob]; exact ⟨rfl, rfl⟩, rfl⟩, fun ys hy => by rw [I.list_inj hy hq]; exact hx⟩, ⟨hlt, ⟨x', ?_⟩, hit'.at fun o q => (sb.2 it (Ne.symm hne)).trans q⟩, fun b hb => ?_⟩
    · have e1 : ((i + 1 : Nat) : Int) = (i : Int) + 1 := by omega
      rw [e1]
      exact he'
    · have hb' : b < s.heap.objs.size := by
        have e' : b = e ∨ b = it := by simpa using hb
        rcases e' with z | z
        · rw [z]; exact hel
        · rw [z]; exact hil
      rw [upd_ne (Nat.ne_of_lt hb')]
      exact (hf b hb).1
  done := by
    intro X hP hw hK hc i pins s σ H E I hf st hg
    subst hP hw hK
    obtain ⟨hle, ⟨old, he⟩, hit⟩ := st
    obtain ⟨hge, xs, hq, hxl⟩ := hg
    obtain ⟨us, rv, p, hz⟩ := I.list hq
    have hsz2 : us.toArray.size = its.size := by rw [List.size_toArray, ← rv.length, hxl]
    obtain ⟨f0, f1, f2, f3, f4, f5⟩ := hf it (by simp)
    have ei : i = us.toArray.size := by omega
    subst ei
    exact wpAny_pyNext_enum_endD (Draws.list (A := X.A.in1) (show X.A.in1.handled = none from I.ok.hd hc) it a hat us.toArray) he ⟨hit, p.isList⟩ fun h' eb => ⟨rfl, I.turned (t' := s.toks) (fun b o hb q => eb b o hb q) f0 f1 f3 f4 f5⟩
  self := fun A i s Q E st h => let ⟨_, ⟨_, he⟩, _⟩ := st; wpAny_pyIter_enum he h
def itEnumA (ds : List D) (M : Store) : Out ItD := match ds with
  | [.tup xs] => .ok ⟨pairsD 0 xs, none⟩ M
  | [.ob k] => match readAt M k with
    | some l => .ok ⟨pairsD 0 l, some (k, l)⟩ M
    | none => .no
  | _ => .no
def denEnumA (fs : Den (List D)) : Den ItD := fun ρ M => (fs ρ M).bind itEnumA
section
variable {X : Cx} {cl : ClsA} {W : WX} {a : Expr} {fs : Den (List D)} {p pos : Pos}
theorem iet_ok {K : PySem.W.Frag} {θ : List Addr} {H : Hp} {a : Addr} {vs : List V} {l : List D} (h : TupX K H a vs) (hr : RpA K θ H vs l) : ItOk K cl θ H (Iet K a vs.length) ⟨pairsD 0 l, none⟩ := by
  intro θ2 H2 M e r _
  have h2 := (e.tup _ _ h).sq
  have hr2 := hr.ext e
  refine ⟨fun i hi => ?_, fun i d hd => ?_⟩
  · rw [pairs_len] at hi
    exact ⟨by rw [hr.length]; exact hi, vs, h2, rfl⟩
  · obtain ⟨y, hy, rfl⟩ := pairs_get l 0 i d hd
    obtain ⟨v, h3, h4⟩ := hr2.get hy
    refine ⟨⟨(List.getElem?_eq_some_iff.mp h3).1, vs, v, h2, rfl, h3⟩, fun x H' q => ?_⟩
    obtain ⟨T, z, rfl, hT, ⟨ob, to, rfl⟩, q⟩ := q
    have e2 := q vs h2
    rw [h3] at e2
    cases e2
    have ex : Ext K θ2 H2 θ2 (upd H2 T (.frz ob (.tup [.int (i : Nat), v]))) := Ext.upd (Free.none hT)
    refine ⟨ex, r.keep hT, .tup (TupX.of upd_same to) (.cons ?_ (.cons (h4.ext ex) .nil))⟩
    rw [Nat.zero_add]
    exact .int _
theorem iel_ok {K : PySem.W.Frag} {θ : List Addr} {H : Hp} {a : Addr} {k : Nat} {l : List D} (h : θ[k]? = some a) : ItOk K cl θ H (Iel K a l.length) ⟨pairsD 0 l, some (k, l)⟩ := by
  intro θ2 H2 M e r hc
  obtain ⟨vs, h2, hr2⟩ := read_at r (e.pre k a h) hc
  refine ⟨fun i hi => ?_, fun i d hd => ?_⟩
  · rw [pairs_len] at hi
    exact ⟨hi, vs, h2, hr2.length⟩
  · obtain ⟨y, hy, rfl⟩ := pairs_get l 0 i d hd
    obtain ⟨v, h3, h4⟩ := hr2.get hy
    refine ⟨⟨(List.getElem?_eq_some_iff.mp hy).1, vs, v, h2, hr2.length, h3⟩, fun x H' q => ?_⟩
    obtain ⟨T, z, rfl, hT, ⟨ob, to, rfl⟩, q⟩ := q
    have e2 := q vs h2
    rw [h3] at e2
    cases e2
    have ex : Ext K θ2 H2 θ2 (upd H2 T (.frz ob (.tup [.int (i : Nat), v]))) := Ext.upd (Free.none hT)
    refine ⟨ex, r.keep hT, .tup (TupX.of upd_same to) (.cons ?_ (.cons (h4.ext ex) .nil))⟩
    rw [Nat.zero_add]
    exact .int _
theorem pi_enA {elts : List Expr} {kk : Nat} {tpos : Pos} (hg : Gl X "enumerate") (hm : X.mg "enumerate" = none) (hs : isStar a = false) (ha : RA X cl W [a] fs) : PI X (.Tuple elts kk tpos) (.Call (.Name "enumerate" p) [a] [] pos) (rdI cl W X.K (denEnumA fs)) := by
  refine ⟨fun pins s σ H R I h => ?_⟩
  obtain ⟨θ, ρ, M, hE, r, h⟩ := h
  refine Call_ (ld_blt I hg hm boot_enumerate (PyProof.Rows.callWith_type1 (thn (ha.run pos pins s σ H (fun vs H1 => ∃ θ1 M1 ds, Rep X.K cl θ1 H1 M1 ∧ RpA X.K θ1 H1 vs ds ∧ PostG X.K cl (fun θ H J it => ItOk X.K cl θ H J it) W R σ θ1 H1 (itEnumA ds M1)) I
    ⟨θ, ρ, M, hE, r, PostG.bind h fun ds M1 θ1 H1 vs e1 r1 p1 q1 => ⟨θ1, M1, ds, r1, p1, q1⟩⟩) fun us s1 ⟨vs, H1, I1, r1, θ1, M1, ds, rp, pa, q1⟩ => ?_) (star_one a [] X.env hs) rfl))
  unfold itEnumA at q1
  split at q1
  · cases pa with
    | cons px t =>
      cases t
      cases px
      rename_i l a' ws h1 h2
      cases r1 with
      | cons rx rr =>
        cases rr
        cases rx
        obtain ⟨its, rv, p', hz⟩ := I1.tuple h1.sq
        have hal : a' < s1.heap.objs.size := by
          obtain ⟨o, ho, _⟩ := p'
          exact Heap.lt_size ho
        refine PySem.EnT.call_new p' fun h' he hit hsz hk => wpAny_pyIter_enum he ?_
        have I2 : Inv X pins σ H1 { s1 with heap := h' } := I1.kept (t' := s1.toks) hk
        refine ⟨s1.heap.objs.size + 1, [s1.heap.objs.size + 1, s1.heap.objs.size], _, _, H1, rfl, I2, turn_enT a' (s1.heap.objs.size + 1) s1.heap.objs.size its.toArray (Nat.succ_ne_self _) (Nat.ne_of_lt hal) (Nat.ne_of_gt (Nat.lt_succ_of_lt hal)), ⟨Nat.zero_le _, ⟨.none, he⟩, hit⟩, fun b hb => ?_, ?_⟩
        · have e' : b = s1.heap.objs.size + 1 ∨ b = s1.heap.objs.size := by simpa using hb
          have hle : s1.heap.objs.size ≤ b := by
            rcases e' with z | z
            · rw [z]; exact Nat.le_add_right _ _
            · rw [z]; exact Nat.le_refl _
          exact I1.fpOk hle (I1.hok.fresh hle)
        · have hl : its.toArray.size = ws.length := by rw [List.size_toArray, rv.length]
          rw [hl]
          exact q1.ok_ rp (iet_ok h1 h2)
  · split at q1
    · rename_i k l e
      cases pa with
      | cons px t =>
        cases t
        cases px with
        | ob h1 =>
          obtain ⟨ws, h2, h3⟩ := read_at rp h1 e
          rename_i a'
          cases r1 with
          | cons rx rr =>
            cases rr
            cases rx
            obtain ⟨its, rv, p', hz⟩ := I1.list h2
            have hal : a' < s1.heap.objs.size := by
              obtain ⟨o, ho, _⟩ := p'.isList
              exact Heap.lt_size ho
            refine call_enumerate_list p'.isList fun h' he hit hsz hk => wpAny_pyIter_enum he ?_
            have I2 : Inv X pins σ H1 { s1 with heap := h' } := I1.kept (t' := s1.toks) hk
            refine ⟨s1.heap.objs.size + 1, [s1.heap.objs.size + 1, s1.heap.objs.size], _, _, H1, rfl, I2, turn_enL a' (s1.heap.objs.size + 1) s1.heap.objs.size its.toArray (Nat.succ_ne_self _) (Nat.ne_of_lt hal) (Nat.ne_of_gt (Nat.lt_succ_of_lt hal)), ⟨Nat.zero_le _, ⟨.none, he⟩, hit⟩, fun b hb => ?_, ?_⟩
            · have e' : b = s1.heap.objs.size + 1 ∨ b = s1.heap.objs.size := by simpa using hb
              have hle : s1.heap.objs.size ≤ b := by
                rcases e' with z | z
                · rw [z]; exact Nat.le_add_right _ _
                · rw [z]; exact Nat.le_refl _
              exact I1.fpOk hle (I1.hok.fresh hle)
            · have hl : its.toArray.size = l.length := by rw [List.size_toArray, ← rv.length, h3.length]
              rw [hl]
              exact q1.ok_ rp (iel_ok h1)
    · exact q1.elim
  · exact q1.elim
end
end RI

/-! instances made -/
namespace RI
open PySem PySem.Spec PyProof.Rows L2
def mkID (c : Str) (g : List D → Store → Out D) (ds : List D) (M : Store) : Out D := (g (.ob M.length :: ds) (M ++ [.ins c []])).bind fun r M' => match r with
  | .non => .ok (.ob M.length) M'
  | _ => .no
def mkIA (n : Nat) (c : Str) (g : List D → Store → Out D) : List D → Store → Out D := fun ds M => if ds.length + 1 = n then mkID c g ds M else .no
section
variable {X : Cx} {cl : ClsA} {W : WX} {e : Expr} {es : List Expr} {fs : Den (List D)} {p pos : Pos} {x c : Str} {C : Addr}
theorem rd_mkI {k : Nat} {fI : Addr} {fd : FuncData} {ps : List Str} {g : List D → Store → Out D} (MK : Mk X.K C fI) (hcl : cl c = some C)
    (F : FnG X.prog X.w X.K X.mg X.base cl k fI fd ps g) (hr : Room (k + 1) X.A) (hgd : X.A.guards = some []) (hb : Binds X.K fd ps []) (tk : Takes X W) (hg : Gl X x) (hm : X.mg x = some (.ref C)) (hdb : (x == ("__debug__" : Str)) = false)
    (ha : RA X cl W (e :: es) fs) (h1 : isStar e = false) (h2 : es.any isStar = false) : RD X cl W (.Call (.Name x p) (e :: es) [] pos) (denCall fs (mkIA ps.length c g)) := by
  refine ⟨fun pins s σ H Q I q => ?_⟩
  obtain ⟨θ, ρ, M, hE, r, q⟩ := q
  refine wpAny_Call_Name_kw (ld_glob I hg hm ?_ hdb)
  refine PySem.W.callWith_K (h₀ := X.base) I.ok.mod.kin MK.kp ?_ (star_one e es X.env h1) (star_no pos X.env es h2)
  refine thn (ha.run pos pins s σ H (fun vs H1 => ∃ θ1 M1 ds, Rep X.K cl θ1 H1 M1 ∧ RpA X.K θ1 H1 vs ds ∧ PostG X.K cl (Rp X.K) W Q σ θ1 H1 (mkIA ps.length c g ds M1)) I
    ⟨θ, ρ, M, hE, r, PostG.bind q fun ds M1 θ1 H1 vs e1 r1 p1 q1 => ⟨θ1, M1, ds, r1, p1, q1⟩⟩) fun us s1 ⟨vs, H1, I1, rv, θ1, M1, ds, r1, p1, q1⟩ => ⟨I1.kIn, ?_⟩
  unfold mkIA at q1
  split at q1
  case isFalse => exact q1.elim
  rename_i hlen
  have nx : H1 (s1.heap.objs.size + 1) = none := I1.hok.fresh (Nat.le_succ _)
  have ndx : H1 s1.heap.objs.size = none := I1.hok.fresh (Nat.le_refl _)
  have nex : s1.heap.objs.size ≠ s1.heap.objs.size + 1 := Nat.ne_of_lt (Nat.lt_succ_self _)
  have I2 := Inv.made (C := C) I1
  generalize hA : s1.heap.objs.size + 1 = a at *
  generalize hD : s1.heap.objs.size = dx at *
  have rA : Rep X.K cl θ1 (upd H1 dx (.own a)) M1 := r1.keep ndx
  have eA : Ext X.K θ1 H1 θ1 (upd H1 dx (.own a)) := Ext.upd (Free.none ndx)
  have nx2 : upd H1 dx (.own a) a = none := by rw [upd_ne (Ne.symm nex)]; exact nx
  have ex2 : Ext X.K θ1 H1 (θ1 ++ [a]) (upd (upd H1 dx (.own a)) a (.ins C dx [])) := eA.trans (Ext.new nx2)
  have r2 : Rep X.K cl (θ1 ++ [a]) (upd (upd H1 dx (.own a)) a (.ins C dx [])) (M1 ++ [.ins c []]) := rA.new nx2 ⟨C, dx, [], hcl, upd_same, .nil⟩
  have at1 : (θ1 ++ [a])[M1.length]? = some a := by rw [← r1.len]; simp
  have rv2 : Vals (V.ref a :: vs) (Value.ref a :: us) := .cons rfl rv
  have lus : us.length = ds.length := by rw [← rv.length, p1.length]
  have bnd := hb _ (Value.ref a :: us) I2.kIn (by rw [List.append_nil, List.length_cons, lus]; exact hlen)
  rw [List.append_nil] at bnd
  have q2 : PostG X.K cl (Rp X.K) (fun cc d _ h => WE W σ cc d h) (fun v H' => v = .non ∧ Q (.ref a) H') [] (θ1 ++ [a]) (upd (upd H1 dx (.own a)) a (.ins C dx [])) (g (.ob M1.length :: ds) (M1 ++ [.ins c []])) := by
    have q3 := PostG.ext q1 ex2
    unfold mkID at q3
    cases eg : g (.ob M1.length :: ds) (M1 ++ [.ins c []]) with
    | no =>
      rw [eg] at q3
      exact q3.elim
    | exc c' fs' M' =>
      rw [eg] at q3
      exact q3
    | ok d M' =>
      rw [eg] at q3
      intro θ' H' v ee rr pp
      cases pp with
      | non => exact ⟨rfl, q3 θ' H' _ ee rr (.ob (ee.pre _ _ at1))⟩
      | _ => exact q3.elim
  show wpAny _ _ (call (.ref C) us) _ _ _
  refine wpAny_call (make_map (f := fI) I1.kIn MK.makes MK.init (beq_iff_eq.mp MK.fn) ?_)
  rw [hD, hA]
  refine codeAny_mono (F _ X.stack _ _ ⟨Value.ref a :: us, []⟩ (Value.ref a :: us) (V.ref a :: vs) (θ1 ++ [a]) (M1 ++ [.ins c []]) (.ob M1.length :: ds) _ (WE W σ) (hr.make C us []) hgd (I2.env0.make C us []) bnd rv2 r2
    (.cons (.ob at1) (p1.ext ex2)) (by rw [List.length_cons]; exact hlen) q2) fun rr s' z => ?_
  cases rr with
  | error er => exact passAt tk σ pins _ _ er s' I2 z
  | ok fl =>
    cases fl with
    | ret u =>
      obtain ⟨v, H', I3, rel, ev, q4⟩ := I2.after z
      subst ev
      exact ⟨rel, ⟨V.ref a, H', I3, rfl, q4⟩⟩
    | next => exact False.elim z
    | brk => exact False.elim z
    | cont => exact False.elim z
end
end RI

/-! properties read -/
namespace RI
open PySem PySem.Spec PyProof.Rows L2
def propD (c0 : Str) (g : List D → Store → Out D) (x : D) (M : Store) : Out D := match x with
  | .ob n => match M[n]? with
    | some (.ins c _) => if c = c0 then noX (g [.ob n] M) else .no
    | _ => .no
  | _ => .no
def denProp (fa : Den D) (c0 : Str) (g : List D → Store → Out D) : Den D := fun ρ M => (fa ρ M).bind fun x M => propD c0 g x M
section
variable {X : Cx} {cl : ClsA} {W : WX} {a : Expr} {fa : Den D} {pos : Pos} {f c : Str} {C : Addr}
theorem rd_prop {k : Nat} {p gA : Addr} {fd : FuncData} {ps : List Str} {g : List D → Store → Out D} (cc : Cls X.K C) (hcl : cl c = some C) (hp : PropOf X.K C f p gA) (F : FnG X.prog X.w X.K X.mg X.base cl k gA fd ps g) (hps : ps.length = 1) (hr : Room (k + 1) X.A) (hgd : X.A.guards = some []) (hb : Binds X.K fd ps [])
    (ha : RD X cl W a fa) (hab : attributeBase a f X.env (eval a X.env) = eval a X.env) : RD X cl W (.Attribute a f pos) (denProp fa c g) := by
  refine ⟨fun pins s0 σ H Q I q => ?_⟩
  obtain ⟨θ, ρ, M, hE, r, q⟩ := q
  refine attr_of hab (thn (ha.run pins s0 σ H (fun v H2 => ∃ θ2 M2 x, Rep X.K cl θ2 H2 M2 ∧ Rp X.K θ2 H2 v x ∧ PostG X.K cl (Rp X.K) W Q σ θ2 H2 (propD c g x M2)) I ⟨θ, ρ, M, hE, r, PostG.bind q fun x M1 θ1 H1 v e1 r1 p1 q1 => ⟨θ1, M1, x, r1, p1, q1⟩⟩) fun u s ⟨vx, H1, I1, rx, θ1, M1, x, r1, px, q1⟩ => ?_)
  unfold propD at q1
  split at q1
  case h_2 => exact q1.elim
  rename_i n
  cases px
  rename_i a' hn
  cases (show u = Value.ref a' from rx)
  obtain ⟨u2, hu, hr2⟩ := r1.atn hn
  rw [hu] at q1
  cases u2 with
  | ins c' fs =>
    dsimp only at q1
    split at q1
    case isFalse => exact q1.elim
    rename_i hcc
    subst hcc
    obtain ⟨C', dx, gs, hC, ea, _⟩ := hr2
    rw [hcl] at hC
    cases hC
    obtain ⟨mA, O, _, _, _, _⟩ := ins_get I1.hok ea
    obtain ⟨od, J, _⟩ := O.look
    obtain ⟨rest, hrec⟩ := hp.rec_
    have I2 := I1.tok (s.toks + 1)
    have hc : (PySem.W.clsIn X.K C).isSome = true := by
      obtain ⟨cd, hc, _⟩ := PySem.W.any_some cc.hd
      rw [hc]
      rfl
    have bnd := hb { s with toks := s.toks + 1 } [.ref a'] I2.kIn (by rw [List.append_nil, hps] <;> rfl)
    rw [List.append_nil] at bnd
    have q2 : PostG X.K cl (Rp X.K) (fun _ _ _ _ => False) Q [] θ1 H1 (g [.ob n] M1) := by
      cases eg : g [.ob n] M1 with
      | ok d M' =>
        rw [eg] at q1
        exact q1
      | exc c2 f2 M' =>
        rw [eg] at q1
        exact q1.elim
      | no =>
        rw [eg] at q1
        exact q1.elim
    refine PySem.W.get_bind I1.kIn J (PySem.W.plainGet_of (cc.get f)).1 (PySem.W.findObj_data hc hp.at_ hp.get hp.tak) (PySem.W.plainGet_of (cc.get f)).2 (wpAny_call (PySem.W.prop_get (s := { s with toks := s.toks + 1 }) I1.kIn hrec ?_))
    refine codeAny_mono (F X.A.in1 X.stack { s with toks := s.toks + 1 } H1 ⟨[.ref a'], []⟩ [.ref a'] [.ref a'] θ1 M1 [.ob n] Q (fun _ _ _ => False) hr.in1 hgd I2.env0.in1 bnd (.cons rfl .nil) r1 (.cons (.ob hn) .nil) (by rw [hps] <;> rfl) q2) fun r' s' z => ?_
    cases r' with
    | error er =>
      obtain ⟨_, _, _, _, _, _, _, _, _, _, _, _, z⟩ := z
      exact z.elim
    | ok fl =>
      cases fl with
      | ret u =>
        obtain ⟨v, H', I3, rv, q3⟩ := I2.after z
        show wpAny _ _ (handedOut u) _ _ _
        rw [PySem.W.handedOut_of (handed_of rv)]
        exact wpAny_pure ⟨v, H', I3, rv, q3⟩
      | next => exact False.elim z
      | brk => exact False.elim z
      | cont => exact False.elim z
  | _ => exact q1.elim
end
end RI

/-! o[i] += e, ints in a list -/
namespace RI
open PySem PySem.Spec PyProof.Rows L2
def getLD (x i : D) (M : Store) : Option Int := match x, i with
  | .ob n, .int k => match M[n]? with
    | some (.lst xs) => if 0 ≤ k then (match xs[k.toNat]? with
      | some (.int z) => some z
      | _ => none) else none
    | _ => none
  | _, _ => none
def rGetL0 (K : PySem.W.Frag) : V → V → Hp → VK → Prop := fun o i H Q => ∃ p xs k z, o = .ref p ∧ i = .int k ∧ SqL K H p xs ∧ 0 ≤ k ∧ xs[k.toNat]? = some z ∧ Q z H
theorem get_list0 {X : Cx} : PGet X (rGetL0 X.K) := by
  intro pins s σ H o i ov iv Q I ro ri h
  obtain ⟨p, xs, k, z, rfl, rfl, hq, h0, he, q⟩ := h
  cases ro
  obtain ⟨t, rfl⟩ := ri
  obtain ⟨its, r, pl, hz⟩ := I.list hq
  obtain ⟨w, ew, rw'⟩ := r.get he
  have hn := line63
  have hl := r.length
  have hk := (List.getElem?_eq_some_iff.mp he).1
  exact wpAny_getItem_list pl.isList h0 (by omega) (by simpa using ew) ⟨z, H, I, rw', q⟩
def denAugIx (sg : Int → Int → Int) (fo fi fe : Den D) : DenS := fun ρ M => bindS (fo ρ M) ρ fun x M => bindS (fi ρ M) ρ fun k M => match getLD x k M with
  | some z => bindS (fe ρ M) ρ fun d M => (match d with
    | .int y => (match setD x k (.int (sg z y)) M with
      | some M' => .fl .nx ρ M'
      | none => .no)
    | _ => .no)
  | none => .no
section
variable {X : Cx} {cl : ClsA} {W : WX} {o i e : Expr} {fo fi fe : Den D} {pos p2 : Pos}
theorem rs_augIx {op : Operator} {sg : Int → Int → Int} (hop : PIp X op (ipI sg)) (hu : X.A.units + 64 < cLine) (ho : RD X cl W o fo) (hi : RD X cl W i fi) (he : RD X cl W e fe)
    (ha : ∀ ov iv new, augStore i ov iv new = (do holding [new, ov, iv] (setItem ov iv new); release [new, ov, iv] []; pure .next) := by intros; rfl) :
    RS X cl W (.AugAssign (.Subscript o i p2) op e pos) (denAugIx sg fo fi fe) := PS.imp (ps_augS ho hi get_list0 he hop (set_D (cl := cl) (by omega)) ha) fun E σ H q => by
  obtain ⟨θ, ρ, M, hE, r, q⟩ := q
  refine ⟨θ, ρ, M, hE, r, PostS.bind (Rv := Rp X.K) q hE fun x M1 θ1 H1 vx e1 r1 px q1 => ?_⟩
  have hE1 := hE.ext e1
  refine ⟨θ1, ρ, M1, hE1, r1, PostS.bind (Rv := Rp X.K) q1 hE1 fun k M2 θ2 H2 vk e2 r2 pk q2 => ?_⟩
  have hE2 := hE1.ext e2
  cases hg : getLD x k M2 with
  | none =>
    rw [hg] at q2
    exact q2.elim
  | some z =>
    rw [hg] at q2
    unfold getLD at hg
    have px2 := px.ext e2
    split at hg
    · cases px2
      rename_i n k' a hn
      cases pk
      obtain ⟨u, hu', hr⟩ := r2.atn hn
      rw [hu'] at hg
      cases u with
      | lst xs =>
        dsimp only at hg
        split at hg
        case isFalse => cases hg
        rename_i h0
        split at hg
        · rename_i z' hz'
          cases hg
          obtain ⟨vs, h1, h2⟩ := hr
          obtain ⟨v, hv, pv⟩ := h2.get hz'
          cases pv
          refine ⟨a, vs, k', _, rfl, rfl, SqL.of h1, h0, hv, θ2, ρ, M2, hE2, r2, PostS.bind (Rv := Rp X.K) q2 hE2 fun d M3 θ3 H3 vd e3 r3 pd q3 => ?_⟩
          cases pd with
          | int y =>
            dsimp only at q3
            refine ⟨z, y, rfl, rfl, ?_⟩
            cases hst : setD (.ob n) (.int k') (.int (sg z y)) M3 with
            | none =>
              rw [hst] at q3
              exact q3.elim
            | some M' =>
              rw [hst] at q3
              exact ⟨θ3, M3, .ob n, .int k', .int (sg z y), M', r3, .ob (e3.pre _ _ hn), .int _, .int _, hst, fun H' ee rr => q3 θ3 H' σ ee rr ((hE2.ext e3).ext ee)⟩
          | _ => exact q3.elim
        · cases hg
      | _ => cases hg
    · cases hg
end
end RI

/-! the rules of RI20 .. RI26 in short -/
namespace RI
open PySem PySem.Spec PyProof.Rows L2
/-- a class of instances by its name -/
structure IcB (P : Program) (w : World) (K : PySem.W.Frag) (mg : Str → Option Value) (base : Heap) (cl : ClsA) (k : Nat) (x : Str) (ps : List Str) (g : List D → Store → Out D) : Prop where
  ex : ∃ C fI fd, mg x = some (.ref C) ∧ cl x = some C ∧ Mk K C fI ∧ Binds K fd ps [] ∧ FnG P w K mg base cl k fI fd ps g
/-- a property by its class's name -/
structure PpB (P : Program) (w : World) (K : PySem.W.Frag) (mg : Str → Option Value) (base : Heap) (cl : ClsA) (k : Nat) (c f : Str) (ps : List Str) (g : List D → Store → Out D) : Prop where
  ex : ∃ C p gA fd, cl c = some C ∧ Cls K C ∧ PropOf K C f p gA ∧ Binds K fd ps [] ∧ FnG P w K mg base cl k gA fd ps g
/-- does the clause catch it -/
def emD (G : Glo) (k : Str) (c : Str) : Option Bool := if G.isExn c then G.exm c k else none
def ExmOk (K : PySem.W.Frag) (cl : ClsA) (G : Glo) : Prop := ∀ c k C D b, G.exm c k = some b → cl c = some C → cl k = some D → PySem.W.exmOne K (.ref C) (.ref D) = some b
theorem exmOk_of {K : PySem.W.Frag} {mg : Str → Option Value} {xs : List Str} {fl : List (Str × Str)} : ExmOk K (clOf mg) (gloOf K mg xs fl) := fun c k C D b h h1 h2 => by
  unfold gloOf at h
  simp only [h1, h2] at h
  exact h
def denXfG (G : Glo) (c : Str) (fs : List (Str × D)) (f : Str) : Den D := fun ρ M => if G.fld c f then denXf fs f ρ M else .no
section
variable {X : Cx} {cl : ClsA} {W : WX} {G : Glo} {e a : Expr} {es : List Expr} {fs : Den (List D)} {fa : Den D} {p p2 p3 pos pos' : Pos} {x c f : Str} {k : Nat} {ps : List Str} {g : List D → Store → Out D}
theorem xraise (hcm : X.calm = true) (B : XcB X.prog X.w X.K X.mg X.base cl k x ps g) (hr : Room (k + 1) X.A) (hgd : X.A.guards = some []) (tk : Takes X W) (ha : RA X cl W (e :: es) fs) (hg : Gl X x := by rfl) (hdb : (x == ("__debug__" : Str)) = false := by decide)
    (h1 : isStar e = false := by rfl) (h2 : es.any isStar = false := by rfl) : RS X cl W (.Raise (some (.Call (.Name x p) (e :: es) [] pos)) none pos') (denRaise fs ps.length x g) := by
  obtain ⟨C, fI, fd, hm, hcl, T, iC, tI, hb, F⟩ := B.ex
  exact rs_raiseX hcm T hcl iC tI F hr hgd hb tk hg hm hdb ha h1 h2
theorem xmkI (B : IcB X.prog X.w X.K X.mg X.base cl k x ps g) (hr : Room (k + 1) X.A) (hgd : X.A.guards = some []) (tk : Takes X W) (ha : RA X cl W (e :: es) fs) (hg : Gl X x := by rfl) (hdb : (x == ("__debug__" : Str)) = false := by decide)
    (h1 : isStar e = false := by rfl) (h2 : es.any isStar = false := by rfl) : RD X cl W (.Call (.Name x p) (e :: es) [] pos) (denCall fs (mkIA ps.length x g)) := by
  obtain ⟨C, fI, fd, hm, hcl, MK, hb, F⟩ := B.ex
  exact rd_mkI MK hcl F hr hgd hb tk hg hm hdb ha h1 h2
theorem xprop (B : PpB X.prog X.w X.K X.mg X.base cl k c f ps g) (hps : ps.length = 1) (hr : Room (k + 1) X.A) (hgd : X.A.guards = some []) (ha : RD X cl W a fa) (hab : attributeBase a f X.env (eval a X.env) = eval a X.env := by rfl) :
    RD X cl W (.Attribute a f pos) (denProp fa c g) := by
  obtain ⟨C, pp, gA, fd, hcl, cc, hp, hb, F⟩ := B.ex
  exact rd_prop cc hcl hp F hps hr hgd hb ha hab
theorem emD_true {k' : Str} (h : emD G k' c = some true) : G.isExn c = true := by
  unfold emD at h
  split at h
  · assumption
  · cases h
theorem emD_ok (E : ExmOk X.K cl G) {k' : Str} {D : Addr} (hk : cl k' = some D) : ∀ c C b, emD G k' c = some b → cl c = some C → PySem.W.exmOne X.K (.ref C) (.ref D) = some b := fun c C b h hC => by
  unfold emD at h
  split at h
  · exact E c k' C D b h hC hk
  · cases h
/-- e.f in a suite -/
theorem jattr (O : IsiOk X.K cl G) (F : FldOk X.K cl G) {i : Nat} {a : Addr} {oe : Obj} {pn : List (Addr × Obj)} {d : Option Addr} {xf : List (Str × D)} {C : Addr} (hx : G.isExn c = true) (hC : cl c = some C) (hz : Zc (.ref C) d oe) (hf : ∃ vs, oe.data = .fields vs) (hN : X.N[i]? = some x) (hv : Vis X.env.scope x)
    (hd : (x == ("__debug__" : Str)) = false := by decide) (hcd : (x == ("__classdict__" : Str)) = false := by decide) (hb : attributeBase (.Name x p) f X.env (eval (.Name x p) X.env) = eval (.Name x p) X.env := by rfl) : JD (X.suite a ((a, oe) :: pn)) cl i a d xf (.Attribute (.Name x p) f pos) (denXfG G c xf f) := by
  by_cases h : G.fld c f = true
  · refine PE.imp (j_attr (X := X) (cl := cl) (i := i) (fs := xf) (O.exn c C hx hC) hz hf (F c C f h hC) hN hv hd hcd hb) fun σ H Q q => ?_
    obtain ⟨sl, θ, ρ, M, xa, hE, r, q⟩ := q
    unfold denXfG at q
    rw [if_pos h] at q
    exact ⟨sl, θ, ρ, M, xa, hE, r, q⟩
  · refine ⟨fun pins s σ H Q I q => ?_⟩
    obtain ⟨sl, θ, ρ, M, xa, hE, r, q⟩ := q
    unfold denXfG at q
    rw [if_neg h] at q
    exact q.elim
end
end RI

/-! the module's classes, instances' too -/
namespace RI
open PySem PySem.Spec PyProof.Rows L2
def gloOf2 (K : PySem.W.Frag) (mg : Str → Option Value) (xs is : List Str) (fl : List (Str × Str)) : Glo := { gloOf K mg xs fl with isIns := fun c => decide (c ∈ is) }
def AllI (K : PySem.W.Frag) (mg : Str → Option Value) (is : List Str) : Prop := ∀ c ∈ is, ∀ C, clOf mg c = some C → InsC K C
theorem allI_nil {K : PySem.W.Frag} {mg : Str → Option Value} : AllI K mg [] := fun _ h => by cases h
theorem allI_cons {K : PySem.W.Frag} {mg : Str → Option Value} {c : Str} {C : Addr} {xs : List Str} (h : mg c = some (.ref C)) (e : InsC K C) (r : AllI K mg xs) : AllI K mg (c :: xs) := fun d hd D hD => by
  cases hd with
  | head => rw [of_clOf h hD]; exact e
  | tail _ hd => exact r d hd D hD
theorem isiOk2_of {K : PySem.W.Frag} {mg : Str → Option Value} {xs is : List Str} {fl : List (Str × Str)} (h : AllX K mg xs) (h2 : AllI K mg is) : IsiOk K (clOf mg) (gloOf2 K mg xs is fl) := by
  have O := isiOk_of (fl := fl) h
  exact ⟨O.isi, fun c C h1 hC => h2 c (of_decide_eq_true h1) C hC, O.exn⟩
theorem fldOk2_of {K : PySem.W.Frag} {mg : Str → Option Value} {xs is : List Str} {fl : List (Str × Str)} (h : AllF K mg fl) : FldOk K (clOf mg) (gloOf2 K mg xs is fl) := fldOk_of (xs := xs) h
theorem exmOk2_of {K : PySem.W.Frag} {mg : Str → Option Value} {xs is : List Str} {fl : List (Str × Str)} : ExmOk K (clOf mg) (gloOf2 K mg xs is fl) := exmOk_of (xs := xs) (fl := fl)
theorem isi_tbl2 {K : PySem.W.Frag} {mg : Str → Option Value} {xs is : List Str} {fl : List (Str × Str)} {ad : List (Str × Addr)} {tbl : List (Cid × Cid × Bool)} (h : AllM mg ad) (hc : isiChk K ad tbl = true) {t c : Cid} {b : Bool} (hm : (t, c, b) ∈ tbl) : (gloOf2 K mg xs is fl).isi t c = some b := isi_tbl (xs := xs) (fl := fl) h hc hm
def insB (K : PySem.W.Frag) (C : Addr) : Bool :=
  PySem.W.plainGet K C Str.empty && (PySem.W.hasDictIn K C && (PySem.W.plainOver K C && (decide (PySem.W.findIn K (.ref C) "__setattr__" = some (some (.builtin "object.__setattr__"))) && (decide (PySem.W.findIn K (.ref C) "__class__" = some (some (.builtin "object.__class__"))) &&
  (decide (PySem.W.specialIn K (.builtin "object.__class__") "__get__" = some (some (.builtin "getset_descriptor.__get__"))) && (decide (PySem.W.takesIn K (.builtin "object.__class__") = some true) && decide (PySem.W.mroIn K C (.type "object") = some true)))))))
theorem insC_of {K : PySem.W.Frag} {C : Addr} (h : insB K C = true) : InsC K C := by
  unfold insB at h
  simp only [Bool.and_eq_true, decide_eq_true_eq] at h
  obtain ⟨h1, h2, h3, h4, h5, h6, h7, h8⟩ := h
  exact ⟨⟨h1, h2, h3, h4⟩, h5, h6, h7, h8⟩
end RI

/-! what an except clause takes, by a table -/
namespace RI
open PySem PySem.Spec PyProof.Rows L2
def exmChk (K : PySem.W.Frag) (ad : List (Str × Addr)) (tbl : List (Str × Str × Bool)) : Bool := tbl.all fun e => match ad.lookup e.1, ad.lookup e.2.1 with
  | some C, some D => decide (PySem.W.exmOne K (.ref C) (.ref D) = some e.2.2)
  | _, _ => false
theorem exm_tbl {K : PySem.W.Frag} {mg : Str → Option Value} {xs is : List Str} {fl : List (Str × Str)} {ad : List (Str × Addr)} {tbl : List (Str × Str × Bool)} (h : AllM mg ad) (hc : exmChk K ad tbl = true) {t c : Str} {b : Bool} (hm : (t, c, b) ∈ tbl) : (gloOf2 K mg xs is fl).exm t c = some b := by
  have q := List.all_eq_true.mp hc _ hm
  dsimp only at q
  split at q
  · rename_i C D e1 e2
    have e3 := clOf_of t C (h _ _ e1)
    have e4 := clOf_of c D (h _ _ e2)
    unfold gloOf2 gloOf
    simp only [e3, e4]
    exact of_decide_eq_true q
  · cases q
end RI

/-! tools for the pure part -/
namespace RI
open PySem PySem.Spec PyProof.Rows L2
/-- all stands but what S names -/
def Keep (S : Nat → Prop) (M M' : Store) : Prop := M.length ≤ M'.length ∧ ∀ n o, ¬ S n → M[n]? = some o → M'[n]? = some o
section
variable {S S' : Nat → Prop} {M M1 M2 : Store}
theorem Keep.refl : Keep S M M := ⟨Nat.le_refl _, fun _ _ _ h => h⟩
theorem Keep.trans (h : Keep S M M1) (k : Keep S M1 M2) : Keep S M M2 := ⟨Nat.le_trans h.1 k.1, fun n o hn e => k.2 n o hn (h.2 n o hn e)⟩
theorem Keep.app (X : Store) : Keep S M (M ++ X) := ⟨by simp, fun n o _ e => by
  rw [List.getElem?_append_left (List.getElem?_eq_some_iff.mp e).1]
  exact e⟩
theorem Keep.set {b : Nat} (hb : S b) (o : SO) : Keep S M (M.set b o) := ⟨by simp, fun n o' hn e => by
  rw [List.getElem?_set_ne (fun h => hn (by rw [← h]; exact hb))]
  exact e⟩
theorem Keep.sub (h : Keep S M M1) (hs : ∀ n, n < M.length → S n → S' n) : Keep S' M M1 := ⟨h.1, fun n o hn e => h.2 n o (fun q => hn (hs n (List.getElem?_eq_some_iff.mp e).1 q)) e⟩
end
/-- x among the names -/
def one (b : Nat) : Nat → Prop := fun n => n = b
def two (b f : Nat) : Nat → Prop := fun n => n = b ∨ n = f
theorem atI_get {α : Type} {xs : List α} {r : Int} (h0 : 0 ≤ r) (h1 : r < xs.length) : ∃ x ∈ xs, atI xs r = some x := by
  have hl : r.toNat < xs.length := by omega
  refine ⟨xs[r.toNat], List.getElem_mem hl, ?_⟩
  unfold atI ixN
  rw [if_pos h0, if_pos h1]
  exact List.getElem?_eq_getElem hl
theorem at_0 {M X : Store} : (M ++ X)[M.length]? = X[0]? := by
  rw [List.getElem?_append_right (Nat.le_refl _), Nat.sub_self]
theorem at_k {M X : Store} {k : Nat} : (M ++ X)[M.length + k]? = X[k]? := by
  rw [List.getElem?_append_right (Nat.le_add_right _ _), Nat.add_sub_cancel_left]
theorem set_k {M X : Store} {k : Nat} {o : SO} : List.set (M ++ X) (M.length + k) o = M ++ X.set k o := by
  rw [List.set_append_right _ _ (Nat.le_add_right _ _), Nat.add_sub_cancel_left]
theorem at_l {M X : Store} {n : Nat} {o : SO} (h : M[n]? = some o) : (M ++ X)[n]? = some o := by
  rw [List.getElem?_append_left (List.getElem?_eq_some_iff.mp h).1]
  exact h
theorem lt_of_at {M : Store} {n : Nat} {o : SO} (h : M[n]? = some o) : n < M.length := (List.getElem?_eq_some_iff.mp h).1
theorem forD_chk {body : D → Env1 → Store → SOut} {k : Nat} {l : List D} (Iv : Env1 → Store → Prop) (hc : ∀ ρ M, Iv ρ M → readAt M k = some l) : ∀ (ds : List D) (ρ : Env1) (M : Store), (∀ d ∈ ds, ∀ ρ M, Iv ρ M → ∃ ρ' M', body d ρ M = .fl .nx ρ' M' ∧ Iv ρ' M') → Iv ρ M → ∃ ρ' M', forD (some (k, l)) body ds ρ M = .fl .nx ρ' M' ∧ Iv ρ' M'
  | [], ρ, M, _, h => ⟨ρ, M, by simp [forD, chkM, hc _ _ h], h⟩
  | d :: r, ρ, M, hb, h => by
    obtain ⟨ρ1, M1, e1, h1⟩ := hb d List.mem_cons_self ρ M h
    obtain ⟨ρ2, M2, e2, h2⟩ := forD_chk Iv hc r ρ1 M1 (fun d hd => hb d (List.mem_cons_of_mem _ hd)) h1
    exact ⟨ρ2, M2, by simp [forD, chkM, hc _ _ h, e1, e2], h2⟩
theorem mul_cr {M : Store} {i j : Int} (h : -100 ≤ j) (h2 : j < 9223372036854775807) : opD .Mult (.int i) (.int j) M = .ok (.int (i * j)) M := op_mulI (by
  unfold mulOk
  rw [Bool.or_eq_true]
  right
  apply decide_eq_true
  omega)
theorem mul_cl {M : Store} {i j : Int} (h : -100 ≤ i) (h2 : i < 9223372036854775807) : opD .Mult (.int i) (.int j) M = .ok (.int (i * j)) M := op_mulI (by
  unfold mulOk
  rw [Bool.or_eq_true]
  left
  apply decide_eq_true
  omega)
/-! ### what is printed -/
theorem optAll_imp {α β : Type} {f g : α → Option β} : ∀ {l : List α} {r : List β}, (∀ x ∈ l, ∀ y, f x = some y → g x = some y) → optAll f l = some r → optAll g l = some r
  | [], r, _, h => h
  | x :: l, r, hi, h => by
    simp only [optAll, Option.bind_eq_some_iff, Option.map_eq_some_iff] at h ⊢
    obtain ⟨y, h1, z, h2, h3⟩ := h
    exact ⟨y, hi x List.mem_cons_self y h1, z, optAll_imp (fun x hx => hi x (List.mem_cons_of_mem _ hx)) h2, h3⟩
theorem kvAll_imp {f g : D → Option PyData} : ∀ {l : List (Key × D)} {r : List (PyData × PyData)}, (∀ x y, f x = some y → g x = some y) → kvAll f l = some r → kvAll g l = some r
  | [], r, _, h => h
  | (k, x) :: l, r, hi, h => by
    simp only [kvAll, Option.bind_eq_some_iff, Option.map_eq_some_iff] at h ⊢
    obtain ⟨y, h1, z, h2, h3⟩ := h
    exact ⟨y, hi x y h1, z, kvAll_imp hi h2, h3⟩
theorem toPyR_up {M : Store} : ∀ {k : Nat} {d : D} {p : PyData}, toPyR k M d = some p → toPyR (k + 1) M d = some p
  | 0, d, p, h => by cases h
  | k + 1, d, p, h => by
    cases d with
    | non => exact h
    | bl b => exact h
    | int i => exact h
    | str x => exact h
    | clo _ _ _ => exact h
    | tup ds =>
      simp only [toPyR, Option.map_eq_some_iff] at h ⊢
      obtain ⟨r, h1, h2⟩ := h
      exact ⟨r, optAll_imp (fun x _ y q => toPyR_up q) h1, h2⟩
    | ob n =>
      rw [toPyR] at h ⊢
      split at h
      · rename_i ds e
        simp only [Option.map_eq_some_iff] at h ⊢
        obtain ⟨r, h1, h2⟩ := h
        exact ⟨r, optAll_imp (fun x _ y q => toPyR_up q) h1, h2⟩
      · rename_i ds e
        simp only [Option.map_eq_some_iff] at h ⊢
        obtain ⟨r, h1, h2⟩ := h
        exact ⟨r, optAll_imp (fun x _ y q => toPyR_up q) h1, h2⟩
      · rename_i ds e
        simp only [Option.map_eq_some_iff] at h ⊢
        obtain ⟨r, h1, h2⟩ := h
        exact ⟨r, kvAll_imp (fun x y q => toPyR_up q) h1, h2⟩
      · cases h
theorem toPyR_le {M : Store} {k : Nat} {d : D} {p : PyData} (h : toPyR k M d = some p) : ∀ {j : Nat}, k ≤ j → toPyR j M d = some p := fun {j} hj => by
  induction hj with
  | refl => exact h
  | step _ ih => exact toPyR_up ih
/-- d is printed, whatever comes, in at most n signs and k levels -/
def Fine (S : Nat → Prop) (k n : Nat) (M : Store) (d : D) : Prop := ∃ py, (∀ M', Keep S M M' → toPyR k M' d = some py) ∧ py.showable = true ∧ py.shown.length ≤ n ∧ py.depth ≤ k
section
variable {S S' : Nat → Prop} {M M1 M2 : Store} {k n : Nat} {d : D}
theorem Fine.mono (h : Fine S k n M d) (q : Keep S M M1) : Fine S k n M1 d := by
  obtain ⟨py, h1, h2⟩ := h
  exact ⟨py, fun M' k' => h1 M' (q.trans k'), h2⟩
theorem Fine.up {k' n' : Nat} (h : Fine S k n M d) (hk : k ≤ k') (hn : n ≤ n') : Fine S k' n' M d := by
  obtain ⟨py, h1, h2, h3, h4⟩ := h
  exact ⟨py, fun M' q => toPyR_le (h1 M' q) hk, h2, Nat.le_trans h3 hn, Nat.le_trans h4 hk⟩
theorem Fine.sub (h : Fine S k n M d) (hs : ∀ n, n < M.length → S' n → S n) : Fine S' k n M d := by
  obtain ⟨py, h1, h2⟩ := h
  exact ⟨py, fun M' q => h1 M' (q.sub hs), h2⟩
theorem Fine.repr (h : Fine S k n M d) (hk : k ≤ 12) (hn : n ≤ 100000) : ∃ z, ∀ M', Keep S M M' → reprD [d] M' = .ok (.str z) M' := by
  obtain ⟨py, h1, h2, h3, h4⟩ := h
  refine ⟨py.shown, fun M' q => ?_⟩
  have e1 := toPyR_le (h1 M' q) hk
  have e2 : py.shown.length ≤ line := Nat.le_trans h3 hn
  have e3 : py.depth ≤ 40 := by omega
  simp [reprD, e1, h2, e2, e3]
theorem fine_c {py : PyData} (h : ∀ M', toPyR k M' d = some py) (h2 : (py.showable && decide (py.shown.length ≤ n) && decide (py.depth ≤ k)) = true) : Fine S k n M d := by
  simp only [Bool.and_eq_true, decide_eq_true_eq] at h2
  exact ⟨py, fun M' _ => h M', h2.1.1, h2.1.2, h2.2⟩
theorem fine_o {m : Nat} {o : SO} {py : PyData} (hn : M[m]? = some o) (hb : ¬ S m) (h : ∀ M' : Store, M'[m]? = some o → toPyR k M' (.ob m) = some py) (h2 : (py.showable && decide (py.shown.length ≤ n) && decide (py.depth ≤ k)) = true) : Fine S k n M (.ob m) := by
  simp only [Bool.and_eq_true, decide_eq_true_eq] at h2
  exact ⟨py, fun M' q => h M' (q.2 m o hb hn), h2.1.1, h2.1.2, h2.2⟩
theorem fine_int {i : Int} {j : Nat} (hj : 0 < j) (h : i.natAbs < 10 ^ j) (h2 : j + 1 ≤ n) (h3 : j ≤ 500) (hk : 1 ≤ k) : Fine S k n M (.int i) := by
  refine ⟨.int i, fun M' _ => ?_, ?_, ?_, ?_⟩
  · obtain ⟨m, rfl⟩ : ∃ m, k = m + 1 := ⟨k - 1, by omega⟩
    rfl
  · have : i.natAbs.log2 < 1920 := by
      by_cases h0 : i.natAbs = 0
      · rw [h0]
        decide
      · refine (Nat.log2_lt h0).mpr (Nat.lt_of_lt_of_le h ?_)
        refine Nat.le_trans (Nat.pow_le_pow_right (by decide) h3) ?_
        decide +kernel
    exact decide_eq_true this
  · have e := int_text_length_le10 hj h
    have e2 : (PyData.shown (.int i)).length = (toString i).length := by
      show (Str.ofString (toString i)).length = _
      rw [PySem.ofString_length]
    omega
  · simp [PyData.depth]
theorem sum_le (n : Nat) : ∀ l : List Nat, (∀ x ∈ l, x ≤ n) → l.sum ≤ n * l.length
  | [], _ => by simp
  | x :: r, h => by
    have h1 := h x List.mem_cons_self
    have h2 := sum_le n r fun y hy => h y (List.mem_cons_of_mem _ hy)
    rw [List.sum_cons, List.length_cons, Nat.mul_add]
    omega
theorem fine_all : ∀ {ds : List D}, (∀ d ∈ ds, Fine S k n M d) → ∃ ps, (∀ M', Keep S M M' → optAll (toPyR k M') ds = some ps) ∧ (∀ x ∈ PyData.shownAll ps, x.length ≤ n) ∧ (PyData.shownAll ps).length = ds.length ∧ PyData.showableAll ps = true ∧ PyData.depthAll ps ≤ k
  | [], _ => ⟨[], fun _ _ => rfl, fun x h => by simp [PyData.shownAll] at h, rfl, rfl, Nat.zero_le _⟩
  | d :: r, h => by
    obtain ⟨ps, h1, h2, h3, h4, h5⟩ := fine_all (ds := r) fun q hq => h q (List.mem_cons_of_mem _ hq)
    obtain ⟨p, g1, g2, g3, g4⟩ := h d List.mem_cons_self
    refine ⟨p :: ps, fun M' q => by simp [optAll, g1 M' q, h1 M' q], fun x hx => ?_, by simp [PyData.shownAll, h3], by simp [PyData.showableAll, g2, h4], by simp only [PyData.depthAll]; omega⟩
    simp only [PyData.shownAll, List.mem_cons] at hx
    rcases hx with rfl | hx
    · exact g3
    · exact h2 x hx
theorem all_len {ps : List PyData} {c : Nat} (h : ∀ x ∈ PyData.shownAll ps, x.length ≤ n) (h2 : (PyData.shownAll ps).length ≤ c) : ((PyData.shownAll ps).map (·.length)).sum + 2 * (PyData.shownAll ps).length + 3 ≤ c * (n + 2) + 3 := by
  have q := sum_le n ((PyData.shownAll ps).map (·.length)) (fun x hx => by
    obtain ⟨y, hy, rfl⟩ := List.mem_map.mp hx
    exact h y hy)
  rw [List.length_map] at q
  have : (n + 2) * (PyData.shownAll ps).length ≤ (n + 2) * c := Nat.mul_le_mul_left _ h2
  rw [Nat.mul_comm c]
  rw [Nat.add_mul] at this
  omega
theorem fine_tup {ds : List D} {c : Nat} (h : ∀ d ∈ ds, Fine S k n M d) (hc : ds.length ≤ c) : Fine S (k + 1) (c * (n + 2) + 3) M (.tup ds) := by
  obtain ⟨ps, h1, h2, h3, h4, h5⟩ := fine_all h
  refine ⟨.tuple ps, fun M' q => by simp [toPyR, h1 M' q], by simp [PyData.showable, h4], ?_, by simp only [PyData.depth]; omega⟩
  simp only [PyData.shown]
  exact Nat.le_trans (tupleText_len_le _) (all_len h2 (by omega))
theorem fine_lst {ds : List D} {c a : Nat} (ha : M[a]? = some (.lst ds)) (hs : ¬ S a) (h : ∀ d ∈ ds, Fine S k n M d) (hc : ds.length ≤ c) : Fine S (k + 1) (c * (n + 2) + 3) M (.ob a) := by
  obtain ⟨ps, h1, h2, h3, h4, h5⟩ := fine_all h
  refine ⟨.list ps, fun M' q => ?_, by simp [PyData.showable, h4], ?_, by simp only [PyData.depth]; omega⟩
  · have e := q.2 a _ hs ha
    rw [toPyR]
    simp only [e, h1 M' q, Option.map_some]
  simp only [PyData.shown]
  exact Nat.le_trans (listText_len_le _) (all_len h2 (by omega))
/-- what is printed is of these kinds -/
theorem Fine.kind (h : Fine S k n M d) (M' : Store) (q : Keep S M M') : ∃ t, kindC M' d = some (.ty t, 0) ∧ t ∈ ["NoneType", "bool", "int", "str", "tuple", "list", "dict"] := by
  obtain ⟨py, h1, _⟩ := h
  have e := h1 M' q
  cases d with
  | non => exact ⟨_, rfl, by simp⟩
  | bl b => exact ⟨_, rfl, by simp⟩
  | int i => exact ⟨_, rfl, by simp⟩
  | str x => exact ⟨_, rfl, by simp⟩
  | tup ds => exact ⟨_, rfl, by simp⟩
  | clo _ _ _ =>
    cases k <;> cases e
  | ob m =>
    cases k with
    | zero => cases e
    | succ k =>
      rw [toPyR] at e
      split at e
      · rename_i ds e2
        exact ⟨"list", by simp [kindC, e2], by simp⟩
      · rename_i ds e2
        exact ⟨"list", by simp [kindC, e2], by simp⟩
      · rename_i ds e2
        exact ⟨"dict", by simp [kindC, e2], by simp⟩
      · cases e
end
end RI

/-! methods of one's own called, list.count -/
namespace RI
open PySem PySem.Spec PyProof.Rows L2
def insD (c m : Str) (M : Store) : D → Bool
  | .ob n => match M[n]? with
    | some (.ins c' fs) => decide (c' = c) && (fs.lookup m).isNone
    | _ => false
  | _ => false
def denMeth (fo : Den D) (fs : Den (List D)) (c m : Str) (n : Nat) (g : List D → Store → Out D) : Den D := fun ρ M => (fo ρ M).bind fun x M => if insD c m M x then (fs ρ M).bind fun ds M => if ds.length + 1 = n then g (x :: ds) M else .no else .no
theorem rpF_none {K : PySem.W.Frag} {θ : List Addr} {H : Hp} {m : Str} : ∀ {gs : List (Str × V)} {fs : List (Str × D)}, RpF K θ H gs fs → fs.lookup m = none → gs.lookup m = none
  | _, _, .nil, _ => rfl
  | _, _, .cons (f := f) _ t, h => by
    rw [List.lookup_cons] at h ⊢
    split at h
    · cases h
    · exact rpF_none t h
section
variable {X : Cx} {cl : ClsA} {W : WX} {o e : Expr} {es : List Expr} {fo : Den D} {fs : Den (List D)} {apos pos : Pos} {c m : Str} {C : Addr}
theorem rd_meth {pl : Sem Bool} {k : Nat} {fM : Addr} {fd : FuncData} {ps : List Str} {g : List D → Store → Out D} (cc : Cls X.K C) (hcl : cl c = some C) (hm : Meth X.K C m fM) (F : FnG X.prog X.w X.K X.mg X.base cl k fM fd ps g) (hr : Room k X.A) (hgd : X.A.guards = some []) (hb : Binds X.K fd ps []) (tk : Takes X W)
    (ho : RD X cl W o fo) (ha : RA X cl W (e :: es) fs) (h1 : isStar e = false) (h2 : es.any isStar = false)
    (ht : eval (.Call (.Attribute o m apos) (e :: es) [] pos) X.env = (do
      let ov ← eval o X.env
      standAt apos.atName
      let (f, first) ← holding [ov] (getMethod ov m pl)
      callWith pos f first (backTo pos (starEach (e :: es) X.env)) (backToKw pos (keywordEach [] X.env)))) : RD X cl W (.Call (.Attribute o m apos) (e :: es) [] pos) (denMeth fo fs c m ps.length g) := by
  refine ⟨fun pins s σ H Q I q => ?_⟩
  obtain ⟨θ, ρ, M, hE, r, q⟩ := q
  refine methcall_of ho I ⟨θ, ρ, M, hE, r, PostG.bind q fun x M1 θ1 H1 v e1 r1 p1 q1 => ?_⟩ ht
  split at q1
  case isFalse => exact q1.elim
  rename_i hi
  unfold insD at hi
  split at hi
  case h_2 => cases hi
  rename_i n
  cases p1
  rename_i a hn
  obtain ⟨u, hu, hr2⟩ := r1.atn hn
  rw [hu] at hi
  cases u with
  | ins c' gs =>
    simp only [Bool.and_eq_true, decide_eq_true_eq, Option.isNone_iff_eq_none] at hi
    obtain ⟨rfl, hlk⟩ := hi
    obtain ⟨C', dx, vs, hC, ea, hF⟩ := hr2
    rw [hcl] at hC
    cases hC
    refine ⟨a, C, dx, vs, fM, rfl, ea, cc, hm, rpF_none hF hlk, fun s1 I1 => ?_⟩
    refine PySem.W.callWith_K (first := [.ref a]) (h₀ := X.base) I1.ok.mod.kin hm.kp ?_ (star_one e es X.env h1) (star_no pos X.env es h2)
    refine thn (ha.run pos pins s1 σ H1 (fun vs H2 => ∃ θ2 M2 ds, Rep X.K cl θ2 H2 M2 ∧ Rp X.K θ2 H2 (.ref a) (.ob n) ∧ RpA X.K θ2 H2 vs ds ∧ PostG X.K cl (Rp X.K) W Q σ θ2 H2 (if ds.length + 1 = ps.length then g (.ob n :: ds) M2 else .no)) I1
      ⟨θ1, ρ, M1, hE.ext e1, r1, PostG.bind q1 fun ds M2 θ2 H2 vs e2 r2 p2 q2 => ⟨θ2, M2, ds, r2, .ob (e2.pre _ _ hn), p2, q2⟩⟩) fun us s2 ⟨vs, H2, I2, rv, θ2, M2, ds, r2, po, p2, q2⟩ => ⟨I2.kIn, ?_⟩
    split at q2
    · rename_i hl
      exact runG (us := .ref a :: us) (vs := .ref a :: vs) F hr hgd hb tk I2 (.cons rfl rv) r2 (.cons po p2) (by rw [List.length_cons]; exact hl) q2
    · exact q2.elim
  | _ => cases hi
structure MeB (P : Program) (w : World) (K : PySem.W.Frag) (mg : Str → Option Value) (base : Heap) (cl : ClsA) (k : Nat) (c m : Str) (ps : List Str) (g : List D → Store → Out D) : Prop where
  ex : ∃ C fM fd, cl c = some C ∧ Cls K C ∧ Meth K C m fM ∧ Binds K fd ps [] ∧ FnG P w K mg base cl k fM fd ps g
theorem xmeth {pl : Sem Bool} {k : Nat} {ps : List Str} {g : List D → Store → Out D} (B : MeB X.prog X.w X.K X.mg X.base cl k c m ps g) (hr : Room k X.A) (hgd : X.A.guards = some []) (tk : Takes X W) (ho : RD X cl W o fo) (ha : RA X cl W (e :: es) fs) (h1 : isStar e = false := by rfl) (h2 : es.any isStar = false := by rfl)
    (ht : eval (.Call (.Attribute o m apos) (e :: es) [] pos) X.env = (do
      let ov ← eval o X.env
      standAt apos.atName
      let (f, first) ← holding [ov] (getMethod ov m pl)
      callWith pos f first (backTo pos (starEach (e :: es) X.env)) (backToKw pos (keywordEach [] X.env))) := by rfl) : RD X cl W (.Call (.Attribute o m apos) (e :: es) [] pos) (denMeth fo fs c m ps.length g) := by
  obtain ⟨C, fM, fd, hcl, cc, hm, hb, F⟩ := B.ex
  exact rd_meth cc hcl hm F hr hgd hb tk ho ha h1 h2 ht
/-! ### count -/
end
end RI

/-! all, any, zip of two tuples, tuple targets of comprehensions -/
namespace RI
open PySem PySem.Spec PyProof.Rows L2
def zipD : List D → List D → List D
  | x :: xs, y :: ys => .tup [x, y] :: zipD xs ys
  | _, _ => []
def itZip (ds : List D) (M : Store) : Out ItD := match ds with
  | [.tup xs, .tup ys] => .ok ⟨zipD xs ys, none⟩ M
  | _ => .no
def denZip (fs : Den (List D)) : Den ItD := fun ρ M => (fs ρ M).bind itZip
section
variable {X : Cx} {cl : ClsA} {W : WX} {σ : L2.St} {a b : Expr} {fs : Den (List D)} {p pos : Pos} {θ : List Addr} {H : Hp}
end
end RI

/-! xs[::-1] of a tuple -/
namespace HT
open PySem PySem.Spec PyProof.Rows
section
variable {prog : Program} {w : World} {A : Around} {E : Value → Shared → Prop} {s : Shared}
theorem adjust_rev (n : Nat) : Builtin.Slice.sliceAdjust none none (-1) (n : Int) = ((n : Int) - 1, -1) := by
  unfold Builtin.Slice.sliceAdjust
  simp
theorem places_rev (n : Nat) : Builtin.Slice.slicePlaces ((n : Int) - 1) (-1) (-1) = n := by
  unfold Builtin.Slice.slicePlaces
  have h1 : ¬ ((-1 : Int) > 0) := by decide
  simp only [h1, if_false]
  split
  · simp
    try omega
  · omega
theorem sliceApplied_rev {sl : Addr} {vl vu vs : Value} {n : Nat} {Q : Int × Int × Nat → Shared → Prop} (hs : s.heap.IsSliceOf sl vl vu vs) (pl : IsPart vl none) (pu : IsPart vu none) (ps : IsPart vs (some (-1)))
    (h : Q ((n : Int) - 1, -1, n) s) : wpAny (model prog w) A (Builtin.Slice.sliceApplied (.ref sl) (pure (n : Int))) Q E s := by
  obtain ⟨os, hos, hcs, hds⟩ := id hs
  unfold Builtin.Slice.sliceApplied Builtin.Slice.sliceFields
  refine wpAny_bind (wpAny_bind (wpAny_field hos hds (x := vl) rfl (wpAny_bind (wpAny_field hos hds (x := vu) rfl (wpAny_bind (wpAny_field hos hds (x := vs) rfl (wpAny_pure ?_)))))))
  refine wpAny_bind (slicePart_ ps ?_)
  show wpAny _ _ (if ((-1 : Int) == 0) = true then _ else _) _ _ s
  rw [if_neg (by decide)]
  refine wpAny_bind (slicePart_ pl (wpAny_bind (slicePart_ pu (wpAny_bind (wpAny_pure ?_)))))
  show wpAny _ _ (match Builtin.Slice.sliceAdjust none none (-1) (n : Int) with | (lo, hi) => pure (lo, (-1 : Int), Builtin.Slice.slicePlaces lo hi (-1))) _ _ s
  rw [adjust_rev n]
  show wpAny _ _ (pure ((n : Int) - 1, (-1 : Int), Builtin.Slice.slicePlaces ((n : Int) - 1) (-1) (-1))) _ _ s
  rw [places_rev]
  exact wpAny_pure h
theorem fm_congr {α β : Type} {f g : α → Option β} : ∀ {l : List α}, (∀ x ∈ l, f x = g x) → l.filterMap f = l.filterMap g
  | [], _ => rfl
  | x :: r, h => by
    rw [List.filterMap_cons, List.filterMap_cons, h x List.mem_cons_self, fm_congr fun y hy => h y (List.mem_cons_of_mem _ hy)]
theorem pick_rev (xs : Array Value) : ((List.range xs.size).filterMap fun (m : Nat) => xs[((xs.size : Int) - 1 + (m : Int) * (-1)).toNat]?).toArray = xs.toList.reverse.toArray := by
  have e : ∀ m ∈ List.range xs.size, xs[((xs.size : Int) - 1 + (m : Int) * (-1)).toNat]? = (xs.toList.reverse)[m]? := by
    intro m hm
    rw [List.mem_range] at hm
    rw [List.getElem?_reverse (by rw [Array.length_toList]; exact hm), Array.length_toList, Array.getElem?_toList]
    congr 1
    omega
  have e2 : (List.range xs.size).filterMap (fun (m : Nat) => xs[((xs.size : Int) - 1 + (m : Int) * (-1)).toNat]?) = (List.range xs.toList.reverse.length).filterMap (fun m => (xs.toList.reverse)[m]?) := by
    rw [List.length_reverse, Array.length_toList]
    exact fm_congr e
  rw [e2]
  congr 1
  generalize xs.toList.reverse = l
  induction l with
  | nil => rfl
  | cons x r ih =>
    rw [List.length_cons, List.range_succ_eq_map, List.filterMap_cons]
    simp only [List.getElem?_cons_zero, List.filterMap_map]
    congr 1
theorem getItem_tuple_rev {t sl : Addr} {items : Array Value} {vl vu vs : Value} {Q : Value → Shared → Prop} (ht : IsTup s.heap t items) (hs : s.heap.IsSliceOf sl vl vu vs) (pl : IsPart vl none) (pu : IsPart vu none) (ps : IsPart vs (some (-1)))
    (h : Q (.ref s.heap.objs.size) { s with heap := s.heap.push { cls := .type "tuple", data := .seq items.toList.reverse.toArray } })
    (hsz : items.size ≤ sizeLine) : wpAny (model prog w) A (getItem (.ref t) (.ref sl)) Q E s := by
  have htake : sizeOk (.seq items.toList.reverse.toArray) := by
    show items.toList.reverse.toArray.size ≤ sizeLine
    rw [List.size_toArray, List.length_reverse, Array.length_toList]
    exact hsz
  obtain ⟨os, hos, hcs, hds⟩ := id hs
  have hTs : s.TypeIs (.ref sl) "slice" := ⟨os, hos, hcs⟩
  unfold getItem
  try with_reducible refine wpAny_holding ?_
  first | refine wpAny_bind (wpAny_pure ?_) | skip
  refine wpAny_bind (wpAny_sequenceKey ht.typeIs (by decide) ?_)
  refine wpAny_bind (wpAny_callSpecial?_slot (name := Str.ofString "__getitem__") ht.typeIs PyProof.Rows.slot_tuple_getitem
    (wpAny_call_entry PyProof.Rows.slot_tuple_getitem ht.typeIs entry_tuple_getitem ?_ (args_tuple_getitem _ _)))
  show wpAny _ _ (Builtin.Tuple.tupleItemsOf (.ref t) >>= _) _ _ s
  refine wpAny_bind (tupleItemsOf_ ht ?_)
  refine wpAny_bind (wpAny_typeOf hTs ?_)
  rw [if_pos (by decide)]
  refine wpAny_bind (sliceApplied_rev hs pl pu ps ?_)
  have hno : ¬ ((((items.size : Int) - 1) == 0 && (-1 : Int) == 1 && items.size == items.size) = true) := by
    intro q
    rw [Bool.and_eq_true, Bool.and_eq_true] at q
    exact absurd q.1.2 (by decide)
  show wpAny _ _ (if (((items.size : Int) - 1) == 0 && (-1 : Int) == 1 && items.size == items.size) = true then _ else _) _ _ s
  rw [if_neg hno, pick_rev]
  first
    | exact wpAny_bind (m := Builtin.Tuple.tupleExact _) (wpAny_newObj_type (wpAny_pure ⟨_, rfl, wpAny_pure h⟩) htake)
    | exact wpAny_bind (m := Builtin.Tuple.tupleExact _) (wpAny_newObj_type (wpAny_bind (wpAny_pure (wpAny_pure ⟨_, rfl, wpAny_pure h⟩))) htake)
    | exact wpAny_bind (wpAny_bind (m := Builtin.Tuple.tupleExact _) (wpAny_newObj_type (wpAny_pure (wpAny_pure ⟨_, rfl, wpAny_pure h⟩)) htake))
    | exact wpAny_bind (wpAny_bind (m := Builtin.Tuple.tupleExact _) (wpAny_newObj_type (wpAny_pure ⟨_, rfl, wpAny_pure h⟩) htake))
end
end HT
namespace RI
open PySem PySem.Spec PyProof.Rows L2
section
variable {X : Cx} {cl : ClsA} {W : WX} {e : Expr} {fa : Den D}
def revT (x : D) (M : Store) : Out D := match x with
  | .tup ds => if ds.length ≤ line then .ok (.tup ds.reverse) M else .no
  | _ => .no
def denRevT (fa : Den D) : Den D := fun ρ M => (fa ρ M).bind revT
theorem rd_revT {k : Nat} {p1 p2 p3 pos : Pos} (he : RD X cl W e fa) : RD X cl W (.Subscript e (.Slice none none (some (.UnaryOp .USub (.Constant (.int 1) k p1) p2)) p3) pos) (denRevT fa) := by
  refine ⟨fun pins s σ H Q I h => ?_⟩
  obtain ⟨θ, ρ, M, hE, r, q⟩ := h
  refine Subscript_ (thn (he.run pins s σ H (fun v H2 => ∃ θ2 M2 x, Rep X.K cl θ2 H2 M2 ∧ Rp X.K θ2 H2 v x ∧ PostG X.K cl (Rp X.K) W Q σ θ2 H2 (revT x M2)) I ⟨θ, ρ, M, hE, r, PostG.bind q fun x M1 θ1 H1 v e1 r1 p1 q1 => ⟨θ1, M1, x, r1, p1, q1⟩⟩) fun v s1 ⟨x, H1, I1, r1, θ1, M1, dx, rp, px, q1⟩ => ?_)
  unfold revT at q1
  split at q1
  case h_2 => exact q1.elim
  split at q1
  case isFalse => exact q1.elim
  rename_i ds hl
  cases px with
  | tup hx hd =>
    rename_i a xs
    cases (show v = Value.ref a from r1)
    have hst : PO X (some (.UnaryOp .USub (.Constant (.int 1) k p1) p2)) (tPart (tUn (rU fun i => .int (-i)) (tC (.int 1)))) := po_some (pe_un un_neg pe_int)
    refine wpAny_Slice (thn (po_none.run pins s1 σ H1 (fun o H2 => o = none ∧ H2 = H1) I1 ⟨rfl, rfl⟩) fun vl s2 ⟨l, H2, I2, pl, el, e2⟩ => ?_)
    subst el e2
    refine thn (po_none.run pins s2 σ H2 (fun o H3 => o = none ∧ H3 = H2) I2 ⟨rfl, rfl⟩) fun vu s3 ⟨u, H3, I3, pu, eu, e3⟩ => ?_
    subst eu e3
    refine thn (hst.run pins s3 σ H3 (fun o H4 => o = some (-1) ∧ H4 = H3) I3 ⟨1, rfl, -1, rfl, rfl, rfl⟩) fun vs s4 ⟨o, H4, I4, ps, eo, e4⟩ => ?_
    subst eo e4
    have I5 : Inv X pins σ H4 { s4 with heap := s4.heap.push { cls := .type "slice", data := .fields #[vl, vu, vs] } } := I4.kept (t' := s4.toks) fun b ob q => Heap.get?_push_of_some _ q
    obtain ⟨its, rr, ht, hz⟩ := I5.tuple hx.sq
    have hlen := rr.length
    have hsz : its.toArray.size ≤ sizeLine := by rw [List.size_toArray, ← hlen, hd.length]; exact line_ok hl
    show wpAny (model X.prog X.w) X.A (subscriptTail e (.Slice none none (some (.UnaryOp .USub (.Constant (.int 1) k p1) p2)) p3) (.ref a) (.ref s4.heap.objs.size)) (EP X pins σ Q) X.xe { s4 with heap := s4.heap.push { cls := .type "slice", data := .fields #[vl, vu, vs] } }
    refine tail_any (ops := [.ref a, .ref s4.heap.objs.size]) (show Shared.TypeIs _ (.ref a) "tuple" from by obtain ⟨o, ho, hc, _⟩ := ht; exact ⟨o, ho, hc⟩) (PyProof.Rows.slot_tuple_getitem.lookup) ?_ (by with_unfolding_all rfl)
    refine HT.getItem_tuple_rev ht (Heap.IsSliceOf.new _ vl vu vs) pl pu ps ?_ hsz
    have fr := I5.hok.fresh (Nat.le_refl _)
    refine ⟨.ref _, _, laidX I5 (t' := s4.toks) (vs := xs.reverse) (fun b ob q => Heap.get?_push_of_some _ q) (Nat.le_refl _) (Heap.get?_push_size _ rfl) ?_, rfl, q1 θ1 _ _ (Ext.upd (Free.none fr)) (rp.keep fr) (.tup (TupX.of upd_same ⟨rfl, rfl⟩) (hd.rev.ext (Ext.upd (Free.none fr))))⟩
    exact ⟨by rw [List.length_reverse]; exact hz, _, rr.reverse, ⟨_, Heap.get?_push_size _ rfl, rfl, _, rfl⟩⟩
end
end RI
namespace RI
open PySem PySem.Spec PyProof.Rows L2
end RI

/-! t * k of a tuple -/
namespace RI
open PySem PySem.Spec PyProof.Rows L2
section
variable {X : Cx} {cl : ClsA} {W : WX} {a b : Expr} {fa fb : Den D} {pos : Pos}
end
end RI

/-! o[i], len(o), str(o) of an instance with methods of its own -/
namespace PySem.W
open PySem PySem.Calls PyProof.Rows Builtin
section
variable {prog : Program} {w : World} {A : Around} {E : Value → Shared → Prop} {s : Shared} {K : Frag} {x C f : Addr} {ox : Obj} {od : Option Obj}
end
end PySem.W
namespace RI
open PySem PySem.Spec PyProof.Rows L2
section
variable {X : Cx} {cl : ClsA} {W : WX} {a b : Expr} {fa fb : Den D} {pos : Pos} {c : Str} {C : Addr}
end
end RI
namespace PySem.W
open PySem PySem.Calls PyProof.Rows Builtin
section
variable {prog : Program} {w : World} {A : Around} {E : Value → Shared → Prop} {s : Shared} {K : Frag} {x C f : Addr} {ox : Obj} {od : Option Obj}
end
end PySem.W
namespace RI
open PySem PySem.Spec PyProof.Rows L2
section
variable {X : Cx} {cl : ClsA} {W : WX} {σ : L2.St} {c : Str} {C : Addr}
end
end RI

/-! == and != of an instance with its own __eq__ -/
namespace PySem.W
open PySem PySem.Calls PyProof.Rows Builtin
section
variable {prog : Program} {w : World} {A : Around} {E : Value → Shared → Prop} {s : Shared} {K : Frag} {x C f L : Addr} {ox : Obj} {od : Option Obj} {h₀ : Heap} {m : Str → Option Value} {b tb : Value}
end
end PySem.W

namespace RI
open PySem PySem.Spec PyProof.Rows L2 PySem.W
section
variable {X : Cx} {cl : ClsA} {W : WX} {σ : L2.St} {c : Str} {C : Addr} {θ : List Addr} {H : Hp} {M : Store}
end
end RI

/-! f-strings of texts and ints -/
namespace RI
open PySem PySem.Spec PyProof.Rows L2
section
variable {X : Cx} {cl : ClsA} {W : WX} {a e : Expr} {fa : Den D} {es : List Expr} {fs : List (Den D)} {pos : Pos}
/-- {x} -/
def fmtD (d : D) (M : Store) : Out D := match d with
  | .str y => if y.length ≤ sizeLine then .ok (.str y) M else .no
  | .int i => if i.natAbs.log2 < 1920 then .ok (.str (toString i)) M else .no
  | _ => .no
def denFmt (fa : Den D) : Den D := fun ρ M => (fa ρ M).bind fmtD
end
end RI

/-! what an outcome is to be: conditions worked out from the back -/
namespace RI
open PySem PySem.Spec PyProof.Rows L2
abbrev EX := Str → List (Str × D) → Store → Prop
abbrev EXS := Str → List (Str × D) → Env1 → Store → Prop
def Ok {α : Type} (x : Out α) (Q : α → Store → Prop) (E : EX) : Prop := match x with
  | .ok a M => Q a M
  | .exc c fs M => E c fs M
  | .no => False
def OkS (x : SOut) (Q : Fl → Env1 → Store → Prop) (E : EXS) : Prop := match x with
  | .fl f ρ M => Q f ρ M
  | .exc c fs ρ M => E c fs ρ M
  | .no => False
def noE : EX := fun _ _ _ => False
def noS : EXS := fun _ _ _ _ => False
def exE (E : EXS) (ρ : Env1) : EX := fun c fs M => E c fs ρ M
def exS (E : EX) : EXS := fun c fs _ M => E c fs M
theorem exE_no {ρ : Env1} : exE noS ρ = noE := rfl
theorem exS_no : exS noE = noS := rfl
theorem exE_exS {E : EX} {ρ : Env1} : exE (exS E) ρ = E := rfl
section
variable {α β : Type} {a : α} {x : Out α} {Q Q' : α → Store → Prop} {R : β → Store → Prop} {E E' : EX} {M M' : Store} {f : α → Store → Out β} {c : Str} {fs : List (Str × D)}
theorem ok_ok : Ok (.ok a M) Q E = Q a M := rfl
theorem ok_exc : Ok (.exc c fs M) Q E = E c fs M := rfl
theorem ok_bind : Ok (x.bind f) R E = Ok x (fun a M => Ok (f a M) R E) E := by cases x <;> rfl
theorem ok_of : Ok (Out.of (some a) M) Q E = Q a M := rfl
theorem ok_noX' (h : Ok x Q noE) : Ok (noX x) Q E := by
  cases x with
  | ok a M => exact h
  | exc _ _ _ => exact h.elim
  | no => exact h.elim
theorem Ok.ex (h : Ok x Q noE) : ∃ a M, x = .ok a M ∧ Q a M := by
  cases x with
  | ok a M => exact ⟨a, M, rfl, h⟩
  | exc _ _ _ => exact h.elim
  | no => exact h.elim
theorem Ok.mono (h : Ok x Q E) (k : ∀ a M, Q a M → Q' a M) (l : ∀ c fs M, E c fs M → E' c fs M) : Ok x Q' E' := by
  cases x with
  | ok a M => exact k a M h
  | exc _ _ _ => exact l _ _ _ h
  | no => exact h.elim
theorem Ok.imp (h : Ok x Q noE) (k : ∀ a M, Q a M → Q' a M) : Ok x Q' E := h.mono k fun _ _ _ h => h.elim
theorem Ok.of (h : ∃ a M, x = .ok a M ∧ Q a M) (k : ∀ a M, Q a M → Q' a M) : Ok x Q' E := by
  obtain ⟨a, M, rfl, h⟩ := h
  exact k a M h
theorem Ok.ofE (h : x = .ok a M) (k : Q a M) : Ok x Q E := by rw [h]; exact k
end
section
variable {α : Type} {y : Out α} {x : SOut} {g h : DenS} {Q Q' : Fl → Env1 → Store → Prop} {E E' : EXS} {ρ : Env1} {M : Store} {fa fo fi fe : Den D} {fs : Den (List D)} {t : Den Bool} {tg : Tgt} {f : α → Store → SOut} {d : D} {fit : Den ItD}
def Nxt (h : DenS) (Q : Fl → Env1 → Store → Prop) (E : EXS) : Fl → Env1 → Store → Prop := fun f ρ M => match f with
  | .nx => OkS (h ρ M) Q E
  | f => Q f ρ M
theorem nxt_nx : Nxt h Q E .nx ρ M = OkS (h ρ M) Q E := rfl
theorem nxt_ret : Nxt h Q E (.ret d) ρ M = Q (.ret d) ρ M := rfl
theorem nxt_brk : Nxt h Q E .brk ρ M = Q .brk ρ M := rfl
theorem nxt_ct : Nxt h Q E .ct ρ M = Q .ct ρ M := rfl
theorem oks_fl {k : Fl} : OkS (.fl k ρ M) Q E = Q k ρ M := rfl
theorem oks_exc {c : Str} {fs : List (Str × D)} : OkS (.exc c fs ρ M) Q E = E c fs ρ M := rfl
theorem oks_bind : OkS (bindS y ρ f) Q E = Ok y (fun a M => OkS (f a M) Q E) (exE E ρ) := by cases y <;> rfl
theorem oks_seq : OkS (denSeq g h ρ M) Q E = OkS (g ρ M) (Nxt h Q E) E := by
  show OkS (andThen (g ρ M) h) Q E = _
  generalize g ρ M = x
  cases x with
  | fl k ρ M => cases k <;> rfl
  | exc _ _ _ _ => rfl
  | no => rfl
theorem oks_nx : OkS (denNx ρ M) Q E = Q .nx ρ M := rfl
def RetK (ρ : Env1) (Q : Fl → Env1 → Store → Prop) : D → Store → Prop := fun d M => Q (.ret d) ρ M
theorem retk : RetK ρ Q d M = Q (.ret d) ρ M := rfl
theorem oks_ret : OkS (denRet fa ρ M) Q E = Ok (fa ρ M) (RetK ρ Q) (exE E ρ) := by
  show OkS (bindS _ _ _) _ _ = _
  rw [oks_bind]
  rfl
theorem oks_retN : OkS ((fun ρ M => SOut.fl (.ret .non) ρ M) ρ M) Q E = Q (.ret .non) ρ M := rfl
def SetK (t : Tgt) (ρ : Env1) (Q : Fl → Env1 → Store → Prop) : D → Store → Prop := fun d M => ∃ ρ', setT t d ρ = some ρ' ∧ Q .nx ρ' M
theorem setk_nm {i : Nat} : SetK (.name i) ρ Q d M = Q .nx (ρ.set i (some d)) M := by
  unfold SetK
  simp only [set_nm, Option.some.injEq]
  exact propext ⟨fun ⟨ρ', e, q⟩ => e ▸ q, fun q => ⟨_, rfl, q⟩⟩
theorem setk_tup {is : List Nat} {ds : List D} (hl : is.length = ds.length) : SetK (.tup is) ρ Q (.tup ds) M = Q .nx (setAll is ds ρ) M := by
  unfold SetK
  simp only [setT, if_pos hl, Option.some.injEq]
  exact propext ⟨fun ⟨ρ', e, q⟩ => e ▸ q, fun q => ⟨_, rfl, q⟩⟩
theorem oks_asg : OkS (denAsg fa tg ρ M) Q E = Ok (fa ρ M) (SetK tg ρ Q) (exE E ρ) := by
  show OkS (bindS _ _ _) _ _ = _
  rw [oks_bind]
  congr 1
  funext d M
  unfold SetK
  cases h : setT tg d ρ with
  | none => exact propext ⟨fun q => q.elim, fun ⟨_, e, _⟩ => by cases e⟩
  | some ρ' => exact propext ⟨fun q => ⟨_, rfl, q⟩, fun ⟨ρ2, e, q⟩ => by cases e; exact q⟩
def DropK (ρ : Env1) (Q : Fl → Env1 → Store → Prop) : D → Store → Prop := fun _ M => Q .nx ρ M
theorem dropk : DropK ρ Q d M = Q .nx ρ M := rfl
theorem oks_drop : OkS (denDrop fa ρ M) Q E = Ok (fa ρ M) (DropK ρ Q) (exE E ρ) := by
  show OkS (bindS _ _ _) _ _ = _
  rw [oks_bind]
  rfl
def IfK (g h : DenS) (ρ : Env1) (Q : Fl → Env1 → Store → Prop) (E : EXS) : Bool → Store → Prop := fun b M => if b then OkS (g ρ M) Q E else OkS (h ρ M) Q E
theorem ifk_t : IfK g h ρ Q E true M = OkS (g ρ M) Q E := rfl
theorem ifk_f : IfK g h ρ Q E false M = OkS (h ρ M) Q E := rfl
theorem oks_ifs : OkS (denIfS t g h ρ M) Q E = Ok (t ρ M) (IfK g h ρ Q E) (exE E ρ) := by
  show OkS (bindS _ _ _) _ _ = _
  rw [oks_bind]
  congr 1
  funext b M
  cases b <;> rfl
def ForK (t : Tgt) (g : DenS) (ρ : Env1) (Q : Fl → Env1 → Store → Prop) (E : EXS) : ItD → Store → Prop := fun it M => OkS (forD it.chk (onT t g) it.ds ρ M) Q E
theorem forkk {ds : List D} {c : Option (Nat × List D)} : ForK tg g ρ Q E ⟨ds, c⟩ M = OkS (forD c (onT tg g) ds ρ M) Q E := rfl
theorem oks_for : OkS (denFor fit tg g ρ M) Q E = Ok (fit ρ M) (ForK tg g ρ Q E) (exE E ρ) := by
  show OkS (bindS _ _ _) _ _ = _
  rw [oks_bind]
  rfl
def ParK (i j : Nat) (ρ : Env1) (Q : Fl → Env1 → Store → Prop) : List D → Store → Prop := fun ds M => ∃ x y, ds = [x, y] ∧ Q .nx ((ρ.set i (some x)).set j (some y)) M
theorem park {i j : Nat} {x y : D} : ParK i j ρ Q [x, y] M = Q .nx ((ρ.set i (some x)).set j (some y)) M := by
  refine propext ⟨fun ⟨x, y, e, q⟩ => ?_, fun q => ⟨_, _, rfl, q⟩⟩
  cases e
  exact q
theorem oks_par {i j : Nat} : OkS (denPar i j fs ρ M) Q E = Ok (fs ρ M) (ParK i j ρ Q) (exE E ρ) := by
  show OkS (bindS _ _ _) _ _ = _
  rw [oks_bind]
  congr 1
  funext ds M
  match ds with
  | [x, y] => rw [park]; rfl
  | [] => exact propext ⟨fun q => q.elim, fun ⟨_, _, e, _⟩ => by cases e⟩
  | [_] => exact propext ⟨fun q => q.elim, fun ⟨_, _, e, _⟩ => by cases e⟩
  | _ :: _ :: _ :: _ => exact propext ⟨fun q => q.elim, fun ⟨_, _, e, _⟩ => by cases e⟩
def Par3K (i j l : Nat) (ρ : Env1) (Q : Fl → Env1 → Store → Prop) : List D → Store → Prop := fun ds M => ∃ x y z, ds = [x, y, z] ∧ Q .nx (((ρ.set i (some x)).set j (some y)).set l (some z)) M
theorem par3k {i j l : Nat} {x y z : D} : Par3K i j l ρ Q [x, y, z] M = Q .nx (((ρ.set i (some x)).set j (some y)).set l (some z)) M := by
  refine propext ⟨fun ⟨x, y, z, e, q⟩ => ?_, fun q => ⟨_, _, _, rfl, q⟩⟩
  cases e
  exact q
theorem oks_par3 {i j l : Nat} : OkS (denPar3 i j l fs ρ M) Q E = Ok (fs ρ M) (Par3K i j l ρ Q) (exE E ρ) := by
  show OkS (bindS _ _ _) _ _ = _
  rw [oks_bind]
  congr 1
  funext ds M
  match ds with
  | [x, y, z] => rw [par3k]; rfl
  | [] => exact propext ⟨fun q => q.elim, fun ⟨_, _, _, e, _⟩ => by cases e⟩
  | [_] => exact propext ⟨fun q => q.elim, fun ⟨_, _, _, e, _⟩ => by cases e⟩
  | [_, _] => exact propext ⟨fun q => q.elim, fun ⟨_, _, _, e, _⟩ => by cases e⟩
  | _ :: _ :: _ :: _ :: _ => exact propext ⟨fun q => q.elim, fun ⟨_, _, _, e, _⟩ => by cases e⟩
/-- a store that is there, then what follows -/
def StK (ρ : Env1) (Q : Fl → Env1 → Store → Prop) : Option Store → Prop := fun o => ∃ M, o = some M ∧ Q .nx ρ M
theorem stk : StK ρ Q (some M) = Q .nx ρ M := by
  refine propext ⟨fun ⟨M, e, q⟩ => ?_, fun q => ⟨_, rfl, q⟩⟩
  cases e
  exact q
theorem StK.of {o : Option Store} (h : o = some M) (k : Q .nx ρ M) : StK ρ Q o := ⟨M, h, k⟩
theorem oks_st {o : Option Store} : OkS (match o with
  | some M' => .fl .nx ρ M'
  | none => .no) Q E = StK ρ Q o := by
  cases o with
  | none => exact propext ⟨fun q => q.elim, fun ⟨_, e, _⟩ => by cases e⟩
  | some M => rw [stk]; rfl
theorem oks_setIx : OkS (denSetIx fe fo fi ρ M) Q E = Ok (fe ρ M) (fun d M => Ok (fo ρ M) (fun x M => Ok (fi ρ M) (fun k M => StK ρ Q (setD x k d M)) (exE E ρ)) (exE E ρ)) (exE E ρ) := by
  show OkS (bindS _ _ _) _ _ = _
  simp only [oks_bind]
  congr 1
  funext d M
  congr 1
  funext x M
  congr 1
  funext k M
  exact oks_st
theorem oks_setF {G : Glo} {nm : Str} : OkS (denSetF G fe fo nm ρ M) Q E = Ok (fe ρ M) (fun d M => Ok (fo ρ M) (fun y M => StK ρ Q (setFD G y nm d M)) (exE E ρ)) (exE E ρ) := by
  show OkS (bindS _ _ _) _ _ = _
  simp only [oks_bind]
  congr 1
  funext d M
  congr 1
  funext x M
  exact oks_st
def FinK (Q : D → Store → Prop) : Fl → Env1 → Store → Prop := fun f _ M => match f with
  | .nx => Q .non M
  | .ret d => Q d M
  | _ => False
theorem fink_nx {Q : D → Store → Prop} : FinK Q .nx ρ M = Q .non M := rfl
theorem fink_ret {Q : D → Store → Prop} : FinK Q (.ret d) ρ M = Q d M := rfl
theorem ok_fin {Q : D → Store → Prop} {E : EX} : Ok (finD x) Q E = OkS x (FinK Q) (exS E) := by
  cases x with
  | fl k ρ M => cases k <;> rfl
  | exc _ _ _ _ => rfl
  | no => rfl
theorem OkS.mono (h : OkS x Q E) (k : ∀ f ρ M, Q f ρ M → Q' f ρ M) (l : ∀ c fs ρ M, E c fs ρ M → E' c fs ρ M) : OkS x Q' E' := by
  cases x with
  | fl f ρ M => exact k _ _ _ h
  | exc _ _ _ _ => exact l _ _ _ _ h
  | no => exact h.elim
/-! ### tests, in order -/
def AndK (fb : Den Bool) (ρ : Env1) (Q : Bool → Store → Prop) (E : EX) : Bool → Store → Prop := fun b M => if b then Ok (fb ρ M) Q E else Q false M
theorem andk_t {fb : Den Bool} {Q : Bool → Store → Prop} {E : EX} : AndK fb ρ Q E true M = Ok (fb ρ M) Q E := rfl
theorem andk_f {fb : Den Bool} {Q : Bool → Store → Prop} {E : EX} : AndK fb ρ Q E false M = Q false M := rfl
theorem ok_and {ga gb : Den Bool} {Q : Bool → Store → Prop} {E : EX} : Ok (denAnd ga gb ρ M) Q E = Ok (ga ρ M) (AndK gb ρ Q E) E := by
  show Ok (Out.bind _ _) _ _ = _
  rw [ok_bind]
  congr 1
  funext b M
  cases b <;> rfl
def OrK (fb : Den Bool) (ρ : Env1) (Q : Bool → Store → Prop) (E : EX) : Bool → Store → Prop := fun b M => if b then Q true M else Ok (fb ρ M) Q E
theorem ork_t {fb : Den Bool} {Q : Bool → Store → Prop} {E : EX} : OrK fb ρ Q E true M = Q true M := rfl
theorem ork_f {fb : Den Bool} {Q : Bool → Store → Prop} {E : EX} : OrK fb ρ Q E false M = Ok (fb ρ M) Q E := rfl
theorem ok_or {ga gb : Den Bool} {Q : Bool → Store → Prop} {E : EX} : Ok (denOr ga gb ρ M) Q E = Ok (ga ρ M) (OrK gb ρ Q E) E := by
  show Ok (Out.bind _ _) _ _ = _
  rw [ok_bind]
  congr 1
  funext b M
  cases b <;> rfl
def NotK (Q : Bool → Store → Prop) : Bool → Store → Prop := fun b M => Q (!b) M
theorem notk_t {Q : Bool → Store → Prop} : NotK Q true M = Q false M := rfl
theorem notk_f {Q : Bool → Store → Prop} : NotK Q false M = Q true M := rfl
theorem ok_not {ga : Den Bool} {Q : Bool → Store → Prop} {E : EX} : Ok (denNot ga ρ M) Q E = Ok (ga ρ M) (NotK Q) E := by
  show Ok (Out.bind _ _) _ _ = _
  rw [ok_bind]
  rfl
def BlK (Q : Bool → Store → Prop) : D → Store → Prop := fun d M => ∃ b, d = .bl b ∧ Q b M
theorem blk {Q : Bool → Store → Prop} {b : Bool} : BlK Q (.bl b) M = Q b M := by
  refine propext ⟨fun ⟨b, e, q⟩ => ?_, fun q => ⟨_, rfl, q⟩⟩
  cases e
  exact q
theorem ok_asB {Q : Bool → Store → Prop} {E : EX} : Ok (asB fa ρ M) Q E = Ok (fa ρ M) (BlK Q) E := by
  rw [ap_asB, ok_bind]
  congr 1
  funext d M
  cases d with
  | bl b => rw [blk]; rfl
  | _ => exact propext ⟨fun q => q.elim, fun ⟨_, e, _⟩ => by cases e⟩
def AndVK (fb : Den D) (ρ : Env1) (Q : D → Store → Prop) (E : EX) : D → Store → Prop := fun d M => ∃ b, d = .bl b ∧ if b then Ok (fb ρ M) Q E else Q (.bl false) M
theorem andvk_t {fb : Den D} {Q : D → Store → Prop} {E : EX} : AndVK fb ρ Q E (.bl true) M = Ok (fb ρ M) Q E := by
  refine propext ⟨fun ⟨b, e, q⟩ => ?_, fun q => ⟨_, rfl, q⟩⟩
  cases e
  exact q
theorem andvk_f {fb : Den D} {Q : D → Store → Prop} {E : EX} : AndVK fb ρ Q E (.bl false) M = Q (.bl false) M := by
  refine propext ⟨fun ⟨b, e, q⟩ => ?_, fun q => ⟨_, rfl, q⟩⟩
  cases e
  exact q
theorem ok_andV {fb : Den D} {Q : D → Store → Prop} {E : EX} : Ok (denAndV fa fb ρ M) Q E = Ok (fa ρ M) (AndVK fb ρ Q E) E := by
  show Ok (Out.bind _ _) _ _ = _
  rw [ok_bind]
  congr 1
  funext d M
  cases d with
  | bl b =>
    cases b with
    | true => rw [andvk_t]
    | false => rw [andvk_f]; rfl
  | _ => exact propext ⟨fun q => q.elim, fun ⟨_, e, _⟩ => by cases e⟩
def NotVK (Q : D → Store → Prop) : D → Store → Prop := fun d M => ∃ b, d = .bl b ∧ Q (.bl !b) M
theorem notvk {b : Bool} {Q : D → Store → Prop} : NotVK Q (.bl b) M = Q (.bl !b) M := by
  refine propext ⟨fun ⟨b, e, q⟩ => ?_, fun q => ⟨_, rfl, q⟩⟩
  cases e
  exact q
theorem ok_notV {Q : D → Store → Prop} {E : EX} : Ok (denNotV fa ρ M) Q E = Ok (fa ρ M) (NotVK Q) E := by
  show Ok (Out.bind _ _) _ _ = _
  rw [ok_bind]
  congr 1
  funext d M
  cases d with
  | bl b => rw [notvk]; rfl
  | _ => exact propext ⟨fun q => q.elim, fun ⟨_, e, _⟩ => by cases e⟩
def IfeK (fa fb : Den D) (ρ : Env1) (Q : D → Store → Prop) (E : EX) : Bool → Store → Prop := fun b M => if b then Ok (fa ρ M) Q E else Ok (fb ρ M) Q E
theorem ifek_t {fb : Den D} {Q : D → Store → Prop} {E : EX} : IfeK fa fb ρ Q E true M = Ok (fa ρ M) Q E := rfl
theorem ifek_f {fb : Den D} {Q : D → Store → Prop} {E : EX} : IfeK fa fb ρ Q E false M = Ok (fb ρ M) Q E := rfl
theorem ok_ife {fb : Den D} {Q : D → Store → Prop} {E : EX} : Ok (denIf t fa fb ρ M) Q E = Ok (t ρ M) (IfeK fa fb ρ Q E) E := by
  show Ok (Out.bind _ _) _ _ = _
  rw [ok_bind]
  congr 1
  funext b M
  cases b <;> rfl
theorem ap_neg {i : Int} : denNeg (dc (.int i)) ρ M = .ok (.int (-i)) M := rfl
/-! ### loops -/
def LoopK (I : Env1 → Store → Prop) (Q : Fl → Env1 → Store → Prop) : Fl → Env1 → Store → Prop := fun f ρ M => match f with
  | .nx => I ρ M
  | .ct => I ρ M
  | .brk => Q .nx ρ M
  | .ret d => Q (.ret d) ρ M
theorem loopk_nx {I : Env1 → Store → Prop} : LoopK I Q .nx ρ M = I ρ M := rfl
theorem loopk_ct {I : Env1 → Store → Prop} : LoopK I Q .ct ρ M = I ρ M := rfl
theorem loopk_brk {I : Env1 → Store → Prop} : LoopK I Q .brk ρ M = Q .nx ρ M := rfl
theorem loopk_ret {I : Env1 → Store → Prop} : LoopK I Q (.ret d) ρ M = Q (.ret d) ρ M := rfl
theorem onT_nm {i : Nat} : onT (.name i) g d ρ M = g (ρ.set i (some d)) M := by simp [onT]
theorem onT_tup {is : List Nat} {ds : List D} (h : is.length = ds.length) : onT (.tup is) g (.tup ds) ρ M = g (setAll is ds ρ) M := by simp [onT, setT, h]
theorem oks_loop {body : D → Env1 → Store → SOut} {chk : Option (Nat × List D)} (Iv : Nat → Env1 → Store → Prop) : ∀ (ds : List D) (n : Nat) (ρ : Env1) (M : Store), Iv n ρ M → (∀ n ρ M, Iv n ρ M → chkM chk M) →
    (∀ j d ρ M, ds[j]? = some d → Iv (n + j) ρ M → OkS (body d ρ M) (LoopK (Iv (n + j + 1)) Q) E) → (∀ ρ M, Iv (n + ds.length) ρ M → Q .nx ρ M) → OkS (forD chk body ds ρ M) Q E
  | [], n, ρ, M, h0, hc, hs, he => by
    have := hc n ρ M h0
    simp only [forD, this, if_true]
    exact he ρ M h0
  | d :: r, n, ρ, M, h0, hc, hs, he => by
    have := hc n ρ M h0
    simp only [forD, this, if_true]
    have s := hs 0 d ρ M rfl h0
    have ih : ∀ ρ' M', Iv (n + 1) ρ' M' → OkS (forD chk body r ρ' M') Q E := fun ρ' M' h => oks_loop Iv r (n + 1) ρ' M' h hc (fun j d ρ M hd hI => by
      rw [show n + 1 + j = n + (j + 1) by omega] at hI ⊢
      exact hs (j + 1) d ρ M (by simpa using hd) hI) fun ρ M h => he ρ M (by
        rw [List.length_cons, show n + (r.length + 1) = n + 1 + r.length by omega]
        exact h)
    generalize body d ρ M = x at s ⊢
    cases x with
    | fl k ρ' M' =>
      cases k with
      | nx => exact ih _ _ s
      | ct => exact ih _ _ s
      | brk => exact s
      | ret d => exact s
    | exc _ _ _ _ => exact s
    | no => exact s.elim
/-- a for loop by its invariant -/
theorem oks_inv {body : D → Env1 → Store → SOut} {chk : Option (Nat × List D)} {ds : List D} (Iv : Nat → Env1 → Store → Prop) (h0 : Iv 0 ρ M) (hc : ∀ n ρ M, Iv n ρ M → chkM chk M) (hs : ∀ j d ρ M, ds[j]? = some d → Iv j ρ M → OkS (body d ρ M) (LoopK (Iv (j + 1)) Q) E) (he : ∀ ρ M, Iv ds.length ρ M → Q .nx ρ M) : OkS (forD chk body ds ρ M) Q E :=
  oks_loop Iv ds 0 ρ M h0 hc (fun j d ρ M hd hI => by
    rw [Nat.zero_add] at hI ⊢
    exact hs j d ρ M hd hI) fun ρ M h => he ρ M (by rw [Nat.zero_add] at h; exact h)
end
/-! ### comprehensions -/
def LcK (t : Tgt) (g : Den Bool) (e : Den D) (ρw : Env1) (Q : D → Store → Prop) (E : EX) : ItD → Store → Prop := fun it M => Ok (lcD M.length it.chk t g e ρw it.ds (M ++ [.lst []])) (fun _ M2 => Q (.ob M.length) M2) E
theorem ok_lc {f : Den ItD} {t : Tgt} {g : Den Bool} {e : Den D} {vs : List Nat} {ρ : Env1} {M : Store} {Q : D → Store → Prop} {E : EX} : Ok (denLc f t g e vs ρ M) Q E = Ok (f ρ M) (LcK t g e (wipeE ρ vs) Q E) E := by
  show Ok (Out.bind _ _) _ _ = _
  rw [ok_bind]
  congr 1
  funext it M
  rw [ok_bind]
  rfl
def ElK (n : Nat) (acc : List D) (I : List D → Store → Prop) : D → Store → Prop := fun y A => A[n]? = some (.lst acc) ∧ I (acc ++ [y]) (A.set n (.lst (acc ++ [y])))
def GdK (e : Den D) (ρ : Env1) (n : Nat) (acc : List D) (I : List D → Store → Prop) : Bool → Store → Prop := fun b A => if b then Ok (e ρ A) (ElK n acc I) noE else I acc A
theorem gdk_t {e : Den D} {ρ : Env1} {n : Nat} {acc : List D} {I : List D → Store → Prop} {A : Store} : GdK e ρ n acc I true A = Ok (e ρ A) (ElK n acc I) noE := rfl
theorem gdk_f {e : Den D} {ρ : Env1} {n : Nat} {acc : List D} {I : List D → Store → Prop} {A : Store} : GdK e ρ n acc I false A = I acc A := rfl
theorem lc_loop {n : Nat} {c : Option (Nat × List D)} {t : Tgt} {g : Den Bool} {e : Den D} {ρw : Env1} {Q : Unit → Store → Prop} {E : EX} (Iv : Nat → List D → Store → Prop) : ∀ (ds acc : List D) (k : Nat) (A : Store), Iv k acc A → A[n]? = some (.lst acc) → acc.length + ds.length ≤ 1000 →
    (∀ k acc A, Iv k acc A → chkM c A) →
    (∀ j d acc A, ds[j]? = some d → acc.length ≤ 1000 → Iv (k + j) acc A → A[n]? = some (.lst acc) → ∃ ρ', setT t d ρw = some ρ' ∧ Ok (g ρ' A) (GdK e ρ' n acc fun acc' A' => A'[n]? = some (.lst acc') ∧ Iv (k + j + 1) acc' A') noE) →
    (∀ acc A, Iv (k + ds.length) acc A → A[n]? = some (.lst acc) → Q () A) → Ok (lcD n c t g e ρw ds A) Q E
  | [], acc, k, A, h0, ha, hl, hc, hs, he => by
    have := hc k acc A h0
    simp only [lcD, this, if_true]
    exact he acc A h0 ha
  | d :: r, acc, k, A, h0, ha, hl, hc, hs, he => by
    rw [List.length_cons] at hl
    have := hc k acc A h0
    obtain ⟨ρ', e1, s⟩ := hs 0 d acc A rfl (by omega) h0 ha
    simp only [lcD, this, if_true, e1]
    have ih : ∀ acc' A', acc'.length ≤ acc.length + 1 → Iv (k + 1) acc' A' → A'[n]? = some (.lst acc') → Ok (lcD n c t g e ρw r A') Q E := fun acc' A' hl' h ha' => lc_loop Iv r acc' (k + 1) A' h ha' (by omega) hc (fun j d acc A hd hl hI ha => by
      rw [show k + 1 + j = k + (j + 1) by omega] at hI ⊢
      exact hs (j + 1) d acc A (by simpa using hd) hl hI ha) fun acc A h ha => he acc A (by
        rw [List.length_cons, show k + (r.length + 1) = k + 1 + r.length by omega]
        exact h) ha
    rw [ok_bind]
    refine ok_noX' (Q := fun a M => Ok _ _ E) ?_
    refine s.imp fun b A1 s => ?_
    cases b with
    | false => exact ih acc A1 (by omega) s.2 s.1
    | true =>
      rw [gdk_t] at s
      simp only [if_true]
      rw [ok_bind]
      refine ok_noX' (Q := fun a M => Ok _ _ E) ?_
      refine s.imp fun y A2 s => ?_
      obtain ⟨a2, s⟩ := s
      have hlt : acc.length < line := Nat.lt_of_lt_of_le (show acc.length < 1001 by omega) (by decide)
      have l1 : RI.listAt A2 n = some acc := by simp [RI.listAt, a2]
      simp only [l1, hlt, if_true]
      exact ih _ _ (by simp) s.2 s.1
/-! ### stores that have grown -/
def Ge (M M' : Store) : Prop := Keep (fun _ => False) M M'
section
variable {M M1 M2 M' : Store} {S : Nat → Prop}
theorem Ge.refl : Ge M M := Keep.refl
theorem Ge.trans (h : Ge M M1) (k : Ge M1 M2) : Ge M M2 := Keep.trans h k
theorem Ge.app (X : Store) : Ge M (M ++ X) := Keep.app X
theorem Ge.keep (h : Ge M M1) : Keep S M M1 := Keep.sub h fun _ _ q => q.elim
theorem Ge.at {n : Nat} {o : SO} (h : Ge M M1) (e : M[n]? = some o) : M1[n]? = some o := h.2 n o (fun q => q) e
theorem Ge.of (h : ∀ S, Keep S M M1) : Ge M M1 := h _
theorem Ge.all (h : Ge M M1) : ∀ S, Keep S M M1 := fun S => h.keep
theorem Keep.ge (h : Keep S M M1) (k : Ge M1 M2) : Keep S M M2 := h.trans k.keep
theorem Ge.setn {n : Nat} (h : Ge M M1) (hn : M.length ≤ n) (o : SO) : Ge M (M1.set n o) := ⟨by rw [List.length_set]; exact h.1, fun m o' hm e => by
  have := lt_of_at e
  rw [List.getElem?_set_ne (by omega)]
  exact h.2 m o' hm e⟩
theorem Keep.setn {n : Nat} (h : Keep S M M1) (hn : M.length ≤ n) (o : SO) : Keep S M (M1.set n o) := ⟨by rw [List.length_set]; exact h.1, fun m o' hm e => by
  have := lt_of_at e
  rw [List.getElem?_set_ne (by omega)]
  exact h.2 m o' hm e⟩
end
/-- a comprehension whose items are told by a function; the store only grows -/
theorem lck_map {t : Tgt} {g : Den Bool} {e : Den D} {ρw : Env1} {Q : D → Store → Prop} {E : EX} {ds : List D} {chk : Option (Nat × List D)} {M : Store} (h : D → D) (q : D → Bool) (hl : ds.length ≤ 1000) (hc : chkM chk M)
    (hs : ∀ d ∈ ds, ∀ A, Ge M A → ∃ ρ', setT t d ρw = some ρ' ∧ Ok (g ρ' A) (fun b A1 => b = q d ∧ Ge A A1 ∧ (b = true → Ok (e ρ' A1) (fun y A2 => y = h d ∧ Ge A1 A2) noE)) noE)
    (hQ : ∀ A, Ge M A → A[M.length]? = some (.lst ((ds.filter q).map h)) → Q (.ob M.length) A) : LcK t g e ρw Q E ⟨ds, chk⟩ M := by
  have hck : ∀ A, Ge M A → chkM chk A := fun A k => by
    cases chk with
    | none => trivial
    | some p =>
      obtain ⟨m, l⟩ := p
      simp only [chkM, readAt] at hc ⊢
      cases e : M[m]? with
      | none => rw [e] at hc; cases hc
      | some o =>
        rw [e] at hc
        rw [k.at e]
        exact hc
  refine lc_loop (n := M.length) (fun k acc A => Ge M A ∧ acc = ((ds.take k).filter q).map h) ds [] 0 (M ++ [.lst []]) ⟨Ge.app _, by simp⟩ (by rw [at_0]; rfl) (by simpa using hl) (fun k acc A hI => hck A hI.1) (fun j d acc A hd _ hI ha => ?_) fun acc A hI ha => ?_
  · obtain ⟨kA, rfl⟩ := hI
    obtain ⟨ρ', e1, s⟩ := hs d (List.mem_of_getElem? hd) A kA
    refine ⟨ρ', e1, s.imp fun b A1 ⟨hb, k1, s⟩ => ?_⟩
    have tk : ds.take (0 + j + 1) = ds.take (0 + j) ++ [d] := by
      rw [Nat.zero_add, List.take_succ, hd]
      rfl
    cases b with
    | false =>
      rw [gdk_f]
      exact ⟨k1.at ha, kA.trans k1, by rw [tk]; simp [← hb]⟩
    | true =>
      rw [gdk_t]
      refine (s rfl).imp fun y A2 ⟨hy, k2⟩ => ?_
      have a2 := k2.at (k1.at ha)
      exact ⟨a2, List.getElem?_set_self (lt_of_at a2), ((kA.trans k1).trans k2).setn (Nat.le_refl _) _, by rw [tk]; simp [← hb, hy]⟩
  · obtain ⟨kA, rfl⟩ := hI
    refine hQ A kA ?_
    rw [ha]
    simp
end RI

/-! t * k of a tuple, any: the same object where nothing is to do -/
namespace RI
open PySem PySem.Spec PyProof.Rows L2
end RI

/-! tools for all laws -/
namespace RI
open PySem PySem.Spec PyProof.Rows L2
def deckO (c : Nat) (t g : Int) : SO := .dct [(.inr "cells", .ob c), (.inr "turn", .int t), (.inr "great", .int g)]
structure Deck (M : Store) (b c : Nat) (t : Nat) : Prop where
  ex : ∃ (g : Int) (cs : List Int), M[b]? = some (deckO c t g) ∧ M[c]? = some (.lst (cs.map .int)) ∧ 0 < cs.length
  ne : c ≠ b
theorem Deck.app {M : Store} {b c t : Nat} (h : Deck M b c t) (X : Store) : Deck (M ++ X) b c t := by
  obtain ⟨⟨g, cs, h1, h2, h3⟩, h4⟩ := h
  exact ⟨⟨g, cs, at_l h1, at_l h2, h3⟩, h4⟩
theorem Deck.lt {M : Store} {b c t : Nat} (h : Deck M b c t) : b < M.length := by
  obtain ⟨⟨g, cs, h1, h2, h3⟩, h4⟩ := h
  exact lt_of_at h1
theorem Deck.ltc {M : Store} {b c t : Nat} (h : Deck M b c t) : c < M.length := by
  obtain ⟨⟨g, cs, h1, h2, h3⟩, h4⟩ := h
  exact lt_of_at h2
theorem Deck.set {M : Store} {b c t f : Nat} (h : Deck M b c t) (hb : f ≠ b) (hc : f ≠ c) (o : SO) : Deck (M.set f o) b c t := by
  obtain ⟨⟨g, cs, h1, h2, h3⟩, h4⟩ := h
  exact ⟨⟨g, cs, by rw [List.getElem?_set_ne hb]; exact h1, by rw [List.getElem?_set_ne hc]; exact h2, h3⟩, h4⟩
theorem k_ct : ("cells" : Str) ≠ "turn" := by decide +kernel
theorem k_cg : ("cells" : Str) ≠ "great" := by decide +kernel
theorem k_tg : ("turn" : Str) ≠ "great" := by decide +kernel
theorem ixk {M : Store} {b : Nat} {kvs : List (Key × D)} {k : Str} {d : D} (h : M[b]? = some (.dct kvs)) (hv : valD kvs (.inr k) = some d) : ixD (.ob b) (.str k) M = .ok d M := by
  simp [ixD, seqD, readAt, h, RI.keyOf, dctAt, hv]
section
variable {M : Store} {b c : Nat} {t g x : Int}
theorem dk_t (h : M[b]? = some (deckO c t g)) : ixD (.ob b) (.str "turn") M = .ok (.int t) M := ixk h (by simp [valD, List.find?, k_ct])
theorem dk_g (h : M[b]? = some (deckO c t g)) : ixD (.ob b) (.str "great") M = .ok (.int g) M := ixk h (by simp [valD, List.find?, k_cg, k_tg])
theorem dk_c (h : M[b]? = some (deckO c t g)) : ixD (.ob b) (.str "cells") M = .ok (.ob c) M := ixk h (by simp [valD, List.find?])
theorem dk_st (h : M[b]? = some (deckO c t g)) : setD (.ob b) (.str "turn") (.int x) M = some (M.set b (deckO c x g)) := by
  simp [setD, h, deckO, RI.keyOf, putKD, k_ct, Ne.symm k_tg]
theorem dk_sg (h : M[b]? = some (deckO c t g)) : setD (.ob b) (.str "great") (.int x) M = some (M.set b (deckO c t x)) := by
  simp [setD, h, deckO, RI.keyOf, putKD, k_cg, k_tg]
end
theorem op_divL {M : Store} {i j : Int} (h : 0 < j) (h2 : j ≤ 10 ^ 40) : opD .FloorDiv (.int i) (.int j) M = .ok (.int (i / j)) M := by
  have : j.natAbs.log2 < 9000 := by
    by_cases h0 : j.natAbs = 0
    · rw [h0]
      decide
    · refine Nat.lt_trans ((Nat.log2_lt h0).mpr (show j.natAbs < 2 ^ 134 by omega)) (by decide)
  exact if_pos ⟨h, this⟩
theorem len_l {M : Store} {k : Nat} {ds : List D} (h : M[k]? = some (.lst ds)) : lenD [.ob k] M = .ok (.int ds.length) M := by simp [lenD, seqD, readAt, h]
theorem ix_l {M : Store} {k : Nat} {ds : List D} {i : Int} {d : D} (h : M[k]? = some (.lst ds)) (hd : atI ds i = some d) : ixD (.ob k) (.int i) M = .ok d M := by simp [ixD, seqD, readAt, h, hd]
theorem pow3 {M : Store} {x : Int} (h : x.natAbs < 2 ^ 64) : opD .Pow (.int x) (.int 3) M = .ok (.int (x ^ 3)) M := by
  rw [op_powI ⟨by decide, by decide, h⟩]
  have e : Int.toNat 3 = 3 := by decide
  rw [e]
def Dk (M : Store) (b c t : Nat) : Prop := ∃ t', t' ≤ t ∧ Deck M b c t'
section
variable {G : Glo} {M M' : Store} {b c t t' f : Nat}
theorem Dk.app (h : Dk M b c t) (X : Store) : Dk (M ++ X) b c t := by
  obtain ⟨u, hu, h⟩ := h
  exact ⟨u, hu, h.app X⟩
theorem Dk.lt (h : Dk M b c t) : b < M.length := by
  obtain ⟨u, hu, h⟩ := h
  exact h.lt
theorem Dk.ltc (h : Dk M b c t) : c < M.length := by
  obtain ⟨u, hu, h⟩ := h
  exact h.ltc
theorem Dk.set (h : Dk M b c t) (hb : f ≠ b) (hc : f ≠ c) (o : SO) : Dk (M.set f o) b c t := by
  obtain ⟨u, hu, h⟩ := h
  exact ⟨u, hu, h.set hb hc o⟩
theorem Dk.up (h : Dk M b c t) (ht : t ≤ t') : Dk M b c t' := by
  obtain ⟨u, hu, h⟩ := h
  exact ⟨u, Nat.le_trans hu ht, h⟩
theorem keep_b (o : SO) : Keep (one b) M (M.set b o) := Keep.set (S := one b) (show b = b from rfl) o
theorem keep_n {S : Nat → Prop} (h : Keep S M M') (hf : M.length ≤ f) (o : SO) : Keep S M (M'.set f o) := ⟨by rw [List.length_set]; exact h.1, fun n o' hn e => by
  have := lt_of_at e
  rw [List.getElem?_set_ne (by omega)]
  exact h.2 n o' hn e⟩
theorem eqvAll_nil : ∀ ps : List PyData, PyData.eqvAll ps [] = ps.isEmpty
  | [] => rfl
  | _ :: _ => rfl
theorem optAll_ints {M : Store} {n : Nat} : ∀ xs : List Int, optAll (toPy (n + 1) M) (xs.map D.int) = some (xs.map PyData.int)
  | [] => rfl
  | x :: r => by
    have e := optAll_ints (M := M) (n := n) r
    rw [List.map_cons, List.map_cons, optAll, e]
    rfl
theorem can_ints : ∀ xs : List Int, PyData.canLayAll0 (xs.map PyData.int) = true
  | [] => rfl
  | x :: r => by simp [PyData.canLayAll0, PyData.canLay0, can_ints r]
theorem dep_ints : ∀ xs : List Int, PyData.depthAll (xs.map PyData.int) ≤ 1
  | [] => by simp [PyData.depthAll]
  | x :: r => by
    have e := dep_ints r
    simp only [List.map_cons, PyData.depthAll, PyData.depth]
    omega
theorem shaped_ints (xs : List Int) : SeqAt.shaped (.list (xs.map PyData.int)) = true := by
  have e := dep_ints xs
  unfold SeqAt.shaped
  rw [Bool.and_eq_true]
  refine ⟨by simp [PyData.canLay0, can_ints], ?_⟩
  apply decide_eq_true
  simp only [PyData.depth]
  omega
theorem toPy_ints {M : Store} {k : Nat} {xs : List Int} (h : M[k]? = some (.lst (xs.map .int))) : toPy 8 M (.ob k) = some (.list (xs.map .int)) := by
  rw [toPy]
  simp [h, optAll_ints]
theorem cmp_nil {M : Store} {k j : Nat} {xs : List Int} (h : M[k]? = some (.lst (xs.map .int))) (hj : M[j]? = some (.lst [])) : cmpD .NotEq (.ob k) (.ob j) M = .ok (.bl (!xs.isEmpty)) M := by
  have e1 := toPy_ints h
  have e2 := toPy_ints (xs := []) hj
  have e3 := shaped_ints xs
  have e4 := shaped_ints []
  simp only [List.map_nil] at e2 e4
  have e5 : (xs.map PyData.int).isEmpty = xs.isEmpty := by cases xs <;> rfl
  simp [cmpD, e1, e2, e3, e4, PyData.eqv, eqvAll_nil, e5, blO]
theorem while_n {cd : Den Bool} {bd : DenS} (Iv : Nat → Env1 → Store → Prop) (h0 : ∀ ρ M, Iv 0 ρ M → ∃ M', cd ρ M = .ok false M' ∧ Iv 0 ρ M') (hs : ∀ n ρ M, Iv (n + 1) ρ M → ∃ M1 ρ' M', cd ρ M = .ok true M1 ∧ bd ρ M1 = .fl .nx ρ' M' ∧ Iv n ρ' M') :
    ∀ (n : Nat) (ρ : Env1) (M : Store), Iv n ρ M → ∃ ρ' M', whileD cd bd (n + 1) ρ M = .fl .nx ρ' M' ∧ Iv 0 ρ' M'
  | 0, ρ, M, h => by
    obtain ⟨M', e, h'⟩ := h0 ρ M h
    exact ⟨ρ, M', by simp [whileD, e, bindS], h'⟩
  | n + 1, ρ, M, h => by
    obtain ⟨M1, ρ1, M2, e1, e2, h1⟩ := hs n ρ M h
    obtain ⟨ρ', M', e3, h2⟩ := while_n Iv h0 hs n ρ1 M2 h1
    refine ⟨ρ', M', ?_, h2⟩
    rw [whileD]
    simp [e1, e2, bindS, e3]
theorem erase_map {α β : Type} (g : α → β) : ∀ (l : List α) (i : Nat), (l.map g).eraseIdx i = (l.eraseIdx i).map g
  | [], _ => rfl
  | _ :: _, 0 => rfl
  | x :: r, i + 1 => by
    show g x :: (r.map g).eraseIdx i = g x :: (r.eraseIdx i).map g
    rw [erase_map g r i]
theorem erase_perm {α : Type} : ∀ {l : List α} {i : Nat} (h : i < l.length), (l[i] :: l.eraseIdx i).Perm l
  | x :: r, 0, _ => List.Perm.refl _
  | x :: r, i + 1, h => by
    have hi : i < r.length := by simpa using h
    have q := erase_perm (l := r) (i := i) hi
    exact (List.Perm.swap x r[i] (r.eraseIdx i)).trans (q.cons x)
def MixI (M0 : Store) (b c t f n : Nat) (j : Nat) (ρ : Env1) (M : Store) : Prop :=
  ∃ F R : List Int, ρ = [some (.ob b), some (.int n), some (.ob f), some (.ob (f + 1))] ∧ M[f]? = some (.lst (F.map .int)) ∧ M[f + 1]? = some (.lst (R.map .int)) ∧ R.length = j ∧ (F ++ R).length = n ∧ (F ++ R).Nodup ∧ (∀ i ∈ F ++ R, 0 ≤ i ∧ i < n) ∧
    Keep (one b) M0 M ∧ Dk M b c (t + (n - j)) ∧ M0.length ≤ f ∧ b < f ∧ c < f
end
section
variable {M M' : Store} {b c t t' f : Nat}
theorem cat_l {j k : Nat} {xs ys : List D} (h1 : M[j]? = some (.lst xs)) (h2 : M[k]? = some (.lst ys)) (h : (xs ++ ys).length ≤ 1000) : opD .Add (.ob j) (.ob k) M = .ok (.ob M.length) (M ++ [.lst (xs ++ ys)]) :=
  op_catL (by simp [RI.listAt, h1]) (by simp [RI.listAt, h2]) h
def runD (p : Int × Int) : D := .tup [.int p.1, .int p.2]
def Adj (ps : List (Int × Int)) : Prop := ∀ i x y, ps[i]? = some x → ps[i + 1]? = some y → x.1 ≠ y.1
def RunI (p : Int × Int) : Prop := 0 ≤ p.1 ∧ p.1 ≤ 3 ∧ 1 ≤ p.2 ∧ p.2 ≤ 10 ^ 30
theorem adj_app {ps : List (Int × Int)} {p : Int × Int} (h : Adj ps) (hl : ∀ q, ps.getLast? = some q → q.1 ≠ p.1) : Adj (ps ++ [p]) := by
  intro i x y hx hy
  have hi := (List.getElem?_eq_some_iff.mp hy).1
  rw [List.length_append, List.length_singleton] at hi
  rw [List.getElem?_append_left (by omega)] at hx
  by_cases h1 : i + 1 < ps.length
  · rw [List.getElem?_append_left h1] at hy
    exact h i x y hx hy
  · have e : i + 1 = ps.length := by omega
    rw [e, List.getElem?_append_right (Nat.le_refl _), Nat.sub_self] at hy
    simp at hy
    subst hy
    refine hl x ?_
    rw [List.getLast?_eq_getElem?]
    rw [show ps.length - 1 = i by omega]
    exact hx
theorem forD_n {body : D → Env1 → Store → SOut} (Iv : Nat → Env1 → Store → Prop) (top : Nat) : ∀ (ds : List D) (n : Nat) (ρ : Env1) (M : Store), n + ds.length ≤ top → (∀ d ∈ ds, ∀ n ρ M, n < top → Iv n ρ M → ∃ ρ' M', body d ρ M = .fl .nx ρ' M' ∧ Iv (n + 1) ρ' M') → Iv n ρ M → ∃ ρ' M', forD none body ds ρ M = .fl .nx ρ' M' ∧ Iv (n + ds.length) ρ' M'
  | [], n, ρ, M, _, _, h => ⟨ρ, M, by simp [forD, chkM], h⟩
  | d :: r, n, ρ, M, hl, hb, h => by
    rw [List.length_cons] at hl
    obtain ⟨ρ1, M1, e1, h1⟩ := hb d List.mem_cons_self n ρ M (by omega) h
    obtain ⟨ρ2, M2, e2, h2⟩ := forD_n Iv top r (n + 1) ρ1 M1 (by omega) (fun d hd => hb d (List.mem_cons_of_mem _ hd)) h1
    exact ⟨ρ2, M2, by simp [forD, chkM, e1, e2], by rw [List.length_cons, show n + (r.length + 1) = n + 1 + r.length by omega]; exact h2⟩
theorem can_runs : ∀ ps : List (Int × Int), ∃ qs, optAll (toPy 7 M) (ps.map runD) = some qs ∧ PyData.canLayAll0 qs = true ∧ PyData.depthAll qs ≤ 3 ∧ qs.isEmpty = ps.isEmpty
  | [] => ⟨[], rfl, rfl, by simp [PyData.depthAll], rfl⟩
  | p :: r => by
    obtain ⟨qs, h1, h2, h3, h4⟩ := can_runs r
    refine ⟨.tuple [.int p.1, .int p.2] :: qs, ?_, ?_, ?_, rfl⟩
    · rw [List.map_cons, optAll, h1]
      rfl
    · simp [PyData.canLayAll0, PyData.canLay0, h2]
    · simp only [PyData.depthAll, PyData.depth]
      omega
theorem cmp_emp (ps : List (Int × Int)) : cmpD .NotEq (.tup (ps.map runD)) (.tup []) M = .ok (.bl (!ps.isEmpty)) M := by
  obtain ⟨qs, h1, h2, h3, h4⟩ := can_runs (M := M) ps
  have e1 : toPy 8 M (.tup (ps.map runD)) = some (.tuple qs) := by
    rw [toPy]
    simp only [h1, Option.map_some]
  have e2 : toPy 8 M (.tup []) = some (.tuple []) := rfl
  have e3 : SeqAt.shaped (.tuple qs) = true := by
    unfold SeqAt.shaped
    rw [Bool.and_eq_true]
    refine ⟨by simp [PyData.canLay0, h2], ?_⟩
    apply decide_eq_true
    simp only [PyData.depth]
    omega
  have e4 : SeqAt.shaped (.tuple []) = true := by decide +kernel
  simp [cmpD, e1, e2, e3, e4, PyData.eqv, eqvAll_nil, h4, blO]
theorem cmp_int {i j : Int} : cmpD .Eq (.int i) (.int j) M = .ok (.bl (i == j)) M := by
  have e : ∀ z : Int, SeqAt.shaped (.int z) = true := fun z => rfl
  simp [cmpD, toPy, e, PyData.eqv, blO]
theorem ix_t {ds : List D} {i : Int} {d : D} (hd : atI ds i = some d) : ixD (.tup ds) (.int i) M = .ok d M := by simp [ixD, seqD, hd]
theorem atI_n {α : Type} {xs : List α} {r : Int} {n : Nat} {x : α} (h0 : r = (n : Int)) (h1 : xs[n]? = some x) : atI xs r = some x := by
  have hl := (List.getElem?_eq_some_iff.mp h1).1
  unfold atI ixN
  rw [if_pos (by omega), if_pos (by omega), h0]
  simp only [Int.toNat_natCast, Option.bind_some]
  exact h1
theorem atI_last {α : Type} {xs : List α} {x : α} (h : xs.getLast? = some x) : atI xs (-1) = some x := by
  rw [List.getLast?_eq_getElem?] at h
  have hl := (List.getElem?_eq_some_iff.mp h).1
  unfold atI ixN
  rw [if_neg (by omega), if_pos (by omega)]
  simp only [Option.bind_some]
  rw [show (-1 + (xs.length : Int)).toNat = xs.length - 1 by omega]
  exact h
end
section
variable {M M' : Store} {b c t t' f : Nat}
theorem sl_t {ds : List D} {lo hi : Option Int} : slD (.tup ds) lo hi M = .ok (.tup (RI.cutD ds lo hi)) M := rfl
theorem cut_map (xs : List Int) (lo hi : Option Int) : ∃ ys, RI.cutD (xs.map D.int) lo hi = ys.map D.int ∧ ys = (xs.drop (HT.sIx xs.length 0 lo)).take (HT.sIx xs.length xs.length hi - HT.sIx xs.length 0 lo) := by
  refine ⟨_, ?_, rfl⟩
  unfold RI.cutD
  rw [List.map_take, List.map_drop, List.length_map]
theorem six_hi {n : Nat} {h : Int} (h0 : 0 ≤ h) (h1 : h ≤ n) : HT.sIx n n (some h) = h.toNat := by
  unfold HT.sIx
  simp only []
  split <;> omega
def KindsI (ks : List Int) : Prop := 2 ≤ ks.length ∧ ks.length ≤ 4 ∧ ks.Nodup ∧ ∀ i ∈ ks, 0 ≤ i ∧ i ≤ 3
def RunsI (M0 : Store) (b c t : Nat) (most many : Int) (ks : List Int) (j : Nat) (ρ : Env1) (M : Store) : Prop :=
  ∃ (x3 x6 : Option D) (ps : List (Int × Int)), ρ = [some (.ob b), some (.int many), some (.int most), x3, some (.tup (ps.map runD)), some (.tup (ks.map .int)), x6] ∧ ps.length = j ∧ Adj ps ∧ (∀ p ∈ ps, RunI p ∧ (0 < most → p.2 ≤ most)) ∧ Keep (one b) M0 M ∧ Dk M b c (t + 6 * j)
end
def oddL (n : Nat) : List D := [.non, .bl true, .bl false, .int (-1), .int 0, .int 1, .int 2, .int 3, .int 4, .int 7, .int 1000000000000000000000000000000, .int 100000000000000000000000000000000000000000000000000000000000, .int (-10000000000000000000000000000000000000000), .str "", .str "0", .str "a", .tup [],
  .tup [.int 0], .tup [.int 1, .int 2], .tup [.tup [.int 0, .int 4]], .ob (n + 1), .ob (n + 2), .ob (n + 3), .ob (n + 4), .ob (n + 5), .tup [.int 0, .int 1, .int 2], .tup [.tup [], .tup []], .tup [.non, .non], .str "runs", .tup [.str "cuts"]]
def oddX (n : Nat) : Store := [.lst [.non, .bl true, .bl false, .int (-1), .int 0, .int 1, .int 2, .int 3, .int 4, .int 7, .int 1000000000000000000000000000000, .int 100000000000000000000000000000000000000000000000000000000000, .int (-10000000000000000000000000000000000000000), .str "", .str "0", .str "a", .tup []],
  .lst [], .lst [.int 0, .int 1], .lst [.tup [.int 0, .int 4]], .dct [], .dct [(.inr "a", .int 1)],
  .lst [.tup [.int 0], .tup [.int 1, .int 2], .tup [.tup [.int 0, .int 4]], .ob (n + 1), .ob (n + 2), .ob (n + 3), .ob (n + 4), .ob (n + 5), .tup [.int 0, .int 1, .int 2], .tup [.tup [], .tup []]],
  .lst [.non, .bl true, .bl false, .int (-1), .int 0, .int 1, .int 2, .int 3, .int 4, .int 7, .int 1000000000000000000000000000000, .int 100000000000000000000000000000000000000000000000000000000000, .int (-10000000000000000000000000000000000000000), .str "", .str "0", .str "a", .tup [],
  .tup [.int 0], .tup [.int 1, .int 2], .tup [.tup [.int 0, .int 4]], .ob (n + 1), .ob (n + 2), .ob (n + 3), .ob (n + 4), .ob (n + 5), .tup [.int 0, .int 1, .int 2], .tup [.tup [], .tup []]],
  .lst [.tup [.non, .non], .str "runs", .tup [.str "cuts"]], .lst (oddL n)]
section
variable {M M' : Store} {b c t t' f : Nat}
end
section
variable {M M' : Store} {b c t t' f : Nat} {S : Nat → Prop}
theorem lc_pure {i : Nat} {e : Den D} {ρw : Env1} {h : D → D} : ∀ (ds acc : List D), (∀ d ∈ ds, ∀ M', e (ρw.set i (some d)) M' = .ok (h d) M') → acc.length + ds.length ≤ 1000 → lcD M.length none (.name i) denYes e ρw ds (M ++ [.lst acc]) = .ok () (M ++ [.lst (acc ++ ds.map h)])
  | [], acc, _, _ => by simp [lcD, chkM]
  | d :: r, acc, he, hl => by
    have hl' : acc.length + (r.length + 1) ≤ 1000 := hl
    have hlt : acc.length < line := Nat.lt_of_lt_of_le (show acc.length < 1001 by omega) (by decide)
    have e1 := he d List.mem_cons_self (M ++ [.lst acc])
    have ih := lc_pure r (acc ++ [h d]) (fun d hd => he d (List.mem_cons_of_mem _ hd)) (by rw [List.length_append, List.length_singleton]; omega)
    have es : List.set (M ++ [.lst acc]) M.length (.lst (acc ++ [h d])) = M ++ [.lst (acc ++ [h d])] := set_k (k := 0)
    simp [lcD, chkM, e1, RI.listAt, at_0, hlt, es]
    rw [ih]
    simp
theorem cut_len {ds : List D} {lo hi : Option Int} : (RI.cutD ds lo hi).length ≤ ds.length := by
  unfold RI.cutD
  rw [List.length_take, List.length_drop]
  omega
theorem sl_l {k : Nat} {ds : List D} {lo hi : Option Int} (h : M[k]? = some (.lst ds)) (hl : ds.length ≤ 1000) : slD (.ob k) lo hi M = .ok (.ob M.length) (M ++ [.lst (RI.cutD ds lo hi)]) := by
  unfold slD
  simp only [readAt, h]
  exact newL_small (Nat.le_trans cut_len hl)
theorem fine_run {p : Int × Int} (hp : RunI p) : Fine S 5 999 M (runD p) := (fine_tup (k := 3) (n := 60) (c := 2) (ds := [.int p.1, .int p.2]) (fun d hd => by
  obtain ⟨p1, p2, p3, p4⟩ := hp
  simp only [List.mem_cons, List.not_mem_nil, or_false] at hd
  rcases hd with rfl | rfl
  · exact fine_int (j := 40) (by decide) (by omega) (by decide) (by decide) (by decide)
  · exact fine_int (j := 40) (by decide) (by omega) (by decide) (by decide) (by decide)) (by simp)).up (by decide) (by decide)
end
def T7 : List String := ["NoneType", "bool", "int", "str", "tuple", "list", "dict"]
structure IsT (G : Glo) : Prop where
  int : ∀ t ∈ T7, G.isi (.ty t) (.ty "int") = some (t == "int" || t == "bool")
  bool : ∀ t ∈ T7, G.isi (.ty t) (.ty "bool") = some (t == "bool")
  tup : ∀ t ∈ T7, G.isi (.ty t) (.ty "tuple") = some (t == "tuple")
def Pl (M : Store) (d : D) : Prop := ∃ k py, toPyR k M d = some py
section
variable {G : Glo} {M M' : Store} {b c t t' f : Nat} {S : Nat → Prop} {d : D}
theorem Fine.pl {k n : Nat} (h : Fine S k n M d) : Pl M d := by
  obtain ⟨py, h1, _⟩ := h
  exact ⟨k, py, h1 M Keep.refl⟩
theorem optAll_get {α β : Type} {g : α → Option β} : ∀ {l : List α} {r : List β}, optAll g l = some r → ∀ x ∈ l, ∃ y, g x = some y
  | [], _, _, x, hx => by cases hx
  | a :: l, r, h, x, hx => by
    simp only [optAll, Option.bind_eq_some_iff, Option.map_eq_some_iff] at h
    obtain ⟨y, h1, z, h2, h3⟩ := h
    rcases List.mem_cons.mp hx with e | e
    · rw [e]; exact ⟨y, h1⟩
    · exact optAll_get h2 x e
theorem Pl.el {ds : List D} (h : Pl M (.tup ds)) : ∀ d ∈ ds, Pl M d := fun d hd => by
  obtain ⟨k, py, h⟩ := h
  cases k with
  | zero => cases h
  | succ k =>
    simp only [toPyR, Option.map_eq_some_iff] at h
    obtain ⟨r, h1, _⟩ := h
    obtain ⟨y, hy⟩ := optAll_get h1 d hd
    exact ⟨k, y, hy⟩
theorem Pl.ob {n : Nat} (h : Pl M (.ob n)) : kindC M (.ob n) = some (.ty "list", 0) ∨ kindC M (.ob n) = some (.ty "dict", 0) := by
  obtain ⟨k, py, e⟩ := h
  cases k with
  | zero => cases e
  | succ k =>
    rw [toPyR] at e
    split at e
    · rename_i ds e2
      exact .inl (by simp [kindC, e2])
    · rename_i ds e2
      exact .inl (by simp [kindC, e2])
    · rename_i ds e2
      exact .inr (by simp [kindC, e2])
    · cases e
theorem Pl.clo {f : Addr} {θ : List Addr} {H : Hp} (h : Pl M (.clo f θ H)) : False := by
  obtain ⟨k, py, e⟩ := h
  cases k <;> cases e
theorem isiD_ty {t : String} {k : Cid} {v : Bool} (h : kindC M d = some (.ty t, 0)) (hg : G.isi (.ty t) k = some v) : isiD G d k M = .ok (.bl v) M := by simp [isiD, h, hg, tagOk]
def fInt : D → Bool
  | .int _ => true
  | .bl _ => true
  | _ => false
def fBl : D → Bool
  | .bl _ => true
  | _ => false
def fTup : D → Bool
  | .tup _ => true
  | _ => false
theorem isi_int (I : IsT G) (h : Pl M d) : isiD G d (.ty "int") M = .ok (.bl (fInt d)) M := by
  cases d with
  | clo _ _ _ => exact h.clo.elim
  | ob n => rcases h.ob with e | e <;> exact isiD_ty e (by rw [I.int _ (by decide)]; rfl)
  | non => exact isiD_ty (t := "NoneType") rfl (by rw [I.int _ (by decide)]; rfl)
  | bl b => exact isiD_ty (t := "bool") rfl (by rw [I.int _ (by decide)]; rfl)
  | int i => exact isiD_ty (t := "int") rfl (by rw [I.int _ (by decide)]; rfl)
  | str x => exact isiD_ty (t := "str") rfl (by rw [I.int _ (by decide)]; rfl)
  | tup ds => exact isiD_ty (t := "tuple") rfl (by rw [I.int _ (by decide)]; rfl)
theorem isi_bl (I : IsT G) (h : Pl M d) : isiD G d (.ty "bool") M = .ok (.bl (fBl d)) M := by
  cases d with
  | clo _ _ _ => exact h.clo.elim
  | ob n => rcases h.ob with e | e <;> exact isiD_ty e (by rw [I.bool _ (by decide)]; rfl)
  | non => exact isiD_ty (t := "NoneType") rfl (by rw [I.bool _ (by decide)]; rfl)
  | bl b => exact isiD_ty (t := "bool") rfl (by rw [I.bool _ (by decide)]; rfl)
  | int i => exact isiD_ty (t := "int") rfl (by rw [I.bool _ (by decide)]; rfl)
  | str x => exact isiD_ty (t := "str") rfl (by rw [I.bool _ (by decide)]; rfl)
  | tup ds => exact isiD_ty (t := "tuple") rfl (by rw [I.bool _ (by decide)]; rfl)
theorem isi_tup (I : IsT G) (h : Pl M d) : isiD G d (.ty "tuple") M = .ok (.bl (fTup d)) M := by
  cases d with
  | clo _ _ _ => exact h.clo.elim
  | ob n => rcases h.ob with e | e <;> exact isiD_ty e (by rw [I.tup _ (by decide)]; rfl)
  | non => exact isiD_ty (t := "NoneType") rfl (by rw [I.tup _ (by decide)]; rfl)
  | bl b => exact isiD_ty (t := "bool") rfl (by rw [I.tup _ (by decide)]; rfl)
  | int i => exact isiD_ty (t := "int") rfl (by rw [I.tup _ (by decide)]; rfl)
  | str x => exact isiD_ty (t := "str") rfl (by rw [I.tup _ (by decide)]; rfl)
  | tup ds => exact isiD_ty (t := "tuple") rfl (by rw [I.tup _ (by decide)]; rfl)
def isW (d : D) (lo hi : Int) : Bool := match d with
  | .int i => decide (lo ≤ i) && decide (i ≤ hi)
  | _ => false
def isR (d : D) (lo hi : Int) : Bool := match d with
  | .tup ds => decide (lo ≤ ds.length) && decide ((ds.length : Int) ≤ hi)
  | _ => false
def runW : D → Option Str
  | .tup [x, y] => if isW x 0 3 then (if isW y 1 1000000000000000000000000000000 then none else some "length") else some "kind"
  | _ => some "run"
def optS : Option Str → D
  | none => .non
  | some w => .str w
def optI : Option Int → D
  | none => .non
  | some i => .int i
theorem cmp_ahead {i : Int} {a : Option Int} : cmpD .Eq (.int i) (optI a) M = .ok (.bl (decide (a = some i))) M := by
  cases a with
  | none => rfl
  | some j =>
    have e := cmp_int (M := M) (i := i) (j := j)
    show cmpD .Eq (.int i) (.int j) M = _
    rw [e]
    have : (i == j) = decide (some j = some i) := by
      by_cases h : i = j
      · subst h; simp
      · have h' : ¬ j = i := fun q => h q.symm
        simp [h, h']
    rw [this]
def runWA (d : D) (a : Option Int) : Option Str := match runW d with
  | some w => some w
  | none => match d with
    | .tup [.int k, _] => if a = some k then some "same" else none
    | _ => none
theorem runW_none : runW d = none ↔ ∃ p, RunI p ∧ d = runD p := by
  constructor
  · intro h
    unfold runW at h
    split at h
    · rename_i x y
      split at h
      · rename_i hx
        split at h
        · rename_i hy
          cases x <;> cases y <;> simp [isW] at hx hy
          rename_i i j
          exact ⟨(i, j), ⟨hx.1, hx.2, hy.1, hy.2⟩, rfl⟩
        · cases h
      · cases h
    · cases h
  · rintro ⟨p, ⟨h1, h2, h3, h4⟩, rfl⟩
    have h4 : p.2 ≤ 1000000000000000000000000000000 := h4
    simp [runW, runD, isW, h1, h2, h3, h4]
end
structure GOK (G : Glo) : Prop where
  T : IsT G
  xB : G.isExn "BadString" = true
  fn : G.fld "BadString" "number" = true
  fw : G.fld "BadString" "word" = true
  iS : G.isIns "String" = true
  f1 : G.fld "String" "own_runs" = true
  f2 : G.fld "String" "own_length" = true
  f3 : G.fld "String" "own_totals" = true
  f4 : G.fld "String" "own_kinds" = true
def kd : D → Option Int
  | .tup (.int k :: _) => some k
  | _ => none
def scanD : Nat → Option Int → List D → Option (Nat × Str)
  | _, _, [] => none
  | n, a, d :: r => match runWA d a with
    | some w => some (n, w)
    | none => scanD (n + 1) (kd d) r
section
variable {G : Glo} {M M' : Store} {b c t t' f : Nat} {S : Nat → Prop} {d : D}
theorem isnot_str {w : Str} : cmpD .IsNot (.str w) .non M = .ok (.bl true) M := rfl
theorem isnot_non : cmpD .IsNot .non .non M = .ok (.bl false) M := rfl
theorem runWA_none {a : Option Int} (h : runWA d a = none) : ∃ p, RunI p ∧ d = runD p ∧ a ≠ some p.1 := by
  unfold runWA at h
  split at h
  · cases h
  · rename_i hw
    obtain ⟨p, hp, rfl⟩ := runW_none.mp hw
    refine ⟨p, hp, rfl, fun e => ?_⟩
    simp only [runD] at h
    rw [if_pos e] at h
    cases h
def errD : D → Option (D × Str)
  | .tup ds => if 1 ≤ ds.length ∧ ds.length ≤ 6 then (scanD 0 none ds).map (fun p => (.int (p.1 : Nat), p.2)) else some (.non, "runs")
  | _ => some (.non, "runs")
end
def mx (i j : Int) : Int := if j > i then j else i
def mn (i j : Int) : Int := if j < i then j else i
def cntL (first last : Int) : List (Int × Int) → Int → List Int → List Int
  | [], _, a => a
  | p :: r, beg, a => cntL first last r (beg + p.2) (a.set p.1.toNat (a.getD p.1.toNat 0 + mx 0 (mn (beg + p.2) last - mx beg first)))
section
variable {G : Glo} {M M' : Store} {b c t t' f : Nat} {S : Nat → Prop} {d : D}
theorem cntL_len (first last : Int) : ∀ (ps : List (Int × Int)) (beg : Int) (a : List Int), (cntL first last ps beg a).length = a.length
  | [], _, _ => rfl
  | p :: r, beg, a => by rw [cntL, cntL_len first last r, List.length_set]
theorem lc_filter {i : Nat} {g : Den Bool} {e : Den D} {ρw : Env1} {h : D → D} {q : D → Bool} : ∀ (ds acc : List D), (∀ d ∈ ds, ∀ M', g (ρw.set i (some d)) M' = .ok (q d) M' ∧ e (ρw.set i (some d)) M' = .ok (h d) M') → acc.length + ds.length ≤ 1000 → lcD M.length none (.name i) g e ρw ds (M ++ [.lst acc]) = .ok () (M ++ [.lst (acc ++ (ds.filter q).map h)])
  | [], acc, _, _ => by simp [lcD, chkM]
  | d :: r, acc, he, hl => by
    have hl' : acc.length + (r.length + 1) ≤ 1000 := hl
    have hlt : acc.length < line := Nat.lt_of_lt_of_le (show acc.length < 1001 by omega) (by decide)
    have e1 := he d List.mem_cons_self (M ++ [.lst acc])
    have es : List.set (M ++ [.lst acc]) M.length (.lst (acc ++ [h d])) = M ++ [.lst (acc ++ [h d])] := set_k (k := 0)
    cases qd : q d with
    | true =>
      have ih := lc_filter r (acc ++ [h d]) (fun d hd => he d (List.mem_cons_of_mem _ hd)) (by rw [List.length_append, List.length_singleton]; omega)
      rw [qd] at e1
      simp [lcD, chkM, e1.1, e1.2, noX, RI.listAt, at_0, hlt, es]
      rw [ih]
      simp [qd]
    | false =>
      have ih := lc_filter r acc (fun d hd => he d (List.mem_cons_of_mem _ hd)) (by omega)
      rw [qd] at e1
      simp [lcD, chkM, e1.1, noX]
      rw [ih]
      simp [qd]
def kindsL (a : List Int) : List Int := ([0, 1, 2, 3] : List Int).filter fun i => decide (0 < a.getD i.toNat 0)
def sumL (ps : List (Int × Int)) : Int := (ps.map (·.2)).sum
def strF (ps : List (Int × Int)) : List (Str × D) := [("own_runs", .tup (ps.map runD)), ("own_length", .int (sumL ps)), ("own_totals", .tup ((cntL 0 (sumL ps) ps 0 [0, 0, 0, 0]).map .int)), ("own_kinds", .tup ((kindsL (cntL 0 (sumL ps) ps 0 [0, 0, 0, 0])).map .int))]
theorem intsOf_map : ∀ xs : List Int, intsOf (xs.map D.int) = some xs
  | [] => rfl
  | x :: r => by simp [intsOf, intsOf_map r]
theorem errD_none (h : errD d = none) : ∃ ps : List (Int × Int), d = .tup (ps.map runD) ∧ (∀ p ∈ ps, RunI p) ∧ 1 ≤ ps.length ∧ ps.length ≤ 6 := by
  have sc : ∀ (ds : List D) (n : Nat) (a : Option Int), scanD n a ds = none → ∃ ps : List (Int × Int), ds = ps.map runD ∧ (∀ p ∈ ps, RunI p) := by
    intro ds
    induction ds with
    | nil => exact fun _ _ _ => ⟨[], rfl, fun p hp => by cases hp⟩
    | cons d r ih =>
      intro n a h
      unfold scanD at h
      split at h
      · cases h
      · rename_i hw
        obtain ⟨p, hp, rfl, _⟩ := runWA_none hw
        obtain ⟨ps, rfl, hps⟩ := ih _ _ h
        refine ⟨p :: ps, rfl, fun q hq => ?_⟩
        rcases List.mem_cons.mp hq with rfl | hq
        · exact hp
        · exact hps q hq
  unfold errD at h
  split at h
  · rename_i ds
    split at h
    · rename_i hl
      rw [Option.map_eq_none_iff] at h
      obtain ⟨ps, rfl, hps⟩ := sc _ _ _ h
      rw [List.length_map] at hl
      exact ⟨ps, rfl, hps, hl.1, hl.2⟩
    · cases h
  · cases h
end
section
variable {G : Glo} {M M' : Store} {b c t t' f : Nat} {S : Nat → Prop} {d : D}
theorem setF_ins {n : Nat} {c f : Str} {fs : List (Str × D)} (K1 : G.isIns c = true) (K2 : G.fld c f = true) (h : M[n]? = some (.ins c fs)) (hl : fs.length < 1000) : setFD G (.ob n) f d M = some (M.set n (.ins c (putFD f d fs))) := by
  simp [setFD, h, K1, K2, hl]
end
section
variable {G : Glo} {M M' : Store} {b c t t' f : Nat} {S : Nat → Prop} {d x y : D}
theorem adj_tail {p : Int × Int} {r : List (Int × Int)} (h : Adj (p :: r)) : Adj r := fun i x y hx hy => h (i + 1) x y (by simpa using hx) (by simpa using hy)
theorem scan_ok : ∀ (ps : List (Int × Int)) (n : Nat) (a : Option Int), (∀ p ∈ ps, RunI p) → Adj ps → (∀ p, ps.head? = some p → a ≠ some p.1) → scanD n a (ps.map runD) = none
  | [], _, _, _, _, _ => rfl
  | p :: r, n, a, h, ha, h0 => by
    have hp := h p List.mem_cons_self
    have w : runW (runD p) = none := runW_none.mpr ⟨p, hp, rfl⟩
    have na := h0 p rfl
    have wa : runWA (runD p) a = none := by
      unfold runWA
      rw [w]
      simp only [runD]
      rw [if_neg na]
    rw [List.map_cons, scanD, wa]
    refine scan_ok r (n + 1) (some p.1) (fun q hq => h q (List.mem_cons_of_mem _ hq)) (adj_tail ha) fun q hq e => ?_
    cases r with
    | nil => cases hq
    | cons q' r' =>
      cases hq
      simp only [Option.some.injEq] at e
      exact ha 0 p q rfl rfl e
theorem valid_err {ps : List (Int × Int)} (h : ∀ p ∈ ps, RunI p) (ha : Adj ps) (h1 : 1 ≤ ps.length) (h2 : ps.length ≤ 6) : errD (.tup (ps.map runD)) = none := by
  unfold errD
  simp only [List.length_map]
  rw [if_pos ⟨h1, h2⟩, scan_ok ps 0 none h ha (fun p _ e => by cases e)]
  rfl
theorem pl_runs {ps : List (Int × Int)} : Pl M (.tup (ps.map runD)) := by
  have q : ∀ ps : List (Int × Int), ∃ r, optAll (toPyR 2 M) (ps.map runD) = some r := by
    intro ps
    induction ps with
    | nil => exact ⟨[], rfl⟩
    | cons p r ih =>
      obtain ⟨r', h⟩ := ih
      refine ⟨.tuple [.int p.1, .int p.2] :: r', ?_⟩
      rw [List.map_cons, optAll, h]
      rfl
  obtain ⟨r, h⟩ := q ps
  exact ⟨3, .tuple r, by rw [toPyR]; simp only [h, Option.map_some]⟩
end
section
variable {G : Glo} {M M' : Store} {b c t t' f : Nat} {S : Nat → Prop} {d x y : D}
theorem KK {A B : Store} {n : Nat} {o : SO} (k : ∀ S, Keep S A B) (e : A[n]? = some o) : B[n]? = some o := (k fun _ => False).2 _ _ (fun q => q) e
theorem Pl.mono (h : Pl M d) (k : ∀ S, Keep S M M') : Pl M' d := by
  obtain ⟨n, p, h⟩ := h
  refine ⟨n, p, ?_⟩
  have q : ∀ (n : Nat) (d : D) (p : PyData), toPyR n M d = some p → toPyR n M' d = some p := by
    intro n
    induction n with
    | zero => exact fun _ _ h => by cases h
    | succ n ih =>
      intro d p h
      cases d with
      | tup ds =>
        simp only [toPyR, Option.map_eq_some_iff] at h ⊢
        obtain ⟨r, h1, h2⟩ := h
        exact ⟨r, optAll_imp (fun x _ y q => ih x y q) h1, h2⟩
      | ob m =>
        rw [toPyR] at h ⊢
        split at h
        · rename_i ds e
          simp only [KK k e, Option.map_eq_some_iff] at h ⊢
          obtain ⟨r, h1, h2⟩ := h
          exact ⟨r, optAll_imp (fun x _ y q => ih x y q) h1, h2⟩
        · rename_i ds e
          simp only [KK k e, Option.map_eq_some_iff] at h ⊢
          obtain ⟨r, h1, h2⟩ := h
          exact ⟨r, optAll_imp (fun x _ y q => ih x y q) h1, h2⟩
        · rename_i ds e
          simp only [KK k e, Option.map_eq_some_iff] at h ⊢
          obtain ⟨r, h1, h2⟩ := h
          exact ⟨r, kvAll_imp (fun x y q => ih x y q) h1, h2⟩
        · cases h
      | _ => exact h
  exact q n d p h
end
section
variable {G : Glo} {M M' : Store} {b c t t' f : Nat} {S : Nat → Prop} {d x y : D}
end
section
variable {G : Glo} {M M' : Store} {b c t t' f : Nat} {S : Nat → Prop} {d x y : D}
theorem rng1 {i : Int} (h1 : -(2 ^ 62) ≤ i) (h2 : i < 2 ^ 62) : itRange1 [.int i] M = .ok ⟨rangeD 0 i.toNat, none⟩ M := if_pos ⟨h1, h2⟩
theorem Dk.keep (h : Dk M b c t) (k : ∀ S, Keep S M M') : Dk M' b c t := by
  obtain ⟨u, hu, ⟨g, cs, q1, q2, q3⟩, q4⟩ := h
  exact ⟨u, hu, ⟨g, cs, KK k q1, KK k q2, q3⟩, q4⟩
end
section
variable {G : Glo} {M M' : Store} {b c t t' f : Nat} {S : Nat → Prop} {d x y : D}
end
section
variable {G : Glo} {M M' : Store} {b c t t' f : Nat} {S : Nat → Prop} {d x y : D}
theorem cut_int (ns : List Int) (lo hi : Option Int) : ∃ l : List Int, RI.cutD (ns.map D.int) lo hi = l.map D.int ∧ l.length ≤ ns.length := by
  obtain ⟨ys, h, _⟩ := cut_map ns lo hi
  refine ⟨ys, h, ?_⟩
  have q := cut_len (ds := ns.map D.int) (lo := lo) (hi := hi)
  rw [h, List.length_map, List.length_map] at q
  exact q
end
section
variable {G : Glo} {M M' : Store} {b c t t' f : Nat} {S : Nat → Prop} {d x y : D}
end
section
variable {G : Glo} {M M' : Store} {b c t t' f : Nat} {S : Nat → Prop} {d x y : D}
theorem len_t {ds : List D} : lenD [.tup ds] M = .ok (.int ds.length) M := by simp [lenD, seqD]
end
section
variable {G : Glo} {M M' : Store} {b c t t' f : Nat} {S : Nat → Prop} {d x y : D}
def TI (M0 : Store) (b c t : Nat) (many : Int) (a1 : Option D) (j : Nat) (ρ : Env1) (M : Store) : Prop :=
  ∃ (F : List Int) (z : Int) (x4 : Option D), ρ = [some (.ob b), a1, some (.int many), some (.tup ((F ++ [z]).map .int)), x4] ∧ F.length = j ∧ (∀ e ∈ F ++ [z], 0 ≤ e ∧ e < many) ∧ Keep (one b) M0 M ∧ Dk M b c (t + j + 1)
theorem fine_i {e : Int} (h : -(10 ^ 38) ≤ e ∧ e ≤ 10 ^ 38) : Fine S 3 60 M (.int e) := fine_int (j := 40) (by decide) (by omega) (by decide) (by decide) (by decide)
end
section
variable {G : Glo} {M M' : Store} {b c t t' f : Nat} {S : Nat → Prop} {d x y v : D}
end
end RI

/-! more readings applied; comparisons -/
namespace RI
open PySem PySem.Spec PyProof.Rows L2
section
variable {G : Glo} {fa fb fo : Den D} {fs : Den (List D)} {ρ : Env1} {M : Store} {d : D} {i j : Int}
theorem ap_rng2 : denRange2 fs ρ M = (fs ρ M).bind itRange2 := rfl
theorem ap_enA : denEnumA fs ρ M = (fs ρ M).bind itEnumA := rfl
theorem ap_zip : denZip fs ρ M = (fs ρ M).bind itZip := rfl
theorem ap_mt {g : D → List D → Store → Out D} : denMt fo fs g ρ M = (fo ρ M).bind fun x M => if isL M x then (fs ρ M).bind fun ds M => g x ds M else .no := rfl
theorem ap_prop {c0 : Str} {g : List D → Store → Out D} : denProp fa c0 g ρ M = (fa ρ M).bind fun x M => propD c0 g x M := rfl
theorem ap_part {i : Int} : denPart (dc (.int i)) ρ M = .ok (some i) M := rfl
theorem ap_two_c {i : Nat} : denPart (dv i) ρ M = (Out.of (ρ[i]?).join M).bind fun d M => match d with
  | .int i => .ok (some i) M
  | _ => .no := rfl
theorem line_c {n : Nat} : (n ≤ line) = (n ≤ 100000) := rfl
theorem cI_lt : cmpD .Lt (.int i) (.int j) M = .ok (.bl (decide (i < j))) M := rfl
theorem cI_le : cmpD .LtE (.int i) (.int j) M = .ok (.bl (decide (i ≤ j))) M := rfl
theorem cI_gt : cmpD .Gt (.int i) (.int j) M = .ok (.bl (decide (j < i))) M := rfl
theorem cI_ge : cmpD .GtE (.int i) (.int j) M = .ok (.bl (decide (j ≤ i))) M := rfl
theorem cI_ne : cmpD .NotEq (.int i) (.int j) M = .ok (.bl (!(i == j))) M := by
  have e : ∀ z : Int, SeqAt.shaped (.int z) = true := fun z => rfl
  simp [cmpD, toPy, e, PyData.eqv, blO]
theorem c_isnot : cmpD .IsNot d .non M = .ok (.bl (!isNonD d)) M := rfl
theorem c_is : cmpD .Is d .non M = .ok (.bl (isNonD d)) M := rfl
theorem c_sne {x y : Str} : cmpD .NotEq (.str x) (.str y) M = .ok (.bl (!decide (x = y))) M := rfl
end
end RI

/-! lists as decks: three ints -/
namespace RI
open PySem PySem.Spec PyProof.Rows L2
def deckL (g s u : Int) : SO := .lst [.int g, .int s, .int u]
def Db (M : Store) (b : Nat) : Prop := ∃ g s u : Int, M[b]? = some (deckL g s u) ∧ 0 ≤ s ∧ s < 2305843009213693951
section
variable {M M' : Store} {b f n : Nat} {g s u x : Int} {S : Nat → Prop} {o : SO}
theorem Db.lt (h : Db M b) : b < M.length := by
  obtain ⟨g, s, u, h, _⟩ := h
  exact lt_of_at h
theorem Db.app (h : Db M b) (X : Store) : Db (M ++ X) b := by
  obtain ⟨g, s, u, h, q⟩ := h
  exact ⟨g, s, u, at_l h, q⟩
theorem Db.ge (h : Db M b) (k : Ge M M') : Db M' b := by
  obtain ⟨g, s, u, h, q⟩ := h
  exact ⟨g, s, u, k.at h, q⟩
theorem Db.set (h : Db M b) (hn : n ≠ b) : Db (M.set n o) b := by
  obtain ⟨g, s, u, h, q⟩ := h
  exact ⟨g, s, u, by rw [List.getElem?_set_ne hn]; exact h, q⟩
/-- all but b stands -/
def Kb (b : Nat) (M M' : Store) : Prop := Keep (one b) M M'
theorem Kb.refl : Kb b M M := Keep.refl
theorem Kb.trans {M1 : Store} (h : Kb b M M1) (k : Kb b M1 M') : Kb b M M' := Keep.trans h k
theorem Kb.at (h : Kb b M M') (hn : n ≠ b) (e : M[n]? = some o) : M'[n]? = some o := h.2 n o (fun q => hn q) e
theorem Ge.kb (h : Ge M M') : Kb b M M' := h.keep
theorem Kb.ge {M1 : Store} (h : Kb b M M1) (k : Ge M1 M') : Kb b M M' := h.trans k.kb
theorem Kb.app (X : Store) : Kb b M (M ++ X) := Keep.app X
theorem Kb.setn {M1 : Store} (h : Kb b M M1) (hn : M.length ≤ n) : Kb b M (M1.set n o) := Keep.setn h hn o
theorem Kb.len (h : Kb b M M') : M.length ≤ M'.length := h.1
end
end RI

/-! lists changed, compared with [] -/
namespace RI
open PySem PySem.Spec PyProof.Rows L2
section
variable {M M' : Store} {b f n k j : Nat} {S : Nat → Prop} {o : SO} {ds : List D} {d : D}
theorem isl_l (h : M[k]? = some (.lst ds)) : isL M (.ob k) = true := by simp [isL, h]
theorem app_l (h : M[k]? = some (.lst ds)) (hl : ds.length ≤ 1000) : appD (.ob k) [d] M = .ok .non (M.set k (.lst (ds ++ [d]))) := by
  have : ds.length + 1 ≤ line := Nat.le_trans (show ds.length + 1 ≤ 1001 by omega) (by decide)
  simp only [appD, h, this, if_true]
theorem tup_l (h : M[k]? = some (.lst ds)) : tupleD [.ob k] M = .ok (.tup ds) M := by simp [tupleD, readAt, h]
end
end RI

/-! parts of tuples; values that stay plain -/
namespace RI
open PySem PySem.Spec PyProof.Rows L2
section
variable {M M' : Store} {b f n k j a : Nat} {S : Nat → Prop} {o : SO} {ds : List D} {d : D} {p : Int}
theorem six_lo0 {n : Nat} {h : Int} (h0 : 0 ≤ h) : HT.sIx n 0 (some h) = min h.toNat n := by
  unfold HT.sIx
  simp only []
  split <;> omega
theorem six_hi0 {n : Nat} {h : Int} (h0 : 0 ≤ h) : HT.sIx n n (some h) = min h.toNat n := by
  unfold HT.sIx
  simp only []
  split <;> omega
theorem cut_to (h : 0 ≤ p) : RI.cutD ds none (some p) = ds.take p.toNat := by
  unfold RI.cutD
  rw [six_hi0 h]
  have : HT.sIx ds.length 0 none = 0 := rfl
  rw [this, Nat.sub_zero, List.drop_zero, List.take_eq_take_iff]
  omega
theorem cut_from (h : 0 ≤ p) : RI.cutD ds (some p) none = ds.drop p.toNat := by
  unfold RI.cutD
  have e2 : HT.sIx ds.length ds.length none = ds.length := rfl
  rw [six_lo0 h, e2]
  rw [List.take_of_length_le (by rw [List.length_drop]; omega)]
  by_cases hl : p.toNat ≤ ds.length
  · rw [Nat.min_eq_left hl]
  · rw [Nat.min_eq_right (by omega), List.drop_of_length_le (Nat.le_refl _), List.drop_of_length_le (by omega)]
theorem cut_toN (h : p < 0) : RI.cutD ds none (some p) = ds.take (ds.length + p).toNat := by
  unfold RI.cutD
  have e : HT.sIx ds.length ds.length (some p) = (ds.length + p).toNat := by
    unfold HT.sIx
    simp only []
    split <;> omega
  have : HT.sIx ds.length 0 none = 0 := rfl
  rw [this, e, Nat.sub_zero, List.drop_zero]
theorem sl_to (h : 0 ≤ p) : slD (.tup ds) none (some p) M = .ok (.tup (ds.take p.toNat)) M := by rw [sl_t, cut_to h]
theorem sl_from (h : 0 ≤ p) : slD (.tup ds) (some p) none M = .ok (.tup (ds.drop p.toNat)) M := by rw [sl_t, cut_from h]
theorem add_t {xs ys : List D} (h : xs.length + ys.length ≤ 1000) : opD .Add (.tup xs) (.tup ys) M = .ok (.tup (xs ++ ys)) M := by
  have : xs.length + ys.length ≤ line := Nat.le_trans h (by decide)
  simp only [opD, this, if_true]
/-! ### plain, and stays so -/
def Fx (S : Nat → Prop) (M : Store) (d : D) : Prop := ∃ k py, ∀ M', Keep S M M' → toPyR k M' d = some py
theorem Fx.mono (h : Fx S M d) (q : Keep S M M') : Fx S M' d := by
  obtain ⟨k, py, h⟩ := h
  exact ⟨k, py, fun M2 q2 => h M2 (q.trans q2)⟩
theorem Fx.ge (h : Fx S M d) (q : Ge M M') : Fx S M' d := h.mono q.keep
theorem Fx.pl (h : Fx S M d) : Pl M d := by
  obtain ⟨k, py, h⟩ := h
  exact ⟨k, py, h M Keep.refl⟩
theorem Fx.el (h : Fx S M (.tup ds)) : ∀ d ∈ ds, Fx S M d := fun d hd => by
  obtain ⟨k, py, h⟩ := h
  cases k with
  | zero => have := h M Keep.refl; cases this
  | succ k =>
    have e0 := h M Keep.refl
    simp only [toPyR, Option.map_eq_some_iff] at e0
    obtain ⟨ps, e1, e2⟩ := e0
    obtain ⟨y, hy⟩ := optAll_get e1 d hd
    refine ⟨k, y, fun M' q => ?_⟩
    have e3 := h M' q
    simp only [toPyR, Option.map_eq_some_iff] at e3
    obtain ⟨ps', e4, e5⟩ := e3
    have : ps' = ps := by
      rw [← e2] at e5
      injection e5
    subst this
    have mem : ∀ (l : List D) (r : List PyData), optAll (toPyR k M) l = some r → optAll (toPyR k M') l = some r → ∀ x ∈ l, ∀ z, toPyR k M x = some z → toPyR k M' x = some z := by
      intro l
      induction l with
      | nil => exact fun _ _ _ x hx => by cases hx
      | cons u l ih =>
        intro r h1 h2 x hx z hz
        simp only [optAll, Option.bind_eq_some_iff, Option.map_eq_some_iff] at h1 h2
        obtain ⟨y1, a1, r1, a2, a3⟩ := h1
        obtain ⟨y2, b1, r2, b2, b3⟩ := h2
        have e := a3.trans b3.symm
        injection e with e6 e7
        rcases List.mem_cons.mp hx with rfl | hx
        · rw [a1] at hz
          cases hz
          rw [b1, e6]
        · exact ih r1 a2 (e7 ▸ b2) x hx z hz
    exact mem _ _ e1 e4 d hd y hy
end
end RI

/-! sum of a tuple; t * k of any tuple -/
namespace PySem
section
variable {prog : Program} {w : World} {A : Around} {E : Value → Shared → Prop} {s : Shared} {l : Addr} {xs : Array (Int × Tok)}
end
end PySem
namespace RI
open PySem PySem.Spec PyProof.Rows L2
section
variable {prog : Program} {w : World} {A : Around} {E : Value → Shared → Prop} {s : Shared} {l : Addr} {its : List Value} {ns : List Int} {Q : Value → Shared → Prop}
end
section
variable {X : Cx} {cl : ClsA} {W : WX} {σ : L2.St}
end
/-! ### t * k -/
section
variable {X : Cx} {cl : ClsA} {W : WX} {a b : Expr} {fa fb : Den D} {pos : Pos}
open Classical in
end
end RI

/-! rows of just so many items, walks with numbers, comprehensions without a test -/
namespace RI
open PySem PySem.Spec PyProof.Rows L2
section
variable {G : Glo} {M M' : Store} {b f n k j a : Nat} {S : Nat → Prop} {o : SO} {ds : List D} {d e : D} {p : Int}
/-- the value is told; the store stays -/
def Rs (v : D) (M : Store) : D → Store → Prop := fun a M' => a = v ∧ M' = M
theorem Ok.eq {x : Out D} {v : D} (h : Ok x (Rs v M) noE) : x = .ok v M := by
  obtain ⟨a, M', e, rfl, rfl⟩ := h.ex
  exact e
theorem Ok.ret {x : Out D} {v : D} (h : Ok x (fun a M' => a = v ∧ Ge M M') noE) : ∃ M', x = .ok v M' ∧ Ge M M' := by
  obtain ⟨a, M', e, rfl, k⟩ := h.ex
  exact ⟨M', e, k⟩
/-- the value is told; the store only grows -/
def Rt (v : D) (M : Store) : D → Store → Prop := fun a M' => a = v ∧ Ge M M'
theorem Ok.rt {x : Out D} {v : D} {Q : D → Store → Prop} {E : EX} (h : Ok x (Rt v M) noE) (k : ∀ M', Ge M M' → Q v M') : Ok x Q E := h.imp fun a M' ⟨e, q⟩ => by
  subst e
  exact k M' q
theorem Pl.ge (h : Pl M d) (k : Ge M M') : Pl M' d := Pl.mono h k.all
def D3K (fc : Den D) (y : D) (op' : CmpOp) (ρ : Env1) (Q : D → Store → Prop) (E : EX) : D → Store → Prop := fun k M => Ok (match k with
  | .bl true => (fc ρ M).bind fun z M => cmpD op' y z M
  | .bl false => .ok (.bl false) M
  | _ => .no) Q E
theorem d3k_t {fc : Den D} {op' : CmpOp} {ρ : Env1} {Q : D → Store → Prop} {E : EX} {y : D} : D3K fc y op' ρ Q E (.bl true) M = Ok (fc ρ M) (fun z M => Ok (cmpD op' y z M) Q E) E := by
  unfold D3K
  simp only [ok_bind]
theorem d3k_f {fc : Den D} {op' : CmpOp} {ρ : Env1} {Q : D → Store → Prop} {E : EX} {y : D} : D3K fc y op' ρ Q E (.bl false) M = Q (.bl false) M := rfl
theorem ok_den3 {fa fb fc : Den D} {op op' : CmpOp} {ρ : Env1} {Q : D → Store → Prop} {E : EX} : Ok (den3 fa fb fc op op' ρ M) Q E = Ok (fa ρ M) (fun x M => Ok (fb ρ M) (fun y M => Ok (cmpD op x y M) (D3K fc y op' ρ Q E) E) E) E := by
  unfold den3
  simp only [ok_bind]
  rfl
theorem isW_int {lo hi : Int} (h : isW d lo hi = true) : ∃ i : Int, d = .int i ∧ lo ≤ i ∧ i ≤ hi := by
  cases d with
  | int i =>
    simp only [isW, Bool.and_eq_true, decide_eq_true_eq] at h
    exact ⟨i, rfl, h⟩
  | _ => simp [isW] at h
theorem ix_t0 {x : D} {r : List D} : ixD (.tup (x :: r)) (.int 0) M = .ok x M := ix_t (atI_n (n := 0) rfl rfl)
theorem ix_t1 {x y : D} {r : List D} : ixD (.tup (x :: y :: r)) (.int 1) M = .ok y M := ix_t (atI_n (n := 1) rfl rfl)
theorem ix_t2 {x y z : D} {r : List D} : ixD (.tup (x :: y :: z :: r)) (.int 2) M = .ok z M := ix_t (atI_n (n := 2) rfl rfl)
theorem ix_t3 {x y z w : D} {r : List D} : ixD (.tup (x :: y :: z :: w :: r)) (.int 3) M = .ok w M := ix_t (atI_n (n := 3) rfl rfl)
theorem pw18 : opD .Pow (.int 10) (.int 18) M = .ok (.int 1000000000000000000) M := by
  rw [op_powI (by decide)]
  rfl
theorem pw31 : opD .Pow (.int 10) (.int 31) M = .ok (.int 10000000000000000000000000000000) M := by
  rw [op_powI (by decide)]
  rfl
theorem pw30 : opD .Pow (.int 10) (.int 30) M = .ok (.int 1000000000000000000000000000000) M := by
  rw [op_powI (by decide)]
  rfl
theorem pw20 : opD .Pow (.int 10) (.int 20) M = .ok (.int 100000000000000000000) M := by
  rw [op_powI (by decide)]
  rfl
theorem ap_negp {i : Int} {f : Den D} {ρ : Env1} (h : f ρ M = .ok (.int i) M') : denNeg f ρ M = .ok (.int (-i)) M' := by
  unfold denNeg
  rw [h]
  rfl
theorem ap_neg30 {ρ : Env1} : denNeg (den2 (dc (.int 10)) (dc (.int 30)) (opD .Pow)) ρ M = .ok (.int (-1000000000000000000000000000000)) M := ap_negp (i := 1000000000000000000000000000000) (by rw [ap_two, ap_c, Out.bind_ok, ap_c, Out.bind_ok, pw30])
theorem enA_t : itEnumA [.tup ds] M = .ok ⟨pairsD 0 ds, none⟩ M := rfl
end
end RI

/-! draws in comprehensions -/
namespace RI
open PySem PySem.Spec PyProof.Rows L2
section
variable {G : Glo} {M M' : Store} {b f n k j a : Nat} {S S' : Nat → Prop} {o : SO} {ds : List D} {d e : D} {p : Int}
theorem Fx.sub (h : Fx S M d) (hs : ∀ n, n < M.length → S' n → S n) : Fx S' M d := by
  obtain ⟨k, py, h⟩ := h
  exact ⟨k, py, fun M' q => h M' (q.sub hs)⟩
/-- a list that comes later may change -/
theorem Fx.two (h : Fx (one b) M d) (hf : M.length ≤ f) : Fx (two b f) M d := h.sub fun n hn q => by
  rcases q with q | q
  · exact q
  · omega
theorem Kb.two (h : Kb b M M') : Keep (two b f) M M' := Keep.sub h fun n _ q => .inl q
theorem ap_rev {fa : Den D} {ρ : Env1} : denRevT fa ρ M = (fa ρ M).bind revT := rfl
theorem rev_t (h : ds.length ≤ 1000) : revT (.tup ds) M = .ok (.tup ds.reverse) M := by
  have : ds.length ≤ line := Nat.le_trans h (by decide)
  simp only [revT, this, if_true]
/-! ### tuples compared with () -/
end
end RI

/-! special methods of instances, in short -/
namespace RI
open PySem PySem.Spec PyProof.Rows L2
section
variable {X : Cx} {cl : ClsA} {W : WX} {a b : Expr} {fa fb : Den D} {pos : Pos} {c : Str} {C : Addr} {k : Nat} {ps : List Str} {g : List D → Store → Out D}
end
end RI
namespace RI
open PySem PySem.Spec PyProof.Rows L2
end RI

/-! beads counted, one by one; what stands below -/
namespace RI
open PySem PySem.Spec PyProof.Rows L2
section
variable {G : Glo} {M M' : Store} {b c t t' f : Nat} {S : Nat → Prop} {d x y : D}
theorem belowA_of {n : Nat} : ∀ {ds : List D}, (∀ d ∈ ds, belowD n d = true) → belowA n ds = true
  | [], _ => rfl
  | d :: r, h => by
    simp only [belowA, Bool.and_eq_true]
    exact ⟨h d List.mem_cons_self, belowA_of fun d hd => h d (List.mem_cons_of_mem _ hd)⟩
theorem pl_below : ∀ (k : Nat) (d : D) (p : PyData), toPyR k M d = some p → belowD M.length d = true
  | 0, d, p, h => by cases h
  | k + 1, d, p, h => by
    cases d with
    | tup ds =>
      simp only [toPyR, Option.map_eq_some_iff] at h
      obtain ⟨r, h1, _⟩ := h
      simp only [belowD]
      exact belowA_of fun d hd => by
        obtain ⟨y, hy⟩ := optAll_get h1 d hd
        exact pl_below k d y hy
    | clo _ _ _ => cases h
    | ob n =>
      simp only [belowD, decide_eq_true_eq]
      rw [toPyR] at h
      split at h
      · rename_i e; exact lt_of_at e
      · rename_i e; exact lt_of_at e
      · rename_i e; exact lt_of_at e
      · cases h
    | _ => rfl
theorem Pl.below (h : Pl M d) : belowD M.length d = true := by
  obtain ⟨k, p, h⟩ := h
  exact pl_below k d p h
end


section
variable {G : Glo} {M M' : Store} {b c t t' f : Nat} {S : Nat → Prop} {d x y : D}
end


section
variable {G : Glo} {M M' : Store} {b c t t' f : Nat} {S : Nat → Prop} {d x y : D}
end


end RI

/-! lists printed; texts; instances asked -/
namespace RI
open PySem PySem.Spec PyProof.Rows L2
section
variable {G : Glo} {M M' : Store} {S S' : Nat → Prop} {k n : Nat} {ds : List D} {d : D} {b : Nat}
theorem repr_py {p : PyData} (h : toPyR 12 M d = some p) (h1 : p.showable = true) (h2 : p.shown.length ≤ line) (h3 : p.depth ≤ 40) : reprD [d] M = .ok (.str p.shown) M := by
  simp [reprD, h, h1, h2, h3]
theorem list_py {a : Nat} {ps : List PyData} (ha : M[a]? = some (.lst ds)) (h : optAll (toPyR k M) ds = some ps) : toPyR (k + 1) M (.ob a) = some (.list ps) := by
  rw [toPyR]
  simp only [ha, h, Option.map_some]
/-- a list of values -/
theorem repr_l (h : ∀ d ∈ ds, Fine S k n M d) (hk : k ≤ 11) (hn : ds.length * (n + 2) + 3 ≤ 100000) : ∃ z, ∀ M' a, Keep S M M' → M'[a]? = some (.lst ds) → reprD [.ob a] M' = .ok (.str z) M' := by
  obtain ⟨ps, h1, h2, h3, h4, h5⟩ := fine_all h
  refine ⟨PyData.shown (.list ps), fun M' a q ha => repr_py (toPyR_le (list_py ha (h1 M' q)) (by omega)) (by simp [PyData.showable, h4]) ?_ (by simp only [PyData.depth]; omega)⟩
  simp only [PyData.shown]
  exact Nat.le_trans (Nat.le_trans (listText_len_le _) (all_len h2 (by omega))) hn
/-! ### texts -/
def strI (i : Int) : Str := toString i
theorem small_log {i : Int} {j : Nat} (h : i.natAbs < 10 ^ j) (hj : j ≤ 500) : i.natAbs.log2 < 1920 := by
  by_cases h0 : i.natAbs = 0
  · rw [h0]
    decide
  · refine (Nat.log2_lt h0).mpr (Nat.lt_of_lt_of_le h ?_)
    refine Nat.le_trans (Nat.pow_le_pow_right (by decide) hj) ?_
    decide +kernel
theorem str_i {i : Int} (h : i.natAbs < 10 ^ 40) : strD [.int i] M = .ok (.str (strI i)) M := by
  have := small_log h (by decide)
  simp only [strD, this, if_true]
  rfl
theorem ap_fmt {fa : Den D} {ρ : Env1} : denFmt fa ρ M = (fa ρ M).bind fmtD := rfl
theorem fine_str {x : Str} (h : (PyData.str x).showable = true) (h2 : (PyData.shown (.str x)).length ≤ n) (hk : 1 ≤ k) : Fine S k n M (.str x) := by
  refine ⟨.str x, fun M' _ => ?_, h, h2, by simp only [PyData.depth]; omega⟩
  obtain ⟨m, rfl⟩ : ∃ m, k = m + 1 := ⟨k - 1, by omega⟩
  rfl
end
end RI

/-! texts printed -/
namespace RI
open PySem PySem.Spec PyProof.Rows L2
end RI

/-! raise and try; runs compared -/
namespace RI
open PySem PySem.Spec PyProof.Rows L2
section
variable {G : Glo} {M M' : Store} {ρ : Env1} {Q : Fl → Env1 → Store → Prop} {E : EXS} {fs : List (Str × D)} {c k x : Str}
theorem oks_raise {n : Nat} {g : List D → Store → Out D} {fa : Den (List D)} : OkS (denRaise fa n c g ρ M) Q E = Ok (fa ρ M) (fun ds M => OkS (raiseD n c g ds ρ M) Q E) (exE E ρ) := by
  show OkS (bindS _ _ _) _ _ = _
  rw [oks_bind]
def TryX (i : Nat) (em : Str → Option Bool) (sg : Str → List (Str × D) → DenS) (Q : Fl → Env1 → Store → Prop) (E : EXS) : EXS := fun c fs ρ M => match em c with
  | some true => i < ρ.length ∧ OkS (sg c fs (ρ.set i none) M) (fun f ρ M => Q f (ρ.set i none) M) noS
  | some false => E c fs ρ M
  | none => False
theorem oks_try {i : Nat} {em : Str → Option Bool} {g : DenS} {sg : Str → List (Str × D) → DenS} : OkS (denTry i em g sg ρ M) Q E = OkS (g ρ M) Q (TryX i em sg Q E) := by
  unfold denTry
  generalize g ρ M = y
  cases y with
  | fl _ _ _ => rfl
  | no => rfl
  | exc c fs ρ M =>
    show OkS _ _ _ = TryX i em sg Q E c fs ρ M
    unfold TryX
    simp only []
    cases em c with
    | none => rfl
    | some b =>
      cases b with
      | false => rfl
      | true =>
        simp only []
        by_cases h : i < ρ.length
        · rw [if_pos h]
          generalize sg c fs (ρ.set i none) M = z
          cases z with
          | fl _ _ _ => exact propext ⟨fun q => ⟨h, q⟩, fun q => q.2⟩
          | exc _ _ _ _ => exact propext ⟨fun q => q.elim, fun q => q.2.elim⟩
          | no => exact propext ⟨fun q => q.elim, fun q => q.2.elim⟩
        · rw [if_neg h]
          exact propext ⟨fun q => q.elim, fun q => h q.1⟩
theorem tryx_t {i : Nat} {em : Str → Option Bool} {sg : Str → List (Str × D) → DenS} (h : em c = some true) (hl : i < ρ.length) (q : OkS (sg c fs (ρ.set i none) M) (fun f ρ M => Q f (ρ.set i none) M) noS) : TryX i em sg Q E c fs ρ M := by
  unfold TryX
  rw [h]
  exact ⟨hl, q⟩
theorem tryx_f {i : Nat} {em : Str → Option Bool} {sg : Str → List (Str × D) → DenS} (h : em c = some false) (q : E c fs ρ M) : TryX i em sg Q E c fs ρ M := by
  unfold TryX
  rw [h]
  exact q
theorem emd_t {b : Bool} (h1 : G.isExn c = true) (h2 : G.exm c k = some b) : emD G k c = some b := by
  unfold emD
  rw [if_pos h1, h2]
theorem ap_xi {b : Bool} : denXi (some b) ρ M = .ok (.bl b) M := rfl
theorem ap_xf {d : D} (h : G.fld c x = true) (h2 : fs.lookup x = some d) : denXfG G c fs x ρ M = .ok d M := by
  unfold denXfG denXf
  rw [if_pos h, h2]
  rfl
theorem exS_ap {E : EX} : exS E c fs ρ M = E c fs M := rfl
theorem exE_ap : exE E ρ c fs M = E c fs ρ M := rfl
/-! ### runs alike -/
/-! ### instances -/
end
end RI

/-! zip over any number of lists and tuples: how one step goes -/
namespace RI
open PySem PySem.Spec PyProof.Rows L2
/-- a list (true) or a tuple (false) with these items; its iterator standing at k -/
def SqB (b : Bool) (h : Heap) (l : Addr) (xs : Array Value) : Prop := if b then h.IsList l xs else h.IsTuple l xs
def ItB (b : Bool) (h : Heap) (it l : Addr) (k : Nat) : Prop := if b then h.IsListIter it l k else h.IsTupleIter it l k
theorem SqB.at {b : Bool} {h h' : Heap} {l : Addr} {xs : Array Value} (x : SqB b h l xs) (e : ∀ o, h.get? l = some o → h'.get? l = some o) : SqB b h' l xs := by
  cases b
  · exact Heap.IsTuple.at x e
  · exact Heap.IsList.at x e
theorem ItB.at {b : Bool} {h h' : Heap} {it l : Addr} {k : Nat} (x : ItB b h it l k) (e : ∀ o, h.get? it = some o → h'.get? it = some o) : ItB b h' it l k := by
  cases b
  · exact Heap.IsTupleIter.at x e
  · exact Heap.IsListIter.at x e
theorem ItB.obj {b : Bool} {h : Heap} {it l : Addr} {k : Nat} (x : ItB b h it l k) : ∃ o, h.get? it = some o ∧ o.data = .fields #[.ref l, .int k 0] := by
  cases b
  · obtain ⟨o, e, _, d⟩ := x
    exact ⟨o, e, d⟩
  · obtain ⟨o, e, _, d⟩ := x
    exact ⟨o, e, d⟩
section
variable {prog : Program} {w : World} {A : Around} {E : Value → Shared → Prop} {s : Shared}
end
end RI

/-! zip.__next__ over any number of lists and tuples -/
namespace RI
open PySem PySem.Spec PyProof.Rows L2
structure ZS where
  b : Bool
  it : Addr
  src : Addr
  items : Array Value
section
variable {prog : Program} {w : World} {A : Around} {E : Value → Shared → Prop} {s : Shared}
end
end RI

/-! zip over any number of lists and tuples, as a for loop walks it -/
namespace RI
open PySem PySem.Spec PyProof.Rows L2
section
variable {prog : Program} {w : World} {A : Around} {E : Value → Shared → Prop} {s : Shared}
end
/-- an iterator and its source, as they lie in the heap -/
structure ZE where
  b : Bool
  it : Addr
  src : Addr
def ZE.with (e : ZE) (xs : Array Value) : ZS := ⟨e.b, e.it, e.src, xs⟩
end RI

/-! zip(a, b) and zip(a, b, c) made -/
namespace RI
open PySem PySem.Spec PyProof.Rows L2
section
variable {prog : Program} {w : World} {A : Around} {E : Value → Shared → Prop} {s : Shared}
end
theorem SqB.push {b : Bool} {h : Heap} {l : Addr} {xs : Array Value} (x : SqB b h l xs) (o : Obj) : SqB b (h.push o) l xs := x.at fun _ e => Heap.get?_push_of_some _ e
section
variable {prog : Program} {w : World} {A : Around} {E : Value → Shared → Prop} {s : Shared}
end
end RI

/-! the readings of zip(a, b), zip(a, b, c) over lists (one at most) and tuples -/
namespace RI
open PySem PySem.Spec PyProof.Rows L2
def srcD (M : Store) : D → Option (List D × Option (Nat × List D))
  | .tup xs => some (xs, none)
  | .ob k => (readAt M k).map fun l => (l, some (k, l))
  | _ => none
def zip3D : List D → List D → List D → List D
  | x :: xs, y :: ys, z :: zs => .tup [x, y, z] :: zip3D xs ys zs
  | _, _, _ => []
def oneC : Option (Nat × List D) → Option (Nat × List D) → Option (Option (Nat × List D))
  | none, c => some c
  | c, none => some c
  | _, _ => none
def itZipX (ds : List D) (M : Store) : Out ItD := match ds with
  | [a, b] => match srcD M a, srcD M b with
    | some (xs, ca), some (ys, cb) => match oneC ca cb with
      | some c => .ok ⟨zipD xs ys, c⟩ M
      | none => .no
    | _, _ => .no
  | _ => .no
def denZipX (fs : Den (List D)) : Den ItD := fun ρ M => (fs ρ M).bind itZipX
def itZipY (ds : List D) (M : Store) : Out ItD := match ds with
  | [a, b, d] => match srcD M a, srcD M b, srcD M d with
    | some (xs, ca), some (ys, cb), some (zs, cd) => match oneC ca cb with
      | some c => match oneC c cd with
        | some c' => .ok ⟨zip3D xs ys zs, c'⟩ M
        | none => .no
      | none => .no
    | _, _, _ => .no
  | _ => .no
def denZipY (fs : Den (List D)) : Den ItD := fun ρ M => (fs ρ M).bind itZipY
section
variable {K : PySem.W.Frag} {cl : ClsA} {θ : List Addr} {H : Hp} {M : Store}
end
section
variable {X : Cx} {cl : ClsA} {W : WX} {σ : L2.St} {a b c : Expr} {fs : Den (List D)} {p pos : Pos} {θ : List Addr} {H : Hp}
theorem SqB.lt {b : Bool} {h : Heap} {l : Addr} {xs : Array Value} (x : SqB b h l xs) : l < h.objs.size := by
  cases b <;> (obtain ⟨o, ho, _⟩ := x; exact Heap.lt_size ho)
end
end RI

/-! t[l::k] of a tuple; raise C() of a class without an __init__ of its own -/
namespace HT
open PySem PySem.Spec PyProof.Rows
def stepL {α : Type} (l k : Nat) (xs : List α) : List α := (List.range xs.length).filterMap fun m => xs[l + m * k]?
section
variable {prog : Program} {w : World} {A : Around} {E : Value → Shared → Prop} {s : Shared}
end
end HT
namespace RI
open PySem PySem.Spec PyProof.Rows L2
section
variable {K : PySem.W.Frag} {θ : List Addr} {H : Hp}
end
def stepT (l k : Nat) (x : D) (M : Store) : Out D := match x with
  | .tup ds => if ds.length ≤ line then .ok (.tup (HT.stepL l k ds)) M else .no
  | _ => .no
def denStep (l k : Nat) (fa : Den D) : Den D := fun ρ M => (fa ρ M).bind (stepT l k)
section
variable {X : Cx} {cl : ClsA} {W : WX} {e : Expr} {fa : Den D} {x c : Str} {p pos pos' : Pos}
/-- raise C() -/
def denRaise0 (c : Str) : DenS := fun ρ M => .exc c [] ρ M
end
end RI

/-! steps for zip, `in`, raise C() -/
namespace RI
open PySem PySem.Spec PyProof.Rows L2
section
variable {M M' : Store} {ds xs ys : List D} {d x y : D} {S : Nat → Prop}
theorem ap_zipX {fs : Den (List D)} {ρ : Env1} : denZipX fs ρ M = (fs ρ M).bind itZipX := rfl
theorem ap_zipY {fs : Den (List D)} {ρ : Env1} : denZipY fs ρ M = (fs ρ M).bind itZipY := rfl
theorem ap_step {l k : Nat} {fa : Den D} {ρ : Env1} : denStep l k fa ρ M = (fa ρ M).bind (stepT l k) := rfl
theorem oks_raise0 {c : Str} {ρ : Env1} {Q : Fl → Env1 → Store → Prop} {E : EXS} : OkS (denRaise0 c ρ M) Q E = E c [] ρ M := rfl
theorem ap_partP {f g : Den D} {o : D → D → Store → Out D} {ρ : Env1} : denPart (den2 f g o) ρ M = (den2 f g o ρ M).bind fun d M => match d with
  | .int i => .ok (some i) M
  | _ => .no := rfl
end
end RI

/-! loops unrolled; items stored; counts that add up -/
namespace RI
open PySem PySem.Spec PyProof.Rows L2
section
variable {M M' : Store} {ds xs ys : List D} {d x y : D} {ρ : Env1} {Q : Fl → Env1 → Store → Prop} {E : EXS} {body : D → Env1 → Store → SOut} {n : Nat}
end
/-! ### counts -/
def addL (xs ys : List Int) : List Int := List.zipWith (· + ·) xs ys
end RI

/-! a tuple, a list or a bool as a test -/
namespace RI
open PySem PySem.Spec PyProof.Rows L2
def truD (M : Store) : D → Option Bool
  | .bl b => some b
  | .tup ds => some (!ds.isEmpty)
  | .ob k => (readAt M k).map fun l => !l.isEmpty
  | _ => none
def denTru (f : Den D) : Den Bool := fun ρ M => (f ρ M).bind fun d M => match truD M d with
  | some b => .ok b M
  | none => .no
section
variable {X : Cx} {cl : ClsA} {W : WX} {a : Expr} {fa : Den D} {M : Store} {ρ : Env1} {ds : List D}
def TruK (Q : Bool → Store → Prop) : D → Store → Prop := fun d M => ∃ b, truD M d = some b ∧ Q b M
theorem ok_tru {Q : Bool → Store → Prop} {E : EX} : Ok (denTru fa ρ M) Q E = Ok (fa ρ M) (TruK Q) E := by
  unfold denTru
  rw [ok_bind]
  congr 1
  funext d M
  unfold TruK
  refine propext ⟨fun q => ?_, fun ⟨b, e, q⟩ => ?_⟩
  · cases h : truD M d with
    | none =>
      rw [h] at q
      exact q.elim
    | some b =>
      rw [h] at q
      exact ⟨b, rfl, q⟩
  · rw [e]
    exact q
theorem truk_t {Q : Bool → Store → Prop} : TruK Q (.tup ds) M = Q (!ds.isEmpty) M := by
  refine propext ⟨fun ⟨b, e, q⟩ => ?_, fun q => ⟨_, rfl, q⟩⟩
  cases e
  exact q
end
end RI

/-! *e in a display; o[i], p[j] = e, f -/
namespace RI
open PySem PySem.Spec PyProof.Rows L2
section
variable {X : Cx} {cl : ClsA} {W : WX} {e o1 i1 o2 i2 : Expr} {es : List Expr} {fe fo1 fi1 fo2 fi2 : Den D} {fs : Den (List D)} {p p2 p3 p4 pos : Pos} {M : Store} {ρ : Env1}
end
end RI

/-! name += e, extend -/
namespace RI
open PySem PySem.Spec PyProof.Rows L2
section
variable {X : Cx} {cl : ClsA} {W : WX} {o e : Expr} {fo fe : Den D} {fs : Den (List D)} {pos p2 apos cpos : Pos}
end
end RI

/-! a comprehension over zip of two lists -/
namespace RI
open PySem PySem.Spec PyProof.Rows L2
section
variable {X : Cx} {cl : ClsA} {W : WX} {a b : Expr} {fs : Den (List D)} {p pos : Pos}
end
section
variable {M : Store} {k l : Nat} {xs ys : List D} {t : Tgt} {e : Den D} {ρw ρ : Env1} {Q : D → Store → Prop} {E : EX} {fs : Den (List D)} {g : Den Bool} {vs : List Nat}
end
end RI

/-! an int or else, min and max of a list of ints -/
namespace RI
open PySem PySem.Spec PyProof.Rows L2
section
variable {X : Cx} {cl : ClsA} {W : WX} {a b : Expr} {rest : List Expr} {fa fb : Den D} {pos : Pos}
/-! ### min, max -/
end
end RI

/-! count of a tuple -/
namespace RI
open PySem PySem.Spec PyProof.Rows L2
section
variable {X : Cx} {cl : ClsA} {W : WX} {o e : Expr} {fo : Den D} {fs : Den (List D)} {apos cpos : Pos}
end
end RI

/-! several except clauses, each with a name -/
namespace RI
open PySem PySem.Spec PyProof.Rows L2
/-- behind a suite the name in slot i is gone -/
def offE (i : Nat) (D : Ends) : Ends where
  nx := fun σ' H' => D.nx (σ'.set i none) H'
  rt := D.rt
  bk := fun σ' H' => D.bk (σ'.set i none) H'
  ct := fun σ' H' => D.ct (σ'.set i none) H'
abbrev ClauseT := Value × Nat × (Addr → Value → Option Addr → TS)
def wTrys (K : PySem.W.Frag) (out : WX) (D : Ends) : List ClauseT → WX
  | [] => out
  | (c, i, t) :: more => fun k dd σ H => ∃ b, PySem.W.exmOne K k c = some b ∧ (b = true → ∀ a, H a = none → t a k dd (offE i D) (σ.set i (some (.ref a))) H) ∧ (b = false → wTrys K out D more k dd σ H)
inductive ClsOk (X : Cx) : List ExceptHandler → List ClauseT → Prop
  | nil : ClsOk X [] []
  | cons {x n : Str} {c : Value} {i : Nat} {t : Addr → Value → Option Addr → TS} {b0 : Stmt} {bs : List Stmt} {np hp : Pos} {more : List ExceptHandler} {l : List ClauseT} (nm : Names X x c) (hi : X.N[i]? = some n) (hl : X.env.kindOf n = some .local)
      (su : ∀ (a : Addr) (oe : Obj) (k : Value) (dd : Option Addr) (pn : List (Addr × Obj)), Zc k dd oe → (∃ vs, oe.data = .fields vs) → PSs (X.suite a ((a, oe) :: pn)) (b0 :: bs) (t a k dd)) (r : ClsOk X more l) :
      ClsOk X (.ExceptHandler (some (.Name x np)) (some n) (b0 :: bs) hp :: more) ((c, i, t) :: l)
section
variable {X : Cx} {body : List Stmt} {first : ExceptHandler} {more : List ExceptHandler} {l : List ClauseT} {pos : Pos} {tb : WX → TS} {out : WX}
theorem ps_trys (st : X.stack = X.env :: X.outer) (fr : X.env.frame = some X.env.locals) (nd : X.N.Nodup) (tk : Takes X out)
    (bd : ∀ (W : WX) (pn : List (Addr × Obj)) (xe : Value → Shared → Prop), Takes (X.tr pn xe) W → PassesOwn (model X.prog X.w) X.A X.env xe → PSs (X.tr pn xe) body (tb W))
    (cs : ClsOk X (first :: more) l) : PS X (.Try body (first :: more) [] [] pos) (fun D σ H => tb (wTrys X.K out D l) D σ H) := by
  refine ⟨fun pins z σ H D J0 hyp => ?_⟩
  have okX := J0.ok
  have frs0 : X.A.frames = some (X.env :: X.outer) := by
    rw [okX.frames, st]
  refine wpAny_Try_except ?_
  let catch_ : Value → Shared → Prop := fun e z1 => wpAny (model X.prog X.w) X.A (noteFrame e X.env) (fun _ z2 => wpAny (model X.prog X.w) X.A (setFlight e none) (fun _ z3 => wpAny (model X.prog X.w) X.A (handleBy e X.env (first :: more)) (SP X pins D) X.xe z3) X.xe z2) X.xe z1
  have takesB : Takes (X.tr (X.pn ++ pins) catch_) (wTrys X.K out D l) := fun u z1 thrown => by
    obtain ⟨a, B, zI, pins1, σ1, H1, k, dd, rfl, JB, keepB, upB, skyB, freshA, osB, bareB, wish⟩ := thrown
    have J1 : Inv X pins σ1 H1 zI := JB.ofTry okX
    have sky1 : Sky B (X.env :: X.outer) a (Zc k dd) X.env.locals z1.heap := st ▸ skyB
    show wpAny (model X.prog X.w) X.A (noteFrame (.ref a) X.env) _ _ _
    refine Sky.land Zc.steady frs0 fr sky1 fun hN flN upN => ?_
    have JN : Inv X pins σ1 H1 { z1 with heap := hN } := J1.landed keepB flN.1 (upB.trans upN) osB bareB
    obtain ⟨oN, vN, atN, zcN, dN⟩ := flN.there
    have aOut : a ∉ frs (X.env :: X.outer) := fun hm => by
      obtain ⟨_, o', atO, notF⟩ := flN.2.2.1.mem hm
      rw [atN] at atO
      cases atO
      exact notF _ dN
    have aL : a ≠ X.env.locals := fun q => aOut (List.mem_filterMap.mpr ⟨X.env, List.mem_cons_self, by rw [fr, q]⟩)
    have aF : a ∉ X.fs := fun hm => by
      obtain ⟨ev, hev, q⟩ := List.mem_filterMap.mp hm
      exact aOut (List.mem_filterMap.mpr ⟨ev, List.mem_cons_of_mem _ hev, q⟩)
    have SN := JN.suite atN dN freshA aL aF
    have walk : ∀ {hs : List ExceptHandler} {cl : List ClauseT}, ClsOk X hs cl → wTrys X.K out D cl k dd σ1 H1 → wpAny (model X.prog X.w) X.A (handleBy (.ref a) X.env hs) (SP X pins D) X.xe { z1 with heap := hN } := by
      intro hs cl ok
      induction ok with
      | nil =>
        intro wish
        refine wpAny_handleBy_nil ?_
        obtain ⟨_, _, _, oe, vs, T, oT, ts, atE, zE, dE, v1, _⟩ := id flN
        unfold PySem.passOn
        refine wpAny_bind (wpAny_field atE dE v1 ?_)
        rw [if_neg (show ¬ ((Value.ref T == Value.none) = true) by simp)]
        have last : wpAny (model X.prog X.w) X.A (setFlight (.ref a) X.env.frame) (fun _ z4 => wpAny (model X.prog X.w) X.A (throw (.ref a) : Sem Flow) (SP X pins D) X.xe z4) X.xe { z1 with heap := hN } := by
          rw [fr]
          refine HandSPX.setFlight_upZ flN fun h4 held up4 => wpAny_throw (tk _ _ ?_)
          exact ⟨a, B, zI, pins, σ1, H1, k, dd, rfl, J1, keepB, (upB.trans upN).trans up4, .inr (.inr (st ▸ held)), freshA, osB, bareB, wish⟩
        first
          | exact wpAny_bind last
          | exact wpAny_bind (wpAny_pure (wpAny_bind last))
      | @cons x n c i t b0 bs np hp rest l2 nm hi hl su _ ih =>
        intro wish
        obtain ⟨b, hb, yes, no⟩ := wish
        refine wpAny_handleBy_cons (codeAny_handlers_test ?_) (by intro q; cases q)
        have tyL : PySem.W.Looks (model X.prog X.w) hN (typeOf (.ref a)) k := fun A Q E z5 kk q => wpAny_typeOf_ref (kk _ _ atN) (by rw [zcN.1]; exact q)
        have matchL := PySem.W.exm_one (M := model X.prog X.w) JN.kIn tyL hb
        have named : ∀ {Q : Value → Shared → Prop} {E : Value → Shared → Prop}, Q c { z1 with heap := hN } → wpAny (model X.prog X.w) (X.A.mark (some (.ref a))) (eval (.Name x np) X.env) Q E { z1 with heap := hN } := fun {Q E} q => by
          obtain ⟨glob, ndb, e | ⟨e1, e2, e3⟩⟩ := nm
          · exact ld_glob (X := X.suite a ((a, oN) :: (X.pn ++ pins))) SN glob e q ndb
          · exact ld_blt (X := X.suite a ((a, oN) :: (X.pn ++ pins))) SN glob e1 e2 q e3 ndb
        refine named (matchL.here ?_)
        cases b with
        | false =>
          show wpAny _ X.A (handleBy (.ref a) X.env rest) _ _ _
          exact ih (no rfl)
        | true =>
          refine codeAny_handlers_suite_as ?_
          refine HandSPX.lands_againZ flN fun h5 fl5 up5 => ?_
          obtain ⟨o5, v5, at5, zc5, d5⟩ := fl5.there
          have J5 : Inv X pins σ1 H1 { z1 with heap := h5 } := J1.landed keepB fl5.1 ((upB.trans upN).trans up5) osB bareB
          refine store_ok (X := X.suite a ((a, o5) :: (X.pn ++ pins))) (v := .ref a) (J5.suite at5 d5 freshA aL aF) nd hi (.inl hl) rfl (fun z6 S6 => ?_) (.inr hl)
          refine wpAny_mono ((su a o5 k dd (X.pn ++ pins) zc5 ⟨_, d5⟩).run [] z6 _ H1 _ S6 (yes rfl a freshA)) (fun fl z7 post => ?_) (fun _ _ z => False.elim z)
          have unbind : ∀ {σ7 : L2.St} {H7 : Hp} {Q : Shared → Prop}, Inv (X.suite a ((a, o5) :: (X.pn ++ pins))) [] σ7 H7 z7 → (∀ z8, Inv X pins (σ7.set i none) H7 z8 → Q z8) → wpAny (model X.prog X.w) X.A (do bindName X.env n .none; unbindBehindTheSuite X.env n hp) (fun _ z8 => Q z8) X.xe z7 :=
            fun {σ7 H7 Q} S7 q => gone_ok (S7.unsuite okX) nd hi hl q
          cases fl with
          | ret u =>
            obtain ⟨v7, σ7, H7, S7, r7, q7⟩ := post
            exact unbind S7 fun _ J8 => ⟨_, _, _, J8, r7, q7⟩
          | next =>
            obtain ⟨σ7, H7, S7, q7⟩ := post
            exact unbind S7 fun _ J8 => ⟨_, _, J8, q7⟩
          | brk =>
            obtain ⟨σ7, H7, S7, q7⟩ := post
            exact unbind S7 fun _ J8 => ⟨_, _, J8, q7⟩
          | cont =>
            obtain ⟨σ7, H7, S7, q7⟩ := post
            exact unbind S7 fun _ J8 => ⟨_, _, J8, q7⟩
    exact walk cs wish
  refine wpAny_mono ((bd (wTrys X.K out D l) (X.pn ++ pins) catch_ takesB PassesOwn.looking).run [] z σ H D (J0.toTry _) hyp) (fun fl z1 post => ?_) (fun e z1 he => he)
  cases fl with
  | ret u =>
    obtain ⟨v, σ1, H1, J1, rv, q⟩ := post
    exact ⟨v, σ1, H1, J1.ofTry okX, rv, q⟩
  | next =>
    obtain ⟨σ1, H1, J1, q⟩ := post
    exact wpAny_execs_nil ⟨σ1, H1, J1.ofTry okX, q⟩
  | brk =>
    obtain ⟨σ1, H1, J1, q⟩ := post
    exact ⟨σ1, H1, J1.ofTry okX, q⟩
  | cont =>
    obtain ⟨σ1, H1, J1, q⟩ := post
    exact ⟨σ1, H1, J1.ofTry okX, q⟩
end
end RI

/-! the reading of several except clauses -/
namespace RI
open PySem PySem.Spec PyProof.Rows L2
abbrev ClauseD := Nat × (Str → Option Bool) × (Str → List (Str × D) → DenS)
def catchD : List ClauseD → Str → List (Str × D) → Env1 → Store → SOut
  | [], c, fs, ρ, M => .exc c fs ρ M
  | (i, em, sg) :: r, c, fs, ρ, M => match em c with
    | some true => if i < ρ.length then unsetE i (sg c fs (ρ.set i none) M) else .no
    | some false => catchD r c fs ρ M
    | none => .no
def denTrys (cs : List ClauseD) (g : DenS) : DenS := fun ρ M => match g ρ M with
  | .exc c fs ρ1 M1 => catchD cs c fs ρ1 M1
  | o => o
inductive RC (X : Cx) (cl : ClsA) : List ExceptHandler → List ClauseD → Prop
  | nil : RC X cl [] []
  | cons {x n : Str} {cv : Value} {i : Nat} {em : Str → Option Bool} {sg : Str → List (Str × D) → DenS} {b0 : Stmt} {bs : List Stmt} {np hp : Pos} {more : List ExceptHandler} {l : List ClauseD} (hi : X.N[i]? = some n) (hln : X.env.kindOf n = some .local) (hc : Names X x cv)
      (hem : ∀ c C b, em c = some b → cl c = some C → PySem.W.exmOne X.K (.ref C) cv = some b)
      (hsu : ∀ (a : Addr) (oe : Obj) (d : Option Addr) (pn : List (Addr × Obj)) (c : Str) (C : Addr) (fs : List (Str × D)), Zc (.ref C) d oe → (∃ vs, oe.data = .fields vs) → em c = some true → cl c = some C → JB (X.suite a ((a, oe) :: pn)) cl i a d fs (b0 :: bs) (sg c fs))
      (r : RC X cl more l) : RC X cl (.ExceptHandler (some (.Name x np)) (some n) (b0 :: bs) hp :: more) ((i, em, sg) :: l)
section
variable {X : Cx} {cl : ClsA}
theorem rc_ok {hs : List ExceptHandler} {l : List ClauseD} (h : RC X cl hs l) : ∃ lt, ClsOk X hs lt ∧ ∀ (W : WX) (E : Ends) (c : Str) (C : Addr) (dd : Option Addr) (fs : List (Str × D)) (θ : List Addr) (H : Hp) (σ : L2.St) (ρ : Env1) (M : Store),
    RelE X.K θ H σ ρ → Rep X.K cl θ H M → cl c = some C → XAt X.K θ H dd fs → PostS X.K cl W E θ H (catchD l c fs ρ M) → wTrys X.K W E lt (.ref C) dd σ H := by
  induction h with
  | nil => exact ⟨[], .nil, fun W E c C dd fs θ H σ ρ M hE r hC xa q => q θ H σ C dd .refl r hE hC xa⟩
  | @cons x n cv i em sg b0 bs np hp more l hi hln hc hem hsu _ ih =>
    obtain ⟨lt, ok, k⟩ := ih
    refine ⟨(cv, i, fun a z d E σ H => ∃ c C fs, z = .ref C ∧ em c = some true ∧ cl c = some C ∧ rdSJ X.K cl i a d fs (sg c fs) E σ H) :: lt, .cons hc hi hln (fun a oe z d pn hz hf => ⟨fun pins s σ H E I q => ?_⟩) ok, fun W E c C dd fs θ H σ ρ M hE r hC xa q => ?_⟩
    · obtain ⟨c, C, fs, rfl, h1, h2, q⟩ := q
      exact (hsu a oe d pn c C fs hz hf h1 h2).run pins s σ H E I q
    · rw [catchD] at q
      split at q
      · rename_i he
        refine ⟨true, hem c C true he hC, fun _ a ha => ?_, fun z => by cases z⟩
        split at q
        case isFalse => exact q.elim
        rename_i hl
        have hil : i < σ.length := by
          rw [hE.len]
          exact hl
        refine ⟨c, C, fs, rfl, he, hC, List.getElem?_set_self hil, θ, _, M, xa, hE.unset i _, r, ?_⟩
        unfold unsetE at q
        cases hsg : sg c fs (ρ.set i none) M with
        | no =>
          rw [hsg] at q
          exact q.elim
        | exc c2 fs2 ρ2 M2 =>
          rw [hsg] at q
          exact q.elim
        | fl fl ρ2 M2 =>
          rw [hsg] at q
          cases fl with
          | ret v => exact q
          | nx => exact fun θ2 H2 σ2 e2 r2 hE2 => q θ2 H2 _ e2 r2 (hE2.unset i none)
          | brk => exact fun θ2 H2 σ2 e2 r2 hE2 => q θ2 H2 _ e2 r2 (hE2.unset i none)
          | ct => exact fun θ2 H2 σ2 e2 r2 hE2 => q θ2 H2 _ e2 r2 (hE2.unset i none)
      · rename_i he
        exact ⟨false, hem c C false he hC, fun z => by (cases z), fun _ => k W E c C dd fs θ H σ ρ M hE r hC xa q⟩
      · exact q.elim
theorem rs_trys {W : WX} {l : List ClauseD} {g : DenS} {body : List Stmt} {h0 : ExceptHandler} {more : List ExceptHandler} {pos : Pos}
    (hs : X.stack = X.env :: X.outer) (hf : X.env.frame = some X.env.locals) (hN : X.N.Nodup) (tk : Takes X W)
    (hb : ∀ (W' : WX) (pn : List (Addr × Obj)) (xe : Value → Shared → Prop), Takes (X.tr pn xe) W' → PassesOwn (model X.prog X.w) X.A X.env xe → RB (X.tr pn xe) cl W' body g)
    (hc : RC X cl (h0 :: more) l) : RS X cl W (.Try body (h0 :: more) [] [] pos) (denTrys l g) := by
  obtain ⟨lt, ok, k⟩ := rc_ok hc
  refine PS.imp (ps_trys (tb := fun W' => rdS cl W' X.K g) hs hf hN tk hb ok) fun E σ H q => ?_
  obtain ⟨θ, ρ, M, hE, r, q⟩ := q
  refine ⟨θ, ρ, M, hE, r, ?_⟩
  unfold denTrys at q
  cases hg : g ρ M with
  | fl fl ρ1 M1 =>
    rw [hg] at q
    cases fl <;> exact q
  | no =>
    rw [hg] at q
    exact q
  | exc c fs ρ1 M1 =>
    rw [hg] at q
    dsimp only at q
    intro θ' H' σ' C dd ee rr hE' hC xa
    exact k W E c C dd fs θ' H' σ' ρ1 M1 hE' rr hC xa (PostS.ext q ee)
end
/-! worked out from the back -/
def CatX : List ClauseD → (Fl → Env1 → Store → Prop) → EXS → EXS
  | [], _, E => E
  | (i, em, sg) :: r, Q, E => TryX i em sg Q (CatX r Q E)
theorem oks_catch {Q : Fl → Env1 → Store → Prop} {E : EXS} : ∀ {cs : List ClauseD} {c : Str} {fs : List (Str × D)} {ρ : Env1} {M : Store}, OkS (catchD cs c fs ρ M) Q E = CatX cs Q E c fs ρ M
  | [], _, _, _, _ => rfl
  | (i, em, sg) :: r, c, fs, ρ, M => by
    rw [catchD, CatX]
    unfold TryX
    cases em c with
    | none => rfl
    | some b =>
      cases b with
      | false => exact oks_catch
      | true =>
        simp only []
        by_cases h : i < ρ.length
        · rw [if_pos h]
          generalize sg c fs (ρ.set i none) M = z
          cases z with
          | fl _ _ _ => exact propext ⟨fun q => ⟨h, q⟩, fun q => q.2⟩
          | exc _ _ _ _ => exact propext ⟨fun q => q.elim, fun q => q.2.elim⟩
          | no => exact propext ⟨fun q => q.elim, fun q => q.2.elim⟩
        · rw [if_neg h]
          exact propext ⟨fun q => q.elim, fun q => absurd q.1 h⟩
theorem oks_trys {cs : List ClauseD} {g : DenS} {ρ : Env1} {M : Store} {Q : Fl → Env1 → Store → Prop} {E : EXS} : OkS (denTrys cs g ρ M) Q E = OkS (g ρ M) Q (CatX cs Q E) := by
  unfold denTrys
  generalize g ρ M = y
  cases y with
  | fl _ _ _ => rfl
  | no => rfl
  | exc c fs ρ M => exact oks_catch
end RI

/-! what takers can have of a layout: bounds, and that they are met -/
namespace RI
open PySem PySem.Spec PyProof.Rows L2
def ov (beg len a b : Int) : Int := mx 0 (mn (beg + len) b - mx beg a)
def sb (a b : Int) : Int := b - a
section
variable {f g : Int → Int → Int} {mine : Int → Bool} {k : Nat}
/-! ### the numbers of runs -/
end
end RI

/-! bounds of what takers have of a layout, and that they are met -/
namespace RI
open PySem PySem.Spec PyProof.Rows L2
section
variable {mine : Int → Bool} {k : Nat}
/-! ### all runs -/
end
end RI

/-! a lambda without parameters handed to a def -/
namespace RI
open PySem PySem.Spec PyProof.Rows L2 LamX
/-- the call of what was handed in -/
noncomputable def denAct (z : D) (call : Store → Out D) : Den D := fun ρ M => @ite _ (ρ[0]? = some (some z)) (Classical.propDecidable _) (call M) .no
/-- g(lambda: e): what g makes of it does not hang on the function's own object -/
noncomputable def denLam (P : Addr) (q : Str) (g : D → (Store → Out D) → Store → Out D) (fe : Den D) : Den D := fun ρ M =>
  @ite _ (M[1]? = some (.tab P q) ∧ ∀ z, g z (fe ρ) M = g .non (fe ρ) M) (Classical.propDecidable _) (g .non (fe ρ) M) .no
theorem lam_ok {P : Addr} {q : Str} {g : D → (Store → Out D) → Store → Out D} {fe : Den D} {ρ : Env1} {M : Store} {o : Out D} (h1 : M[1]? = some (.tab P q)) (h : ∀ z, g z (fe ρ) M = o) : denLam P q g fe ρ M = o := by
  unfold denLam
  rw [if_pos ⟨h1, fun z => by rw [h z, h .non]⟩]
  exact h .non
theorem rep_code {X : Cx} {cl : ClsA} {pins : List (Addr × Obj)} {σ : L2.St} {θ : List Addr} {H : Hp} {M : Store} {s : Shared} {c : Addr} {q : Str} (I : Inv X pins σ H s) (r : Rep X.K cl θ H M) (hc : H c = some (CodeO c q)) : c ∉ θ := fun hm => by
  obtain ⟨n, hn⟩ := List.getElem?_of_mem hm
  obtain ⟨o, _, h⟩ := r.atn hn
  obtain ⟨⟨oc, vs, t, e1, e2, e3⟩, _, _⟩ := I.hok c _ hc
  have no : ∀ u, H c = some u → u = CodeO c q := fun u e => by rw [hc] at e; exact (Option.some.inj e).symm
  cases o with
  | lst ds =>
    obtain ⟨_, e, _⟩ := h
    have z := no _ e
    unfold CodeO at z
    cases z
  | frl ds =>
    obtain ⟨_, _, e, _⟩ := h
    have z := no _ e
    unfold CodeO at z
    cases z
  | dct kvs =>
    obtain ⟨_, e, _⟩ := h
    have z := no _ e
    unfold CodeO at z
    cases z
  | ins c fs =>
    obtain ⟨_, _, _, _, e, _⟩ := h
    have z := no _ e
    unfold CodeO at z
    cases z
  | exn c d =>
    cases d with
    | none =>
      obtain ⟨_, _, e⟩ := h
      obtain ⟨⟨t1, g1⟩, _, _⟩ := I.hok _ _ e
      rw [e1] at g1
      cases g1
      cases e2
      simp at e3
    | some m =>
      obtain ⟨_, _, _, _, e⟩ := h
      obtain ⟨⟨t1, g1⟩, _, _⟩ := I.hok _ _ e
      rw [e1] at g1
      cases g1
      cases e2
      simp at e3
  | xdo fs =>
    obtain ⟨_, e, _⟩ := h
    obtain ⟨⟨mA, hns, _⟩, _, _⟩ := I.hok _ _ e
    obtain ⟨ob, es, ep, g1, g2, _⟩ := hns
    rw [e1] at g1
    cases g1
    rw [e2] at g2
    cases g2
  | tab P q =>
    obtain ⟨_, _, e, _⟩ := h
    have z := no _ e
    unfold CodeO at z
    cases z
section
variable {X : Cx} {cl : ClsA} {pins : List (Addr × Obj)} {σ : L2.St} {θ : List Addr} {H : Hp} {M : Store} {s : Shared}
/-- the function's object is made; its code object is new, or the table tells it -/
theorem lam_new {c P : Addr} {params : Arguments} {body : Expr} {scope : Scope} {pos : Pos} {E : Value → Shared → Prop} {Q : Value → Shared → Prop} (I : Inv X pins σ H s) (r : Rep X.K cl θ H M) (hM : M[1]? = some (.tab P (X.env.qual ++ "<lambda>"))) (TB : TabB X.base X.mg c P) (hcode : X.env.code = .ref c)
    (nod : defaultsOf params X.env = ([], [])) (fr : ∀ y ∈ scope.names, y.2 = .free → ∃ c, X.env.cells.lookup y.1 = some c)
    (k : ∀ (f d : Addr) (pm ctv : Value) (H1 : Hp) (s1 : Shared), Inv X pins σ H1 s1 → Ext X.K θ H θ H1 → Rep X.K cl θ H1 M → s1.heap.get? f = some (PySem.W.kla_obj "<lambda>" (X.env.qual ++ "<lambda>") params body scope (cloFrom X.env.cells scope.names []) pm d ctv) →
      H1 f = none → f ∉ frs X.stack → H1 d = some (CodeO d (X.env.qual ++ "<lambda>")) → Q (.ref f) s1) : wpAny (model X.prog X.w) X.A (eval (.Lambda params body scope pos) X.env) Q E s := by
  obtain ⟨p0, hθ, e0, ps, tbl, tri, known⟩ := r.addr hM
  subst e0
  have real : s.heap.get? p0 = some { cls := .none, data := .fields ps } := I.hok p0 _ tbl
  have blt : s.heap.BuiltinsAt X.mg p0 := TB.bm.keeps I.bk
  have notF : ∀ f, s.heap.objs.size ≤ f → f ∉ frs X.stack := fun f big hm => by
    rcases List.mem_cons.mp (I.stkSub _ hm) with e | e
    · have small := I.lt
      rw [← e] at small
      exact absurd small (Nat.not_lt.mpr big)
    · exact I.nofs big e
  refine PySem.W.kla_eval nod ?_
  cases hit : codeAmong pos ps.toList with
  | some cv =>
    obtain ⟨d, rfl, _, there⟩ := known pos cv hit
    refine PySem.W.kla_makeFunctionHit (mg := X.mg) (c := c) (P := p0) (ps := ps) (closure_ok fr) I.ok.glob (I.mod.glob.keeps I.bk) hcode (TB.code.keeps I.bk) real tri hit blt fun ctv hp tk same size => ?_
    exact k hp.objs.size d ((X.mg "__name__").getD .none) ctv H _ (I.kept fun b o e => Heap.get?_push_of_some _ (same b o e)) .refl r (Heap.get?_push_size _ rfl) (I.hok.fresh size) (notF _ size) there
  | none =>
    refine PySem.W.kla_makeFunction (mg := X.mg) (c := c) (P := p0) (ps := ps) (closure_ok fr) I.ok.glob (I.mod.glob.keeps I.bk) hcode (TB.code.keeps I.bk) real tri hit TB.gP blt fun d ctv hp tk others big less made grown => ?_
    obtain ⟨d2, oc, vs, t, ed, hoc, hd, hv⟩ := made
    cases ed
    have nd : H d = none := I.hok.fresh big
    have np : p0 ≠ d := ne_of_none tbl nd
    have sz : s.heap.objs.size ≤ hp.objs.size := Nat.le_trans big (Nat.le_of_lt less)
    have J := inv_table (t' := tk) (more := #[rawInt pos.line, rawInt pos.col, .ref d]) (h' := hp.push (PySem.W.kla_obj "<lambda>" (X.env.qual ++ "<lambda>") params body scope (cloFrom X.env.cells scope.names []) ((X.mg "__name__").getD .none) d ctv)) I tbl
      (fun b o hb e => Heap.get?_push_of_some _ (others b o hb e)) (Heap.get?_push_of_some _ grown) big ⟨oc, vs, t, Heap.get?_push_of_some _ hoc, hd, hv⟩
    have swap : upd (upd H p0 (.tbl (ps ++ #[rawInt pos.line, rawInt pos.col, .ref d]))) d (CodeO d (X.env.qual ++ "<lambda>")) = upd (upd H d (CodeO d (X.env.qual ++ "<lambda>"))) p0 (.tbl (ps ++ #[rawInt pos.line, rawInt pos.col, .ref d])) := by
      funext b
      by_cases h1 : b = d
      · subst h1
        rw [upd_same, upd_ne (Ne.symm np), upd_same]
      · by_cases h2 : b = p0
        · subst h2
          rw [upd_ne h1, upd_same, upd_same]
        · rw [upd_ne h1, upd_ne h2, upd_ne h2, upd_ne h1]
    rw [swap] at J
    have r2 : Rep X.K cl θ (upd H d (CodeO d (X.env.qual ++ "<lambda>"))) M := r.keep nd codeO_ne
    have x2 : Ext X.K θ H θ (upd H d (CodeO d (X.env.qual ++ "<lambda>"))) := Ext.upd (Free.none nd)
    have tb2 : upd H d (CodeO d (X.env.qual ++ "<lambda>")) p0 = some (.tbl ps) := by rw [upd_ne np]; exact tbl
    have fp : Free θ (upd H d (CodeO d (X.env.qual ++ "<lambda>"))) p0 := ⟨.inl (List.mem_of_getElem? hθ), fun o e => by
      rw [tb2] at e
      cases e
      exact ⟨fun xs z => (nomatch z), fun u z q => (nomatch q)⟩⟩
    have x3 : Ext X.K θ (upd H d (CodeO d (X.env.qual ++ "<lambda>"))) θ (upd (upd H d (CodeO d (X.env.qual ++ "<lambda>"))) p0 (.tbl (ps ++ #[rawInt pos.line, rawInt pos.col, .ref d]))) := Ext.upd fp
    have dOut : d ∉ θ := (fun hm => (r.out nd) hm)
    have lst : (ps ++ #[rawInt pos.line, rawInt pos.col, .ref d]).toList = ps.toList ++ [rawInt pos.line, rawInt pos.col, .ref d] := by simp
    have r3 := r2.put hθ fp (u' := .tbl (ps ++ #[rawInt pos.line, rawInt pos.col, .ref d])) (o := .tab p0 (X.env.qual ++ "<lambda>")) ⟨rfl, _, upd_same, by rw [lst]; exact PySem.TriplesOk_snoc _ _ _ _ tri, fun p' cv hc => by
      rw [lst] at hc
      rcases among_app _ tri hc with z | z
      · obtain ⟨d0, e1, e2, e3⟩ := known p' cv z
        exact ⟨d0, e1, (x2.trans x3).oth d0 _ e2 e3⟩
      · refine ⟨d, z, dOut, ?_⟩
        rw [upd_ne (Ne.symm np), upd_same]⟩
    have same : M.set 1 (.tab p0 (X.env.qual ++ "<lambda>")) = M := by
      refine List.ext_getElem? fun i => ?_
      by_cases hi : i = 1
      · subst hi
        rw [List.getElem?_set_self (lt_of_at hM), hM]
      · rw [List.getElem?_set_ne (Ne.symm hi)]
    rw [same] at r3
    have fnew : hp.objs.size ≠ d := Nat.ne_of_gt less
    have fp0 : hp.objs.size ≠ p0 := Nat.ne_of_gt (Nat.lt_of_lt_of_le (Heap.lt_size real) sz)
    refine k hp.objs.size d ((X.mg "__name__").getD .none) ctv _ _ J (x2.trans x3) r3 (Heap.get?_push_size _ rfl) ?_ (notF _ sz) ?_
    · rw [upd_ne fp0, upd_ne fnew]
      exact I.hok.fresh sz
    · rw [upd_ne (Ne.symm np), upd_same]
end
end RI

/-! the lambda called; the def that gets it -/
namespace RI
open PySem PySem.Spec PyProof.Rows L2 LamX
section
variable {X : Cx} {cl : ClsA} {pins : List (Addr × Obj)} {σ : L2.St} {θ : List Addr} {H : Hp} {M : Store} {s : Shared}
theorem rd_act {Ng : List Str} {qg : Str} {sg : Scope} {g f d : Addr} {cdg pm ctv : Value} {params : Arguments} {body : Expr} {scope : Scope} {k : Nat} {a : Str} {pn : List (Addr × Obj)} {xe : Value → Shared → Prop} {W : WX} {EZ : XK} {fe : Den D} {ρ : Env1} {p1 p2 : Pos}
    (I : Inv X pins σ H s) (r : Rep X.K cl θ H M) (hE : RelE X.K θ H σ ρ) (L : LamS X.env.scope scope) (fo : s.heap.get? f = some (PySem.W.kla_obj "<lambda>" (X.env.qual ++ "<lambda>") params body scope (cloFrom X.env.cells scope.names []) pm d ctv)) (fN : H f = none) (fF : f ∉ frs X.stack)
    (co : H d = some (CodeO d (X.env.qual ++ "<lambda>"))) (nb : bindArgs (PySem.W.kla_fn "<lambda>" (X.env.qual ++ "<lambda>") params body scope (cloFrom X.env.cells scope.names []) pm (.ref d) ctv) ⟨[], []⟩ = pure []) (hgd : X.A.guards = some [])
    (tk : Takes ((cxOf (L2.CX X.prog X.w) X.prog X.w X.K X.mg X.base Ng qg sg g cdg X.A X.stack s H EZ).tr pn xe) W) (room : Room (k + 1) (X.A.deeper (envOfC qg sg s.heap.objs.size g cdg)))
    (hlam : ∀ (A : Around) (outer : List Env) (s : Shared) (H : Hp) (E : XK), Room k (A.deeper (lamEnv X scope s.heap.objs.size f d)) → A.guards = some [] → RD (lamCx X A outer s H E scope f d) cl (fun c d _ h => E c d h) body fe)
    (hN : Ng[0]? = some a) (hv : Vis sg a) (hd : (a == ("__debug__" : Str)) = false) (hcd : (a == ("__classdict__" : Str)) = false) :
    RD ((cxOf (L2.CX X.prog X.w) X.prog X.w X.K X.mg X.base Ng qg sg g cdg X.A X.stack s H EZ).tr pn xe) cl W (.Call (.Name a p1) [] [] p2) (denAct (.clo f θ H) (fe ρ)) := by
  refine ⟨fun pz sz σz Hz Q Iz hyp => ?_⟩
  obtain ⟨θz, ρz, Mz, hEz, rz, q⟩ := hyp
  unfold denAct at q
  split at q
  case isFalse => exact q.elim
  rename_i at0
  obtain ⟨v0, hv0, rv0⟩ := hEz.at_ 0 _ at0
  cases rv0 with
  | clo ext =>
    have coz : Hz d = some (CodeO d (X.env.qual ++ "<lambda>")) := (ext.oth d _ (rep_code I r co) co).2
    refine wpAny_Call_Name_kw (thn ((pe_var (pos := p1) (i := 0) hN hv hd hcd).run pz sz σz Hz (fun v H1 => v = .ref f ∧ H1 = Hz) Iz ⟨.ref f, hv0, rfl, rfl⟩) fun u s2 got => ?_)
    obtain ⟨v2, H2, I2, rel2, ev, eh⟩ := got
    subst ev
    subst eh
    obtain rfl : u = Value.ref f := rel2
    have fo2 : s2.heap.get? f = some (PySem.W.kla_obj "<lambda>" (X.env.qual ++ "<lambda>") params body scope (cloFrom X.env.cells scope.names []) pm d ctv) := I2.base.keep f _ fo fN fF (fun z => nomatch (show f ∈ ([] : List Addr) from z))
    have since : Un (frs X.stack) [] H H2 s.heap s2.heap := I2.base
    obtain ⟨⟨oc, cs, tc, oc1, oc2, oc3⟩, _, _⟩ := I2.hok d _ coz
    refine PySem.W.callWith_F0 ⟨_, _, _, _, fo2⟩ ?_
    have run : codeAny (model X.prog X.w) (X.A.deeper (envOfC qg sg s.heap.objs.size g cdg)) (.call (.ref f) ⟨[], []⟩) (CR (L2.CX X.prog X.w) (envOfC qg sg s.heap.objs.size g cdg :: X.stack) X.prog X.w H2 s2 Q (WE W σz)) s2 := by
      refine PySem.W.kla_callFunE room.depth fo2 rfl L.co L.gen rfl ⟨d, oc, cs, tc, rfl, oc1, oc2, oc3⟩ ?_
      rw [nb]
      refine wpAny_pure (wpAny_newFunctionEnv (fun y hy => (L.own y hy).2) (fun y hy => absurd hy (by simp)) (fun h1 ns sb => ⟨I2.nolimit.fresh _ sb, ?_⟩) L.kind)
      show codeAny _ _ (.expr body (lamEnv X scope s2.heap.objs.size f d)) _ _
      have stay : ∀ b o, s2.heap.get? b = some o → h1.get? b = some o := fun b o e => sb.extBut b o (Nat.ne_of_lt (Heap.lt_size e)) (Heap.get?_push_of_some _ e)
      have J := lam_start2 (A := X.A.deeper (envOfC qg sg s.heap.objs.size g cdg)) (outer := envOfC qg sg s.heap.objs.size g cdg :: X.stack) (E := WE W σz) (f := f) (c' := d) (tk := s2.toks + ([] : List (Str × Value)).length) I L I2.env0 room.hd since ns stay
      have rd0 : rdG X.K cl (Rp X.K) (fun c d _ h => WE W σz c d h) fe σ H2 Q := by
        refine ⟨θz, ρ, Mz, hE.ext ext, rz, ?_⟩
        cases e : fe ρ Mz with
        | ok a M' => rw [e] at q; exact q
        | exc c fs M' => rw [e] at q; exact q
        | no => rw [e] at q; exact q
      refine PySem.W.kla_codeExpr (wpAny_mono ((hlam _ _ s2 H2 (WE W σz) (room.deeper _) hgd).run [] _ _ H2 Q J rd0) (fun v s3 post => ?_) fun e s3 he => he)
      obtain ⟨v3, H3, J3, rel3, q3⟩ := post
      exact ⟨v3, H3, J3.os, J3.bare, J3.base, J3.hok, rel3, q3⟩
    refine wpAny_call (codeAny_mono run fun res s3 post => ?_)
    cases res with
    | error er => exact passAt tk σz pz H2 s2 er s3 I2 post
    | ok fl =>
      cases fl with
      | ret u => exact I2.after post
      | next => exact False.elim post
      | brk => exact False.elim post
      | cont => exact False.elim post
end
/-- a def that calls what it gets, by its name -/
structure GvB (P : Program) (w : World) (K : PySem.W.Frag) (mg : Str → Option Value) (base : Heap) (cl : ClsA) (k : Nat) (x a : Str) (gT : D → (Store → Out D) → Store → Out D) : Prop where
  ex : ∃ (g : Addr) (fd : FuncData) (st : Stmt) (Ng : List Str) (gB : D → (Store → Out D) → DenS), mg x = some (.ref g) ∧ PySem.W.keepIn K (.ref g) = true ∧ Binds K fd [a] [] ∧ Fun K x x st g fd ∧ FnScope Ng [a] (defScope st) ∧ Ng[0]? = some a ∧ Vis (defScope st) a ∧
    (∀ z call M, gT z call M = finD (gB z call (startE Ng.length [z]) M)) ∧
    ∀ (z : D) (call : Store → Out D) (cdv : Value) (A : Around) (outer : List Env) (s : Shared) (H : Hp) (E : XK), Room k (A.deeper (envOfC x (defScope st) s.heap.objs.size g cdv)) → A.guards = some [] →
      (∀ (W : WX) (pn : List (Addr × Obj)) (xe : Value → Shared → Prop) (p1 p2 : Pos), Takes ((cxOf (L2.CX P w) P w K mg base Ng x (defScope st) g cdv A outer s H E).tr pn xe) W → RD ((cxOf (L2.CX P w) P w K mg base Ng x (defScope st) g cdv A outer s H E).tr pn xe) cl W (.Call (.Name a p1) [] [] p2) (denAct z call)) →
      PSs (cxOf (L2.CX P w) P w K mg base Ng x (defScope st) g cdv A outer s H E) (defBody st) (rdS cl (fun c d _ h => E c d h) K (gB z call))
section
variable {X : Cx} {cl : ClsA} {W : WX}
/-- x(lambda: body) -/
theorem rd_lam {k : Nat} {x a : Str} {gT : D → (Store → Out D) → Store → Out D} {c P : Addr} {params : Arguments} {body : Expr} {scope : Scope} {fe : Den D} {p lpos pos : Pos} (B : GvB X.prog X.w X.K X.mg X.base cl (k + 1) x a gT) (TB : TabB X.base X.mg c P) (hcode : X.env.code = .ref c)
    (room : Room (k + 2) X.A) (hgd : X.A.guards = some []) (tk : Takes X W) (L : LamS X.env.scope scope) (hlam : ∀ (A : Around) (outer : List Env) (s : Shared) (H : Hp) (E : XK) (f d : Addr), Room k (A.deeper (lamEnv X scope s.heap.objs.size f d)) → A.guards = some [] → RD (lamCx X A outer s H E scope f d) cl (fun c d _ h => E c d h) body fe)
    (nod : defaultsOf params X.env = ([], []) := by rfl) (nb : ∀ (q : Str) (cc : List (Str × Addr)) (pm cv ctv : Value), bindArgs (PySem.W.kla_fn "<lambda>" q params body scope cc pm cv ctv) ⟨[], []⟩ = pure [] := by exact fun _ _ _ _ _ => rfl)
    (hg : Gl X x := by rfl) (hdb : (x == ("__debug__" : Str)) = false := by decide) (hd : (a == ("__debug__" : Str)) = false := by decide) (hcd : (a == ("__classdict__" : Str)) = false := by decide) :
    RD X cl W (.Call (.Name x p) [.Lambda params body scope lpos] [] pos) (denLam P (X.env.qual ++ "<lambda>") gT fe) := by
  obtain ⟨g, fd, st, Ng, gB, hm, hk, hb, F, S, hN, hv, eT, hB⟩ := B.ex
  obtain ⟨oc, od, kV, doc, pm, an, cdv, ct, osl, rfl, lk, hcdv⟩ := F.ex
  refine ⟨fun pins s σ H Q I hyp => ?_⟩
  obtain ⟨θ, ρ, M, hE, r, q⟩ := hyp
  unfold denLam at q
  split at q
  case isFalse => exact q.elim
  rename_i both
  obtain ⟨hM, hz⟩ := both
  refine wpAny_Call_Name_kw (ld_glob I hg hm ?_ hdb)
  refine PySem.W.callWith_K (h₀ := X.base) I.ok.mod.kin hk ?_ (by rfl) (by rfl)
  show wpAny _ _ (spliced [(false, eval (.Lambda params body scope lpos) X.env)]) _ _ s
  refine Calls.spliced_cons (lam_new I r hM TB hcode nod (L.has I.ok) fun f d pm2 ctv H1 s1 I1 x1 r1 fo fN fF co => ?_)
  refine Calls.spliced_nil ⟨I1.kIn, ?_⟩
  have bind := hb s1 [.ref f] I1.kIn rfl
  have post : PostG X.K cl (Rp X.K) (fun c d _ h => WE W σ c d h) Q [] θ H1 (finD (gB (.clo f θ H1) (fe ρ) (startE Ng.length [.clo f θ H1]) M)) := by
    rw [← eT, hz]
    have q1 := q.ext x1
    cases e : gT .non (fe ρ) M with
    | ok a M' => rw [e] at q1; exact q1
    | exc c fs M' => rw [e] at q1; exact q1
    | no => rw [e] at q1; exact q1
  have run := fn_run (P := X.prog) (w := X.w) (mg := X.mg) (base := X.base) (cl := cl) (k := k + 1) (g := gB (.clo f θ H1) (fe ρ)) (ps := [a]) (us := [.ref f]) (vs := [.ref f]) (ds := [.clo f θ H1]) (E := WE W σ) (Q := Q) S lk hcdv
    (fun room2 => hB (.clo f θ H1) (fe ρ) cdv X.A X.stack s1 H1 (WE W σ) room2 hgd fun W2 pn xe p1 p2 tk2 => rd_act I1 r1 (hE.ext x1) L fo fN fF co (nb _ _ _ _ _) hgd tk2 room2 (fun A outer s H E => hlam A outer s H E f d) hN hv hd hcd)
    room I1.env0 bind (.cons rfl .nil) r1 (.cons (.clo .refl) .nil) rfl post
  refine wpAny_call (codeAny_mono run fun res s3 ans => ?_)
  cases res with
  | error er => exact passAt tk σ pins H1 s1 er s3 I1 ans
  | ok fl =>
    cases fl with
    | ret u => exact I1.after ans
    | next => exact False.elim ans
    | brk => exact False.elim ans
    | cont => exact False.elim ans
end
end RI

/-! the law's end where the law makes lambdas: its table stands in the store -/
namespace RI
open PySem PySem.Spec PyProof.Rows L2 LamX
theorem law_callGT {P : Program} {w : World} {K : PySem.W.Frag} {mg mb : Str → Option Value} {cl : ClsA} {k n : Nat} {fa a c p : Addr} {lq : Str} {fd : FuncData} {x : Str} {g : List D → Store → Out D} {s₁ : Shared} {vs : List Value} {ns : List Int}
    (KX : K.In s₁.heap) (hns : s₁.heap.Ns mainGlobals mg) (hb : s₁.heap.Ns builtinsNs mb) (hbb : ∀ x : Str, x ≠ "__name__" → mb x = bootBuiltins x) (hlim : s₁.heap.NoLimit) (hg : s₁.gens = #[])
    (tabP : s₁.heap.get? p = some { cls := .none, data := .fields #[] }) (tabK : K.lookup p = none) (head : PySem.W.CodeHd s₁.heap c p)
    (bmod : ∃ (bm : Addr) (ob : Obj), mg "__builtins__" = some (.ref bm) ∧ bm ≠ builtinsNs ∧ s₁.heap.get? bm = some ob ∧ ob.cls = .type "module" ∧ ob.dict = some builtinsNs ∧ ob.data = .plain)
    (ha : s₁.heap.get? a = some { cls := .type "list", data := .seq vs.toArray }) (hi : IntsAre vs ns) (hl : ns.length ≤ sizeLine) (hr : Room k callerA) (hno : noLists K = true)
    (F : ∀ base : Heap, K.In base → base.Ns mainGlobals mg → TabB base mg c p → FnG P w K mg base cl k fa fd [x] g) (hbind : ∀ (s : Shared) (u : Value), BindsTo s fd ⟨[u], []⟩ [(x, u)])
    (hsp : ∃ M, g [.ob 0] [.frl (ns.map D.int), .tab p lq] = .ok (.bl true) M) :
    codeAny (model P w) callerA (.call (.ref fa) ⟨[.ref a], []⟩) (fun r s' => r = .ok (.ret (.bool true)) ∧ OldK s₁.heap s'.heap ∧ s'.os = s₁.os ∧ AllBare s'.gens) s₁ := by
  obtain ⟨M1, hM1⟩ := hsp
  have rv := vals_ints hi
  have lenV := hi.length
  have hk : K.lookup a = none := by
    cases q : K.lookup a with
    | none => rfl
    | some o =>
      have e := KX a o q
      rw [ha] at e
      cases e
      exact absurd rfl (noLists_ok hno q)
  have nap : a ≠ p := fun z => by
    rw [z, tabP] at ha
    cases ha
  let F0 : HO := .frz { cls := .type "list", data := .seq vs.toArray } (.lst (ns.map V.int))
  let H : Hp := fun b => if b = a then some F0 else if b = p then some (.tbl #[]) else none
  have Ha : H a = some F0 := if_pos rfl
  have Hp' : H p = some (.tbl #[]) := (if_neg (Ne.symm nap)).trans (if_pos rfl)
  have Hn : ∀ {b : Addr}, b ≠ a → b ≠ p → H b = none := fun z1 z2 => (if_neg z1).trans (if_neg z2)
  have hok : HOk P w H s₁.heap := fun b u z => by
    by_cases q : b = a
    · subst q
      rw [Ha] at z
      cases z
      exact ⟨ha, by rw [List.length_map]; exact hl, vs, _, rv, ha⟩
    · by_cases q2 : b = p
      · subst q2
        rw [Hp'] at z
        cases z
        exact tabP
      · rw [Hn q q2] at z
        cases z
  have base_of : ∀ {b : Addr} {o : Obj}, s₁.heap.get? b = some o → b ≠ a → b ≠ p → (hidT s₁.heap H).get? b = some o := fun e n1 n2 => hidT_get e (Hn n1 n2)
  have nsK : ∀ {b : Addr} {m : Str → Option Value}, s₁.heap.Ns b m → (hidT s₁.heap H).Ns b m := fun {b m} ⟨o, es, ep, e, d, r⟩ => ⟨o, es, ep, base_of e (fun z => by
    subst z
    rw [ha] at e
    cases e
    have d' : Data.seq vs.toArray _ = Data.dict es ep := d
    cases d') (fun z => by
    subst z
    rw [tabP] at e
    cases e
    have d' : Data.fields #[] = Data.dict es ep := d
    cases d'), d, r⟩
  have hKb : K.In (hidT s₁.heap H) := fun b o e => base_of (KX b o e) (fun z => by rw [z, hk] at e; cases e) (fun z => by rw [z, tabK] at e; cases e)
  have TB : TabB (hidT s₁.heap H) mg c p := by
    refine ⟨?_, ?_, fun z => ?_⟩
    · obtain ⟨o, us, fl, tf, gs, tg, b1, tx, tt, e1, r1, r2, r3, r⟩ := head
      refine ⟨o, us, fl, tf, gs, tg, b1, tx, tt, base_of e1 (fun z => ?_) (fun z => ?_), r1, r2, r3, r⟩
      · rw [z, ha] at e1
        cases e1
        cases r2
      · rw [z, tabP] at e1
        cases e1
        cases r1
    · obtain ⟨bm, ob, b1, b2, b3, b4, b5, b6⟩ := bmod
      have nG : bm ≠ mainGlobals := fun q => by
        obtain ⟨o, es, ep, e, d, _⟩ := hns
        rw [q, e] at b3
        cases b3
        rw [d] at b6
        cases b6
      have nP : bm ≠ p := fun q => by
        rw [q, tabP] at b3
        cases b3
        cases b6
      refine ⟨bm, ob, b1, b2, nG, nP, base_of b3 (fun q => ?_) nP, b4, b5, b6⟩
      rw [q, ha] at b3
      cases b3
      cases b6
    · obtain ⟨o, es, ep, e, d, _⟩ := hns
      rw [z, tabP] at e
      cases e
      cases d
  have hM : Mod K mg (hidT s₁.heap H) := ⟨hKb, nsK hns, ⟨mb, nsK hb, hbb⟩, let ⟨mc, h1, h2⟩ := hlim; ⟨mc, nsK h1, h2⟩⟩
  have e0 : Env0 P w K mg (hidT s₁.heap H) callerA [] s₁ H := ⟨rfl, hM, fun b o e => of_hidT e, Nat.le_of_eq (hidT_size _ _), trivial, fun b hb => absurd (show b ∈ ([] : List Addr) from hb) (by simp), hok, .of_eq hg⟩
  have hInts : ∀ l : List Int, RpA K [a, p] H (l.map V.int) (l.map D.int) := fun l => by
    induction l with
    | nil => exact .nil
    | cons i r ih => exact .cons (.int i) ih
  have rp : Rep K cl [a, p] H [.frl (ns.map D.int), .tab p lq] := by
    refine ⟨rfl, by simp [nap], fun m b o h1 h2 => ?_, fun b ps e => ?_⟩
    · match m with
      | 0 =>
        simp at h1 h2
        subst h1
        subst h2
        exact ⟨_, _, Ha, hInts ns⟩
      | 1 =>
        simp at h1 h2
        subst h1
        subst h2
        exact ⟨rfl, _, Hp', True.intro, fun pos cv hc => by
          have z : codeAmong pos [] = some cv := hc
          simp [codeAmong] at z⟩
      | m + 2 => simp at h1
    · by_cases q : b = a
      · simp [q]
      · by_cases q2 : b = p
        · simp [q2]
        · rw [Hn q q2] at e
          cases e
  refine codeAny_mono (F _ hKb (nsK hns) TB callerA [] s₁ H ⟨[.ref a], []⟩ [.ref a] [.ref a] [a, p] [.frl (ns.map D.int), .tab p lq] [.ob 0] (fun v _ => v = .bl true) (fun _ _ _ => False) hr rfl e0 (hbind s₁ (.ref a)) (.cons rfl .nil) rp (.cons (.ob rfl) .nil) rfl ?_) fun r s' h => ?_
  · rw [hM1]
    intro θ' H' v _ _ z
    cases z
    rfl
  · cases r with
    | error e =>
      obtain ⟨_, _, _, h⟩ := h
      first | exact h.elim | exact (show False by simp_all).elim
    | ok fl =>
      cases fl with
      | next => exact False.elim h
      | brk => exact False.elim h
      | cont => exact False.elim h
      | ret u =>
        obtain ⟨v, H', os, bare, un, hok', r', q⟩ := h
        have q' : v = .bl true := q
        subst q'
        obtain rfl : u = Value.bool true := r'
        obtain ⟨more, grown⟩ : ∃ more : Array Value, s'.heap.get? p = some { cls := .none, data := .fields more } := by
          obtain ⟨more, z⟩ := un.tbls p #[] Hp'
          exact ⟨_, hok' p _ z⟩
        have rest : ∀ b o, b ≠ p → s₁.heap.get? b = some o → s'.heap.get? b = some o := fun b o nb e => by
          by_cases q : b = a
          · subst q
            have z2 := un.frzs b _ _ Ha
            obtain ⟨e1, _⟩ := hok b _ Ha
            obtain ⟨e2, _⟩ := hok' b _ z2
            rw [e] at e1
            cases e1
            exact e2
          · exact un.keep b o e (Hn q nb) (fun z => absurd (show b ∈ ([] : List Addr) from z) (by simp)) (by simp)
        refine ⟨rfl, ⟨fun b o e => ?_, fun b o e => ?_⟩, os, bare⟩
        · by_cases nb : b = p
          · subst nb
            rw [tabP] at e
            cases e
            exact .inr (.inl ⟨(head.tab tabP).isCodeTable, rfl, #[], more, rfl, by rw [Array.empty_append]; exact grown⟩)
          · exact .inl (rest b o nb e)
        · by_cases nb : b = p
          · subst nb
            exact ⟨_, grown⟩
          · exact ⟨o, rest b o nb e⟩
end RI

/-! a method called with nothing; the law's end where its own code object has a table -/
namespace RI
open PySem PySem.Spec PyProof.Rows L2 LamX
section
variable {X : Cx} {cl : ClsA} {W : WX}
theorem rd_meth0 {pl : Sem Bool} {k : Nat} {fM C : Addr} {fd : FuncData} {ps : List Str} {g : List D → Store → Out D} {c m : Str} {o : Expr} {fo : Den D} {pos : Pos} {apos : Pos} (cc : Cls X.K C) (hcl : cl c = some C) (hm : Meth X.K C m fM) (F : FnG X.prog X.w X.K X.mg X.base cl k fM fd ps g) (hr : Room k X.A) (hgd : X.A.guards = some []) (hb : Binds X.K fd ps []) (tk : Takes X W)
    (ho : RD X cl W o fo)
    (ht : eval (.Call (.Attribute o m apos) [] [] pos) X.env = (do
      let ov ← eval o X.env
      standAt apos.atName
      let (f, first) ← holding [ov] (getMethod ov m pl)
      callWith pos f first (backTo pos (starEach [] X.env)) (backToKw pos (keywordEach [] X.env)))) : RD X cl W (.Call (.Attribute o m apos) [] [] pos) (denMeth fo denNil c m ps.length g) := by
  refine ⟨fun pins s σ H Q I q => ?_⟩
  obtain ⟨θ, ρ, M, hE, r, q⟩ := q
  refine methcall_of ho I ⟨θ, ρ, M, hE, r, PostG.bind q fun x M1 θ1 H1 v e1 r1 p1 q1 => ?_⟩ ht
  split at q1
  case isFalse => exact q1.elim
  rename_i hi
  unfold insD at hi
  split at hi
  case h_2 => cases hi
  rename_i n
  cases p1
  rename_i a hn
  obtain ⟨u, hu, hr2⟩ := r1.atn hn
  rw [hu] at hi
  cases u with
  | ins c' gs =>
    simp only [Bool.and_eq_true, decide_eq_true_eq, Option.isNone_iff_eq_none] at hi
    obtain ⟨rfl, hlk⟩ := hi
    obtain ⟨C', dx, vs, hC, ea, hF⟩ := hr2
    rw [hcl] at hC
    cases hC
    refine ⟨a, C, dx, vs, fM, rfl, ea, cc, hm, rpF_none hF hlk, fun s1 I1 => ?_⟩
    refine PySem.W.callWith_K0 (first := [.ref a]) I1.kIn hm.kp ?_
    have q2 : PostG X.K cl (Rp X.K) W Q σ θ1 H1 (if ([] : List D).length + 1 = ps.length then g [.ob n] M1 else .no) := by
      have z := q1
      unfold denNil at z
      exact z
    split at q2
    · rename_i hl
      exact runG (us := [.ref a]) (vs := [.ref a]) F hr hgd hb tk I1 (.cons rfl .nil) r1 (.cons (.ob hn) .nil) hl q2
    · exact q2.elim
  | _ => cases hi
theorem xmeth0 {pl : Sem Bool} {k : Nat} {ps : List Str} {g : List D → Store → Out D} {c m : Str} {o : Expr} {fo : Den D} {pos : Pos} {apos : Pos} (B : MeB X.prog X.w X.K X.mg X.base cl k c m ps g) (hr : Room k X.A) (hgd : X.A.guards = some []) (tk : Takes X W) (ho : RD X cl W o fo)
    (ht : eval (.Call (.Attribute o m apos) [] [] pos) X.env = (do
      let ov ← eval o X.env
      standAt apos.atName
      let (f, first) ← holding [ov] (getMethod ov m pl)
      callWith pos f first (backTo pos (starEach [] X.env)) (backToKw pos (keywordEach [] X.env))) := by rfl) : RD X cl W (.Call (.Attribute o m apos) [] [] pos) (denMeth fo denNil c m ps.length g) := by
  obtain ⟨C, fM, fd, hcl, cc, hm, hb, F⟩ := B.ex
  exact rd_meth0 cc hcl hm F hr hgd hb tk ho ht
end
/-- the goal that km_head leaves, from the law's def; its table stands in the hook -/
theorem walk_ofGT {l : PySem.W.OpenLaw} {n k : Nat} {q : Program} {loose : List Str} {XP : (Str → Option Value) → Heap → Prop} {YP : World → Heap → Prop} {d : DefRec} {K : Params → PySem.W.Frag} {x : Str}
    (hn : l.most = some n) (hn2 : n ≤ sizeLine) (hdf : d.params.defaults = []) (hr : Room k callerA)
    (hY : ∀ (w : World) (h : Heap), YP w h → (K w.params).In h)
    (F : ∀ (w : World) (mg : Str → Option Value) (fa : Addr) (h : Heap), YP w h → (K w.params).In h → h.Ns mainGlobals mg → mg d.name = some (.ref fa) →
      noLists (K w.params) = true ∧ ∃ (c p : Addr) (lq : Str) (fd : FuncData) (cl : ClsA) (g : List D → Store → Out D), h.get? p = some { cls := .none, data := .fields #[] } ∧ (K w.params).lookup p = none ∧ PySem.W.CodeHd h c p ∧ (∀ (s : Shared) (u : Value), BindsTo s fd ⟨[u], []⟩ [(x, u)]) ∧
        (∀ ns : List Int, ns.length ≤ n → ∃ M, g [.ob 0] [.frl (ns.map D.int), .tab p lq] = .ok (.bl true) M) ∧
        ∀ base : Heap, (K w.params).In base → base.Ns mainGlobals mg → TabB base mg c p → FnG l.prog w (K w.params) mg base cl k fa fd [x] g) :
    PySem.W.WalkO q loose XP YP l.row.toRowW d [] (fun f vs => PySem.call f vs) := by
  refine Att.attach_call hn hdf fun w s₀ s₁ mg mb fa o pm cd doc a vs ns G Y ho hd hcd hmg hobj hints hlen hg => ?_
  have KX := hY w _ Y
  obtain ⟨hno, c, p, lq, fd, cl, g, t1, t2, t3, hb, hsp, hF⟩ := F w mg fa _ Y KX G.T.g hmg
  exact law_callGT (n := n) KX G.T.g G.T.b G.T.builtins G.T.nolimit hg t1 t2 t3 G.T.bmain hobj hints (Nat.le_trans hlen hn2) hr hno hF hb (hsp ns hlen)
end RI

namespace RI
open PySem PySem.Spec PyProof.Rows L2 LamX
abbrev lamQ : Str := (("law" : Str) ++ (".<locals>." : Str)) ++ ("<lambda>" : Str)
theorem lamIn {X : Cx} {A : Around} {outer : List Env} {s : Shared} {H : Hp} {E : XK} {scope : Scope} {f d : Addr} {cl : ClsA} {body : Expr} {fe : Den D}
    (h : Takes (lamCx X A outer s H E scope f d) (fun c d _ h => E c d h) → RD (lamCx X A outer s H E scope f d) cl (fun c d _ h => E c d h) body fe) : RD (lamCx X A outer s H E scope f d) cl (fun c d _ h => E c d h) body fe :=
  h (takes_of rfl rfl rfl rfl)
end RI

namespace K04
open PySem PySem.Spec PyProof.Rows L2 RI
def top (i : Nat) : Stmt := PySem.Challenge.pw_beadshares_k04_strings_of_strings.main.body.getD i (.Pass ⟨0, 0, 0, 0⟩)
/-! ### 1. the readings -/
noncomputable def d__law_deck_1 (G : Glo) : DenS := denSeq (denIfS (asB (den2 (denCall (denCons (dv 2) (denNil)) absD) (den2 (dc (.int 10)) (dc (.int 18)) (opD .Pow)) (cmpD .GtE))) (denSeq (denAsg (den2 (den2 (dv 1) (dc (.int 59)) (opD .Mult)) (denCall (denCons (dv 2) (denNil)) absD) (opD .Add)) (.name 1)) (denNx)) (denNx)) (denNx)
noncomputable def d__law_deck (G : Glo) : DenS := denSeq (denAsg (dc (.int 0)) (.name 1)) (denSeq (denFor (denIt (denSl (dv 0) (denNoPart) (denPart (dc (.int 62))))) (.name 2) (d__law_deck_1 G)) (denSeq (denRet (denDN [(dc (.str "cells"), den2 (denCall (denCons (denSl (dv 0) (denNoPart) (denPart (dc (.int 62)))) (denNil)) listD) (denLst (denCons (den2 (denCall (denCons (dv 0) (denNil)) lenD) (dc (.int 7)) (opD .Add)) (denNil))) (opD .Add)), (dc (.str "turn"), dc (.int 0)), (dc (.str "great"), dv 1)])) (denNx)))
noncomputable def g__law_deck (G : Glo) : List D → Store → Out D := fun ds M => finD (d__law_deck G (startE 3 ds) M)
noncomputable def d__law_take (G : Glo) : DenS := denSeq (denSetIx (den2 (den2 (dv 0) (dc (.str "turn")) ixD) (dc (.int 1)) (opD .Add)) (dv 0) (dc (.str "turn"))) (denSeq (denIfS (asB (den2 (den2 (dv 0) (dc (.str "great")) ixD) (dc (.int 0)) (cmpD .Gt))) (denSeq (denAsg (den2 (den2 (dv 0) (dc (.str "great")) ixD) (dv 1) (opD .Mod)) (.name 3)) (denSeq (denSetIx (den2 (den2 (dv 0) (dc (.str "great")) ixD) (dv 1) (opD .FloorDiv)) (dv 0) (dc (.str "great"))) (denSeq (denRet (dv 3)) (denNx)))) (denNx)) (denSeq (denPar 4 5 (denCons (den2 (dv 0) (dc (.str "turn")) ixD) (denCons (den2 (dv 0) (dc (.str "cells")) ixD) (denNil)))) (denSeq (denAsg (den2 (den2 (den2 (den2 (den2 (den2 (dv 5) (den2 (dv 4) (denCall (denCons (dv 5) (denNil)) lenD) (opD .Mod)) ixD) (dc (.int 2147483587)) (opD .Mod)) (den2 (dc (.int 60013)) (dv 4) (opD .Mult)) (opD .Add)) (dc (.int 17)) (opD .Add)) (dc (.int 3)) (opD .Pow)) (dc (.int 2147483629)) (opD .Mod)) (.name 2)) (denSeq (denRet (den2 (den2 (den2 (den2 (den2 (dv 2) (dc (.int 48611)) (opD .Mult)) (den2 (den2 (dc (.int 7919)) (dv 4) (opD .Mult)) (dv 4) (opD .Mult)) (opD .Add)) (dc (.int 2147483563)) (opD .Mod)) (dc (.int 7)) (opD .FloorDiv)) (dv 1) (opD .Mod))) (denNx)))))
noncomputable def g__law_take (G : Glo) : List D → Store → Out D := fun ds M => finD (d__law_take G (startE 6 ds) M)
noncomputable def d__law_one (G : Glo) : DenS := denSeq (denRet (den2 (dv 1) (denCall (denCons (dv 0) (denCons (denCall (denCons (dv 1) (denNil)) lenD) (denNil))) (arity 2 (g__law_take G))) ixD)) (denNx)
noncomputable def g__law_one (G : Glo) : List D → Store → Out D := fun ds M => finD (d__law_one G (startE 2 ds) M)
noncomputable def d__law_mixed_1 (G : Glo) : DenS := denSeq (denDrop (denMt (dv 2) (denCons (denMt (dv 3) (denCons (denCall (denCons (dv 0) (denCons (denCall (denCons (dv 3) (denNil)) lenD) (denNil))) (arity 2 (g__law_take G))) (denNil)) popD) (denNil)) appD)) (denNx)
noncomputable def d__law_mixed (G : Glo) : DenS := denSeq (denPar 2 3 (denCons (denLst (denNil)) (denCons (denLrg (dv 1)) (denNil)))) (denSeq (denWhile (asB (den2 (dv 3) (denLst (denNil)) (cmpD .NotEq))) (d__law_mixed_1 G)) (denSeq (denRet (denCall (denCons (dv 2) (denNil)) tupleD)) (denNx)))
noncomputable def g__law_mixed (G : Glo) : List D → Store → Out D := fun ds M => finD (d__law_mixed G (startE 4 ds) M)
noncomputable def d__law_length (G : Glo) : DenS := denSeq (denIfS (asB (den2 (dv 1) (dc (.int 0)) (cmpD .Gt))) (denSeq (denRet (den2 (dc (.int 1)) (denCall (denCons (dv 0) (denCons (dv 1) (denNil))) (arity 2 (g__law_take G))) (opD .Add))) (denNx)) (denNx)) (denSeq (denAsg (denLst (denCons (dc (.int 1)) (denCons (dc (.int 2)) (denCons (den2 (dc (.int 10)) (dc (.int 30)) (opD .Pow)) (denCons (den2 (dc (.int 1)) (denCall (denCons (dv 0) (denCons (dc (.int 9)) (denNil))) (arity 2 (g__law_take G))) (opD .Add)) (denCons (den2 (den2 (dc (.int 10)) (dc (.int 30)) (opD .Pow)) (denCall (denCons (dv 0) (denCons (dc (.int 99)) (denNil))) (arity 2 (g__law_take G))) (opD .Sub)) (denNil))))))) (.name 2)) (denSeq (denRet (denCall (denCons (dv 0) (denCons (den2 (dv 2) (denLst (denCons (den2 (dc (.int 1)) (denCall (denCons (dv 0) (denCons (den2 (dc (.int 10)) (dc (.int 30)) (opD .Pow)) (denNil))) (arity 2 (g__law_take G))) (opD .Add)) (denNil))) (opD .Add)) (denNil))) (arity 2 (g__law_one G)))) (denNx)))
noncomputable def g__law_length (G : Glo) : List D → Store → Out D := fun ds M => finD (d__law_length G (startE 3 ds) M)
noncomputable def d__law_runs_1 (G : Glo) : DenS := denSeq (denAsg (denCall (denCons (dv 0) (denCons (denCall (denCons (dv 5) (denNil)) lenD) (denNil))) (arity 2 (g__law_take G))) (.name 6)) (denSeq (denIfS (denAnd (asB (den2 (dv 4) (denTup (denNil)) (cmpD .NotEq))) (asB (den2 (den2 (den2 (dv 4) (denNeg (dc (.int 1))) ixD) (dc (.int 0)) ixD) (den2 (dv 5) (dv 6) ixD) (cmpD .Eq)))) (denSeq (denAsg (den2 (den2 (dv 6) (dc (.int 1)) (opD .Add)) (denCall (denCons (dv 5) (denNil)) lenD) (opD .Mod)) (.name 6)) (denNx)) (denNx)) (denSeq (denAsg (den2 (dv 4) (denTup (denCons (denTup (denCons (den2 (dv 5) (dv 6) ixD) (denCons (denCall (denCons (dv 0) (denCons (dv 2) (denNil))) (arity 2 (g__law_length G))) (denNil)))) (denNil))) (opD .Add)) (.name 4)) (denNx)))
noncomputable def d__law_runs (G : Glo) : DenS := denSeq (denPar 4 5 (denCons (denTup (denNil)) (denCons (denSl (denCall (denCons (dv 0) (denCons (dc (.int 4)) (denNil))) (arity 2 (g__law_mixed G))) (denNoPart) (denPart (den2 (dc (.int 2)) (denCall (denCons (dv 0) (denCons (dc (.int 3)) (denNil))) (arity 2 (g__law_take G))) (opD .Add)))) (denNil)))) (denSeq (denFor (denRange1 (denCons (den2 (dc (.int 1)) (denCall (denCons (dv 0) (denCons (dv 1) (denNil))) (arity 2 (g__law_take G))) (opD .Add)) (denNil))) (.name 3) (d__law_runs_1 G)) (denSeq (denRet (dv 4)) (denNx)))
noncomputable def g__law_runs (G : Glo) : List D → Store → Out D := fun ds M => finD (d__law_runs G (startE 7 ds) M)
noncomputable def d_is_row (G : Glo) : DenS := denSeq (denRet (denAndV (denIsi G (dv 0) (.ty "tuple")) (den3 (dv 1) (denCall (denCons (dv 0) (denNil)) lenD) (dv 2) .LtE .LtE))) (denNx)
noncomputable def g_is_row (G : Glo) : List D → Store → Out D := fun ds M => finD (d_is_row G (startE 3 ds) M)
noncomputable def d_BadString (G : Glo) : DenS := denSeq (denSetF G (dv 1) (dv 0) "number") (denSeq (denSetF G (dv 2) (dv 0) "word") (denNx))
noncomputable def g_BadString (G : Glo) : List D → Store → Out D := fun ds M => finD (d_BadString G (startE 3 ds) M)
noncomputable def d_is_integer (G : Glo) : DenS := denSeq (denRet (denAndV (denIsi G (dv 0) (.ty "int")) (denNotV (denIsi G (dv 0) (.ty "bool"))))) (denNx)
noncomputable def g_is_integer (G : Glo) : List D → Store → Out D := fun ds M => finD (d_is_integer G (startE 1 ds) M)
noncomputable def d_is_whole (G : Glo) : DenS := denSeq (denRet (denAndV (denCall (denCons (dv 0) (denNil)) (arity 1 (g_is_integer G))) (den3 (dv 1) (dv 0) (dv 2) .LtE .LtE))) (denNx)
noncomputable def g_is_whole (G : Glo) : List D → Store → Out D := fun ds M => finD (d_is_whole G (startE 3 ds) M)
noncomputable def d_run_fault (G : Glo) : DenS := denSeq (denIfS (denNot (asB (denCall (denCons (dv 0) (denCons (dc (.int 2)) (denCons (dc (.int 2)) (denNil)))) (arity 3 (g_is_row G))))) (denSeq (denRet (dc (.str "run"))) (denNx)) (denNx)) (denSeq (denAsg (dv 0) (.tup [1, 2])) (denSeq (denIfS (denNot (asB (denCall (denCons (dv 1) (denCons (dc (.int 0)) (denCons (den2 (dc (.int 4)) (dc (.int 1)) (opD .Sub)) (denNil)))) (arity 3 (g_is_whole G))))) (denSeq (denRet (dc (.str "kind"))) (denNx)) (denNx)) (denSeq (denIfS (denNot (asB (denCall (denCons (dv 2) (denCons (dc (.int 1)) (denCons (dc (.int 1000000000000000000000000000000)) (denNil)))) (arity 3 (g_is_whole G))))) (denSeq (denRet (dc (.str "length"))) (denNx)) (denNx)) (denSeq (denRet (dc .non)) (denNx)))))
noncomputable def g_run_fault (G : Glo) : List D → Store → Out D := fun ds M => finD (d_run_fault G (startE 3 ds) M)
noncomputable def d_check_runs_1 (G : Glo) : DenS := denSeq (denAsg (denCall (denCons (dv 3) (denNil)) (arity 1 (g_run_fault G))) (.name 4)) (denSeq (denIfS (asB (den2 (dv 4) (dc .non) (cmpD .IsNot))) (denSeq (denRaise (denCons (dv 2) (denCons (dv 4) (denNil))) 3 "BadString" (g_BadString G)) (denNx)) (denNx)) (denSeq (denAsg (den2 (dv 3) (dc (.int 0)) ixD) (.name 5)) (denSeq (denIfS (asB (den2 (dv 5) (dv 1) (cmpD .Eq))) (denSeq (denRaise (denCons (dv 2) (denCons (dc (.str "same")) (denNil))) 3 "BadString" (g_BadString G)) (denNx)) (denNx)) (denSeq (denAsg (dv 5) (.name 1)) (denNx)))))
noncomputable def d_check_runs (G : Glo) : DenS := denSeq (denIfS (denNot (asB (denCall (denCons (dv 0) (denCons (dc (.int 1)) (denCons (dc (.int 6)) (denNil)))) (arity 3 (g_is_row G))))) (denSeq (denRaise (denCons (dc .non) (denCons (dc (.str "runs")) (denNil))) 3 "BadString" (g_BadString G)) (denNx)) (denNx)) (denSeq (denAsg (dc .non) (.name 1)) (denSeq (denFor (denEnumA (denCons (dv 0) (denNil))) (.tup [2, 3]) (d_check_runs_1 G)) (denNx)))
noncomputable def g_check_runs (G : Glo) : List D → Store → Out D := fun ds M => finD (d_check_runs G (startE 6 ds) M)
noncomputable def d_count_beads_1 (G : Glo) : DenS := denSeq (denAsg (den2 (dv 4) (dv 6) (opD .Add)) (.name 7)) (denSeq (denAugIx (fun i j => i + j) (dv 3) (dv 5) (denCall (denCons (dc (.int 0)) (denCons (den2 (denCall (denCons (dv 7) (denCons (dv 2) (denNil))) minD) (denCall (denCons (dv 4) (denCons (dv 1) (denNil))) maxD) (opD .Sub)) (denNil))) maxD)) (denSeq (denAsg (dv 7) (.name 4)) (denNx)))
noncomputable def d_count_beads (G : Glo) : DenS := denSeq (denAsg (den2 (denLst (denCons (dc (.int 0)) (denNil))) (dc (.int 4)) (opD .Mult)) (.name 3)) (denSeq (denAsg (dc (.int 0)) (.name 4)) (denSeq (denFor (denIt (dv 0)) (.tup [5, 6]) (d_count_beads_1 G)) (denSeq (denRet (denCall (denCons (dv 3) (denNil)) tupleD)) (denNx))))
noncomputable def g_count_beads (G : Glo) : List D → Store → Out D := fun ds M => finD (d_count_beads G (startE 8 ds) M)
noncomputable def d_String (G : Glo) : DenS := denSeq (denDrop (denCall (denCons (dv 1) (denNil)) (arity 1 (g_check_runs G)))) (denSeq (denAsg (denCall (denCons (denLc (denIt (dv 1)) (.name 4) (denYes) (den2 (dv 4) (dc (.int 1)) ixD) [4]) (denNil)) sumD) (.name 2)) (denSeq (denAsg (denCall (denCons (dv 1) (denCons (dc (.int 0)) (denCons (dv 2) (denNil)))) (arity 3 (g_count_beads G))) (.name 3)) (denSeq (denSetF G (dv 1) (dv 0) "own_runs") (denSeq (denSetF G (dv 2) (dv 0) "own_length") (denSeq (denSetF G (dv 3) (dv 0) "own_totals") (denSeq (denSetF G (denCall (denCons (denLc (denRange1 (denCons (dc (.int 4)) (denNil))) (.name 5) (asB (den2 (den2 (dv 3) (dv 5) ixD) (dc (.int 0)) (cmpD .Gt))) (dv 5) [5]) (denNil)) tupleD) (dv 0) "own_kinds") (denNx)))))))
noncomputable def g_String (G : Glo) : List D → Store → Out D := fun ds M => finD (d_String G (startE 6 ds) M)
noncomputable def d_String_runs (G : Glo) : DenS := denSeq (denRet (denAttr G (dv 0) "own_runs")) (denNx)
noncomputable def g_String_runs (G : Glo) : List D → Store → Out D := fun ds M => finD (d_String_runs G (startE 1 ds) M)
noncomputable def d__law_told_1 (G : Glo) (z : D) (call : Store → Out D) : DenS := denSeq (denAsg (denLst (denCons (dc (.str "ok")) (denCons (denProp (denAct z call) "String" (g_String_runs G)) (denNil)))) (.name 2)) (denNx)
noncomputable def d__law_told (G : Glo) (z : D) (call : Store → Out D) : DenS := denSeq (denTrys [(1, emD G "NoRun", fun c xf => denSeq (denAsg (denLst (denCons (dc (.str "no")) (denCons (denXfG G c xf "number") (denNil)))) (.name 2)) (denNx)), (1, emD G "BadString", fun c xf => denSeq (denAsg (denLst (denCons (dc (.str "bad")) (denCons (denXfG G c xf "number") (denCons (denXfG G c xf "word") (denNil))))) (.name 2)) (denNx))] (d__law_told_1 G z call)) (denSeq (denRet (dv 2)) (denNx))
noncomputable def g__law_told (G : Glo) : D → (Store → Out D) → Store → Out D := fun z call M => finD (d__law_told G z call (startE 3 [z]) M)
noncomputable def d_String_turned (G : Glo) : DenS := denSeq (denRet (denCall (denCons (denRevT (denAttr G (dv 0) "own_runs")) (denNil)) (mkIA 2 "String" (g_String G)))) (denNx)
noncomputable def g_String_turned (G : Glo) : List D → Store → Out D := fun ds M => finD (d_String_turned G (startE 1 ds) M)
noncomputable def d_join_runs (G : Glo) : DenS := denSeq (denAsg (den2 (dv 0) (denNeg (dc (.int 1))) ixD) (.tup [2, 3])) (denSeq (denAsg (den2 (dv 1) (dc (.int 0)) ixD) (.tup [4, 5])) (denSeq (denIfS (asB (den2 (dv 2) (dv 4) (cmpD .NotEq))) (denSeq (denRet (den2 (dv 0) (dv 1) (opD .Add))) (denNx)) (denNx)) (denSeq (denRet (den2 (den2 (denSl (dv 0) (denNoPart) (denPart (denNeg (dc (.int 1))))) (denTup (denCons (denTup (denCons (dv 2) (denCons (den2 (dv 3) (dv 5) (opD .Add)) (denNil)))) (denNil))) (opD .Add)) (denSl (dv 1) (denPart (dc (.int 1))) (denNoPart)) (opD .Add))) (denNx))))
noncomputable def g_join_runs (G : Glo) : List D → Store → Out D := fun ds M => finD (d_join_runs G (startE 6 ds) M)
noncomputable def d_String_joined (G : Glo) : DenS := denSeq (denRet (denCall (denCons (denCall (denCons (denAttr G (dv 0) "own_runs") (denCons (denAttr G (dv 1) "own_runs") (denNil))) (arity 2 (g_join_runs G))) (denNil)) (mkIA 2 "String" (g_String G)))) (denNx)
noncomputable def g_String_joined (G : Glo) : List D → Store → Out D := fun ds M => finD (d_String_joined G (startE 2 ds) M)
noncomputable def d__law_is_whole (G : Glo) : DenS := denSeq (denRet (denAndV (denIsi G (dv 0) (.ty "int")) (denAndV (denNotV (denIsi G (dv 0) (.ty "bool"))) (den3 (dv 1) (dv 0) (dv 2) .LtE .LtE)))) (denNx)
noncomputable def g__law_is_whole (G : Glo) : List D → Store → Out D := fun ds M => finD (d__law_is_whole G (startE 3 ds) M)
noncomputable def d__law_run_word (G : Glo) : DenS := denSeq (denIfS (denOr (denNot (asB (denIsi G (dv 0) (.ty "tuple")))) (asB (den2 (denCall (denCons (dv 0) (denNil)) lenD) (dc (.int 2)) (cmpD .NotEq)))) (denSeq (denRet (dc (.str "run"))) (denNx)) (denNx)) (denSeq (denIfS (denNot (asB (denCall (denCons (den2 (dv 0) (dc (.int 0)) ixD) (denCons (dc (.int 0)) (denCons (dc (.int 3)) (denNil)))) (arity 3 (g__law_is_whole G))))) (denSeq (denRet (dc (.str "kind"))) (denNx)) (denNx)) (denSeq (denIfS (denNot (asB (denCall (denCons (den2 (dv 0) (dc (.int 1)) ixD) (denCons (dc (.int 1)) (denCons (den2 (dc (.int 10)) (dc (.int 30)) (opD .Pow)) (denNil)))) (arity 3 (g__law_is_whole G))))) (denSeq (denRet (dc (.str "length"))) (denNx)) (denNx)) (denSeq (denRet (denIf (asB (den2 (den2 (dv 0) (dc (.int 0)) ixD) (dv 1) (cmpD .Eq))) (dc (.str "same")) (dc .non))) (denNx))))
noncomputable def g__law_run_word (G : Glo) : List D → Store → Out D := fun ds M => finD (d__law_run_word G (startE 2 ds) M)
noncomputable def d__law_runs_error_1 (G : Glo) : DenS := denSeq (denAsg (denCall (denCons (dv 3) (denCons (dv 1) (denNil))) (arity 2 (g__law_run_word G))) (.name 4)) (denSeq (denIfS (asB (den2 (dv 4) (dc .non) (cmpD .IsNot))) (denSeq (denRet (denTup (denCons (dv 2) (denCons (dv 4) (denNil))))) (denNx)) (denNx)) (denSeq (denAsg (den2 (dv 3) (dc (.int 0)) ixD) (.name 1)) (denNx)))
noncomputable def d__law_runs_error (G : Glo) : DenS := denSeq (denIfS (denOr (denNot (asB (denIsi G (dv 0) (.ty "tuple")))) (denNot (asB (den3 (dc (.int 1)) (denCall (denCons (dv 0) (denNil)) lenD) (dc (.int 6)) .LtE .LtE)))) (denSeq (denRet (denTup (denCons (dc .non) (denCons (dc (.str "runs")) (denNil))))) (denNx)) (denNx)) (denSeq (denAsg (dc .non) (.name 1)) (denSeq (denFor (denEnumA (denCons (dv 0) (denNil))) (.tup [2, 3]) (d__law_runs_error_1 G)) (denSeq (denRet (dc .non)) (denNx))))
noncomputable def g__law_runs_error (G : Glo) : List D → Store → Out D := fun ds M => finD (d__law_runs_error G (startE 5 ds) M)
noncomputable def d__law_made (G : Glo) : DenS := denSeq (denAsg (denCall (denCons (dv 0) (denNil)) (arity 1 (g__law_runs_error G))) (.name 1)) (denSeq (denRet (denIf (asB (den2 (dv 1) (dc .non) (cmpD .Is))) (denLst (denCons (dc (.str "ok")) (denCons (dv 0) (denNil)))) (denLst (denCons (dc (.str "bad")) (denCons (den2 (dv 1) (dc (.int 0)) ixD) (denCons (den2 (dv 1) (dc (.int 1)) ixD) (denNil))))))) (denNx))
noncomputable def g__law_made (G : Glo) : List D → Store → Out D := fun ds M => finD (d__law_made G (startE 2 ds) M)
noncomputable def d__law_both (G : Glo) : DenS := denSeq (denIfS (asB (den2 (den2 (den2 (dv 0) (denNeg (dc (.int 1))) ixD) (dc (.int 0)) ixD) (den2 (den2 (dv 1) (dc (.int 0)) ixD) (dc (.int 0)) ixD) (cmpD .NotEq))) (denSeq (denRet (denCall (denCons (den2 (dv 0) (dv 1) (opD .Add)) (denNil)) (arity 1 (g__law_made G)))) (denNx)) (denNx)) (denSeq (denRet (denCall (denCons (den2 (den2 (denSl (dv 0) (denNoPart) (denPart (denNeg (dc (.int 1))))) (denTup (denCons (denTup (denCons (den2 (den2 (dv 0) (denNeg (dc (.int 1))) ixD) (dc (.int 0)) ixD) (denCons (den2 (den2 (den2 (dv 0) (denNeg (dc (.int 1))) ixD) (dc (.int 1)) ixD) (den2 (den2 (dv 1) (dc (.int 0)) ixD) (dc (.int 1)) ixD) (opD .Add)) (denNil)))) (denNil))) (opD .Add)) (denSl (dv 1) (denPart (dc (.int 1))) (denNoPart)) (opD .Add)) (denNil)) (arity 1 (g__law_made G)))) (denNx))
noncomputable def g__law_both (G : Glo) : List D → Store → Out D := fun ds M => finD (d__law_both G (startE 2 ds) M)
noncomputable def d__law_odd (G : Glo) : DenS := denSeq (denAsg (denLst (denCons (dc .non) (denCons (dc (.bl true)) (denCons (dc (.bl false)) (denCons (denNeg (dc (.int 1))) (denCons (dc (.int 0)) (denCons (dc (.int 1)) (denCons (dc (.int 2)) (denCons (dc (.int 3)) (denCons (dc (.int 4)) (denCons (dc (.int 7)) (denCons (den2 (dc (.int 10)) (dc (.int 30)) (opD .Pow)) (denCons (den2 (dc (.int 10)) (dc (.int 59)) (opD .Pow)) (denCons (denNeg (den2 (dc (.int 10)) (dc (.int 40)) (opD .Pow))) (denCons (dc (.str "")) (denCons (dc (.str "0")) (denCons (dc (.str "a")) (denCons (denTup (denNil)) (denNil))))))))))))))))))) (.name 1)) (denSeq (denAsg (den2 (dv 1) (denLst (denCons (denTup (denCons (dc (.int 0)) (denNil))) (denCons (denTup (denCons (dc (.int 1)) (denCons (dc (.int 2)) (denNil)))) (denCons (denTup (denCons (denTup (denCons (dc (.int 0)) (denCons (dc (.int 4)) (denNil)))) (denNil))) (denCons (denLst (denNil)) (denCons (denLst (denCons (dc (.int 0)) (denCons (dc (.int 1)) (denNil)))) (denCons (denLst (denCons (denTup (denCons (dc (.int 0)) (denCons (dc (.int 4)) (denNil)))) (denNil))) (denCons (dd0) (denCons (denD1 (dc (.str "a")) (dc (.int 1))) (denCons (denTup (denCons (dc (.int 0)) (denCons (dc (.int 1)) (denCons (dc (.int 2)) (denNil))))) (denCons (denTup (denCons (denTup (denNil)) (denCons (denTup (denNil)) (denNil)))) (denNil)))))))))))) (opD .Add)) (.name 1)) (denSeq (denRet (denCall (denCons (dv 0) (denCons (den2 (dv 1) (denLst (denCons (denTup (denCons (dc .non) (denCons (dc .non) (denNil)))) (denCons (dc (.str "runs")) (denCons (denTup (denCons (dc (.str "cuts")) (denNil))) (denNil))))) (opD .Add)) (denNil))) (arity 2 (g__law_one G)))) (denNx)))
noncomputable def g__law_odd (G : Glo) : List D → Store → Out D := fun ds M => finD (d__law_odd G (startE 2 ds) M)
noncomputable def d__law_bent_run (G : Glo) : DenS := denSeq (denAsg (dv 1) (.tup [3, 4])) (denSeq (denAsg (denLst (denCons (denLst (denCons (dv 3) (denCons (dv 4) (denNil)))) (denCons (denTup (denCons (dv 3) (denNil))) (denCons (denTup (denCons (dv 3) (denCons (dv 4) (denCons (dc (.int 1)) (denNil))))) (denCons (denTup (denCons (dc (.int 4)) (denCons (dv 4) (denNil)))) (denCons (denTup (denCons (denNeg (dc (.int 1))) (denCons (dv 4) (denNil)))) (denNil))))))) (.name 2)) (denSeq (denAsg (den2 (dv 2) (denLst (denCons (denTup (denCons (dc (.bl true)) (denCons (dv 4) (denNil)))) (denCons (denTup (denCons (dc .non) (denCons (dv 4) (denNil)))) (denCons (denTup (denCons (dc (.str "a")) (denCons (dv 4) (denNil)))) (denCons (denTup (denCons (dv 3) (denCons (dc (.int 0)) (denNil)))) (denNil)))))) (opD .Add)) (.name 2)) (denSeq (denAsg (den2 (dv 2) (denLst (denCons (denTup (denCons (dv 3) (denCons (den2 (den2 (dc (.int 10)) (dc (.int 30)) (opD .Pow)) (dc (.int 1)) (opD .Add)) (denNil)))) (denCons (denTup (denCons (dv 3) (denCons (denNeg (dv 4)) (denNil)))) (denCons (denTup (denCons (dv 3) (denCons (dc (.bl true)) (denNil)))) (denNil))))) (opD .Add)) (.name 2)) (denSeq (denAsg (den2 (dv 2) (denLst (denCons (denTup (denCons (dv 3) (denCons (denCall (denCons (dv 4) (denNil)) strD) (denNil)))) (denCons (denTup (denCons (dv 3) (denCons (dc .non) (denNil)))) (denCons (denTup (denCons (dv 3) (denCons (dv 4) (denNil)))) (denNil))))) (opD .Add)) (.name 2)) (denSeq (denAsg (den2 (dv 2) (denLst (denCons (denTup (denCons (den2 (den2 (dv 3) (dc (.int 1)) (opD .Add)) (dc (.int 4)) (opD .Mod)) (denCons (dv 4) (denNil)))) (denCons (denTup (denCons (dv 4) (denCons (dv 3) (denNil)))) (denCons (denTup (denCons (dv 3) (denCons (denTup (denCons (dv 4) (denNil))) (denNil)))) (denNil))))) (opD .Add)) (.name 2)) (denSeq (denRet (denCall (denCons (dv 0) (denCons (den2 (dv 2) (denLst (denCons (denTup (denCons (dv 3) (denCons (den2 (dc (.int 1)) (denCall (denCons (dv 0) (denCons (dc (.int 9)) (denNil))) (arity 2 (g__law_take G))) (opD .Add)) (denNil)))) (denCons (denCall (denCons (dv 0) (denNil)) (arity 1 (g__law_odd G))) (denNil)))) (opD .Add)) (denNil))) (arity 2 (g__law_one G)))) (denNx)))))))
noncomputable def g__law_bent_run (G : Glo) : List D → Store → Out D := fun ds M => finD (d__law_bent_run G (startE 5 ds) M)
noncomputable def d_NoRun (G : Glo) : DenS := denSeq (denSetF G (dv 1) (dv 0) "number") (denNx)
noncomputable def g_NoRun (G : Glo) : List D → Store → Out D := fun ds M => finD (d_NoRun G (startE 2 ds) M)
noncomputable def d_String_with_run (G : Glo) : DenS := denSeq (denAsg (denAttr G (dv 0) "own_runs") (.name 3)) (denSeq (denIfS (denNot (asB (denCall (denCons (dv 1) (denCons (dc (.int 0)) (denCons (den2 (denCall (denCons (dv 3) (denNil)) lenD) (dc (.int 1)) (opD .Sub)) (denNil)))) (arity 3 (g_is_whole G))))) (denSeq (denRaise (denCons (dv 1) (denNil)) 2 "NoRun" (g_NoRun G)) (denNx)) (denNx)) (denSeq (denRet (denCall (denCons (den2 (den2 (denSl (dv 3) (denNoPart) (denPart (dv 1))) (denTup (denCons (dv 2) (denNil))) (opD .Add)) (denSl (dv 3) (denPart (den2 (dv 1) (dc (.int 1)) (opD .Add))) (denNoPart)) (opD .Add)) (denNil)) (mkIA 2 "String" (g_String G)))) (denNx)))
noncomputable def g_String_with_run (G : Glo) : List D → Store → Out D := fun ds M => finD (d_String_with_run G (startE 4 ds) M)
noncomputable def d__law_with (G : Glo) : DenS := denSeq (denIfS (denNot (asB (denCall (denCons (dv 1) (denCons (dc (.int 0)) (denCons (den2 (denCall (denCons (dv 0) (denNil)) lenD) (dc (.int 1)) (opD .Sub)) (denNil)))) (arity 3 (g__law_is_whole G))))) (denSeq (denRet (denLst (denCons (dc (.str "no")) (denCons (dv 1) (denNil))))) (denNx)) (denNx)) (denSeq (denRet (denCall (denCons (den2 (den2 (denSl (dv 0) (denNoPart) (denPart (dv 1))) (denTup (denCons (dv 2) (denNil))) (opD .Add)) (denSl (dv 0) (denPart (den2 (dv 1) (dc (.int 1)) (opD .Add))) (denNoPart)) (opD .Add)) (denNil)) (arity 1 (g__law_made G)))) (denNx))
noncomputable def g__law_with (G : Glo) : List D → Store → Out D := fun ds M => finD (d__law_with G (startE 3 ds) M)
noncomputable def d_law_1 (G : Glo) (P : Addr) : DenS := denSeq (denAsg (denCall (denCons (dv 1) (denCons (denLst (denCons (denCall (denCons (dv 1) (denCons (denCall (denCons (dv 7) (denNil)) lenD) (denNil))) (arity 2 (g__law_take G))) (denCons (denCall (denCons (dv 1) (denCons (denCall (denCons (dv 7) (denNil)) lenD) (denNil))) (arity 2 (g__law_take G))) (denCons (denCall (denCons (dv 1) (denNil)) (arity 1 (g__law_odd G))) (denCons (denCall (denCons (dv 7) (denNil)) lenD) (denNil)))))) (denNil))) (arity 2 (g__law_one G))) (.name 11)) (denSeq (denAsg (denTup (denCons (denCall (denCons (dv 1) (denCons (dc (.int 4)) (denNil))) (arity 2 (g__law_take G))) (denCons (denCall (denCons (dv 1) (denCons (dv 3) (denNil))) (arity 2 (g__law_length G))) (denNil)))) (.name 12)) (denSeq (denIfS (asB (den2 (denCall (denCons (dv 1) (denCons (dc (.int 3)) (denNil))) (arity 2 (g__law_take G))) (dc (.int 0)) (cmpD .Eq))) (denSeq (denAsg (denCall (denCons (dv 1) (denCons (dv 12) (denNil))) (arity 2 (g__law_bent_run G))) (.name 12)) (denNx)) (denNx)) (denSeq (denIfS (asB (den2 (denCall (denCons (denLam P lamQ (g__law_told G) (denMeth (dv 9) (denCons (dv 11) (denCons (dv 12) (denNil))) "String" "with_run" 3 (g_String_with_run G))) (denNil)) reprD) (denCall (denCons (denCall (denCons (dv 7) (denCons (dv 11) (denCons (dv 12) (denNil)))) (arity 3 (g__law_with G))) (denNil)) reprD) (cmpD .NotEq))) (denSeq (denRet (dc (.bl false))) (denNx)) (denNx)) (denNx))))
noncomputable def d_law_2 (G : Glo) (P : Addr) : DenS := denSeq (denAsg (denCall (denCons (dv 1) (denCons (denLst (denCons (dc (.int 0)) (denCons (dc (.int 0)) (denCons (dc (.int 5)) (denNil))))) (denNil))) (arity 2 (g__law_one G))) (.name 3)) (denSeq (denAsg (denTup (denCons (denCall (denCons (dv 1) (denCons (dc (.int 6)) (denCons (dv 3) (denNil)))) (arity 3 (g__law_runs G))) (denCons (denCall (denCons (dv 1) (denCons (denCall (denCons (dv 1) (denCons (denLst (denCons (dc (.int 2)) (denCons (dc (.int 6)) (denNil)))) (denNil))) (arity 2 (g__law_one G))) (denCons (dv 3) (denNil)))) (arity 3 (g__law_runs G))) (denNil)))) (.tup [7, 8])) (denSeq (denIfS (asB (den2 (denCall (denCons (dv 1) (denCons (dc (.int 3)) (denNil))) (arity 2 (g__law_take G))) (dc (.int 0)) (cmpD .Eq))) (denSeq (denAsg (den2 (denTup (denCons (denTup (denCons (den2 (den2 (dv 7) (denNeg (dc (.int 1))) ixD) (dc (.int 0)) ixD) (denCons (den2 (den2 (dv 8) (dc (.int 0)) ixD) (dc (.int 1)) ixD) (denNil)))) (denNil))) (denCall (denCons (denSl (denLc (denIt (denSl (dv 8) (denPart (dc (.int 1))) (denNoPart))) (.name 12) (asB (den2 (den2 (dv 12) (dc (.int 0)) ixD) (den2 (den2 (dv 7) (denNeg (dc (.int 1))) ixD) (dc (.int 0)) ixD) (cmpD .NotEq))) (dv 12) [12]) (denNoPart) (denPart (dc (.int 1)))) (denNil)) tupleD) (opD .Add)) (.name 8)) (denNx)) (denNx)) (denSeq (denAsg (denTup (denCons (denCall (denCons (dv 7) (denNil)) (mkIA 2 "String" (g_String G))) (denCons (denCall (denCons (dv 8) (denNil)) (mkIA 2 "String" (g_String G))) (denNil)))) (.tup [9, 10])) (denSeq (denAsg (denLst (denCons (denLam P lamQ (g__law_told G) (denMeth (dv 9) (denNil) "String" "turned" 1 (g_String_turned G))) (denNil))) (.name 4)) (denSeq (denDrop (denMt (dv 4) (denCons (denLam P lamQ (g__law_told G) (denMeth (dv 9) (denCons (dv 10) (denNil)) "String" "joined" 2 (g_String_joined G))) (denNil)) appD)) (denSeq (denDrop (denMt (dv 4) (denCons (denLam P lamQ (g__law_told G) (denMeth (dv 10) (denCons (dv 9) (denNil)) "String" "joined" 2 (g_String_joined G))) (denNil)) appD)) (denSeq (denDrop (denMt (dv 4) (denCons (denLam P lamQ (g__law_told G) (denMeth (denMeth (denMeth (dv 9) (denNil) "String" "turned" 1 (g_String_turned G)) (denNil) "String" "turned" 1 (g_String_turned G)) (denCons (dv 9) (denNil)) "String" "joined" 2 (g_String_joined G))) (denNil)) appD)) (denSeq (denAsg (denLst (denCons (denLst (denCons (dc (.str "ok")) (denCons (denRevT (dv 7)) (denNil)))) (denCons (denCall (denCons (dv 7) (denCons (dv 8) (denNil))) (arity 2 (g__law_both G))) (denCons (denCall (denCons (dv 8) (denCons (dv 7) (denNil))) (arity 2 (g__law_both G))) (denCons (denCall (denCons (dv 7) (denCons (dv 7) (denNil))) (arity 2 (g__law_both G))) (denNil)))))) (.name 5)) (denSeq (denIfS (asB (den2 (denCall (denCons (dv 4) (denNil)) reprD) (denCall (denCons (dv 5) (denNil)) reprD) (cmpD .NotEq))) (denSeq (denRet (dc (.bl false))) (denNx)) (denNx)) (denSeq (denFor (denRange1 (denCons (dc (.int 6)) (denNil))) (.name 6) (d_law_1 G P)) (denSeq (denIfS (asB (den2 (denCall (denCons (denLst (denCons (denProp (dv 9) "String" (g_String_runs G)) (denCons (denProp (dv 10) "String" (g_String_runs G)) (denNil)))) (denNil)) reprD) (denCall (denCons (denLst (denCons (dv 7) (denCons (dv 8) (denNil)))) (denNil)) reprD) (cmpD .NotEq))) (denSeq (denRet (dc (.bl false))) (denNx)) (denNx)) (denNx))))))))))))
noncomputable def d_law (G : Glo) (P : Addr) : DenS := denSeq (denAsg (denCall (denCons (dv 0) (denNil)) (arity 1 (g__law_deck G))) (.name 1)) (denSeq (denFor (denRange1 (denCons (dc (.int 6)) (denNil))) (.name 2) (d_law_2 G P)) (denSeq (denRet (dc (.bl true))) (denNx)))
noncomputable def g_law (G : Glo) (P : Addr) : List D → Store → Out D := fun ds M => finD (d_law G P (startE 13 ds) M)
def exs : List Str := ["ShareError", "BadString", "NoRun"]
def inss : List Str := ["String"]
def fls : List (Str × Str) := [("BadString", "number"), ("BadString", "word"), ("String", "own_runs"), ("String", "own_length"), ("String", "own_totals"), ("String", "own_kinds"), ("NoRun", "number")]
/-! ### 2. the facts of the module -/
theorem v_abs : bootBuiltins "abs" = some (.builtin "abs") := by decide +kernel
theorem v_bool : bootBuiltins "bool" = some (.type "bool") := by decide +kernel
theorem v_int : bootBuiltins "int" = some (.type "int") := by decide +kernel
theorem v_len : bootBuiltins "len" = some (.builtin "len") := by decide +kernel
theorem v_list : bootBuiltins "list" = some (.type "list") := by decide +kernel
theorem v_max : bootBuiltins "max" = some (.builtin "max") := by decide +kernel
theorem v_min : bootBuiltins "min" = some (.builtin "min") := by decide +kernel
theorem v_repr : bootBuiltins "repr" = some (.builtin "repr") := by decide +kernel
theorem v_str : bootBuiltins "str" = some (.type "str") := by decide +kernel
theorem v_sum : bootBuiltins "sum" = some (.builtin "sum") := by decide +kernel
theorem v_tuple : bootBuiltins "tuple" = some (.type "tuple") := by decide +kernel
structure Txt (K : PySem.W.Frag) (mg : Str → Option Value) : Prop where
  O : IsiOk K (clOf mg) (gloOf2 K mg exs inss fls)
  F : FldOk K (clOf mg) (gloOf2 K mg exs inss fls)
  E : ExmOk K (clOf mg) (gloOf2 K mg exs inss fls)
  q_BadString : ∃ D, mg "BadString" = some (.ref D) ∧ clOf mg "BadString" = some D
  q_NoRun : ∃ D, mg "NoRun" = some (.ref D) ∧ clOf mg "NoRun" = some D
  b_abs : mg "abs" = none
  b_bool : mg "bool" = none
  b_enumerate : mg "enumerate" = none
  b_int : mg "int" = none
  b_isinstance : mg "isinstance" = none
  b_len : mg "len" = none
  b_list : mg "list" = none
  b_max : mg "max" = none
  b_min : mg "min" = none
  b_range : mg "range" = none
  b_repr : mg "repr" = none
  b_str : mg "str" = none
  b_sum : mg "sum" = none
  b_tuple : mg "tuple" = none
  c_MAX_KINDS : ∃ t, mg "MAX_KINDS" = some (.int 4 t)
  c_MAX_LENGTH : ∃ t, mg "MAX_LENGTH" = some (.int 1000000000000000000000000000000 t)
  c_MAX_RUNS : ∃ t, mg "MAX_RUNS" = some (.int 6 t)
section
variable {P : Program} {w : World} {K : PySem.W.Frag} {mg : Str → Option Value} {base : Heap}
/-! ### 3. the defs -/
theorem sc__law_deck : FnScope ["_law_script", "_law_great", "_law_cell"] ["_law_script"] (defScope (top 19)) := ⟨rfl, rfl, rfl, by decide +kernel, rfl, by decide +kernel, by decide +kernel⟩
theorem ok__law_deck (T : Txt K mg)  {f : Addr} {fd : FuncData} (F : Fun K "_law_deck" "_law_deck" (top 19) f fd) : FnG P w K mg base (clOf mg) 1 f fd ["_law_script"] (g__law_deck (gloOf2 K mg exs inss fls)) :=
  fnG_of F sc__law_deck fun cdv A outer s H E hr hgd => by
    have hu := hr.units
    have hN := sc__law_deck.nd
    have tk : Takes (cxOf (L2.CX P w) P w K mg base ["_law_script", "_law_great", "_law_cell"] "_law_deck" (defScope (top 19)) f cdv A outer s H E) (fun c d _ h => E c d h) := takes_of rfl rfl rfl rfl
    have hp := passes_of (X := cxOf (L2.CX P w) P w K mg base ["_law_script", "_law_great", "_law_cell"] "_law_deck" (defScope (top 19)) f cdv A outer s H E) rfl
    exact rb_cons (sset 1 hN (xi)) (rb_cons (rs_for hp rfl (pi_seq (rd_sl (xv 0) (ro_none) (ro_some (xi)))) (pg_of rfl hN rfl (fun _ => .inl rfl)) (rb_cons (rs_if (tcmp .GtE hu (xbi (fun _ => c_abs) T.b_abs v_abs (xcons (xv 2) (ra_nil))) (xbin .Pow (xi) (xi))) (rb_cons (sset 1 hN (xbin .Add (xbin .Mult (xv 1) (xi)) (xbi (fun _ => c_abs) T.b_abs v_abs (xcons (xv 2) (ra_nil))))) (rb_nil)) (rb_nil)) (rb_nil)) (fun _ => rfl)) (rb_cons (rs_ret (xdN (xps_cons (xs) (xbin .Add (xty (fun _ => c_list) T.b_list v_list (xcons (rd_sl (xv 0) (ro_none) (ro_some (xi))) (ra_nil))) (xlst (xcons (xbin .Add (xbi (fun _ => c_len) T.b_len v_len (xcons (xv 0) (ra_nil))) (xi)) (ra_nil)))) (xps_cons (xs) (xi) (xps_cons (xs) (xv 1) (xps_nil)))))) (rb_nil)))
theorem sc__law_take : FnScope ["_law_deck_here", "_law_many", "_law_mixed_here", "_law_digit", "_law_turn", "_law_cells"] ["_law_deck_here", "_law_many"] (defScope (top 20)) := ⟨rfl, rfl, rfl, by decide +kernel, rfl, by decide +kernel, by decide +kernel⟩
theorem ok__law_take (T : Txt K mg)  {f : Addr} {fd : FuncData} (F : Fun K "_law_take" "_law_take" (top 20) f fd) : FnG P w K mg base (clOf mg) 1 f fd ["_law_deck_here", "_law_many"] (g__law_take (gloOf2 K mg exs inss fls)) :=
  fnG_of F sc__law_take fun cdv A outer s H E hr hgd => by
    have hu := hr.units
    have hN := sc__law_take.nd
    have tk : Takes (cxOf (L2.CX P w) P w K mg base ["_law_deck_here", "_law_many", "_law_mixed_here", "_law_digit", "_law_turn", "_law_cells"] "_law_take" (defScope (top 20)) f cdv A outer s H E) (fun c d _ h => E c d h) := takes_of rfl rfl rfl rfl
    have hp := passes_of (X := cxOf (L2.CX P w) P w K mg base ["_law_deck_here", "_law_many", "_law_mixed_here", "_law_digit", "_law_turn", "_law_cells"] "_law_take" (defScope (top 20)) f cdv A outer s H E) rfl
    exact rb_cons (ssetIx hu (xbin .Add (xix hu (xv 0) (xs)) (xi)) (xv 0) (xs)) (rb_cons (rs_if (tcmp .Gt hu (xix hu (xv 0) (xs)) (xi)) (rb_cons (sset 3 hN (xbin .Mod (xix hu (xv 0) (xs)) (xv 1))) (rb_cons (ssetIx hu (xbin .FloorDiv (xix hu (xv 0) (xs)) (xv 1)) (xv 0) (xs)) (rb_cons (rs_ret (xv 3)) (rb_nil)))) (rb_nil)) (rb_cons (rs_par (i := 4) (j := 5) rfl hN rfl rfl (by decide) rfl rfl (xcons (xix hu (xv 0) (xs)) (xcons (xix hu (xv 0) (xs)) (ra_nil))) rfl rfl) (rb_cons (sset 2 hN (xbin .Mod (xbin .Pow (xbin .Add (xbin .Add (xbin .Mod (xix hu (xv 5) (xbin .Mod (xv 4) (xbi (fun _ => c_len) T.b_len v_len (xcons (xv 5) (ra_nil))))) (xi)) (xbin .Mult (xi) (xv 4))) (xi)) (xi)) (xi))) (rb_cons (rs_ret (xbin .Mod (xbin .FloorDiv (xbin .Mod (xbin .Add (xbin .Mult (xv 2) (xi)) (xbin .Mult (xbin .Mult (xi) (xv 4)) (xv 4))) (xi)) (xi)) (xv 1))) (rb_nil)))))
theorem sc__law_one : FnScope ["_law_deck_here", "_law_items"] ["_law_deck_here", "_law_items"] (defScope (top 21)) := ⟨rfl, rfl, rfl, by decide +kernel, rfl, by decide +kernel, by decide +kernel⟩
theorem ok__law_one (T : Txt K mg) (B__law_take : FnB P w K mg base (clOf mg) 1 "_law_take" ["_law_deck_here", "_law_many"] (g__law_take (gloOf2 K mg exs inss fls))) {f : Addr} {fd : FuncData} (F : Fun K "_law_one" "_law_one" (top 21) f fd) : FnG P w K mg base (clOf mg) 2 f fd ["_law_deck_here", "_law_items"] (g__law_one (gloOf2 K mg exs inss fls)) :=
  fnG_of F sc__law_one fun cdv A outer s H E hr hgd => by
    have hu := hr.units
    have hN := sc__law_one.nd
    have tk : Takes (cxOf (L2.CX P w) P w K mg base ["_law_deck_here", "_law_items"] "_law_one" (defScope (top 21)) f cdv A outer s H E) (fun c d _ h => E c d h) := takes_of rfl rfl rfl rfl
    have hp := passes_of (X := cxOf (L2.CX P w) P w K mg base ["_law_deck_here", "_law_items"] "_law_one" (defScope (top 21)) f cdv A outer s H E) rfl
    exact rb_cons (rs_ret (xix hu (xv 1) (xcall B__law_take (hr.mono (by decide)) hgd tk (xcons (xv 0) (xcons (xbi (fun _ => c_len) T.b_len v_len (xcons (xv 1) (ra_nil))) (ra_nil)))))) (rb_nil)
theorem sc__law_mixed : FnScope ["_law_deck_here", "_law_many", "_law_found", "_law_rest"] ["_law_deck_here", "_law_many"] (defScope (top 22)) := ⟨rfl, rfl, rfl, by decide +kernel, rfl, by decide +kernel, by decide +kernel⟩
theorem ok__law_mixed (T : Txt K mg) (B__law_take : FnB P w K mg base (clOf mg) 1 "_law_take" ["_law_deck_here", "_law_many"] (g__law_take (gloOf2 K mg exs inss fls))) {f : Addr} {fd : FuncData} (F : Fun K "_law_mixed" "_law_mixed" (top 22) f fd) : FnG P w K mg base (clOf mg) 2 f fd ["_law_deck_here", "_law_many"] (g__law_mixed (gloOf2 K mg exs inss fls)) :=
  fnG_of F sc__law_mixed fun cdv A outer s H E hr hgd => by
    have hu := hr.units
    have hN := sc__law_mixed.nd
    have tk : Takes (cxOf (L2.CX P w) P w K mg base ["_law_deck_here", "_law_many", "_law_found", "_law_rest"] "_law_mixed" (defScope (top 22)) f cdv A outer s H E) (fun c d _ h => E c d h) := takes_of rfl rfl rfl rfl
    have hp := passes_of (X := cxOf (L2.CX P w) P w K mg base ["_law_deck_here", "_law_many", "_law_found", "_law_rest"] "_law_mixed" (defScope (top 22)) f cdv A outer s H E) rfl
    exact rb_cons (rs_par (i := 2) (j := 3) rfl hN rfl rfl (by decide) rfl rfl (xcons (xlst (ra_nil)) (xcons (rd_lrg rfl T.b_list T.b_range (xv 1)) (ra_nil))) rfl rfl) (rb_cons (rs_while hp (tcmp .NotEq hu (xv 3) (xlst (ra_nil))) (rb_cons (rs_expr (xapp (xv 2) (xcons (xpop (xv 3) (xcons (xcall B__law_take (hr.mono (by decide)) hgd tk (xcons (xv 0) (xcons (xbi (fun _ => c_len) T.b_len v_len (xcons (xv 3) (ra_nil))) (ra_nil)))) (ra_nil))) (ra_nil))) rfl) (rb_nil))) (rb_cons (rs_ret (xty (fun _ => c_tuple) T.b_tuple v_tuple (xcons (xv 2) (ra_nil)))) (rb_nil)))
theorem sc__law_length : FnScope ["_law_deck_here", "_law_most", "_law_some"] ["_law_deck_here", "_law_most"] (defScope (top 23)) := ⟨rfl, rfl, rfl, by decide +kernel, rfl, by decide +kernel, by decide +kernel⟩
theorem ok__law_length (T : Txt K mg) (B__law_one : FnB P w K mg base (clOf mg) 2 "_law_one" ["_law_deck_here", "_law_items"] (g__law_one (gloOf2 K mg exs inss fls))) (B__law_take : FnB P w K mg base (clOf mg) 1 "_law_take" ["_law_deck_here", "_law_many"] (g__law_take (gloOf2 K mg exs inss fls))) {f : Addr} {fd : FuncData} (F : Fun K "_law_length" "_law_length" (top 23) f fd) : FnG P w K mg base (clOf mg) 3 f fd ["_law_deck_here", "_law_most"] (g__law_length (gloOf2 K mg exs inss fls)) :=
  fnG_of F sc__law_length fun cdv A outer s H E hr hgd => by
    have hu := hr.units
    have hN := sc__law_length.nd
    have tk : Takes (cxOf (L2.CX P w) P w K mg base ["_law_deck_here", "_law_most", "_law_some"] "_law_length" (defScope (top 23)) f cdv A outer s H E) (fun c d _ h => E c d h) := takes_of rfl rfl rfl rfl
    have hp := passes_of (X := cxOf (L2.CX P w) P w K mg base ["_law_deck_here", "_law_most", "_law_some"] "_law_length" (defScope (top 23)) f cdv A outer s H E) rfl
    exact rb_cons (rs_if (tcmp .Gt hu (xv 1) (xi)) (rb_cons (rs_ret (xbin .Add (xi) (xcall B__law_take (hr.mono (by decide)) hgd tk (xcons (xv 0) (xcons (xv 1) (ra_nil)))))) (rb_nil)) (rb_nil)) (rb_cons (sset 2 hN (xlst (xcons (xi) (xcons (xi) (xcons (xbin .Pow (xi) (xi)) (xcons (xbin .Add (xi) (xcall B__law_take (hr.mono (by decide)) hgd tk (xcons (xv 0) (xcons (xi) (ra_nil))))) (xcons (xbin .Sub (xbin .Pow (xi) (xi)) (xcall B__law_take (hr.mono (by decide)) hgd tk (xcons (xv 0) (xcons (xi) (ra_nil))))) (ra_nil)))))))) (rb_cons (rs_ret (xcall B__law_one (hr.mono (by decide)) hgd tk (xcons (xv 0) (xcons (xbin .Add (xv 2) (xlst (xcons (xbin .Add (xi) (xcall B__law_take (hr.mono (by decide)) hgd tk (xcons (xv 0) (xcons (xbin .Pow (xi) (xi)) (ra_nil))))) (ra_nil)))) (ra_nil))))) (rb_nil)))
theorem sc__law_runs : FnScope ["_law_deck_here", "_law_many", "_law_most", "_law_turn", "_law_found", "_law_kinds", "_law_spot"] ["_law_deck_here", "_law_many", "_law_most"] (defScope (top 24)) := ⟨rfl, rfl, rfl, by decide +kernel, rfl, by decide +kernel, by decide +kernel⟩
theorem ok__law_runs (T : Txt K mg) (B__law_length : FnB P w K mg base (clOf mg) 3 "_law_length" ["_law_deck_here", "_law_most"] (g__law_length (gloOf2 K mg exs inss fls))) (B__law_mixed : FnB P w K mg base (clOf mg) 2 "_law_mixed" ["_law_deck_here", "_law_many"] (g__law_mixed (gloOf2 K mg exs inss fls))) (B__law_take : FnB P w K mg base (clOf mg) 1 "_law_take" ["_law_deck_here", "_law_many"] (g__law_take (gloOf2 K mg exs inss fls))) {f : Addr} {fd : FuncData} (F : Fun K "_law_runs" "_law_runs" (top 24) f fd) : FnG P w K mg base (clOf mg) 4 f fd ["_law_deck_here", "_law_many", "_law_most"] (g__law_runs (gloOf2 K mg exs inss fls)) :=
  fnG_of F sc__law_runs fun cdv A outer s H E hr hgd => by
    have hu := hr.units
    have hN := sc__law_runs.nd
    have tk : Takes (cxOf (L2.CX P w) P w K mg base ["_law_deck_here", "_law_many", "_law_most", "_law_turn", "_law_found", "_law_kinds", "_law_spot"] "_law_runs" (defScope (top 24)) f cdv A outer s H E) (fun c d _ h => E c d h) := takes_of rfl rfl rfl rfl
    have hp := passes_of (X := cxOf (L2.CX P w) P w K mg base ["_law_deck_here", "_law_many", "_law_most", "_law_turn", "_law_found", "_law_kinds", "_law_spot"] "_law_runs" (defScope (top 24)) f cdv A outer s H E) rfl
    exact rb_cons (rs_par (i := 4) (j := 5) rfl hN rfl rfl (by decide) rfl rfl (xcons (xtup (ra_nil)) (xcons (rd_sl (xcall B__law_mixed (hr.mono (by decide)) hgd tk (xcons (xv 0) (xcons (xi) (ra_nil)))) (ro_none) (ro_some (xbin .Add (xi) (xcall B__law_take (hr.mono (by decide)) hgd tk (xcons (xv 0) (xcons (xi) (ra_nil))))))) (ra_nil))) rfl rfl) (rb_cons (rs_for hp rfl (pi_rng1 (by rfl) T.b_range rfl (xcons (xbin .Add (xi) (xcall B__law_take (hr.mono (by decide)) hgd tk (xcons (xv 0) (xcons (xv 1) (ra_nil))))) (ra_nil))) (pg_of rfl hN rfl (fun _ => .inl rfl)) (rb_cons (sset 6 hN (xcall B__law_take (hr.mono (by decide)) hgd tk (xcons (xv 0) (xcons (xbi (fun _ => c_len) T.b_len v_len (xcons (xv 5) (ra_nil))) (ra_nil))))) (rb_cons (rs_if ((rw_and (tcmp .NotEq hu (xv 4) (xtup (ra_nil))) (pw_and1 (tcmp .Eq hu (xix hu (xix hu (xv 4) (rd_neg (xi))) (xi)) (xix hu (xv 5) (xv 6))))).pt) (rb_cons (sset 6 hN (xbin .Mod (xbin .Add (xv 6) (xi)) (xbi (fun _ => c_len) T.b_len v_len (xcons (xv 5) (ra_nil))))) (rb_nil)) (rb_nil)) (rb_cons (sset 4 hN (xbin .Add (xv 4) (xtup (xcons (xtup (xcons (xix hu (xv 5) (xv 6)) (xcons (xcall B__law_length (hr.mono (by decide)) hgd tk (xcons (xv 0) (xcons (xv 2) (ra_nil)))) (ra_nil)))) (ra_nil))))) (rb_nil)))) (fun _ => rfl)) (rb_cons (rs_ret (xv 4)) (rb_nil)))
theorem sc_is_row : FnScope ["value", "low", "high"] ["value", "low", "high"] (defScope (top 7)) := ⟨rfl, rfl, rfl, by decide +kernel, rfl, by decide +kernel, by decide +kernel⟩
theorem ok_is_row (T : Txt K mg)  {f : Addr} {fd : FuncData} (F : Fun K "is_row" "is_row" (top 7) f fd) : FnG P w K mg base (clOf mg) 1 f fd ["value", "low", "high"] (g_is_row (gloOf2 K mg exs inss fls)) :=
  fnG_of F sc_is_row fun cdv A outer s H E hr hgd => by
    have hu := hr.units
    have hN := sc_is_row.nd
    have tk : Takes (cxOf (L2.CX P w) P w K mg base ["value", "low", "high"] "is_row" (defScope (top 7)) f cdv A outer s H E) (fun c d _ h => E c d h) := takes_of rfl rfl rfl rfl
    have hp := passes_of (X := cxOf (L2.CX P w) P w K mg base ["value", "low", "high"] "is_row" (defScope (top 7)) f cdv A outer s H E) rfl
    exact rb_cons (rs_ret (rd_and (xisiT T.O T.b_tuple v_tuple T.b_isinstance (xv 0)) (pe_one (rd_chain .LtE .LtE hu (by rfl) (xv 1) (xbi (fun _ => c_len) T.b_len v_len (xcons (xv 0) (ra_nil))) (xv 2))))) (rb_nil)
theorem sc_BadString : FnScope ["self", "number", "word"] ["self", "number", "word"] (defScope (inClass (top 10) 0)) := ⟨rfl, rfl, rfl, by decide +kernel, rfl, by decide +kernel, by decide +kernel⟩
theorem ok_BadString (T : Txt K mg)  {f : Addr} {fd : FuncData} (F : Fun K "__init__" "BadString.__init__" (inClass (top 10) 0) f fd) : FnG P w K mg base (clOf mg) 1 f fd ["self", "number", "word"] (g_BadString (gloOf2 K mg exs inss fls)) :=
  fnG_of F sc_BadString fun cdv A outer s H E hr hgd => by
    have hu := hr.units
    have hN := sc_BadString.nd
    have tk : Takes (cxOf (L2.CX P w) P w K mg base ["self", "number", "word"] "BadString.__init__" (defScope (inClass (top 10) 0)) f cdv A outer s H E) (fun c d _ h => E c d h) := takes_of rfl rfl rfl rfl
    have hp := passes_of (X := cxOf (L2.CX P w) P w K mg base ["self", "number", "word"] "BadString.__init__" (defScope (inClass (top 10) 0)) f cdv A outer s H E) rfl
    exact rb_cons (ssetF T.O T.F (xv 1) (xv 0)) (rb_cons (ssetF T.O T.F (xv 2) (xv 0)) (rb_nil))
theorem sc_is_integer : FnScope ["value"] ["value"] (defScope (top 5)) := ⟨rfl, rfl, rfl, by decide +kernel, rfl, by decide +kernel, by decide +kernel⟩
theorem ok_is_integer (T : Txt K mg)  {f : Addr} {fd : FuncData} (F : Fun K "is_integer" "is_integer" (top 5) f fd) : FnG P w K mg base (clOf mg) 1 f fd ["value"] (g_is_integer (gloOf2 K mg exs inss fls)) :=
  fnG_of F sc_is_integer fun cdv A outer s H E hr hgd => by
    have hu := hr.units
    have hN := sc_is_integer.nd
    have tk : Takes (cxOf (L2.CX P w) P w K mg base ["value"] "is_integer" (defScope (top 5)) f cdv A outer s H E) (fun c d _ h => E c d h) := takes_of rfl rfl rfl rfl
    have hp := passes_of (X := cxOf (L2.CX P w) P w K mg base ["value"] "is_integer" (defScope (top 5)) f cdv A outer s H E) rfl
    exact rb_cons (rs_ret (rd_and (xisiT T.O T.b_int v_int T.b_isinstance (xv 0)) (pe_one (rd_not (xisiT T.O T.b_bool v_bool T.b_isinstance (xv 0)))))) (rb_nil)
theorem sc_is_whole : FnScope ["value", "low", "high"] ["value", "low", "high"] (defScope (top 6)) := ⟨rfl, rfl, rfl, by decide +kernel, rfl, by decide +kernel, by decide +kernel⟩
theorem ok_is_whole (T : Txt K mg) (B_is_integer : FnB P w K mg base (clOf mg) 1 "is_integer" ["value"] (g_is_integer (gloOf2 K mg exs inss fls))) {f : Addr} {fd : FuncData} (F : Fun K "is_whole" "is_whole" (top 6) f fd) : FnG P w K mg base (clOf mg) 2 f fd ["value", "low", "high"] (g_is_whole (gloOf2 K mg exs inss fls)) :=
  fnG_of F sc_is_whole fun cdv A outer s H E hr hgd => by
    have hu := hr.units
    have hN := sc_is_whole.nd
    have tk : Takes (cxOf (L2.CX P w) P w K mg base ["value", "low", "high"] "is_whole" (defScope (top 6)) f cdv A outer s H E) (fun c d _ h => E c d h) := takes_of rfl rfl rfl rfl
    have hp := passes_of (X := cxOf (L2.CX P w) P w K mg base ["value", "low", "high"] "is_whole" (defScope (top 6)) f cdv A outer s H E) rfl
    exact rb_cons (rs_ret (rd_and (xcall B_is_integer (hr.mono (by decide)) hgd tk (xcons (xv 0) (ra_nil))) (pe_one (rd_chain .LtE .LtE hu (by rfl) (xv 1) (xv 0) (xv 2))))) (rb_nil)
theorem sc_run_fault : FnScope ["run", "kind", "length"] ["run"] (defScope (top 13)) := ⟨rfl, rfl, rfl, by decide +kernel, rfl, by decide +kernel, by decide +kernel⟩
theorem ok_run_fault (T : Txt K mg) (B_is_row : FnB P w K mg base (clOf mg) 1 "is_row" ["value", "low", "high"] (g_is_row (gloOf2 K mg exs inss fls))) (B_is_whole : FnB P w K mg base (clOf mg) 2 "is_whole" ["value", "low", "high"] (g_is_whole (gloOf2 K mg exs inss fls))) {f : Addr} {fd : FuncData} (F : Fun K "run_fault" "run_fault" (top 13) f fd) : FnG P w K mg base (clOf mg) 3 f fd ["run"] (g_run_fault (gloOf2 K mg exs inss fls)) :=
  fnG_of F sc_run_fault fun cdv A outer s H E hr hgd => by
    have hu := hr.units
    have hN := sc_run_fault.nd
    have tk : Takes (cxOf (L2.CX P w) P w K mg base ["run", "kind", "length"] "run_fault" (defScope (top 13)) f cdv A outer s H E) (fun c d _ h => E c d h) := takes_of rfl rfl rfl rfl
    have hp := passes_of (X := cxOf (L2.CX P w) P w K mg base ["run", "kind", "length"] "run_fault" (defScope (top 13)) f cdv A outer s H E) rfl
    exact rb_cons (rs_if (rt_not (rt_val (xcall B_is_row (hr.mono (by decide)) hgd tk (xcons (xv 0) (xcons (xi) (xcons (xi) (ra_nil))))) (fun _ => rfl))) (rb_cons (rs_ret (xs)) (rb_nil)) (rb_nil)) (rb_cons (rs_asg (xv 0) (pg_of rfl hN rfl (fun _ => .inl rfl)) rfl rfl rfl) (rb_cons (rs_if (rt_not (rt_val (xcall B_is_whole (hr.mono (by decide)) hgd tk (xcons (xv 1) (xcons (xi) (xcons (xbin .Sub (xgI 4 T.c_MAX_KINDS) (xi)) (ra_nil))))) (fun _ => rfl))) (rb_cons (rs_ret (xs)) (rb_nil)) (rb_nil)) (rb_cons (rs_if (rt_not (rt_val (xcall B_is_whole (hr.mono (by decide)) hgd tk (xcons (xv 2) (xcons (xi) (xcons (xgI 1000000000000000000000000000000 T.c_MAX_LENGTH) (ra_nil))))) (fun _ => rfl))) (rb_cons (rs_ret (xs)) (rb_nil)) (rb_nil)) (rb_cons (rs_ret (xn)) (rb_nil)))))
theorem sc_check_runs : FnScope ["runs", "kind_ahead", "number", "run", "word", "kind"] ["runs"] (defScope (top 14)) := ⟨rfl, rfl, rfl, by decide +kernel, rfl, by decide +kernel, by decide +kernel⟩
theorem ok_check_runs (T : Txt K mg) (B_is_row : FnB P w K mg base (clOf mg) 1 "is_row" ["value", "low", "high"] (g_is_row (gloOf2 K mg exs inss fls))) (B_run_fault : FnB P w K mg base (clOf mg) 3 "run_fault" ["run"] (g_run_fault (gloOf2 K mg exs inss fls))) (B_BadString : XcB P w K mg base (clOf mg) 1 "BadString" ["self", "number", "word"] (g_BadString (gloOf2 K mg exs inss fls))) {f : Addr} {fd : FuncData} (F : Fun K "check_runs" "check_runs" (top 14) f fd) : FnG P w K mg base (clOf mg) 4 f fd ["runs"] (g_check_runs (gloOf2 K mg exs inss fls)) :=
  fnG_of F sc_check_runs fun cdv A outer s H E hr hgd => by
    have hu := hr.units
    have hN := sc_check_runs.nd
    have tk : Takes (cxOf (L2.CX P w) P w K mg base ["runs", "kind_ahead", "number", "run", "word", "kind"] "check_runs" (defScope (top 14)) f cdv A outer s H E) (fun c d _ h => E c d h) := takes_of rfl rfl rfl rfl
    have hp := passes_of (X := cxOf (L2.CX P w) P w K mg base ["runs", "kind_ahead", "number", "run", "word", "kind"] "check_runs" (defScope (top 14)) f cdv A outer s H E) rfl
    exact rb_cons (rs_if (rt_not (rt_val (xcall B_is_row (hr.mono (by decide)) hgd tk (xcons (xv 0) (xcons (xi) (xcons (xgI 6 T.c_MAX_RUNS) (ra_nil))))) (fun _ => rfl))) (rb_cons (xraise rfl B_BadString (hr.mono (by decide)) hgd tk (xcons (xn) (xcons (xs) (ra_nil)))) (rb_nil)) (rb_nil)) (rb_cons (sset 1 hN (xn)) (rb_cons (rs_for hp rfl (pi_enA (by rfl) T.b_enumerate rfl (xcons (xv 0) (ra_nil))) (pg_of rfl hN rfl (fun _ => .inl rfl)) (rb_cons (sset 4 hN (xcall B_run_fault (hr.mono (by decide)) hgd tk (xcons (xv 3) (ra_nil)))) (rb_cons (rs_if (tcmp .IsNot hu (xv 4) (xn)) (rb_cons (xraise rfl B_BadString (hr.mono (by decide)) hgd tk (xcons (xv 2) (xcons (xv 4) (ra_nil)))) (rb_nil)) (rb_nil)) (rb_cons (sset 5 hN (xix hu (xv 3) (xi))) (rb_cons (rs_if (tcmp .Eq hu (xv 5) (xv 1)) (rb_cons (xraise rfl B_BadString (hr.mono (by decide)) hgd tk (xcons (xv 2) (xcons (xs) (ra_nil)))) (rb_nil)) (rb_nil)) (rb_cons (sset 1 hN (xv 5)) (rb_nil)))))) (fun _ => rfl)) (rb_nil)))
theorem sc_count_beads : FnScope ["runs", "first", "last", "found", "begin", "kind", "length", "end"] ["runs", "first", "last"] (defScope (top 15)) := ⟨rfl, rfl, rfl, by decide +kernel, rfl, by decide +kernel, by decide +kernel⟩
theorem ok_count_beads (T : Txt K mg)  {f : Addr} {fd : FuncData} (F : Fun K "count_beads" "count_beads" (top 15) f fd) : FnG P w K mg base (clOf mg) 1 f fd ["runs", "first", "last"] (g_count_beads (gloOf2 K mg exs inss fls)) :=
  fnG_of F sc_count_beads fun cdv A outer s H E hr hgd => by
    have hu := hr.units
    have hN := sc_count_beads.nd
    have tk : Takes (cxOf (L2.CX P w) P w K mg base ["runs", "first", "last", "found", "begin", "kind", "length", "end"] "count_beads" (defScope (top 15)) f cdv A outer s H E) (fun c d _ h => E c d h) := takes_of rfl rfl rfl rfl
    have hp := passes_of (X := cxOf (L2.CX P w) P w K mg base ["runs", "first", "last", "found", "begin", "kind", "length", "end"] "count_beads" (defScope (top 15)) f cdv A outer s H E) rfl
    exact rb_cons (sset 3 hN (xbin .Mult (xlst (xcons (xi) (ra_nil))) (xgI 4 T.c_MAX_KINDS))) (rb_cons (sset 4 hN (xi)) (rb_cons (rs_for hp rfl (pi_seq (xv 0)) (pg_of rfl hN rfl (fun _ => .inl rfl)) (rb_cons (sset 7 hN (xbin .Add (xv 4) (xv 6))) (rb_cons (rs_augIx ip_add hu (xv 3) (xv 5) (xbi (fun _ => c_max rfl) T.b_max v_max (xcons (xi) (xcons (xbin .Sub (xbi (fun _ => c_min rfl) T.b_min v_min (xcons (xv 7) (xcons (xv 2) (ra_nil)))) (xbi (fun _ => c_max rfl) T.b_max v_max (xcons (xv 4) (xcons (xv 1) (ra_nil))))) (ra_nil))))) (rb_cons (sset 4 hN (xv 7)) (rb_nil)))) (fun _ => rfl)) (rb_cons (rs_ret (xty (fun _ => c_tuple) T.b_tuple v_tuple (xcons (xv 3) (ra_nil)))) (rb_nil))))
theorem sc_String : FnScope ["self", "runs", "length", "totals", "run", "kind"] ["self", "runs"] (defScope (inClass (top 17) 0)) := ⟨rfl, rfl, rfl, by decide +kernel, rfl, by decide +kernel, by decide +kernel⟩
theorem ok_String (T : Txt K mg) (B_check_runs : FnB P w K mg base (clOf mg) 4 "check_runs" ["runs"] (g_check_runs (gloOf2 K mg exs inss fls))) (B_count_beads : FnB P w K mg base (clOf mg) 1 "count_beads" ["runs", "first", "last"] (g_count_beads (gloOf2 K mg exs inss fls))) {f : Addr} {fd : FuncData} (F : Fun K "__init__" "String.__init__" (inClass (top 17) 0) f fd) : FnG P w K mg base (clOf mg) 5 f fd ["self", "runs"] (g_String (gloOf2 K mg exs inss fls)) :=
  fnG_of F sc_String fun cdv A outer s H E hr hgd => by
    have hu := hr.units
    have hN := sc_String.nd
    have tk : Takes (cxOf (L2.CX P w) P w K mg base ["self", "runs", "length", "totals", "run", "kind"] "String.__init__" (defScope (inClass (top 17) 0)) f cdv A outer s H E) (fun c d _ h => E c d h) := takes_of rfl rfl rfl rfl
    have hp := passes_of (X := cxOf (L2.CX P w) P w K mg base ["self", "runs", "length", "totals", "run", "kind"] "String.__init__" (defScope (inClass (top 17) 0)) f cdv A outer s H E) rfl
    exact rb_cons (rs_expr (xcall B_check_runs (hr.mono (by decide)) hgd tk (xcons (xv 1) (ra_nil))) rfl) (rb_cons (sset 2 hN (xbi (fun _ => c_sum rfl) T.b_sum v_sum (xcons (rd_lc rfl hN (pi_seq (xv 1)) (blkOk_by (own := [("run", 4)]) rfl) (fun _ _ _ _ _ => pg_nm hN rfl (by first | exact .inr rfl | exact .inl rfl)) (fun _ _ _ _ _ => rts_nil) (fun _ _ _ _ _ => xix hu (xv 4) (xi)) (fun _ => rfl) rfl) (ra_nil)))) (rb_cons (sset 3 hN (xcall B_count_beads (hr.mono (by decide)) hgd tk (xcons (xv 1) (xcons (xi) (xcons (xv 2) (ra_nil)))))) (rb_cons (ssetF T.O T.F (xv 1) (xv 0)) (rb_cons (ssetF T.O T.F (xv 2) (xv 0)) (rb_cons (ssetF T.O T.F (xv 3) (xv 0)) (rb_cons (ssetF T.O T.F (xty (fun _ => c_tuple) T.b_tuple v_tuple (xcons (rd_lc rfl hN (pi_rng1 (by rfl) T.b_range rfl (xcons (xgI 4 T.c_MAX_KINDS) (ra_nil))) (blkOk_by (own := [("kind", 5)]) rfl) (fun _ _ _ _ _ => pg_nm hN rfl (by first | exact .inr rfl | exact .inl rfl)) (fun _ _ _ _ _ => rts_one (tcmp .Gt hu (xix hu (xv 3) (xv 5)) (xi))) (fun _ _ _ _ _ => xv 5) (fun _ => rfl) rfl) (ra_nil))) (xv 0)) (rb_nil)))))))
theorem sc_String_runs : FnScope ["self"] ["self"] (defScope (inClass (top 17) 1)) := ⟨rfl, rfl, rfl, by decide +kernel, rfl, by decide +kernel, by decide +kernel⟩
theorem ok_String_runs (T : Txt K mg)  {f : Addr} {fd : FuncData} (F : Fun K "runs" "String.runs" (inClass (top 17) 1) f fd) : FnG P w K mg base (clOf mg) 1 f fd ["self"] (g_String_runs (gloOf2 K mg exs inss fls)) :=
  fnG_of F sc_String_runs fun cdv A outer s H E hr hgd => by
    have hu := hr.units
    have hN := sc_String_runs.nd
    have tk : Takes (cxOf (L2.CX P w) P w K mg base ["self"] "String.runs" (defScope (inClass (top 17) 1)) f cdv A outer s H E) (fun c d _ h => E c d h) := takes_of rfl rfl rfl rfl
    have hp := passes_of (X := cxOf (L2.CX P w) P w K mg base ["self"] "String.runs" (defScope (inClass (top 17) 1)) f cdv A outer s H E) rfl
    exact rb_cons (rs_ret (xattr T.O T.F (xv 0))) (rb_nil)
theorem sc__law_told : FnScope ["_law_call", "_law_error", "_law_found"] ["_law_call"] (defScope (top 30)) := ⟨rfl, rfl, rfl, by decide +kernel, rfl, by decide +kernel, by decide +kernel⟩
theorem ok__law_told (T : Txt K mg) (B_String_runs : PpB P w K mg base (clOf mg) 1 "String" "runs" ["self"] (g_String_runs (gloOf2 K mg exs inss fls))) {f : Addr} (z : D) (call : Store → Out D) (cdv : Value) (A : Around) (outer : List Env) (s : Shared) (H : Hp) (E : XK) (hr : Room 2 (A.deeper (envOfC "_law_told" (defScope (top 30)) s.heap.objs.size f cdv))) (hgd : A.guards = some [])
    (hact : ∀ (W : WX) (pn : List (Addr × Obj)) (xe : Value → Shared → Prop) (p1 p2 : Pos), Takes ((cxOf (L2.CX P w) P w K mg base ["_law_call", "_law_error", "_law_found"] "_law_told" (defScope (top 30)) f cdv A outer s H E).tr pn xe) W → RD ((cxOf (L2.CX P w) P w K mg base ["_law_call", "_law_error", "_law_found"] "_law_told" (defScope (top 30)) f cdv A outer s H E).tr pn xe) (clOf mg) W (.Call (.Name "_law_call" p1) [] [] p2) (denAct z call)) :
    PSs (cxOf (L2.CX P w) P w K mg base ["_law_call", "_law_error", "_law_found"] "_law_told" (defScope (top 30)) f cdv A outer s H E) (defBody (top 30)) (rdS (clOf mg) (fun c d _ h => E c d h) K (d__law_told (gloOf2 K mg exs inss fls) z call)) := by
    have hu := hr.units
    obtain ⟨D_BadString, m_BadString⟩ := T.q_BadString
    obtain ⟨D_NoRun, m_NoRun⟩ := T.q_NoRun
    have hN := sc__law_told.nd
    have tk : Takes (cxOf (L2.CX P w) P w K mg base ["_law_call", "_law_error", "_law_found"] "_law_told" (defScope (top 30)) f cdv A outer s H E) (fun c d _ h => E c d h) := takes_of rfl rfl rfl rfl
    have hp := passes_of (X := cxOf (L2.CX P w) P w K mg base ["_law_call", "_law_error", "_law_found"] "_law_told" (defScope (top 30)) f cdv A outer s H E) rfl
    exact rb_cons (rs_trys rfl rfl hN tk (fun _ _ _ tk hp => rb_cons (sset 2 hN (xlst (xcons (xs) (xcons (xprop B_String_runs rfl (hr.mono (by decide)) hgd (hact _ _ _ _ _ tk)) (ra_nil))))) (rb_nil)) (RC.cons (i := 1) (n := "_law_error") rfl rfl ⟨rfl, by decide, .inl (m_NoRun).1⟩ (emD_ok T.E (m_NoRun).2) (fun a oe d pn c C xf hz hf hem hC => jb_set (j := 2) hN (j_lst (j_cons (j_of (xs)) (j_cons (jattr T.O T.F (emD_true hem) hC hz hf (by rfl) (by first | exact Or.inl rfl | exact Or.inr (Or.inl rfl))) (j_nil)))) (jb_nil) (by decide) rfl (by first | exact .inl rfl | exact .inr rfl) (by first | exact .inl rfl | exact .inr rfl) rfl) (RC.cons (i := 1) (n := "_law_error") rfl rfl ⟨rfl, by decide, .inl (m_BadString).1⟩ (emD_ok T.E (m_BadString).2) (fun a oe d pn c C xf hz hf hem hC => jb_set (j := 2) hN (j_lst (j_cons (j_of (xs)) (j_cons (jattr T.O T.F (emD_true hem) hC hz hf (by rfl) (by first | exact Or.inl rfl | exact Or.inr (Or.inl rfl))) (j_cons (jattr T.O T.F (emD_true hem) hC hz hf (by rfl) (by first | exact Or.inl rfl | exact Or.inr (Or.inl rfl))) (j_nil))))) (jb_nil) (by decide) rfl (by first | exact .inl rfl | exact .inr rfl) (by first | exact .inl rfl | exact .inr rfl) rfl) (RC.nil)))) (rb_cons (rs_ret (xv 2)) (rb_nil))
theorem sc_String_turned : FnScope ["self"] ["self"] (defScope (inClass (top 17) 6)) := ⟨rfl, rfl, rfl, by decide +kernel, rfl, by decide +kernel, by decide +kernel⟩
theorem ok_String_turned (T : Txt K mg) (B_String : IcB P w K mg base (clOf mg) 5 "String" ["self", "runs"] (g_String (gloOf2 K mg exs inss fls))) {f : Addr} {fd : FuncData} (F : Fun K "turned" "String.turned" (inClass (top 17) 6) f fd) : FnG P w K mg base (clOf mg) 7 f fd ["self"] (g_String_turned (gloOf2 K mg exs inss fls)) :=
  fnG_of F sc_String_turned fun cdv A outer s H E hr hgd => by
    have hu := hr.units
    have hN := sc_String_turned.nd
    have tk : Takes (cxOf (L2.CX P w) P w K mg base ["self"] "String.turned" (defScope (inClass (top 17) 6)) f cdv A outer s H E) (fun c d _ h => E c d h) := takes_of rfl rfl rfl rfl
    have hp := passes_of (X := cxOf (L2.CX P w) P w K mg base ["self"] "String.turned" (defScope (inClass (top 17) 6)) f cdv A outer s H E) rfl
    exact rb_cons (rs_ret (xmkI B_String (hr.mono (by decide)) hgd tk (xcons (rd_revT (xattr T.O T.F (xv 0))) (ra_nil)))) (rb_nil)
theorem sc_join_runs : FnScope ["front", "behind", "kind", "length", "next_kind", "next_length"] ["front", "behind"] (defScope (top 16)) := ⟨rfl, rfl, rfl, by decide +kernel, rfl, by decide +kernel, by decide +kernel⟩
theorem ok_join_runs (T : Txt K mg)  {f : Addr} {fd : FuncData} (F : Fun K "join_runs" "join_runs" (top 16) f fd) : FnG P w K mg base (clOf mg) 1 f fd ["front", "behind"] (g_join_runs (gloOf2 K mg exs inss fls)) :=
  fnG_of F sc_join_runs fun cdv A outer s H E hr hgd => by
    have hu := hr.units
    have hN := sc_join_runs.nd
    have tk : Takes (cxOf (L2.CX P w) P w K mg base ["front", "behind", "kind", "length", "next_kind", "next_length"] "join_runs" (defScope (top 16)) f cdv A outer s H E) (fun c d _ h => E c d h) := takes_of rfl rfl rfl rfl
    have hp := passes_of (X := cxOf (L2.CX P w) P w K mg base ["front", "behind", "kind", "length", "next_kind", "next_length"] "join_runs" (defScope (top 16)) f cdv A outer s H E) rfl
    exact rb_cons (rs_asg (xix hu (xv 0) (rd_neg (xi))) (pg_of rfl hN rfl (fun _ => .inl rfl)) rfl rfl rfl) (rb_cons (rs_asg (xix hu (xv 1) (xi)) (pg_of rfl hN rfl (fun _ => .inl rfl)) rfl rfl rfl) (rb_cons (rs_if (tcmp .NotEq hu (xv 2) (xv 4)) (rb_cons (rs_ret (xbin .Add (xv 0) (xv 1))) (rb_nil)) (rb_nil)) (rb_cons (rs_ret (xbin .Add (xbin .Add (rd_sl (xv 0) (ro_none) (ro_some (rd_neg (xi)))) (xtup (xcons (xtup (xcons (xv 2) (xcons (xbin .Add (xv 3) (xv 5)) (ra_nil)))) (ra_nil)))) (rd_sl (xv 1) (ro_some (xi)) (ro_none)))) (rb_nil))))
theorem sc_String_joined : FnScope ["self", "other"] ["self", "other"] (defScope (inClass (top 17) 8)) := ⟨rfl, rfl, rfl, by decide +kernel, rfl, by decide +kernel, by decide +kernel⟩
theorem ok_String_joined (T : Txt K mg) (B_join_runs : FnB P w K mg base (clOf mg) 1 "join_runs" ["front", "behind"] (g_join_runs (gloOf2 K mg exs inss fls))) (B_String : IcB P w K mg base (clOf mg) 5 "String" ["self", "runs"] (g_String (gloOf2 K mg exs inss fls))) {f : Addr} {fd : FuncData} (F : Fun K "joined" "String.joined" (inClass (top 17) 8) f fd) : FnG P w K mg base (clOf mg) 7 f fd ["self", "other"] (g_String_joined (gloOf2 K mg exs inss fls)) :=
  fnG_of F sc_String_joined fun cdv A outer s H E hr hgd => by
    have hu := hr.units
    have hN := sc_String_joined.nd
    have tk : Takes (cxOf (L2.CX P w) P w K mg base ["self", "other"] "String.joined" (defScope (inClass (top 17) 8)) f cdv A outer s H E) (fun c d _ h => E c d h) := takes_of rfl rfl rfl rfl
    have hp := passes_of (X := cxOf (L2.CX P w) P w K mg base ["self", "other"] "String.joined" (defScope (inClass (top 17) 8)) f cdv A outer s H E) rfl
    exact rb_cons (rs_ret (xmkI B_String (hr.mono (by decide)) hgd tk (xcons (xcall B_join_runs (hr.mono (by decide)) hgd tk (xcons (xattr T.O T.F (xv 0)) (xcons (xattr T.O T.F (xv 1)) (ra_nil)))) (ra_nil)))) (rb_nil)
theorem sc__law_is_whole : FnScope ["_law_value", "_law_low", "_law_high"] ["_law_value", "_law_low", "_law_high"] (defScope (top 25)) := ⟨rfl, rfl, rfl, by decide +kernel, rfl, by decide +kernel, by decide +kernel⟩
theorem ok__law_is_whole (T : Txt K mg)  {f : Addr} {fd : FuncData} (F : Fun K "_law_is_whole" "_law_is_whole" (top 25) f fd) : FnG P w K mg base (clOf mg) 1 f fd ["_law_value", "_law_low", "_law_high"] (g__law_is_whole (gloOf2 K mg exs inss fls)) :=
  fnG_of F sc__law_is_whole fun cdv A outer s H E hr hgd => by
    have hu := hr.units
    have hN := sc__law_is_whole.nd
    have tk : Takes (cxOf (L2.CX P w) P w K mg base ["_law_value", "_law_low", "_law_high"] "_law_is_whole" (defScope (top 25)) f cdv A outer s H E) (fun c d _ h => E c d h) := takes_of rfl rfl rfl rfl
    have hp := passes_of (X := cxOf (L2.CX P w) P w K mg base ["_law_value", "_law_low", "_law_high"] "_law_is_whole" (defScope (top 25)) f cdv A outer s H E) rfl
    exact rb_cons (rs_ret (rd_and (xisiT T.O T.b_int v_int T.b_isinstance (xv 0)) (rd_and (rd_not (xisiT T.O T.b_bool v_bool T.b_isinstance (xv 0))) (pe_one (rd_chain .LtE .LtE hu (by rfl) (xv 1) (xv 0) (xv 2)))))) (rb_nil)
theorem sc__law_run_word : FnScope ["_law_run", "_law_ahead"] ["_law_run", "_law_ahead"] (defScope (top 27)) := ⟨rfl, rfl, rfl, by decide +kernel, rfl, by decide +kernel, by decide +kernel⟩
theorem ok__law_run_word (T : Txt K mg) (B__law_is_whole : FnB P w K mg base (clOf mg) 1 "_law_is_whole" ["_law_value", "_law_low", "_law_high"] (g__law_is_whole (gloOf2 K mg exs inss fls))) {f : Addr} {fd : FuncData} (F : Fun K "_law_run_word" "_law_run_word" (top 27) f fd) : FnG P w K mg base (clOf mg) 2 f fd ["_law_run", "_law_ahead"] (g__law_run_word (gloOf2 K mg exs inss fls)) :=
  fnG_of F sc__law_run_word fun cdv A outer s H E hr hgd => by
    have hu := hr.units
    have hN := sc__law_run_word.nd
    have tk : Takes (cxOf (L2.CX P w) P w K mg base ["_law_run", "_law_ahead"] "_law_run_word" (defScope (top 27)) f cdv A outer s H E) (fun c d _ h => E c d h) := takes_of rfl rfl rfl rfl
    have hp := passes_of (X := cxOf (L2.CX P w) P w K mg base ["_law_run", "_law_ahead"] "_law_run_word" (defScope (top 27)) f cdv A outer s H E) rfl
    exact rb_cons (rs_if ((rw_or (rt_not (rt_val (xisiT T.O T.b_tuple v_tuple T.b_isinstance (xv 0)) (fun _ => rfl))) (pw_or1 (tcmp .NotEq hu (xbi (fun _ => c_len) T.b_len v_len (xcons (xv 0) (ra_nil))) (xi)))).pt) (rb_cons (rs_ret (xs)) (rb_nil)) (rb_nil)) (rb_cons (rs_if (rt_not (rt_val (xcall B__law_is_whole (hr.mono (by decide)) hgd tk (xcons (xix hu (xv 0) (xi)) (xcons (xi) (xcons (xi) (ra_nil))))) (fun _ => rfl))) (rb_cons (rs_ret (xs)) (rb_nil)) (rb_nil)) (rb_cons (rs_if (rt_not (rt_val (xcall B__law_is_whole (hr.mono (by decide)) hgd tk (xcons (xix hu (xv 0) (xi)) (xcons (xi) (xcons (xbin .Pow (xi) (xi)) (ra_nil))))) (fun _ => rfl))) (rb_cons (rs_ret (xs)) (rb_nil)) (rb_nil)) (rb_cons (rs_ret (rd_ifx (tcmp .Eq hu (xix hu (xv 0) (xi)) (xv 1)) (xs) (xn))) (rb_nil))))
theorem sc__law_runs_error : FnScope ["_law_runs_here", "_law_ahead", "_law_number", "_law_run", "_law_word"] ["_law_runs_here"] (defScope (top 28)) := ⟨rfl, rfl, rfl, by decide +kernel, rfl, by decide +kernel, by decide +kernel⟩
theorem ok__law_runs_error (T : Txt K mg) (B__law_run_word : FnB P w K mg base (clOf mg) 2 "_law_run_word" ["_law_run", "_law_ahead"] (g__law_run_word (gloOf2 K mg exs inss fls))) {f : Addr} {fd : FuncData} (F : Fun K "_law_runs_error" "_law_runs_error" (top 28) f fd) : FnG P w K mg base (clOf mg) 3 f fd ["_law_runs_here"] (g__law_runs_error (gloOf2 K mg exs inss fls)) :=
  fnG_of F sc__law_runs_error fun cdv A outer s H E hr hgd => by
    have hu := hr.units
    have hN := sc__law_runs_error.nd
    have tk : Takes (cxOf (L2.CX P w) P w K mg base ["_law_runs_here", "_law_ahead", "_law_number", "_law_run", "_law_word"] "_law_runs_error" (defScope (top 28)) f cdv A outer s H E) (fun c d _ h => E c d h) := takes_of rfl rfl rfl rfl
    have hp := passes_of (X := cxOf (L2.CX P w) P w K mg base ["_law_runs_here", "_law_ahead", "_law_number", "_law_run", "_law_word"] "_law_runs_error" (defScope (top 28)) f cdv A outer s H E) rfl
    exact rb_cons (rs_if ((rw_or (rt_not (rt_val (xisiT T.O T.b_tuple v_tuple T.b_isinstance (xv 0)) (fun _ => rfl))) (pw_or1 (rt_not (rt_chain .LtE .LtE hu (by rfl) (xi) (xbi (fun _ => c_len) T.b_len v_len (xcons (xv 0) (ra_nil))) (xi))))).pt) (rb_cons (rs_ret (xtup (xcons (xn) (xcons (xs) (ra_nil))))) (rb_nil)) (rb_nil)) (rb_cons (sset 1 hN (xn)) (rb_cons (rs_for hp rfl (pi_enA (by rfl) T.b_enumerate rfl (xcons (xv 0) (ra_nil))) (pg_of rfl hN rfl (fun _ => .inl rfl)) (rb_cons (sset 4 hN (xcall B__law_run_word (hr.mono (by decide)) hgd tk (xcons (xv 3) (xcons (xv 1) (ra_nil))))) (rb_cons (rs_if (tcmp .IsNot hu (xv 4) (xn)) (rb_cons (rs_ret (xtup (xcons (xv 2) (xcons (xv 4) (ra_nil))))) (rb_nil)) (rb_nil)) (rb_cons (sset 1 hN (xix hu (xv 3) (xi))) (rb_nil)))) (fun _ => rfl)) (rb_cons (rs_ret (xn)) (rb_nil))))
theorem sc__law_made : FnScope ["_law_runs_here", "_law_error"] ["_law_runs_here"] (defScope (top 31)) := ⟨rfl, rfl, rfl, by decide +kernel, rfl, by decide +kernel, by decide +kernel⟩
theorem ok__law_made (T : Txt K mg) (B__law_runs_error : FnB P w K mg base (clOf mg) 3 "_law_runs_error" ["_law_runs_here"] (g__law_runs_error (gloOf2 K mg exs inss fls))) {f : Addr} {fd : FuncData} (F : Fun K "_law_made" "_law_made" (top 31) f fd) : FnG P w K mg base (clOf mg) 4 f fd ["_law_runs_here"] (g__law_made (gloOf2 K mg exs inss fls)) :=
  fnG_of F sc__law_made fun cdv A outer s H E hr hgd => by
    have hu := hr.units
    have hN := sc__law_made.nd
    have tk : Takes (cxOf (L2.CX P w) P w K mg base ["_law_runs_here", "_law_error"] "_law_made" (defScope (top 31)) f cdv A outer s H E) (fun c d _ h => E c d h) := takes_of rfl rfl rfl rfl
    have hp := passes_of (X := cxOf (L2.CX P w) P w K mg base ["_law_runs_here", "_law_error"] "_law_made" (defScope (top 31)) f cdv A outer s H E) rfl
    exact rb_cons (sset 1 hN (xcall B__law_runs_error (hr.mono (by decide)) hgd tk (xcons (xv 0) (ra_nil)))) (rb_cons (rs_ret (rd_ifx (tcmp .Is hu (xv 1) (xn)) (xlst (xcons (xs) (xcons (xv 0) (ra_nil)))) (xlst (xcons (xs) (xcons (xix hu (xv 1) (xi)) (xcons (xix hu (xv 1) (xi)) (ra_nil))))))) (rb_nil))
theorem sc__law_both : FnScope ["_law_runs_here", "_law_others"] ["_law_runs_here", "_law_others"] (defScope (top 33)) := ⟨rfl, rfl, rfl, by decide +kernel, rfl, by decide +kernel, by decide +kernel⟩
theorem ok__law_both (T : Txt K mg) (B__law_made : FnB P w K mg base (clOf mg) 4 "_law_made" ["_law_runs_here"] (g__law_made (gloOf2 K mg exs inss fls))) {f : Addr} {fd : FuncData} (F : Fun K "_law_both" "_law_both" (top 33) f fd) : FnG P w K mg base (clOf mg) 5 f fd ["_law_runs_here", "_law_others"] (g__law_both (gloOf2 K mg exs inss fls)) :=
  fnG_of F sc__law_both fun cdv A outer s H E hr hgd => by
    have hu := hr.units
    have hN := sc__law_both.nd
    have tk : Takes (cxOf (L2.CX P w) P w K mg base ["_law_runs_here", "_law_others"] "_law_both" (defScope (top 33)) f cdv A outer s H E) (fun c d _ h => E c d h) := takes_of rfl rfl rfl rfl
    have hp := passes_of (X := cxOf (L2.CX P w) P w K mg base ["_law_runs_here", "_law_others"] "_law_both" (defScope (top 33)) f cdv A outer s H E) rfl
    exact rb_cons (rs_if (tcmp .NotEq hu (xix hu (xix hu (xv 0) (rd_neg (xi))) (xi)) (xix hu (xix hu (xv 1) (xi)) (xi))) (rb_cons (rs_ret (xcall B__law_made (hr.mono (by decide)) hgd tk (xcons (xbin .Add (xv 0) (xv 1)) (ra_nil)))) (rb_nil)) (rb_nil)) (rb_cons (rs_ret (xcall B__law_made (hr.mono (by decide)) hgd tk (xcons (xbin .Add (xbin .Add (rd_sl (xv 0) (ro_none) (ro_some (rd_neg (xi)))) (xtup (xcons (xtup (xcons (xix hu (xix hu (xv 0) (rd_neg (xi))) (xi)) (xcons (xbin .Add (xix hu (xix hu (xv 0) (rd_neg (xi))) (xi)) (xix hu (xix hu (xv 1) (xi)) (xi))) (ra_nil)))) (ra_nil)))) (rd_sl (xv 1) (ro_some (xi)) (ro_none))) (ra_nil)))) (rb_nil))
theorem sc__law_odd : FnScope ["_law_deck_here", "_law_some"] ["_law_deck_here"] (defScope (top 26)) := ⟨rfl, rfl, rfl, by decide +kernel, rfl, by decide +kernel, by decide +kernel⟩
theorem ok__law_odd (T : Txt K mg) (B__law_one : FnB P w K mg base (clOf mg) 2 "_law_one" ["_law_deck_here", "_law_items"] (g__law_one (gloOf2 K mg exs inss fls))) {f : Addr} {fd : FuncData} (F : Fun K "_law_odd" "_law_odd" (top 26) f fd) : FnG P w K mg base (clOf mg) 3 f fd ["_law_deck_here"] (g__law_odd (gloOf2 K mg exs inss fls)) :=
  fnG_of F sc__law_odd fun cdv A outer s H E hr hgd => by
    have hu := hr.units
    have hN := sc__law_odd.nd
    have tk : Takes (cxOf (L2.CX P w) P w K mg base ["_law_deck_here", "_law_some"] "_law_odd" (defScope (top 26)) f cdv A outer s H E) (fun c d _ h => E c d h) := takes_of rfl rfl rfl rfl
    have hp := passes_of (X := cxOf (L2.CX P w) P w K mg base ["_law_deck_here", "_law_some"] "_law_odd" (defScope (top 26)) f cdv A outer s H E) rfl
    exact rb_cons (sset 1 hN (xlst (xcons (xn) (xcons (xb) (xcons (xb) (xcons (rd_neg (xi)) (xcons (xi) (xcons (xi) (xcons (xi) (xcons (xi) (xcons (xi) (xcons (xi) (xcons (xbin .Pow (xi) (xi)) (xcons (xbin .Pow (xi) (xi)) (xcons (rd_neg (xbin .Pow (xi) (xi))) (xcons (xs) (xcons (xs) (xcons (xs) (xcons (xtup (ra_nil)) (ra_nil)))))))))))))))))))) (rb_cons (sset 1 hN (xbin .Add (xv 1) (xlst (xcons (xtup (xcons (xi) (ra_nil))) (xcons (xtup (xcons (xi) (xcons (xi) (ra_nil)))) (xcons (xtup (xcons (xtup (xcons (xi) (xcons (xi) (ra_nil)))) (ra_nil))) (xcons (xlst (ra_nil)) (xcons (xlst (xcons (xi) (xcons (xi) (ra_nil)))) (xcons (xlst (xcons (xtup (xcons (xi) (xcons (xi) (ra_nil)))) (ra_nil))) (xcons (xd0) (xcons (xd1 (xs) (xi)) (xcons (xtup (xcons (xi) (xcons (xi) (xcons (xi) (ra_nil))))) (xcons (xtup (xcons (xtup (ra_nil)) (xcons (xtup (ra_nil)) (ra_nil)))) (ra_nil)))))))))))))) (rb_cons (rs_ret (xcall B__law_one (hr.mono (by decide)) hgd tk (xcons (xv 0) (xcons (xbin .Add (xv 1) (xlst (xcons (xtup (xcons (xn) (xcons (xn) (ra_nil)))) (xcons (xs) (xcons (xtup (xcons (xs) (ra_nil))) (ra_nil)))))) (ra_nil))))) (rb_nil)))
theorem sc__law_bent_run : FnScope ["_law_deck_here", "_law_run", "_law_some", "_law_kind", "_law_size"] ["_law_deck_here", "_law_run"] (defScope (top 29)) := ⟨rfl, rfl, rfl, by decide +kernel, rfl, by decide +kernel, by decide +kernel⟩
theorem ok__law_bent_run (T : Txt K mg) (B__law_odd : FnB P w K mg base (clOf mg) 3 "_law_odd" ["_law_deck_here"] (g__law_odd (gloOf2 K mg exs inss fls))) (B__law_one : FnB P w K mg base (clOf mg) 2 "_law_one" ["_law_deck_here", "_law_items"] (g__law_one (gloOf2 K mg exs inss fls))) (B__law_take : FnB P w K mg base (clOf mg) 1 "_law_take" ["_law_deck_here", "_law_many"] (g__law_take (gloOf2 K mg exs inss fls))) {f : Addr} {fd : FuncData} (F : Fun K "_law_bent_run" "_law_bent_run" (top 29) f fd) : FnG P w K mg base (clOf mg) 4 f fd ["_law_deck_here", "_law_run"] (g__law_bent_run (gloOf2 K mg exs inss fls)) :=
  fnG_of F sc__law_bent_run fun cdv A outer s H E hr hgd => by
    have hu := hr.units
    have hN := sc__law_bent_run.nd
    have tk : Takes (cxOf (L2.CX P w) P w K mg base ["_law_deck_here", "_law_run", "_law_some", "_law_kind", "_law_size"] "_law_bent_run" (defScope (top 29)) f cdv A outer s H E) (fun c d _ h => E c d h) := takes_of rfl rfl rfl rfl
    have hp := passes_of (X := cxOf (L2.CX P w) P w K mg base ["_law_deck_here", "_law_run", "_law_some", "_law_kind", "_law_size"] "_law_bent_run" (defScope (top 29)) f cdv A outer s H E) rfl
    exact rb_cons (rs_asg (xv 1) (pg_of rfl hN rfl (fun _ => .inl rfl)) rfl rfl rfl) (rb_cons (sset 2 hN (xlst (xcons (xlst (xcons (xv 3) (xcons (xv 4) (ra_nil)))) (xcons (xtup (xcons (xv 3) (ra_nil))) (xcons (xtup (xcons (xv 3) (xcons (xv 4) (xcons (xi) (ra_nil))))) (xcons (xtup (xcons (xi) (xcons (xv 4) (ra_nil)))) (xcons (xtup (xcons (rd_neg (xi)) (xcons (xv 4) (ra_nil)))) (ra_nil)))))))) (rb_cons (sset 2 hN (xbin .Add (xv 2) (xlst (xcons (xtup (xcons (xb) (xcons (xv 4) (ra_nil)))) (xcons (xtup (xcons (xn) (xcons (xv 4) (ra_nil)))) (xcons (xtup (xcons (xs) (xcons (xv 4) (ra_nil)))) (xcons (xtup (xcons (xv 3) (xcons (xi) (ra_nil)))) (ra_nil)))))))) (rb_cons (sset 2 hN (xbin .Add (xv 2) (xlst (xcons (xtup (xcons (xv 3) (xcons (xbin .Add (xbin .Pow (xi) (xi)) (xi)) (ra_nil)))) (xcons (xtup (xcons (xv 3) (xcons (rd_neg (xv 4)) (ra_nil)))) (xcons (xtup (xcons (xv 3) (xcons (xb) (ra_nil)))) (ra_nil))))))) (rb_cons (sset 2 hN (xbin .Add (xv 2) (xlst (xcons (xtup (xcons (xv 3) (xcons (xty (fun _ => c_str) T.b_str v_str (xcons (xv 4) (ra_nil))) (ra_nil)))) (xcons (xtup (xcons (xv 3) (xcons (xn) (ra_nil)))) (xcons (xtup (xcons (xv 3) (xcons (xv 4) (ra_nil)))) (ra_nil))))))) (rb_cons (sset 2 hN (xbin .Add (xv 2) (xlst (xcons (xtup (xcons (xbin .Mod (xbin .Add (xv 3) (xi)) (xi)) (xcons (xv 4) (ra_nil)))) (xcons (xtup (xcons (xv 4) (xcons (xv 3) (ra_nil)))) (xcons (xtup (xcons (xv 3) (xcons (xtup (xcons (xv 4) (ra_nil))) (ra_nil)))) (ra_nil))))))) (rb_cons (rs_ret (xcall B__law_one (hr.mono (by decide)) hgd tk (xcons (xv 0) (xcons (xbin .Add (xv 2) (xlst (xcons (xtup (xcons (xv 3) (xcons (xbin .Add (xi) (xcall B__law_take (hr.mono (by decide)) hgd tk (xcons (xv 0) (xcons (xi) (ra_nil))))) (ra_nil)))) (xcons (xcall B__law_odd (hr.mono (by decide)) hgd tk (xcons (xv 0) (ra_nil))) (ra_nil))))) (ra_nil))))) (rb_nil)))))))
theorem sc_NoRun : FnScope ["self", "number"] ["self", "number"] (defScope (inClass (top 11) 0)) := ⟨rfl, rfl, rfl, by decide +kernel, rfl, by decide +kernel, by decide +kernel⟩
theorem ok_NoRun (T : Txt K mg)  {f : Addr} {fd : FuncData} (F : Fun K "__init__" "NoRun.__init__" (inClass (top 11) 0) f fd) : FnG P w K mg base (clOf mg) 1 f fd ["self", "number"] (g_NoRun (gloOf2 K mg exs inss fls)) :=
  fnG_of F sc_NoRun fun cdv A outer s H E hr hgd => by
    have hu := hr.units
    have hN := sc_NoRun.nd
    have tk : Takes (cxOf (L2.CX P w) P w K mg base ["self", "number"] "NoRun.__init__" (defScope (inClass (top 11) 0)) f cdv A outer s H E) (fun c d _ h => E c d h) := takes_of rfl rfl rfl rfl
    have hp := passes_of (X := cxOf (L2.CX P w) P w K mg base ["self", "number"] "NoRun.__init__" (defScope (inClass (top 11) 0)) f cdv A outer s H E) rfl
    exact rb_cons (ssetF T.O T.F (xv 1) (xv 0)) (rb_nil)
theorem sc_String_with_run : FnScope ["self", "number", "run", "runs"] ["self", "number", "run"] (defScope (inClass (top 17) 7)) := ⟨rfl, rfl, rfl, by decide +kernel, rfl, by decide +kernel, by decide +kernel⟩
theorem ok_String_with_run (T : Txt K mg) (B_is_whole : FnB P w K mg base (clOf mg) 2 "is_whole" ["value", "low", "high"] (g_is_whole (gloOf2 K mg exs inss fls))) (B_NoRun : XcB P w K mg base (clOf mg) 1 "NoRun" ["self", "number"] (g_NoRun (gloOf2 K mg exs inss fls))) (B_String : IcB P w K mg base (clOf mg) 5 "String" ["self", "runs"] (g_String (gloOf2 K mg exs inss fls))) {f : Addr} {fd : FuncData} (F : Fun K "with_run" "String.with_run" (inClass (top 17) 7) f fd) : FnG P w K mg base (clOf mg) 7 f fd ["self", "number", "run"] (g_String_with_run (gloOf2 K mg exs inss fls)) :=
  fnG_of F sc_String_with_run fun cdv A outer s H E hr hgd => by
    have hu := hr.units
    have hN := sc_String_with_run.nd
    have tk : Takes (cxOf (L2.CX P w) P w K mg base ["self", "number", "run", "runs"] "String.with_run" (defScope (inClass (top 17) 7)) f cdv A outer s H E) (fun c d _ h => E c d h) := takes_of rfl rfl rfl rfl
    have hp := passes_of (X := cxOf (L2.CX P w) P w K mg base ["self", "number", "run", "runs"] "String.with_run" (defScope (inClass (top 17) 7)) f cdv A outer s H E) rfl
    exact rb_cons (sset 3 hN (xattr T.O T.F (xv 0))) (rb_cons (rs_if (rt_not (rt_val (xcall B_is_whole (hr.mono (by decide)) hgd tk (xcons (xv 1) (xcons (xi) (xcons (xbin .Sub (xbi (fun _ => c_len) T.b_len v_len (xcons (xv 3) (ra_nil))) (xi)) (ra_nil))))) (fun _ => rfl))) (rb_cons (xraise rfl B_NoRun (hr.mono (by decide)) hgd tk (xcons (xv 1) (ra_nil))) (rb_nil)) (rb_nil)) (rb_cons (rs_ret (xmkI B_String (hr.mono (by decide)) hgd tk (xcons (xbin .Add (xbin .Add (rd_sl (xv 3) (ro_none) (ro_some (xv 1))) (xtup (xcons (xv 2) (ra_nil)))) (rd_sl (xv 3) (ro_some (xbin .Add (xv 1) (xi))) (ro_none))) (ra_nil)))) (rb_nil)))
theorem sc__law_with : FnScope ["_law_runs_here", "_law_number", "_law_run"] ["_law_runs_here", "_law_number", "_law_run"] (defScope (top 32)) := ⟨rfl, rfl, rfl, by decide +kernel, rfl, by decide +kernel, by decide +kernel⟩
theorem ok__law_with (T : Txt K mg) (B__law_is_whole : FnB P w K mg base (clOf mg) 1 "_law_is_whole" ["_law_value", "_law_low", "_law_high"] (g__law_is_whole (gloOf2 K mg exs inss fls))) (B__law_made : FnB P w K mg base (clOf mg) 4 "_law_made" ["_law_runs_here"] (g__law_made (gloOf2 K mg exs inss fls))) {f : Addr} {fd : FuncData} (F : Fun K "_law_with" "_law_with" (top 32) f fd) : FnG P w K mg base (clOf mg) 5 f fd ["_law_runs_here", "_law_number", "_law_run"] (g__law_with (gloOf2 K mg exs inss fls)) :=
  fnG_of F sc__law_with fun cdv A outer s H E hr hgd => by
    have hu := hr.units
    have hN := sc__law_with.nd
    have tk : Takes (cxOf (L2.CX P w) P w K mg base ["_law_runs_here", "_law_number", "_law_run"] "_law_with" (defScope (top 32)) f cdv A outer s H E) (fun c d _ h => E c d h) := takes_of rfl rfl rfl rfl
    have hp := passes_of (X := cxOf (L2.CX P w) P w K mg base ["_law_runs_here", "_law_number", "_law_run"] "_law_with" (defScope (top 32)) f cdv A outer s H E) rfl
    exact rb_cons (rs_if (rt_not (rt_val (xcall B__law_is_whole (hr.mono (by decide)) hgd tk (xcons (xv 1) (xcons (xi) (xcons (xbin .Sub (xbi (fun _ => c_len) T.b_len v_len (xcons (xv 0) (ra_nil))) (xi)) (ra_nil))))) (fun _ => rfl))) (rb_cons (rs_ret (xlst (xcons (xs) (xcons (xv 1) (ra_nil))))) (rb_nil)) (rb_nil)) (rb_cons (rs_ret (xcall B__law_made (hr.mono (by decide)) hgd tk (xcons (xbin .Add (xbin .Add (rd_sl (xv 0) (ro_none) (ro_some (xv 1))) (xtup (xcons (xv 2) (ra_nil)))) (rd_sl (xv 0) (ro_some (xbin .Add (xv 1) (xi))) (ro_none))) (ra_nil)))) (rb_nil))
end
end K04

namespace K04
open PySem PySem.Spec PyProof.Rows L2 RI
section
variable {G : Glo} {M M' : Store} {b c t t' f : Nat} {S : Nat → Prop} {d x y : D}
theorem take_ok (G : Glo) {M : Store} {b c t : Nat} {n : Int} (hb : Deck M b c t) (h0 : 0 < n) (h1 : n ≤ 10 ^ 40) (ht : t < 1000000000) :
    ∃ (r : Int) (o : SO), 0 ≤ r ∧ r < n ∧ Deck (M.set b o) b c (t + 1) ∧ g__law_take G [.ob b, .int n] M = .ok (.int r) (M.set b o) := by
  have hl := hb.lt
  obtain ⟨⟨g, cs, hb, hc, hcs⟩, hne⟩ := hb
  have at1 : ∀ o, (M.set b o)[b]? = some o := fun o => List.getElem?_set_self hl
  have atc : ∀ o, (M.set b o)[c]? = some (.lst (cs.map .int)) := fun o => by rw [List.getElem?_set_ne (Ne.symm hne)]; exact hc
  have mk : ∀ x, Deck (M.set b (deckO c ((t : Int) + 1) x)) b c (t + 1) := fun x => ⟨⟨x, cs, by rw [at1]; rfl, atc _, hcs⟩, hne⟩
  have s2 : ∀ o o' : SO, (M.set b o).set b o' = M.set b o' := fun o o' => List.set_set ..
  by_cases hg : 0 < g
  · refine ⟨g % n, deckO c ((t : Int) + 1) (g / n), Int.emod_nonneg _ (by omega), Int.emod_lt_of_pos _ h0, mk _, ?_⟩
    simp -implicitDefEqProofs [g__law_take, d__law_take, startE, dk_t hb, dk_st hb, dk_g (at1 _), dk_sg (at1 _), cmpD, blO, hg, op_modI h0, op_divL h0 h1, s2]
  · obtain ⟨d, hd, e⟩ := atI_get (xs := cs.map D.int) (r := ((t : Int) + 1) % cs.length) (Int.emod_nonneg _ (by omega)) (by rw [List.length_map]; exact Int.emod_lt_of_pos _ (by omega))
    obtain ⟨z, _, rfl⟩ := List.mem_map.mp hd
    have z0 := Int.emod_nonneg z (show (2147483587 : Int) ≠ 0 by decide)
    have z1 := Int.emod_lt_of_pos z (show (0 : Int) < 2147483587 by decide)
    have hlen : (0 : Int) < cs.length := by omega
    obtain ⟨y, p3⟩ : ∃ y : Int, ∀ M, opD .Pow (.int (z % 2147483587 + 60013 * ((t : Int) + 1) + 17)) (.int 3) M = .ok (.int y) M := ⟨_, fun M => pow3 (by omega)⟩
    refine ⟨((y % 2147483629 * 48611 + 7919 * ((t : Int) + 1) * ((t : Int) + 1)) % 2147483563) / 7 % n, deckO c ((t : Int) + 1) g, Int.emod_nonneg _ (by omega), Int.emod_lt_of_pos _ h0, mk _, ?_⟩
    have m1 : ∀ M, opD .Mult (.int (7919 * ((t : Int) + 1))) (.int ((t : Int) + 1)) M = .ok (.int (7919 * ((t : Int) + 1) * ((t : Int) + 1))) M := fun M => mul_cr (by omega) (by omega)
    have lc : lenD [.ob c] (M.set b (deckO c ((t : Int) + 1) g)) = .ok (.int cs.length) (M.set b (deckO c ((t : Int) + 1) g)) := by
      have q := len_l (atc (deckO c ((t : Int) + 1) g))
      rw [List.length_map] at q
      exact q
    have ic := ix_l (atc (deckO c ((t : Int) + 1) g)) e
    simp -implicitDefEqProofs [g__law_take, d__law_take, startE, dk_t hb, dk_st hb, dk_g (at1 _), dk_t (at1 _), dk_c (at1 _), cmpD, blO, hg, lc, op_modI hlen, ic, mul_cl, mul_cr, p3, m1, op_modI, op_divI, h0]
end
end K04

namespace K04
open PySem PySem.Spec PyProof.Rows L2 RI
section
variable {G : Glo} {M M' : Store} {b c t t' f : Nat} {S : Nat → Prop} {d x y : D}
theorem take_k (G : Glo) {n : Int} (hb : Dk M b c t) (h0 : 0 < n) (h1 : n ≤ 10 ^ 40) (ht : t < 1000000000) :
    ∃ (r : Int) (o : SO), 0 ≤ r ∧ r < n ∧ Dk (M.set b o) b c (t + 1) ∧ g__law_take G [.ob b, .int n] M = .ok (.int r) (M.set b o) := by
  obtain ⟨u, hu, h⟩ := hb
  obtain ⟨r, o, h2, h3, h4, h5⟩ := take_ok G h h0 h1 (by omega)
  exact ⟨r, o, h2, h3, ⟨u + 1, by omega, h4⟩, h5⟩
theorem one_k (G : Glo) {k : Nat} {items : List D} (hb : Dk M b c t) (hk : M[k]? = some (.lst items)) (hne : k ≠ b) (h0 : 0 < items.length) (h1 : items.length ≤ 1000) (ht : t < 1000000000) :
    ∃ (d : D) (o : SO), d ∈ items ∧ Dk (M.set b o) b c (t + 1) ∧ g__law_one G [.ob b, .ob k] M = .ok d (M.set b o) := by
  obtain ⟨r, o, r0, r1, hB, hd⟩ := take_k G (n := (items.length : Int)) hb (by omega) (by omega) ht
  obtain ⟨d, hd1, hd2⟩ := atI_get r0 r1
  refine ⟨d, o, hd1, hB, ?_⟩
  have hk2 : (M.set b o)[k]? = some (.lst items) := by rw [List.getElem?_set_ne (Ne.symm hne)]; exact hk
  have e1 := len_l hk
  have e2 := ix_l hk2 hd2
  simp -implicitDefEqProofs [g__law_one, d__law_one, startE, e1, arity, hd, e2]
theorem mixed_k (G : Glo) {n : Nat} (hb : Dk M b c t) (h1 : n ≤ 100) (ht : t < 100000000) :
    ∃ (xs : List Int) (M' : Store), g__law_mixed G [.ob b, .int n] M = .ok (.tup (xs.map .int)) M' ∧ xs.length = n ∧ xs.Nodup ∧ (∀ i ∈ xs, 0 ≤ i ∧ i < n) ∧ Keep (one b) M M' ∧ Dk M' b c (t + n) := by
  have loop := while_n (cd := asB (den2 (dv 3) (denLst (denNil)) (cmpD .NotEq))) (bd := d__law_mixed_1 G) (MixI M b c t M.length n) ?_ ?_ n [some (.ob b), some (.int n), some (.ob M.length), some (.ob (M.length + 1))] (M ++ [.lst [], .lst (rangeD 0 n)])
    ⟨[], (List.range n).map Int.ofNat, rfl, by rw [at_0]; rfl, by rw [at_k]; simp [rangeD], by simp, by simp, ?_, ?_, Keep.app _, (hb.app _).up (by omega), Nat.le_refl _, hb.lt, hb.ltc⟩
  · obtain ⟨ρ', M', e, F, R, rfl, e1, e2, e3, e4, e5, e6, e7, e8, _⟩ := loop
    have hR : R = [] := List.length_eq_zero_iff.mp e3
    subst hR
    rw [List.append_nil] at e4 e5 e6
    refine ⟨F, M', ?_, e4, e5, e6, e7, e8.up (by omega)⟩
    have en := denWhile_of e (by simp)
    have tl : tupleD [.ob M.length] M' = .ok (.tup (F.map .int)) M' := by simp [tupleD, readAt, e1]
    have hn : (0 : Int) ≤ n ∧ (n : Int) ≤ 1000 := ⟨by omega, by omega⟩
    simp -implicitDefEqProofs [g__law_mixed, d__law_mixed, startE, newL_small, denLrg, hn, List.append_assoc]
    rw [en]
    simp -implicitDefEqProofs [tl]
  · rintro ρ M1 ⟨F, R, rfl, e1, e2, e3, e4, e5, e6, e7, e8, e9, e10, e11⟩
    have hR : R = [] := List.length_eq_zero_iff.mp e3
    subst hR
    have cm := cmp_nil (M := M1 ++ [.lst []]) (k := M.length + 1) (j := M1.length) (xs := []) (at_l e2) (by rw [at_0]; rfl)
    refine ⟨M1 ++ [.lst []], ?_, F, [], rfl, at_l e1, at_l e2, e3, e4, e5, e6, e7.trans (Keep.app _), e8.app _, e9, e10, e11⟩
    simp -implicitDefEqProofs [newL_small, cm]
  · rintro j ρ M1 ⟨F, R, rfl, e1, e2, e3, e4, e5, e6, e7, e8, e9, e10, e11⟩
    have cm := cmp_nil (M := M1 ++ [.lst []]) (k := M.length + 1) (j := M1.length) (xs := R) (at_l e2) (by rw [at_0]; rfl)
    have hne : R.isEmpty = false := by
      cases R with
      | nil => simp at e3
      | cons _ _ => rfl
    rw [hne] at cm
    have hl : (0 : Int) < R.length := by omega
    rw [List.length_append] at e4
    obtain ⟨r, o, r0, r1, hB, ht2⟩ := take_k G (M := M1 ++ [SO.lst []]) (n := (R.length : Int)) (e8.app _) hl (by omega) (by omega)
    have hlt : r.toNat < R.length := by omega
    obtain ⟨M2, hM2⟩ : ∃ M2, M2 = List.set (M1 ++ [SO.lst []]) b o := ⟨_, rfl⟩
    rw [← hM2] at hB ht2
    have hf2 : M2[M.length]? = some (.lst (F.map .int)) := by rw [hM2, List.getElem?_set_ne (by omega)]; exact at_l e1
    have hr2 : M2[M.length + 1]? = some (.lst (R.map .int)) := by rw [hM2, List.getElem?_set_ne (by omega)]; exact at_l e2
    have hp : popD (.ob (M.length + 1)) [.int r] M2 = .ok (.int R[r.toNat]) (M2.set (M.length + 1) (.lst ((R.eraseIdx r.toNat).map .int))) := by
      have q1 : ixN R.length r = some r.toNat := by
        unfold ixN
        rw [if_pos r0, if_pos r1]
      have q2 : R.length ≤ line := by show R.length ≤ 100000; omega
      simp [popD, hr2, q1, hlt, q2, erase_map]
    obtain ⟨M3, hM3⟩ : ∃ M3, M3 = M2.set (M.length + 1) (.lst ((R.eraseIdx r.toNat).map .int)) := ⟨_, rfl⟩
    have hlen2 : M2.length = M1.length + 1 := by rw [hM2]; simp
    have hf3 : M3[M.length]? = some (.lst (F.map .int)) := by rw [hM3, List.getElem?_set_ne (by omega)]; exact hf2
    have hr3 : M3[M.length + 1]? = some (.lst ((R.eraseIdx r.toNat).map .int)) := by rw [hM3, List.getElem?_set_self (lt_of_at hr2)]
    rw [← hM3] at hp
    have ha : appD (.ob M.length) [.int R[r.toNat]] M3 = .ok .non (M3.set M.length (.lst ((F ++ [R[r.toNat]]).map .int))) := by
      have q2 : F.length + 1 ≤ line := by show F.length + 1 ≤ 100000; omega
      simp [appD, hf3, q2]
    have lr : lenD [.ob (M.length + 1)] (M1 ++ [.lst []]) = .ok (.int R.length) (M1 ++ [SO.lst []]) := by
      have q := len_l (at_l (X := [SO.lst []]) e2)
      rw [List.length_map] at q
      exact q
    have i1 : isL (M1 ++ [.lst []]) (.ob M.length) = true := by simp [isL, at_l e1]
    have i2 : isL (M1 ++ [.lst []]) (.ob (M.length + 1)) = true := by simp [isL, at_l e2]
    have pm : (F ++ [R[r.toNat]] ++ R.eraseIdx r.toNat).Perm (F ++ R) := by
      rw [List.append_assoc]
      exact List.Perm.append_left F (erase_perm hlt)
    refine ⟨M1 ++ [.lst []], [some (.ob b), some (.int n), some (.ob M.length), some (.ob (M.length + 1))], M3.set M.length (.lst ((F ++ [R[r.toNat]]).map .int)), ?_, ?_, F ++ [R[r.toNat]], R.eraseIdx r.toNat, rfl, ?_, ?_, ?_, ?_, ?_, ?_, ?_, ?_, e9, e10, e11⟩
    · simp -implicitDefEqProofs [newL_small, cm]
    · simp -implicitDefEqProofs [d__law_mixed_1, denMt, i1, i2, lr, arity, ht2, hp, ha]
    · rw [List.getElem?_set_self (lt_of_at hf3)]
    · rw [List.getElem?_set_ne (by omega)]
      exact hr3
    · rw [List.length_eraseIdx, if_pos hlt]
      omega
    · rw [pm.length_eq, List.length_append]
      exact e4
    · exact pm.nodup_iff.mpr e5
    · exact fun i hi => e6 i (pm.mem_iff.mp hi)
    · have k1 : Keep (one b) M M2 := by rw [hM2]; exact (e7.trans (Keep.app _)).trans (keep_b o)
      rw [hM3]
      exact keep_n (keep_n k1 (by omega) _) (by omega) _
    · rw [hM3]
      refine Dk.up ((hB.set (by omega) (by omega) _).set (by omega) (by omega) _) (by omega)
  · simp only [List.nil_append]
    exact List.pairwise_map.mpr (List.nodup_range.imp fun h e => h (Int.ofNat.inj e))
  · simp only [List.nil_append]
    intro i hi
    obtain ⟨a, ha, rfl⟩ := List.mem_map.mp hi
    rw [List.mem_range] at ha
    have : Int.ofNat a = (a : Int) := rfl
    omega
end
end K04

namespace K04
open PySem PySem.Spec PyProof.Rows L2 RI
section
variable {G : Glo} {M M' : Store} {b c t t' f : Nat} {S : Nat → Prop} {d x y : D}
theorem take_m (G : Glo) {n : Int} (hb : Dk M b c t) (h0 : 0 < n) (h1 : n ≤ 10 ^ 40) (ht : t < 1000000000) :
    ∃ (r : Int) (M' : Store), 0 ≤ r ∧ r < n ∧ Keep (one b) M M' ∧ M'.length = M.length ∧ Dk M' b c (t + 1) ∧ g__law_take G [.ob b, .int n] M = .ok (.int r) M' := by
  obtain ⟨r, o, h2, h3, h4, h5⟩ := take_k G hb h0 h1 ht
  exact ⟨r, _, h2, h3, keep_b o, List.length_set .., h4, h5⟩
theorem one_m (G : Glo) {k : Nat} {items : List D} (hb : Dk M b c t) (hk : M[k]? = some (.lst items)) (hne : k ≠ b) (h0 : 0 < items.length) (h1 : items.length ≤ 1000) (ht : t < 1000000000) :
    ∃ (d : D) (M' : Store), d ∈ items ∧ Keep (one b) M M' ∧ M'.length = M.length ∧ Dk M' b c (t + 1) ∧ g__law_one G [.ob b, .ob k] M = .ok d M' := by
  obtain ⟨d, o, h2, h3, h4⟩ := one_k G hb hk hne h0 h1 ht
  exact ⟨d, _, h2, keep_b o, List.length_set .., h3, h4⟩
theorem length_k (G : Glo) {most : Int} (hb : Dk M b c t) (hm0 : 0 ≤ most) (hm1 : most ≤ 10 ^ 29) (ht : t < 100000000) :
    ∃ (i : Int) (M' : Store), 1 ≤ i ∧ i ≤ 10 ^ 30 ∧ (0 < most → i ≤ most) ∧ Keep (one b) M M' ∧ Dk M' b c (t + 5) ∧ g__law_length G [.ob b, .int most] M = .ok (.int i) M' := by
  by_cases h : 0 < most
  · obtain ⟨r, M1, h1, h2, h3, h4, h5, e⟩ := take_m G hb h (by omega) (by omega)
    refine ⟨1 + r, M1, by omega, by omega, fun _ => by omega, h3, h5.up (by omega), ?_⟩
    simp -implicitDefEqProofs [g__law_length, d__law_length, startE, cmpD, blO, h, arity, e]
  · obtain ⟨r1, M1, a1, a2, a3, a4, a5, e1⟩ := take_m G (n := 9) hb (by omega) (by omega) (by omega)
    obtain ⟨r2, M2, b1, b2, b3, b4, b5, e2⟩ := take_m G (n := 99) a5 (by omega) (by omega) (by omega)
    obtain ⟨r3, M4, c1, c2, c3, c4, c5, e3⟩ := take_m G (n := 1000000000000000000000000000000) (b5.app [.lst [.int 1, .int 2, .int 1000000000000000000000000000000, .int (1 + r1), .int (1000000000000000000000000000000 - r2)]]) (by omega) (by omega) (by omega)
    have l1 : M4[M2.length]? = some (.lst [.int 1, .int 2, .int 1000000000000000000000000000000, .int (1 + r1), .int (1000000000000000000000000000000 - r2)]) := c3.2 _ _ (Nat.ne_of_gt b5.lt) (by rw [at_0]; rfl)
    have ct := cat_l (M := M4 ++ [.lst [.int (1 + r3)]]) (at_l l1) (k := M4.length) (by rw [at_0]; rfl) (by simp)
    obtain ⟨d, M7, d1, d2, d3, d4, e4⟩ := one_m G (M := M4 ++ [.lst [.int (1 + r3)]] ++ [.lst ([.int 1, .int 2, .int 1000000000000000000000000000000, .int (1 + r1), .int (1000000000000000000000000000000 - r2)] ++ [.int (1 + r3)])])
      (k := (M4 ++ [SO.lst [.int (1 + r3)]]).length) ((c5.app _).app _) (by rw [at_0]; rfl) (by have := c5.lt; simp; omega) (by simp) (by simp) (by omega)
    have ix : ∃ i, d = .int i ∧ 1 ≤ i ∧ i ≤ 10 ^ 30 := by
      simp only [List.cons_append, List.nil_append, List.mem_cons, List.not_mem_nil, or_false] at d1
      rcases d1 with rfl | rfl | rfl | rfl | rfl | rfl
      all_goals exact ⟨_, rfl, by omega, by omega⟩
    obtain ⟨i, rfl, i1, i2⟩ := ix
    refine ⟨i, M7, i1, i2, fun q => absurd q h, ?_, d4.up (by omega), ?_⟩
    · exact (((((a3.trans b3).trans (Keep.app _)).trans c3).trans (Keep.app _)).trans (Keep.app _)).trans d2
    · simp only [List.length_append, List.length_singleton, List.append_assoc, List.cons_append, List.nil_append] at ct e4
      simp -implicitDefEqProofs [g__law_length, d__law_length, startE, cmpD, blO, h, arity, e1, e2, op_powI, newL_small, e3, ct, e4]
end
end K04

namespace K04
open PySem PySem.Spec PyProof.Rows L2 RI
section
variable {G : Glo} {M M' : Store} {b c t t' f : Nat} {S : Nat → Prop} {d x y : D}
theorem runs_step (G : Glo) {M0 : Store} {most many : Int} {ks : List Int} (hk : KindsI ks) (hm0 : 0 ≤ most) (hm1 : most ≤ 10 ^ 29) (ht : t < 10000000) (d : D) (j : Nat) (hj : j < 100) (ρ : Env1) (M : Store) (h : RunsI M0 b c t most many ks j ρ M) :
    ∃ ρ' M', onT (.name 3) (d__law_runs_1 G) d ρ M = .fl .nx ρ' M' ∧ RunsI M0 b c t most many ks (j + 1) ρ' M' := by
  obtain ⟨x3, x6, ps, rfl, h1, h2, h3, h4, h5⟩ := h
  obtain ⟨k1, k2, k3, k4⟩ := hk
  have l1 : lenD [.tup (ks.map D.int)] M = .ok (.int ks.length) M := by simp [lenD, seqD]
  obtain ⟨r, M1, a1, a2, a3, a4, a5, e1⟩ := take_m G (n := (ks.length : Int)) h5 (by omega) (by omega) (by omega)
  have hr : r.toNat < ks.length := by omega
  have ixk : ∀ (z : Int) M, 0 ≤ z → (hz : z.toNat < ks.length) → ixD (.tup (ks.map D.int)) (.int z) M = .ok (.int ks[z.toNat]) M := fun z M h0 hz => ix_t (atI_n (n := z.toNat) (by omega) (by simp [hz]))
  -- the spot in the end
  have sp : ∃ z : Int, ∃ hz : z.toNat < ks.length, 0 ≤ z ∧ (∀ q, ps.getLast? = some q → q.1 ≠ ks[z.toNat]) ∧
      ∀ x3, (denIfS (denAnd (asB (den2 (dv 4) (denTup (denNil)) (cmpD .NotEq))) (asB (den2 (den2 (den2 (dv 4) (denNeg (dc (.int 1))) ixD) (dc (.int 0)) ixD) (den2 (dv 5) (dv 6) ixD) (cmpD .Eq)))) (denSeq (denAsg (den2 (den2 (dv 6) (dc (.int 1)) (opD .Add)) (denCall (denCons (dv 5) (denNil)) lenD) (opD .Mod)) (.name 6)) (denNx)) (denNx))
        [some (.ob b), some (.int many), some (.int most), x3, some (.tup (ps.map runD)), some (.tup (ks.map .int)), some (.int r)] M1 = .fl .nx [some (.ob b), some (.int many), some (.int most), x3, some (.tup (ps.map runD)), some (.tup (ks.map .int)), some (.int z)] M1 := by
    have ce := cmp_emp (M := M1) ps
    have l2 : lenD [.tup (ks.map D.int)] M1 = .ok (.int ks.length) M1 := by simp [lenD, seqD]
    cases hp : ps.getLast? with
    | none =>
      have he : ps = [] := List.getLast?_eq_none_iff.mp hp
      subst he
      refine ⟨r, hr, a1, (fun q hq => by cases hq), fun x3 => ?_⟩
      simp only [List.map_nil, List.isEmpty_nil, Bool.not_true] at ce
      simp -implicitDefEqProofs [denAnd, ce]
    | some q =>
      have hne : ps.isEmpty = false := by
        cases ps with
        | nil => cases hp
        | cons _ _ => rfl
      rw [hne, Bool.not_false] at ce
      have hlast : (ps.map runD).getLast? = some (runD q) := by rw [List.getLast?_map, hp]; rfl
      have i1 : ixD (.tup (ps.map runD)) (.int (-1)) M1 = .ok (runD q) M1 := ix_t (atI_last hlast)
      have i2 : ixD (runD q) (.int 0) M1 = .ok (.int q.1) M1 := ix_t rfl
      have i3 := ixk r M1 a1 hr
      by_cases hq : q.1 = ks[r.toNat]
      · have z0 : 0 ≤ (r + 1) % (ks.length : Int) := Int.emod_nonneg _ (by omega)
        have z1 : (r + 1) % (ks.length : Int) < ks.length := Int.emod_lt_of_pos _ (by omega)
        refine ⟨(r + 1) % ks.length, by omega, z0, fun q' hq' => ?_, fun x3 => ?_⟩
        · cases hq'
          rw [hq]
          intro e
          have ee := (List.getElem_inj k3).mp e
          by_cases hz : r + 1 < ks.length
          · rw [Int.emod_eq_of_lt (by omega) hz] at ee
            omega
          · have : r + 1 = ks.length := by omega
            rw [this, Int.emod_self] at ee
            omega
        · have c1 : cmpD .Eq (.int q.1) (.int ks[r.toNat]) M1 = .ok (.bl true) M1 := by rw [cmp_int, hq]; simp
          have hl : (0 : Int) < ks.length := by omega
          simp -implicitDefEqProofs [denAnd, ce, denNeg, i1, i2, i3, c1, l2, op_modI hl]
      · refine ⟨r, hr, a1, (fun q' hq' => by cases hq'; exact hq), fun x3 => ?_⟩
        have c1 : cmpD .Eq (.int q.1) (.int ks[r.toNat]) M1 = .ok (.bl false) M1 := by rw [cmp_int]; simp [hq]
        simp -implicitDefEqProofs [denAnd, ce, denNeg, i1, i2, i3, c1]
  obtain ⟨z, hz, z0, z1, e2⟩ := sp
  obtain ⟨i, M2, i1, i2, im, i3, i4, e3⟩ := length_k G a5 hm0 hm1 (by omega)
  have i5 := ixk z M1 z0 hz
  have cat : opD .Add (.tup (ps.map runD)) (.tup [.tup [.int ks[z.toNat], .int i]]) M2 = .ok (.tup ((ps ++ [(ks[z.toNat], i)]).map runD)) M2 := by
    have hl : (ps.map runD).length + 1 ≤ line := by rw [List.length_map, h1]; show j + 1 ≤ 100000; omega
    show (if (ps.map runD).length + 1 ≤ line then (Out.ok (D.tup (ps.map runD ++ [.tup [.int ks[z.toNat], .int i]])) M2 : Out D) else .no) = _
    rw [if_pos hl, List.map_append]
    rfl
  have kk := k4 _ (List.getElem_mem hz)
  refine ⟨[some (.ob b), some (.int many), some (.int most), some d, some (.tup ((ps ++ [(ks[z.toNat], i)]).map runD)), some (.tup (ks.map .int)), some (.int z)], M2, ?_, some d, some (.int z), ps ++ [(ks[z.toNat], i)], rfl, by simp [h1], adj_app h2 fun q hq => z1 q hq, ?_, (h4.trans a3).trans i3, i4.up (by omega)⟩
  · have e2' := e2 (some d)
    simp -implicitDefEqProofs only [onT, set_nm, List.set_cons_zero, List.set_cons_succ, d__law_runs_1, ap_seq, ap_asg, ap_call, ap_cons, ap_nil, ap_v, List.getElem?_cons_zero, List.getElem?_cons_succ, Option.join_some, of_some, Out.bind_ok, l1, arity, e1, List.length_cons, List.length_nil, Nat.zero_add, bindS, th_nx, e2', if_true, ite_true, eq_self]
    simp -implicitDefEqProofs [i5, arity, e3, cat, bindS]
  · intro p hp
    rcases List.mem_append.mp hp with h | h
    · exact h3 p h
    · rw [List.mem_singleton.mp h]
      exact ⟨⟨kk.1, kk.2, i1, i2⟩, im⟩
theorem runs_k (G : Glo) {most many : Int} (hb : Dk M b c t) (hn0 : 1 ≤ many) (hn1 : many ≤ 20) (hm0 : 0 ≤ most) (hm1 : most ≤ 10 ^ 29) (ht : t < 1000000) :
    ∃ (ps : List (Int × Int)) (M' : Store), g__law_runs G [.ob b, .int many, .int most] M = .ok (.tup (ps.map runD)) M' ∧ 1 ≤ ps.length ∧ ps.length ≤ many ∧ Adj ps ∧ (∀ p ∈ ps, RunI p) ∧ (0 < most → ∀ p ∈ ps, p.2 ≤ most) ∧ Keep (one b) M M' ∧ Dk M' b c (t + 200) := by
  obtain ⟨xs, M1, e1, h1, h2, h3, h4, h5⟩ := mixed_k G (n := 4) hb (by decide) (by omega)
  obtain ⟨r, M2, a1, a2, a3, a4, a5, e2⟩ := take_m G (n := 3) h5 (by decide) (by decide) (by omega)
  obtain ⟨ks, hks, hks2⟩ := cut_map xs none (some (2 + r))
  have hh : HT.sIx xs.length xs.length (some (2 + r)) = (2 + r).toNat := six_hi (by omega) (by omega)
  have h0 : HT.sIx xs.length 0 none = 0 := rfl
  rw [hh, h0, Nat.sub_zero, List.drop_zero] at hks2
  have K : KindsI ks := by
    rw [hks2]
    refine ⟨by rw [List.length_take]; omega, by rw [List.length_take]; omega, h2.sublist (List.take_sublist _ _), fun i hi => ?_⟩
    have := h3 i (List.mem_of_mem_take hi)
    omega
  obtain ⟨r2, M3, b1, b2, b3, b4, b5, e3⟩ := take_m G (n := many) a5 (by omega) (by omega) (by omega)
  have lr : (rangeD 0 (1 + r2).toNat).length = (1 + r2).toNat := by simp [rangeD]
  obtain ⟨ρ', M', e4, x3, x6, ps, rfl, g1, g2, g3, g4, g5⟩ := forD_n (body := onT (.name 3) (d__law_runs_1 G)) (fun j ρ M => RunsI M3 b c (t + 6) most many ks j ρ M) 100 (rangeD 0 (1 + r2).toNat) 0 [some (.ob b), some (.int many), some (.int most), none, some (.tup []), some (.tup (ks.map .int)), none] M3
    (by rw [lr]; omega) (fun d hd n ρ M hn hI => runs_step G K hm0 hm1 (by omega) d n hn ρ M hI) ⟨none, none, [], rfl, rfl, fun i x y hx => by simp at hx, fun p hp => by simp at hp, Keep.refl, b5.up (by omega)⟩
  rw [lr] at g1 g5
  refine ⟨ps, M', ?_, by omega, by omega, g2, (fun p hp => (g3 p hp).1), (fun q p hp => (g3 p hp).2 q), (((h4.trans a3).trans b3)).trans g4, g5.up (by omega)⟩
  have rg : itRange1 [.int (1 + r2)] M3 = .ok ⟨rangeD 0 (1 + r2).toNat, none⟩ M3 := by
    exact if_pos ⟨by omega, by omega⟩
  have e1' : g__law_mixed G [.ob b, .int 4] M = .ok (.tup (xs.map .int)) M1 := e1
  simp -implicitDefEqProofs [g__law_runs, d__law_runs, startE, arity, e1', e2, denPart, sl_t, hks, e3, rg, e4]
end
end K04

namespace K04
open PySem PySem.Spec PyProof.Rows L2 RI
section
variable {G : Glo} {M M' : Store} {b c t t' f : Nat} {S : Nat → Prop} {d x y : D}
theorem odd_eq (G : Glo) : g__law_odd G [.ob b] M = g__law_one G [.ob b, .ob (M.length + 9)] (M ++ oddX M.length) := by
  simp -implicitDefEqProofs [g__law_odd, d__law_odd, startE, arity, newL_small, denNeg, denD1, RI.keyOf, op_powI, List.append_assoc, opD, RI.listAt, at_k, at_0, set_k, Nat.add_assoc, oddX, oddL]
theorem odd_m (G : Glo) (hb : Dk M b c t) (ht : t < 1000000) : ∃ (d : D) (M' : Store), g__law_odd G [.ob b] M = .ok d M' ∧ Keep (one b) M M' ∧ Dk M' b c (t + 1) ∧ ∀ S : Nat → Prop, (∀ n, S n → n < M.length) → Fine S 4 100 M' d := by
  have hk : (M ++ oddX M.length)[M.length + 9]? = some (.lst (oddL M.length)) := by
    rw [at_k]
    rfl
  have hl := hb.lt
  obtain ⟨d, M', hd, k, hlen, hB, e⟩ := one_m G (hb.app (oddX M.length)) hk (by omega) (by simp [oddL]) (by simp [oddL]) (by omega)
  refine ⟨d, M', by rw [odd_eq]; exact e, (Keep.app _).trans k, hB, fun S hS => ?_⟩
  have hs : ∀ i, ¬ S (M.length + i) := fun i q => by
    have := hS _ q
    omega
  have at' : ∀ i o, (oddX M.length)[i]? = some o → M'[M.length + i]? = some o := fun i o q => k.2 _ _ (show ¬ (M.length + i = b) by omega) (by rw [at_k]; exact q)
  simp only [oddL, List.mem_cons, List.not_mem_nil, or_false] at hd
  rcases hd with rfl | rfl | rfl | rfl | rfl | rfl | rfl | rfl | rfl | rfl | rfl | rfl | rfl | rfl | rfl | rfl | rfl | rfl | rfl | rfl | rfl | rfl | rfl | rfl | rfl | rfl | rfl | rfl | rfl | rfl
  all_goals first
    | exact fine_c (fun _ => rfl) (by decide +kernel)
    | exact fine_o (at' 1 _ rfl) (hs _) (py := .list []) (fun M' e => by simp [toPyR, e, optAll]) (by decide +kernel)
    | exact fine_o (at' 2 _ rfl) (hs _) (py := .list [.int 0, .int 1]) (fun M' e => by simp [toPyR, e, optAll]) (by decide +kernel)
    | exact fine_o (at' 3 _ rfl) (hs _) (py := .list [.tuple [.int 0, .int 4]]) (fun M' e => by simp [toPyR, e, optAll]) (by decide +kernel)
    | exact fine_o (at' 4 _ rfl) (hs _) (py := .dict []) (fun M' e => by simp [toPyR, e, kvAll]) (by decide +kernel)
    | exact fine_o (at' 5 _ rfl) (hs _) (py := .dict [(.str "a", .int 1)]) (fun M' e => by simp [toPyR, e, kvAll, keyPy]) (by decide +kernel)
end
end K04

namespace K04
open PySem PySem.Spec PyProof.Rows L2 RI
section
variable {G : Glo} {M M' : Store} {b c t t' f : Nat} {S : Nat → Prop} {d x y : D}
theorem integer_eq (I : IsT G) (h : Pl M d) : g_is_integer G [d] M = .ok (.bl (fInt d && !fBl d)) M := by
  have e1 := isi_int I h
  have e2 := isi_bl I h
  cases d <;> simp -implicitDefEqProofs [g_is_integer, d_is_integer, startE, denAndV, denNotV, e1, e2, fInt, fBl]
theorem whole_eq (I : IsT G) (h : Pl M d) (lo hi : Int) : g_is_whole G [d, .int lo, .int hi] M = .ok (.bl (isW d lo hi)) M := by
  have e1 := integer_eq I h
  cases d with
  | int i =>
    by_cases q : lo ≤ i <;> simp -implicitDefEqProofs [g_is_whole, d_is_whole, startE, denAndV, arity, e1, fInt, fBl, isW, den3, cmpD, blO, q]
  | _ => simp -implicitDefEqProofs [g_is_whole, d_is_whole, startE, denAndV, arity, e1, fInt, fBl, isW]
theorem lwhole_eq (I : IsT G) (h : Pl M d) (lo hi : Int) : g__law_is_whole G [d, .int lo, .int hi] M = .ok (.bl (isW d lo hi)) M := by
  have e1 := isi_int I h
  have e2 := isi_bl I h
  cases d with
  | int i =>
    by_cases q : lo ≤ i <;> simp -implicitDefEqProofs [g__law_is_whole, d__law_is_whole, startE, denAndV, denNotV, e1, e2, fInt, fBl, isW, den3, cmpD, blO, q]
  | _ => simp -implicitDefEqProofs [g__law_is_whole, d__law_is_whole, startE, denAndV, denNotV, e1, e2, fInt, fBl, isW]
theorem row_eq (I : IsT G) (h : Pl M d) (lo hi : Int) : g_is_row G [d, .int lo, .int hi] M = .ok (.bl (isR d lo hi)) M := by
  have e1 := isi_tup I h
  cases d with
  | tup ds =>
    by_cases q : lo ≤ (ds.length : Int) <;> simp -implicitDefEqProofs [g_is_row, d_is_row, startE, denAndV, e1, fTup, isR, den3, lenD, seqD, cmpD, blO, q]
  | _ => simp -implicitDefEqProofs [g_is_row, d_is_row, startE, denAndV, e1, fTup, isR]
theorem fault_eq (I : IsT G) (h : Pl M d) : g_run_fault G [d] M = .ok (optS (runW d)) M := by
  have e1 := row_eq I h 2 2
  cases d with
  | tup ds =>
    match ds, h with
    | [], h => simp -implicitDefEqProofs [g_run_fault, d_run_fault, startE, denNot, arity, e1, isR, runW, optS]
    | [x], h => simp -implicitDefEqProofs [g_run_fault, d_run_fault, startE, denNot, arity, e1, isR, runW, optS]
    | [x, y], h =>
      have ex := whole_eq I (h.el x (by simp)) 0 3
      have ey := whole_eq I (h.el y (by simp)) 1 1000000000000000000000000000000
      cases q : isW x 0 3 <;> cases q2 : isW y 1 1000000000000000000000000000000 <;>
        simp -implicitDefEqProofs [g_run_fault, d_run_fault, startE, denNot, arity, e1, isR, runW, optS, setT, setAll, ex, ey, q, q2]
    | x :: y :: z :: r, h =>
      have n2 : ¬ ((x :: y :: z :: r).length : Int) ≤ 2 := by simp; omega
      have e0 : isR (.tup (x :: y :: z :: r)) 2 2 = false := by
        show (decide _ && decide _) = false
        rw [decide_eq_false n2, Bool.and_false]
      rw [e0] at e1
      simp -implicitDefEqProofs [g_run_fault, d_run_fault, startE, denNot, arity, e1, runW, optS]
  | _ => simp -implicitDefEqProofs [g_run_fault, d_run_fault, startE, denNot, arity, e1, isR, runW, optS]
end
end K04

namespace K04
open PySem PySem.Spec PyProof.Rows L2 RI
section
variable {G : Glo} {M M' : Store} {b c t t' f : Nat} {S : Nat → Prop} {d x y : D}
theorem raise_bad (K : GOK G) {x y : D} {ρ : Env1} (hx : belowD M.length x = true) (hy : belowD M.length y = true) : raiseD 3 "BadString" (g_BadString G) [x, y] ρ M = .exc "BadString" [("word", y), ("number", x)] ρ M := by
  have e : setFD G (.ob M.length) "number" x (M ++ [.exn "BadString" none]) = some (M ++ [.exn "BadString" (some (M.length + 1)), .xdo [("number", x)]]) := by
    simp [setFD, at_0, K.xB, K.fn]
  have e2 : setFD G (.ob M.length) "word" y (M ++ [.exn "BadString" (some (M.length + 1)), .xdo [("number", x)]]) = some (M ++ [.exn "BadString" (some (M.length + 1)), .xdo [("word", y), ("number", x)]]) := by
    simp [setFD, at_0, at_k, K.xB, K.fw, set_k]
  have e3 : g_BadString G [.ob M.length, x, y] (M ++ [.exn "BadString" none]) = .ok .non (M ++ [.exn "BadString" (some (M.length + 1)), .xdo [("word", y), ("number", x)]]) := by
    simp -implicitDefEqProofs [g_BadString, d_BadString, startE, e, e2]
  have bf : belowF M.length [("word", y), ("number", x)] = true := by simp [belowF, hx, hy]
  simp [raiseD, e3, List.drop_left, List.take_left, bf]
theorem chk_step (K : GOK G) (h : Pl M d) (a : Option Int) (n : Nat) (v x2 x3 x4 x5 : Option D) :
    (match runWA d a with
      | some w => ∃ ρ', onT (.tup [2, 3]) (d_check_runs_1 G) (.tup [.int n, d]) [v, some (optI a), x2, x3, x4, x5] M = .exc "BadString" [("word", .str w), ("number", .int n)] ρ' M
      | none => onT (.tup [2, 3]) (d_check_runs_1 G) (.tup [.int n, d]) [v, some (optI a), x2, x3, x4, x5] M = .fl .nx [v, some (optI (kd d)), some (.int n), some d, some .non, some (optI (kd d))] M) := by
  have e := fault_eq K.T h
  have rs : ∀ (w : Str) ρ, raiseD 3 "BadString" (g_BadString G) [.int n, .str w] ρ M = .exc "BadString" [("word", .str w), ("number", .int n)] ρ M := fun w ρ => raise_bad K rfl rfl
  unfold runWA
  cases q : runW d with
  | some w =>
    rw [q] at e
    exact ⟨_, by simp -implicitDefEqProofs [onT, setT, setAll, d_check_runs_1, arity, e, optS, isnot_str, denRaise, rs]; rfl⟩
  | none =>
    rw [q] at e
    obtain ⟨p, hp, rfl⟩ := runW_none.mp q
    have i0 : ixD (runD p) (.int 0) M = .ok (.int p.1) M := ix_t rfl
    have ca := cmp_ahead (M := M) (i := p.1) (a := a)
    simp only [runD]
    by_cases qa : a = some p.1
    · rw [decide_eq_true qa] at ca
      rw [if_pos qa]
      exact ⟨_, by
        have i0 : ixD (.tup [.int p.1, .int p.2]) (.int 0) M = .ok (.int p.1) M := i0
        simp only [runD] at e
        simp -implicitDefEqProofs [onT, setT, setAll, d_check_runs_1, arity, e, optS, isnot_non, i0, ca, denRaise, rs]
        rfl⟩
    · rw [decide_eq_false qa] at ca
      rw [if_neg qa]
      have i0 : ixD (.tup [.int p.1, .int p.2]) (.int 0) M = .ok (.int p.1) M := i0
      simp only [runD] at e
      simp -implicitDefEqProofs [onT, setT, setAll, d_check_runs_1, arity, e, optS, isnot_non, i0, ca]
      rfl
theorem chk_loop (K : GOK G) (v : Option D) : ∀ (ds : List D) (n : Nat) (a : Option Int) (x2 x3 x4 x5 : Option D), (∀ d ∈ ds, Pl M d) →
    match scanD n a ds with
    | some (m, w) => ∃ ρ', forD none (onT (.tup [2, 3]) (d_check_runs_1 G)) (pairsD n ds) [v, some (optI a), x2, x3, x4, x5] M = .exc "BadString" [("word", .str w), ("number", .int m)] ρ' M
    | none => ∃ ρ', forD none (onT (.tup [2, 3]) (d_check_runs_1 G)) (pairsD n ds) [v, some (optI a), x2, x3, x4, x5] M = .fl .nx ρ' M
  | [], n, a, x2, x3, x4, x5, _ => ⟨_, by simp [pairsD, forD, chkM]; rfl⟩
  | d :: r, n, a, x2, x3, x4, x5, h => by
    have e := chk_step K (h d List.mem_cons_self) a n v x2 x3 x4 x5
    unfold scanD
    cases q : runWA d a with
    | some w =>
      rw [q] at e
      obtain ⟨ρ', e⟩ := e
      exact ⟨_, by simp [pairsD, forD, chkM, e]; rfl⟩
    | none =>
      rw [q] at e
      have ih := chk_loop K v r (n + 1) (kd d) (some (.int n)) (some d) (some .non) (some (optI (kd d))) fun d hd => h d (List.mem_cons_of_mem _ hd)
      have e : onT (.tup [2, 3]) (d_check_runs_1 G) (.tup [.int n, d]) [v, some (optI a), x2, x3, x4, x5] M = .fl .nx [v, some (optI (kd d)), some (.int n), some d, some .non, some (optI (kd d))] M := e
      simp only [pairsD, forD, chkM, e, if_true]
      exact ih
theorem chk_eq (K : GOK G) (h : Pl M d) : g_check_runs G [d] M = (match errD d with
    | none => .ok .non M
    | some (n, w) => .exc "BadString" [("word", .str w), ("number", n)] M) := by
  have e1 := row_eq K.T h 1 6
  have rs : ∀ ρ, raiseD 3 "BadString" (g_BadString G) [.non, .str "runs"] ρ M = .exc "BadString" [("word", .str "runs"), ("number", .non)] ρ M := fun ρ => raise_bad K rfl rfl
  cases d with
  | tup ds =>
    by_cases q : 1 ≤ ds.length ∧ ds.length ≤ 6
    · have hr : isR (.tup ds) 1 6 = true := by
        show (decide _ && decide _) = true
        rw [decide_eq_true (by omega), decide_eq_true (by omega)]
        rfl
      rw [hr] at e1
      have lp := chk_loop K (some (.tup ds)) ds 0 none none none none none h.el
      have en : itEnumA [.tup ds] M = .ok ⟨pairsD 0 ds, none⟩ M := rfl
      cases s : scanD 0 none ds with
      | none =>
        rw [s] at lp
        obtain ⟨ρ', lp⟩ := lp
        simp only [optI] at lp
        simp -implicitDefEqProofs [g_check_runs, d_check_runs, startE, denNot, arity, e1, denEnumA, en, lp, errD, q, s]
      | some p =>
        rw [s] at lp
        obtain ⟨ρ', lp⟩ := lp
        simp only [optI] at lp
        simp -implicitDefEqProofs [g_check_runs, d_check_runs, startE, denNot, arity, e1, denEnumA, en, lp, errD, q, s, finD]
    · have hr : isR (.tup ds) 1 6 = false := by
        show (decide _ && decide _) = false
        by_cases c1 : (1 : Int) ≤ ds.length
        · rw [decide_eq_true c1, decide_eq_false (by omega)]
          rfl
        · rw [decide_eq_false c1]
          rfl
      rw [hr] at e1
      simp -implicitDefEqProofs [g_check_runs, d_check_runs, startE, denNot, arity, e1, denRaise, rs, errD, q, finD]
  | _ => simp -implicitDefEqProofs [g_check_runs, d_check_runs, startE, denNot, arity, e1, isR, denRaise, rs, errD, finD]
end
end K04

namespace K04
open PySem PySem.Spec PyProof.Rows L2 RI
section
variable {G : Glo} {M M' : Store} {b c t t' f : Nat} {S : Nat → Prop} {d x y : D}
theorem cnt_loop {first last : Int} {v : Option D} : ∀ (ps : List (Int × Int)) (beg : Int) (a : List Int) (x5 x6 x7 : Option D), (∀ p ∈ ps, RunI p) → a.length = 4 →
    ∃ ρ', forD none (onT (.tup [5, 6]) (d_count_beads_1 G)) (ps.map runD) [v, some (.int first), some (.int last), some (.ob (M.length + 1)), some (.int beg), x5, x6, x7] (M ++ [.lst [.int 0], .lst (a.map .int)]) =
      .fl .nx ρ' (M ++ [.lst [.int 0], .lst ((cntL first last ps beg a).map .int)]) ∧ ρ'[3]? = some (some (.ob (M.length + 1)))
  | [], beg, a, x5, x6, x7, _, _ => ⟨_, by simp [forD, chkM, cntL]; rfl, rfl⟩
  | p :: r, beg, a, x5, x6, x7, h, ha => by
    obtain ⟨h1, h2, h3, h4⟩ := h p List.mem_cons_self
    obtain ⟨y, hy⟩ : ∃ y, y = a.getD p.1.toNat 0 + mx 0 (mn (beg + p.2) last - mx beg first) := ⟨_, rfl⟩
    have hk : p.1.toNat < a.length := by omega
    have g : getLD (.ob (M.length + 1)) (.int p.1) (M ++ [.lst [.int 0], .lst (a.map .int)]) = some (a.getD p.1.toNat 0) := by
      simp [getLD, at_k, h1, hk]
    have st : setD (.ob (M.length + 1)) (.int p.1) (.int y) (M ++ [.lst [.int 0], .lst (a.map .int)]) = some (M ++ [.lst [.int 0], .lst ((a.set p.1.toNat y).map .int)]) := by
      have q1 : ixN a.length p.1 = some p.1.toNat := by
        unfold ixN
        rw [if_pos h1, if_pos (by omega)]
      simp [setD, at_k, q1, set_k, List.map_set]
    have e : onT (.tup [5, 6]) (d_count_beads_1 G) (runD p) [v, some (.int first), some (.int last), some (.ob (M.length + 1)), some (.int beg), x5, x6, x7] (M ++ [.lst [.int 0], .lst (a.map .int)]) =
        .fl .nx [v, some (.int first), some (.int last), some (.ob (M.length + 1)), some (.int (beg + p.2)), some (.int p.1), some (.int p.2), some (.int (beg + p.2))] (M ++ [.lst [.int 0], .lst ((a.set p.1.toNat y).map .int)]) := by
      have m1 : ∀ i j (M : Store), maxD [.int i, .int j] M = .ok (.int (mx i j)) M := fun _ _ _ => rfl
      have m2 : ∀ i j (M : Store), minD [.int i, .int j] M = .ok (.int (mn i j)) M := fun _ _ _ => rfl
      rw [hy] at st ⊢
      simp -implicitDefEqProofs only [onT, setT, setAll, runD, List.length_cons, List.length_nil, if_true, List.set_cons_zero, List.set_cons_succ, d_count_beads_1, ap_seq, ap_asg, ap_two, ap_v, List.getElem?_cons_zero, List.getElem?_cons_succ, Option.join_some, of_some, Out.bind_ok, op_addI, bindS, set_nm, th_nx, denAugIx, g, ap_call, ap_cons, ap_nil, ap_c, m1, m2, op_subI, st, ap_nx]
    obtain ⟨ρ', e2, e3⟩ := cnt_loop (first := first) (last := last) (v := v) r (beg + p.2) (a.set p.1.toNat y) (some (.int p.1)) (some (.int p.2)) (some (.int (beg + p.2))) (fun q hq => h q (List.mem_cons_of_mem _ hq)) (by rw [List.length_set]; exact ha)
    refine ⟨ρ', ?_, e3⟩
    rw [List.map_cons, cntL, ← hy]
    simp -implicitDefEqProofs [-List.map_set, forD, chkM, e, e2]
theorem count_eq {ps : List (Int × Int)} {first last : Int} (h : ∀ p ∈ ps, RunI p) : g_count_beads G [.tup (ps.map runD), .int first, .int last] M = .ok (.tup ((cntL first last ps 0 [0, 0, 0, 0]).map .int)) (M ++ [.lst [.int 0], .lst ((cntL first last ps 0 [0, 0, 0, 0]).map .int)]) := by
  obtain ⟨ρ', e1, e2⟩ := cnt_loop (G := G) (M := M) (first := first) (last := last) (v := some (.tup (ps.map runD))) ps 0 [0, 0, 0, 0] none none none h rfl
  have n1 : newL [.int 0] M = .ok (.ob M.length) (M ++ [.lst [.int 0]]) := newL_small (by simp)
  have n2 : opD .Mult (.ob M.length) (.int 4) (M ++ [.lst [.int 0]]) = .ok (.ob (M.length + 1)) (M ++ [.lst [.int 0], .lst ([0, 0, 0, 0].map .int)]) := by
    have q : RI.listAt (M ++ [.lst [.int 0]]) M.length = some [.int 0] := by simp [RI.listAt, at_0]
    show (match RI.listAt (M ++ [SO.lst [.int 0]]) M.length with
      | some xs => if 0 ≤ (4 : Int) ∧ (4 : Int) ≤ 100000 then newL (List.replicate (4 : Int).toNat xs).flatten (M ++ [SO.lst [.int 0]]) else .no
      | _ => .no) = _
    rw [q]
    simp only []
    rw [if_pos (by decide), newL_small (by decide)]
    simp
  have tl : tupleD [.ob (M.length + 1)] (M ++ [.lst [.int 0], .lst ((cntL first last ps 0 [0, 0, 0, 0]).map .int)]) = .ok (.tup ((cntL first last ps 0 [0, 0, 0, 0]).map .int)) (M ++ [.lst [.int 0], .lst ((cntL first last ps 0 [0, 0, 0, 0]).map .int)]) := by
    simp [tupleD, readAt, at_k]
  have it : itOf (.tup (ps.map runD)) (M ++ [.lst [.int 0], .lst ([0, 0, 0, 0].map .int)]) = .ok ⟨ps.map runD, none⟩ (M ++ [.lst [.int 0], .lst ([0, 0, 0, 0].map .int)]) := rfl
  simp -implicitDefEqProofs only [g_count_beads, d_count_beads, startE, List.map_cons, List.map_nil, List.length_cons, List.length_nil, Nat.reduceAdd, Nat.reduceSub, List.replicate, List.cons_append, List.nil_append, ap_seq, ap_asg, ap_two, ap_lst, ap_cons, ap_c, ap_nil, Out.bind_ok, n1, n2, bindS, set_nm, List.set_cons_zero, List.set_cons_succ, th_nx, ap_for, ap_it, ap_v, List.getElem?_cons_zero, Option.join_some, of_some] at it e1 ⊢
  simp -implicitDefEqProofs only [it, Out.bind_ok, bindS, e1, th_nx]
  simp -implicitDefEqProofs [e2, tl]
end
end K04

namespace K04
open PySem PySem.Spec PyProof.Rows L2 RI
section
variable {G : Glo} {M M' : Store} {b c t t' f : Nat} {S : Nat → Prop} {d x y : D}
theorem string_ok (K : GOK G) {ps : List (Int × Int)} (hp : ∀ p ∈ ps, RunI p) (hl : ps.length ≤ 6) (he : errD (.tup (ps.map runD)) = none) (hpl : Pl (M ++ [.ins "String" []]) (.tup (ps.map runD))) :
    ∃ M', mkIA 2 "String" (g_String G) [.tup (ps.map runD)] M = .ok (.ob M.length) M' ∧ M'[M.length]? = some (.ins "String" (strF ps)) ∧ ∀ S, Keep S M M' := by
  have ck := chk_eq K hpl
  rw [he] at ck
  obtain ⟨M1, hM1⟩ : ∃ N : Store, N = M ++ [.ins "String" []] := ⟨_, rfl⟩
  rw [← hM1] at ck
  obtain ⟨M2, hM2⟩ : ∃ N : Store, N = M1 ++ [.lst ((ps.map (·.2)).map .int)] := ⟨_, rfl⟩
  have lc := lc_pure (M := M1) (i := 4) (e := den2 (dv 4) (dc (.int 1)) ixD) (ρw := [some (.ob M.length), some (.tup (ps.map runD)), none, none, none, none]) (h := fun d => match d with
    | .tup [_, y] => y
    | _ => .non) (ps.map runD) [] (fun d hd M' => by
      obtain ⟨p, _, rfl⟩ := List.mem_map.mp hd
      have i1 : ixD (runD p) (.int 1) M' = .ok (.int p.2) M' := ix_t rfl
      simp -implicitDefEqProofs [i1]
      rfl) (by simp; omega)
  have eL : ([] ++ (ps.map runD).map fun d => match d with
    | .tup [_, y] => y
    | _ => .non) = (ps.map (·.2)).map D.int := by
    rw [List.nil_append, List.map_map, List.map_map]
    rfl
  rw [eL, ← hM2] at lc
  have sm : sumD [.ob M1.length] M2 = .ok (.int (sumL ps)) M2 := by
    have q : readAt M2 M1.length = some ((ps.map (·.2)).map D.int) := by simp [readAt, hM2, at_0]
    simp only [sumD, q, intsOf_map]
    rfl
  obtain ⟨T, hT⟩ : ∃ T, T = cntL 0 (sumL ps) ps 0 [0, 0, 0, 0] := ⟨_, rfl⟩
  have lT : T.length = 4 := by rw [hT, cntL_len]; rfl
  obtain ⟨M3, hM3⟩ : ∃ N : Store, N = M2 ++ [.lst [.int 0], .lst (T.map .int)] := ⟨_, rfl⟩
  have cn : g_count_beads G [.tup (ps.map runD), .int 0, .int (sumL ps)] M2 = .ok (.tup (T.map .int)) M3 := by
    rw [hM3, hT]
    exact count_eq hp
  have a3 : M3[M.length]? = some (.ins "String" []) := by rw [hM3, hM2, hM1]; exact at_l (at_l (by rw [at_0]; rfl))
  have l3 := lt_of_at a3
  obtain ⟨M4, hM4⟩ : ∃ N : Store, N = M3.set M.length (.ins "String" [("own_runs", .tup (ps.map runD))]) := ⟨_, rfl⟩
  have s4 : setFD G (.ob M.length) "own_runs" (.tup (ps.map runD)) M3 = some M4 := by rw [hM4]; exact setF_ins K.iS K.f1 a3 (by simp)
  have a4 : M4[M.length]? = some (.ins "String" [("own_runs", .tup (ps.map runD))]) := by rw [hM4]; exact List.getElem?_set_self l3
  have l4 := lt_of_at a4
  obtain ⟨M5, hM5⟩ : ∃ N : Store, N = M4.set M.length (.ins "String" [("own_runs", .tup (ps.map runD)), ("own_length", .int (sumL ps))]) := ⟨_, rfl⟩
  have s5 : setFD G (.ob M.length) "own_length" (.int (sumL ps)) M4 = some M5 := by
    rw [hM5, setF_ins K.iS K.f2 a4 (by simp)]
    have q : ¬ ("own_runs" : Str) = "own_length" := by decide +kernel
    simp [putFD, q]
  have a5 : M5[M.length]? = some (.ins "String" [("own_runs", .tup (ps.map runD)), ("own_length", .int (sumL ps))]) := by rw [hM5]; exact List.getElem?_set_self l4
  have l5 := lt_of_at a5
  obtain ⟨M6, hM6⟩ : ∃ N : Store, N = M5.set M.length (.ins "String" [("own_runs", .tup (ps.map runD)), ("own_length", .int (sumL ps)), ("own_totals", .tup (T.map .int))]) := ⟨_, rfl⟩
  have s6 : setFD G (.ob M.length) "own_totals" (.tup (T.map .int)) M5 = some M6 := by
    rw [hM6, setF_ins K.iS K.f3 a5 (by simp)]
    have q : ¬ ("own_runs" : Str) = "own_totals" := by decide +kernel
    have q2 : ¬ ("own_length" : Str) = "own_totals" := by decide +kernel
    simp [putFD, q, q2]
  have a6 : M6[M.length]? = some (.ins "String" [("own_runs", .tup (ps.map runD)), ("own_length", .int (sumL ps)), ("own_totals", .tup (T.map .int))]) := by rw [hM6]; exact List.getElem?_set_self l5
  obtain ⟨M7, hM7⟩ : ∃ N : Store, N = M6 ++ [.lst ((kindsL T).map .int)] := ⟨_, rfl⟩
  have lk := lc_filter (M := M6) (i := 5) (g := asB (den2 (den2 (dv 3) (dv 5) ixD) (dc (.int 0)) (cmpD .Gt))) (e := dv 5) (ρw := [some (.ob M.length), some (.tup (ps.map runD)), some (.int (sumL ps)), some (.tup (T.map .int)), none, none]) (h := fun d => d) (q := fun d => match d with
    | .int i => decide (0 < T.getD i.toNat 0)
    | _ => false) (rangeD 0 4) [] (fun d hd M' => by
      obtain ⟨z, hz, rfl⟩ := List.mem_map.mp hd
      rw [List.mem_range] at hz
      have hz' : (0 + (z : Int)).toNat < T.length := by omega
      have ix : ixD (.tup (T.map .int)) (.int (0 + (z : Int))) M' = .ok (.int (T.getD (0 + (z : Int)).toNat 0)) M' := ix_t (atI_n (n := (0 + (z : Int)).toNat) (by omega) (by rw [List.getElem?_map, List.getD_eq_getElem?_getD, List.getElem?_eq_getElem hz']; rfl))
      refine ⟨?_, rfl⟩
      simp -implicitDefEqProofs only [ap_asB, ap_two, ap_v, List.set_cons_zero, List.set_cons_succ, List.getElem?_cons_zero, List.getElem?_cons_succ, Option.join_some, of_some, Out.bind_ok, ix, ap_c, cmpD, blO]) (by simp [rangeD])
  have eK : ([] ++ ((rangeD 0 4).filter fun d => match d with
    | .int i => decide (0 < T.getD i.toNat 0)
    | _ => false).map fun d => d) = (kindsL T).map D.int := by
    have r4 : rangeD 0 4 = ([0, 1, 2, 3] : List Int).map D.int := rfl
    rw [List.nil_append, List.map_id', r4, List.filter_map]
    rfl
  rw [eK, ← hM7] at lk
  have rg : itRange1 [.int 4] M6 = .ok ⟨rangeD 0 4, none⟩ M6 := rfl
  have tl : tupleD [.ob M6.length] M7 = .ok (.tup ((kindsL T).map .int)) M7 := by simp [tupleD, readAt, hM7, at_0]
  have a7 : M7[M.length]? = some (.ins "String" [("own_runs", .tup (ps.map runD)), ("own_length", .int (sumL ps)), ("own_totals", .tup (T.map .int))]) := by rw [hM7]; exact at_l a6
  obtain ⟨M8, hM8⟩ : ∃ N : Store, N = M7.set M.length (.ins "String" (strF ps)) := ⟨_, rfl⟩
  have s8 : setFD G (.ob M.length) "own_kinds" (.tup ((kindsL T).map .int)) M7 = some M8 := by
    rw [hM8, setF_ins K.iS K.f4 a7 (by simp)]
    have q : ¬ ("own_runs" : Str) = "own_kinds" := by decide +kernel
    have q2 : ¬ ("own_length" : Str) = "own_kinds" := by decide +kernel
    have q3 : ¬ ("own_totals" : Str) = "own_kinds" := by decide +kernel
    simp [putFD, q, q2, q3, strF, hT]
  refine ⟨M8, ?_, by rw [hM8]; exact List.getElem?_set_self (lt_of_at a7), fun S => ?_⟩
  · have ev : g_String G [.ob M.length, .tup (ps.map runD)] M1 = .ok .non M8 := by
      have it : itOf (.tup (ps.map runD)) M1 = .ok ⟨ps.map runD, none⟩ M1 := rfl
      have w1 : wipeE [some (.ob M.length), some (.tup (ps.map runD)), none, none, none, none] [4] = [some (.ob M.length), some (.tup (ps.map runD)), none, none, none, none] := rfl
      have w2 : wipeE [some (.ob M.length), some (.tup (ps.map runD)), some (.int (sumL ps)), some (.tup (T.map .int)), none, none] [5] = [some (.ob M.length), some (.tup (ps.map runD)), some (.int (sumL ps)), some (.tup (T.map .int)), none, none] := rfl
      rw [hM2] at lc
      rw [hM7] at lk
      rw [← hM2] at lc
      rw [← hM7] at lk
      simp -implicitDefEqProofs only [g_String, d_String, startE, List.map_cons, List.map_nil, List.length_cons, List.length_nil, Nat.reduceAdd, Nat.reduceSub, List.replicate, List.cons_append, List.nil_append, ap_seq, ap_drop, ap_call, ap_cons, ap_nil, ap_v, List.getElem?_cons_zero, List.getElem?_cons_succ, Option.join_some, of_some, Out.bind_ok, arity, if_true, ck, bindS, th_nx, ap_asg, denLc, ap_it, it, w1, lc, sm, set_nm, List.set_cons_zero, List.set_cons_succ, ap_c, cn, ap_setF, s4, s5, s6, ap_rng1, rg, w2, lk, tl, s8, ap_nx, fin_nx]
    simp -implicitDefEqProofs [mkIA, mkID, ← hM1, ev]
  · have k3 : Keep S M M3 := by
      rw [hM3, hM2, hM1]
      exact ((Keep.app _).trans (Keep.app _)).trans (Keep.app _)
    rw [hM8, hM7]
    have k6 : Keep S M M6 := by
      rw [hM6, hM5, hM4]
      exact keep_n (keep_n (keep_n k3 (Nat.le_refl _) _) (Nat.le_refl _) _) (Nat.le_refl _) _
    exact keep_n (k6.trans (Keep.app _)) (Nat.le_refl _) _
end
end K04

namespace K04
open PySem PySem.Spec PyProof.Rows L2 RI
section
variable {G : Glo} {M M' : Store} {b c t t' f : Nat} {S : Nat → Prop} {d x y : D}
end
end K04

namespace K04
open PySem PySem.Spec PyProof.Rows L2 RI
section
def bentL (n : Nat) (k s : Int) (u : Str) : List D := [.ob n, .tup [.int k], .tup [.int k, .int s, .int 1], .tup [.int 4, .int s], .tup [.int (-1), .int s], .tup [.bl true, .int s], .tup [.non, .int s], .tup [.str "a", .int s], .tup [.int k, .int 0],
  .tup [.int k, .int 1000000000000000000000000000001], .tup [.int k, .int (-s)], .tup [.int k, .bl true], .tup [.int k, .str u], .tup [.int k, .non], .tup [.int k, .int s], .tup [.int ((k + 1) % 4), .int s], .tup [.int s, .int k], .tup [.int k, .tup [.int s]]]
def bentX (n : Nat) (k s : Int) (u : Str) : Store := [.lst [.int k, .int s], .lst [.ob n, .tup [.int k], .tup [.int k, .int s, .int 1], .tup [.int 4, .int s], .tup [.int (-1), .int s]], .lst [.tup [.bl true, .int s], .tup [.non, .int s], .tup [.str "a", .int s], .tup [.int k, .int 0]],
  .lst [.ob n, .tup [.int k], .tup [.int k, .int s, .int 1], .tup [.int 4, .int s], .tup [.int (-1), .int s], .tup [.bl true, .int s], .tup [.non, .int s], .tup [.str "a", .int s], .tup [.int k, .int 0]],
  .lst [.tup [.int k, .int 1000000000000000000000000000001], .tup [.int k, .int (-s)], .tup [.int k, .bl true]],
  .lst [.ob n, .tup [.int k], .tup [.int k, .int s, .int 1], .tup [.int 4, .int s], .tup [.int (-1), .int s], .tup [.bl true, .int s], .tup [.non, .int s], .tup [.str "a", .int s], .tup [.int k, .int 0], .tup [.int k, .int 1000000000000000000000000000001], .tup [.int k, .int (-s)], .tup [.int k, .bl true]],
  .lst [.tup [.int k, .str u], .tup [.int k, .non], .tup [.int k, .int s]],
  .lst [.ob n, .tup [.int k], .tup [.int k, .int s, .int 1], .tup [.int 4, .int s], .tup [.int (-1), .int s], .tup [.bl true, .int s], .tup [.non, .int s], .tup [.str "a", .int s], .tup [.int k, .int 0], .tup [.int k, .int 1000000000000000000000000000001], .tup [.int k, .int (-s)], .tup [.int k, .bl true], .tup [.int k, .str u], .tup [.int k, .non], .tup [.int k, .int s]],
  .lst [.tup [.int ((k + 1) % 4), .int s], .tup [.int s, .int k], .tup [.int k, .tup [.int s]]],
  .lst (bentL n k s u)]
variable {M M' : Store} {b c t t' f : Nat} {S : Nat → Prop}
theorem fine_str {k n : Nat} {x : Str} (h : ∀ c ∈ x.cps.toList, c < 16 ^ 8) (h2 : 10 * x.length + 2 ≤ n) (hk : 1 ≤ k) : Fine S k n M (.str x) := by
  refine ⟨.str x, fun M' _ => ?_, rfl, ?_, ?_⟩
  · obtain ⟨m, rfl⟩ : ∃ m, k = m + 1 := ⟨k - 1, by omega⟩
    rfl
  · exact Nat.le_trans (StrLaws.reprText_len x h) h2
  · simp [PyData.depth]
theorem cps_ofString (s : String) : ∀ c ∈ (Str.ofString s).cps.toList, c < 16 ^ 8 := by
  rw [signs_ofString]
  intro c hc
  obtain ⟨ch, _, rfl⟩ := List.mem_map.mp hc
  exact Nat.lt_of_lt_of_le ch.val.toNat_lt (by decide)
theorem fine_dig {k n j : Nat} {i : Int} (hj : 0 < j) (h : i.natAbs < 10 ^ j) (h2 : 10 * (j + 1) + 2 ≤ n) (hk : 1 ≤ k) : Fine S k n M (.str (toString i)) := by
  refine fine_str (cps_ofString _) ?_ hk
  have e := int_text_length_le10 hj h
  rw [PySem.ofString_length]
  omega
theorem str_i {i : Int} (h : i.natAbs < 10 ^ 40) : strD [.int i] M = .ok (.str (toString i)) M := by
  refine if_pos ?_
  by_cases h0 : i.natAbs = 0
  · rw [h0]
    decide
  · exact (Nat.log2_lt h0).mpr (Nat.lt_of_lt_of_le h (by decide +kernel))
theorem bent_run_m (G : Glo) {p : Int × Int} (hp : RunI p) (hb : Dk M b c t) (ht : t < 900000) : ∃ (d : D) (M' : Store), g__law_bent_run G [.ob b, runD p] M = .ok d M' ∧ Keep (one b) M M' ∧ Dk M' b c (t + 3) ∧ ∀ S : Nat → Prop, S b → (∀ n, S n → n < M.length) → Fine S 5 999 M' d := by
  obtain ⟨k, s⟩ := p
  obtain ⟨p1, p2, p3, p4⟩ := hp
  have p1 : 0 ≤ k := p1
  have p2 : k ≤ 3 := p2
  have p3 : 1 ≤ s := p3
  have p4 : s ≤ 10 ^ 30 := p4
  have hs : s.natAbs < 10 ^ 40 := by omega
  obtain ⟨u, hu⟩ : ∃ u : Str, u = toString s := ⟨_, rfl⟩
  have st : ∀ M, strD [.int s] M = .ok (.str u) M := fun M => by rw [hu]; exact str_i hs
  obtain ⟨r, M1, a1, a2, a3, a4, a5, e1⟩ := take_m G (n := 9) (hb.app (bentX M.length k s u)) (by decide) (by decide) (by omega)
  obtain ⟨d, M2, e2, b1, b2, b3⟩ := odd_m G a5 (by omega)
  have hX : ∀ i o, (bentX M.length k s u)[i]? = some o → M2[M.length + i]? = some o := fun i o q => by
    have hl := hb.lt
    exact b1.2 _ _ (show ¬ (M.length + i = b) by omega) (a3.2 _ _ (show ¬ (M.length + i = b) by omega) (by rw [at_k]; exact q))
  have h9 := hX 9 _ rfl
  have ct := cat_l (M := M2 ++ [.lst [.tup [.int k, .int (1 + r)], d]]) (at_l h9) (k := M2.length) (by rw [at_0]; rfl) (by simp [bentL])
  obtain ⟨x, M3, c1, c2, c3, c4, e3⟩ := one_m G (M := M2 ++ [.lst [.tup [.int k, .int (1 + r)], d]] ++ [.lst (bentL M.length k s u ++ [.tup [.int k, .int (1 + r)], d])])
    (k := (M2 ++ [SO.lst [.tup [.int k, .int (1 + r)], d]]).length) ((b2.app _).app _) (by rw [at_0]; rfl) (by have := b2.lt; simp; omega) (by simp [bentL]) (by simp [bentL]) (by omega)
  have hl := hb.lt
  have hk2 : Keep (one b) M2 M3 := ((Keep.app _).trans (Keep.app _)).trans c2
  refine ⟨x, M3, ?_, (((Keep.app _).trans a3).trans b1).trans hk2, c4, fun S hSb hS => ?_⟩
  · simp only [List.length_append, List.length_singleton, List.append_assoc, List.cons_append, List.nil_append] at ct e3
    have addL : ∀ M a b, opD .Add (.ob a) (.ob b) M = (match RI.listAt M a, RI.listAt M b with
      | some xs, some ys => newL (xs ++ ys) M
      | _, _ => .no) := fun _ _ _ => rfl
    simp only [bentX, bentL, List.cons_append, List.nil_append] at e1 ct e3
    simp -implicitDefEqProofs [g__law_bent_run, d__law_bent_run, startE, runD, setT, setAll, newL_small, denNeg, op_powI, st, op_modI, addL, RI.listAt, at_k, at_0, set_k, List.append_assoc, Nat.add_assoc, arity, e1, e2]
    have h9' := at_l (X := [SO.lst [.tup [.int k, .int (1 + r)], d]]) h9
    simp only [bentL] at h9'
    simp -implicitDefEqProofs [h9', newL_small, arity, e3]
  · have fi : ∀ (i : Int), i.natAbs < 10 ^ 40 → Fine S 3 330 M3 (.int i) := fun i h => fine_int (j := 40) (by decide) h (by decide) (by decide) (by decide)
    have fd : Fine S 3 330 M3 (.str u) := by
      rw [hu]
      exact fine_dig (j := 31) (by decide) (by omega) (by decide) (by decide)
    have ft : Fine S 3 330 M3 (.tup [.int s]) := (fine_tup (k := 2) (n := 60) (c := 1) (ds := [.int s]) (fun d hd => by
      rw [List.mem_singleton.mp hd]
      exact fine_int (j := 40) (by decide) (by omega) (by decide) (by decide) (by decide)) (by simp)).up (by decide) (by decide)
    have t1 : ∀ {x : D}, Fine S 3 330 M3 x → Fine S 5 999 M3 (.tup [x]) := fun {x} h => (fine_tup (k := 3) (n := 330) (c := 1) (ds := [x]) (fun d hd => by rw [List.mem_singleton.mp hd]; exact h) (by simp)).up (by decide) (by decide)
    have t2 : ∀ {x y : D}, Fine S 3 330 M3 x → Fine S 3 330 M3 y → Fine S 5 999 M3 (.tup [x, y]) := fun {x y} h1 h2 => (fine_tup (k := 3) (n := 330) (c := 2) (ds := [x, y]) (fun d hd => by
      simp only [List.mem_cons, List.not_mem_nil, or_false] at hd
      rcases hd with rfl | rfl
      · exact h1
      · exact h2) (by simp)).up (by decide) (by decide)
    have t3 : ∀ {x y z : D}, Fine S 3 330 M3 x → Fine S 3 330 M3 y → Fine S 3 330 M3 z → Fine S 5 999 M3 (.tup [x, y, z]) := fun {x y z} h1 h2 h3 => (fine_tup (k := 3) (n := 330) (c := 3) (ds := [x, y, z]) (fun d hd => by
      simp only [List.mem_cons, List.not_mem_nil, or_false] at hd
      rcases hd with rfl | rfl | rfl
      · exact h1
      · exact h2
      · exact h3) (by simp)).up (by decide) (by decide)
    have fk := fi k (by omega)
    have fs := fi s (by omega)
    have fn : Fine S 3 330 M3 (.non) := fine_c (fun _ => rfl) (by decide +kernel)
    have fb : Fine S 3 330 M3 (.bl true) := fine_c (fun _ => rfl) (by decide +kernel)
    have fa : Fine S 3 330 M3 (.str "a") := fine_c (fun _ => rfl) (by decide +kernel)
    have h0 : M3[M.length]? = some (.lst [.int k, .int s]) := c2.2 _ _ (show ¬ (M.length = b) by omega) (at_l (at_l (hX 0 _ rfl)))
    have fo : Fine S 5 999 M3 (.ob M.length) := (fine_lst (k := 3) (n := 330) (c := 2) h0 (fun q => by have := hS _ q; omega) (fun d hd => by
      simp only [List.mem_cons, List.not_mem_nil, or_false] at hd
      rcases hd with rfl | rfl
      · exact fk
      · exact fs) (by simp)).up (by decide) (by decide)
    simp only [bentL, List.cons_append, List.nil_append, List.mem_cons, List.not_mem_nil, or_false] at c1
    rcases c1 with rfl | rfl | rfl | rfl | rfl | rfl | rfl | rfl | rfl | rfl | rfl | rfl | rfl | rfl | rfl | rfl | rfl | rfl | rfl | rfl
    · exact fo
    · exact t1 fk
    · exact t3 fk fs (fi 1 (by decide))
    · exact t2 (fi 4 (by decide)) fs
    · exact t2 (fi (-1) (by decide)) fs
    · exact t2 fb fs
    · exact t2 fn fs
    · exact t2 fa fs
    · exact t2 fk (fi 0 (by decide))
    · exact t2 fk (fi _ (by decide +kernel))
    · exact t2 fk (fi (-s) (by omega))
    · exact t2 fk fb
    · exact t2 fk fd
    · exact t2 fk fn
    · exact t2 fk fs
    · exact t2 (fi ((k + 1) % 4) (by omega)) fs
    · exact t2 fs fk
    · exact t2 fk ft
    · exact t2 fk (fi (1 + r) (by omega))
    · exact ((b3 S fun n hn => by
        have := hS n hn
        have := a4
        simp only [List.length_append] at this
        omega).mono (hk2.sub fun n _ hn => by rw [show n = b from hn]; exact hSb)).up (by decide) (by decide)
end
section
variable {G : Glo} {M M' : Store} {b c t t' f : Nat} {S : Nat → Prop} {d : D}
theorem word_eq (I : IsT G) (h : Pl M d) (a : Option Int) : g__law_run_word G [d, optI a] M = .ok (optS (runWA d a)) M := by
  have e1 := isi_tup I h
  cases d with
  | tup ds =>
    match ds, h with
    | [], h => simp -implicitDefEqProofs [g__law_run_word, d__law_run_word, startE, denNot, denOr, e1, fTup, lenD, seqD, cmpD, toPy, SeqAt.shaped, PyData.canLay0, PyData.depth, PyData.eqv, blO, runWA, runW, optS]
    | [x], h => simp -implicitDefEqProofs [g__law_run_word, d__law_run_word, startE, denNot, denOr, e1, fTup, lenD, seqD, cmpD, toPy, SeqAt.shaped, PyData.canLay0, PyData.depth, PyData.eqv, blO, runWA, runW, optS]
    | [x, y], h =>
      have ex := lwhole_eq I (h.el x (by simp)) 0 3
      have ey := lwhole_eq I (h.el y (by simp)) 1 1000000000000000000000000000000
      have i0 : ixD (.tup [x, y]) (.int 0) M = .ok x M := ix_t rfl
      have i1 : ixD (.tup [x, y]) (.int 1) M = .ok y M := ix_t rfl
      have n2 : cmpD .NotEq (.int 2) (.int 2) M = .ok (.bl false) M := rfl
      cases q : isW x 0 3 with
      | false => simp -implicitDefEqProofs [g__law_run_word, d__law_run_word, startE, denNot, denOr, e1, fTup, lenD, seqD, n2, arity, i0, ex, q, runWA, runW, optS]
      | true =>
        cases q2 : isW y 1 1000000000000000000000000000000 with
        | false => simp -implicitDefEqProofs [g__law_run_word, d__law_run_word, startE, denNot, denOr, e1, fTup, lenD, seqD, n2, arity, i0, i1, ex, ey, q, q2, op_powI, runWA, runW, optS]
        | true =>
          cases x with
          | int k =>
            have ca := cmp_ahead (M := M) (i := k) (a := a)
            by_cases qa : a = some k
            · subst qa
              rw [decide_eq_true rfl] at ca
              simp -implicitDefEqProofs [g__law_run_word, d__law_run_word, startE, denNot, denOr, e1, fTup, lenD, seqD, n2, arity, i0, i1, ex, ey, q, q2, op_powI, denIf, ca, runWA, runW, optS]
            · rw [decide_eq_false qa] at ca
              simp -implicitDefEqProofs [g__law_run_word, d__law_run_word, startE, denNot, denOr, e1, fTup, lenD, seqD, n2, arity, i0, i1, ex, ey, q, q2, op_powI, denIf, ca, qa, runWA, runW, optS]
          | _ => simp [isW] at q
    | x :: y :: z :: r, h =>
      have n2 : cmpD .NotEq (.int ((r.length : Int) + 1 + 1 + 1)) (.int 2) M = .ok (.bl true) M := by
        have : ¬ ((r.length : Int) + 1 + 1 + 1 = 2) := by omega
        have e : ∀ z : Int, SeqAt.shaped (.int z) = true := fun z => rfl
        simp [cmpD, toPy, e, PyData.eqv, blO, this]
      simp -implicitDefEqProofs [g__law_run_word, d__law_run_word, startE, denNot, denOr, e1, fTup, lenD, seqD, n2, runWA, runW, optS]
  | _ => simp -implicitDefEqProofs [g__law_run_word, d__law_run_word, startE, denNot, denOr, e1, fTup, runWA, runW, optS]
end
section
variable {G : Glo} {M M' : Store} {b c t t' f : Nat} {S : Nat → Prop} {d : D}
theorem err_step (K : GOK G) (h : Pl M d) (a : Option Int) (n : Nat) (v x2 x3 x4 : Option D) :
    onT (.tup [2, 3]) (d__law_runs_error_1 G) (.tup [.int n, d]) [v, some (optI a), x2, x3, x4] M = (match runWA d a with
      | some w => .fl (.ret (.tup [.int n, .str w])) [v, some (optI a), some (.int n), some d, some (.str w)] M
      | none => .fl .nx [v, some (optI (kd d)), some (.int n), some d, some .non] M) := by
  have e := word_eq K.T h a
  cases q : runWA d a with
  | some w =>
    rw [q] at e
    simp -implicitDefEqProofs [onT, setT, setAll, d__law_runs_error_1, arity, e, optS, isnot_str]
  | none =>
    rw [q] at e
    obtain ⟨p, hp, rfl, _⟩ := runWA_none q
    have i0 : ixD (runD p) (.int 0) M = .ok (.int p.1) M := ix_t rfl
    simp -implicitDefEqProofs [onT, setT, setAll, d__law_runs_error_1, arity, e, optS, isnot_non, i0]
    rfl
theorem err_loop (K : GOK G) (v : Option D) : ∀ (ds : List D) (n : Nat) (a : Option Int) (x2 x3 x4 : Option D), (∀ d ∈ ds, Pl M d) →
    match scanD n a ds with
    | some (m, w) => ∃ ρ', forD none (onT (.tup [2, 3]) (d__law_runs_error_1 G)) (pairsD n ds) [v, some (optI a), x2, x3, x4] M = .fl (.ret (.tup [.int m, .str w])) ρ' M
    | none => ∃ ρ', forD none (onT (.tup [2, 3]) (d__law_runs_error_1 G)) (pairsD n ds) [v, some (optI a), x2, x3, x4] M = .fl .nx ρ' M
  | [], n, a, x2, x3, x4, _ => ⟨_, by simp [pairsD, forD, chkM]; rfl⟩
  | d :: r, n, a, x2, x3, x4, h => by
    have e := err_step K (h d List.mem_cons_self) a n v x2 x3 x4
    unfold scanD
    cases q : runWA d a with
    | some w =>
      rw [q] at e
      exact ⟨_, by simp [pairsD, forD, chkM, e]; rfl⟩
    | none =>
      rw [q] at e
      have ih := err_loop K v r (n + 1) (kd d) (some (.int n)) (some d) (some .non) fun d hd => h d (List.mem_cons_of_mem _ hd)
      simp only [pairsD, forD, chkM, e, if_true]
      exact ih
def errO : Option (D × Str) → D
  | none => .non
  | some (n, w) => .tup [n, .str w]
theorem err_eq (K : GOK G) (h : Pl M d) : g__law_runs_error G [d] M = .ok (errO (errD d)) M := by
  have e1 := isi_tup K.T h
  cases d with
  | tup ds =>
    have hl : lenD [.tup ds] M = .ok (.int ds.length) M := by simp [lenD, seqD]
    by_cases q : 1 ≤ ds.length ∧ ds.length ≤ 6
    · have c1 : decide ((1 : Int) ≤ ds.length) = true := decide_eq_true (by omega)
      have c2 : decide ((ds.length : Int) ≤ 6) = true := decide_eq_true (by omega)
      have d3 : ∀ ρ, ρ[0]? = some (some (.tup ds)) → den3 (dc (.int 1)) (denCall (denCons (dv 0) (denNil)) lenD) (dc (.int 6)) .LtE .LtE ρ M = .ok (.bl true) M := fun ρ hρ => by
        simp -implicitDefEqProofs [den3, hρ, hl, cmpD, blO, c1, c2]
      have lp := err_loop K (some (.tup ds)) ds 0 none none none none h.el
      have en : itEnumA [.tup ds] M = .ok ⟨pairsD 0 ds, none⟩ M := rfl
      cases s : scanD 0 none ds with
      | none =>
        rw [s] at lp
        obtain ⟨ρ', lp⟩ := lp
        simp only [optI] at lp
        simp -implicitDefEqProofs [g__law_runs_error, d__law_runs_error, startE, denOr, denNot, e1, fTup, d3, denEnumA, en, lp, errD, q, s, errO]
      | some p =>
        rw [s] at lp
        obtain ⟨ρ', lp⟩ := lp
        simp only [optI] at lp
        simp -implicitDefEqProofs [g__law_runs_error, d__law_runs_error, startE, denOr, denNot, e1, fTup, d3, denEnumA, en, lp, errD, q, s, errO]
    · have d3 : ∀ ρ, ρ[0]? = some (some (.tup ds)) → den3 (dc (.int 1)) (denCall (denCons (dv 0) (denNil)) lenD) (dc (.int 6)) .LtE .LtE ρ M = .ok (.bl false) M := fun ρ hρ => by
        by_cases c1 : (1 : Int) ≤ ds.length
        · have c2 : decide ((ds.length : Int) ≤ 6) = false := decide_eq_false (by omega)
          simp -implicitDefEqProofs [den3, hρ, hl, cmpD, blO, c1, c2]
        · simp -implicitDefEqProofs [den3, hρ, hl, cmpD, blO, c1]
      simp -implicitDefEqProofs [g__law_runs_error, d__law_runs_error, startE, denOr, denNot, e1, fTup, d3, errD, q, errO]
  | _ => simp -implicitDefEqProofs [g__law_runs_error, d__law_runs_error, startE, denOr, denNot, e1, fTup, errD, errO]
end
end K04

namespace K04
open PySem PySem.Spec PyProof.Rows L2 RI
section
variable {G : Glo} {M M' : Store} {b c t : Nat} {d x y : D}
theorem take_w (G : Glo) {n : Int} (hb : Dk M b c t) (h0 : 0 < n) (h1 : n ≤ 10 ^ 40) (ht : t < 1000000000) :
    Ok (g__law_take G [.ob b, .int n] M) (fun d M' => ∃ r : Int, d = .int r ∧ 0 ≤ r ∧ r < n ∧ Kb b M M' ∧ Dk M' b c (t + 1)) noE := by
  obtain ⟨r, M', a1, a2, a3, _, a5, e⟩ := take_m G hb h0 h1 ht
  exact Ok.ofE e ⟨r, rfl, a1, a2, a3, a5⟩
theorem one_w (G : Glo) {k : Nat} {items : List D} (hb : Dk M b c t) (hk : M[k]? = some (.lst items)) (hne : k ≠ b) (h0 : 0 < items.length) (h1 : items.length ≤ 1000) (ht : t < 1000000000) :
    Ok (g__law_one G [.ob b, .ob k] M) (fun d M' => d ∈ items ∧ Kb b M M' ∧ Dk M' b c (t + 1)) noE := by
  obtain ⟨d, M', a1, a2, _, a4, e⟩ := one_m G hb hk hne h0 h1 ht
  exact Ok.ofE e ⟨a1, a2, a4⟩
theorem length_w (G : Glo) {most : Int} (hb : Dk M b c t) (hm0 : 0 ≤ most) (hm1 : most ≤ 10 ^ 29) (ht : t < 100000000) :
    Ok (g__law_length G [.ob b, .int most] M) (fun d M' => ∃ i : Int, d = .int i ∧ 1 ≤ i ∧ i ≤ 10 ^ 30 ∧ (0 < most → i ≤ most) ∧ Kb b M M' ∧ Dk M' b c (t + 5)) noE := by
  obtain ⟨i, M', a1, a2, a3, a4, a5, e⟩ := length_k G hb hm0 hm1 ht
  exact Ok.ofE e ⟨i, rfl, a1, a2, a3, a4, a5⟩
theorem runs_w (G : Glo) {most many : Int} (hb : Dk M b c t) (hn0 : 1 ≤ many) (hn1 : many ≤ 20) (hm0 : 0 ≤ most) (hm1 : most ≤ 10 ^ 29) (ht : t < 1000000) :
    Ok (g__law_runs G [.ob b, .int many, .int most] M) (fun d M' => ∃ ps : List (Int × Int), d = .tup (ps.map runD) ∧ 1 ≤ ps.length ∧ (ps.length : Int) ≤ many ∧ Adj ps ∧ (∀ p ∈ ps, RunI p) ∧ (0 < most → ∀ p ∈ ps, p.2 ≤ most) ∧ Kb b M M' ∧ Dk M' b c (t + 200)) noE := by
  obtain ⟨ps, M', e, a1, a2, a3, a4, a5, a6, a7⟩ := runs_k G hb hn0 hn1 hm0 hm1 ht
  exact Ok.ofE e ⟨ps, rfl, a1, by omega, a3, a4, a5, a6, a7⟩
theorem odd_w (G : Glo) (hb : Dk M b c t) (ht : t < 1000000) : Ok (g__law_odd G [.ob b] M) (fun d M' => (∀ S : Nat → Prop, (∀ n, S n → n < M.length) → Fine S 4 100 M' d) ∧ Kb b M M' ∧ Dk M' b c (t + 1)) noE := by
  obtain ⟨d, M', e, a1, a2, a3⟩ := odd_m G hb ht
  exact Ok.ofE e ⟨a3, a1, a2⟩
theorem string_w (K : GOK G) {ps : List (Int × Int)} (hp : ∀ p ∈ ps, RunI p) (hA : Adj ps) (h1 : 1 ≤ ps.length) (hl : ps.length ≤ 6) :
    Ok (mkIA 2 "String" (g_String G) [.tup (ps.map runD)] M) (fun d M' => ∃ a, d = .ob a ∧ M.length ≤ a ∧ M'[a]? = some (.ins "String" (strF ps)) ∧ Ge M M') noE := by
  obtain ⟨M', e, a1, a2⟩ := string_ok (M := M) K hp hl (valid_err hp hA h1 hl) pl_runs
  exact Ok.ofE e ⟨_, rfl, Nat.le_refl _, a1, a2 _⟩
end
end K04

namespace RI
open PySem PySem.Spec PyProof.Rows L2
section
variable {M M' : Store} {S : Nat → Prop} {k n : Nat}
/-- a list of lists with given values -/
theorem lls_py {c : Nat} : ∀ {vs : List (List D)}, (∀ v ∈ vs, (∀ d ∈ v, Fine S k n M d) ∧ v.length ≤ c) → ∃ qs : List PyData, (∀ M' xs, Keep S M M' → xs.length = vs.length → (∀ (i : Nat) (v : List D), vs[i]? = some v → ∃ m, xs[i]? = some (.ob m) ∧ M'[m]? = some (.lst v)) → optAll (toPyR (k + 1) M') xs = some qs) ∧
    PyData.showableAll qs = true ∧ (∀ x ∈ PyData.shownAll qs, x.length ≤ c * (n + 2) + 3) ∧ (PyData.shownAll qs).length = vs.length ∧ PyData.depthAll qs ≤ k + 1
  | [], _ => ⟨[], fun M' xs _ hl _ => by rw [List.length_eq_zero_iff.mp hl]; rfl, rfl, fun x hx => by simp [PyData.shownAll] at hx, rfl, by simp [PyData.depthAll]⟩
  | v :: r, h => by
    obtain ⟨qs, q1, q2, q3, q4, q5⟩ := lls_py (vs := r) fun w hw => h w (List.mem_cons_of_mem _ hw)
    obtain ⟨hv, hl⟩ := h v List.mem_cons_self
    obtain ⟨ps, h1, h2, h3, h4, h5⟩ := fine_all hv
    have s1 : (PyData.list ps).showable = true := by simp [PyData.showable, h4]
    have s2 : (PyData.shown (.list ps)).length ≤ c * (n + 2) + 3 := by
      simp only [PyData.shown]
      exact Nat.le_trans (listText_len_le _) (all_len h2 (by omega))
    have s3 : (PyData.list ps).depth ≤ k + 1 := by simp only [PyData.depth]; omega
    refine ⟨.list ps :: qs, fun M' xs kp hl hx => ?_, ?_, ?_, ?_, ?_⟩
    · obtain ⟨m, e0, em⟩ := hx 0 v rfl
      cases xs with
      | nil => cases hl
      | cons x xr =>
        have ex : x = .ob m := Option.some.inj e0
        subst ex
        have ey : toPyR (k + 1) M' (.ob m) = some (.list ps) := list_py em (h1 M' kp)
        have er := q1 M' xr kp (by simpa using hl) fun i w hw => hx (i + 1) w hw
        simp only [optAll, ey, er]
        rfl
    · simp [PyData.showableAll, s1, q2]
    · intro x hx
      rw [PyData.shownAll] at hx
      rcases List.mem_cons.mp hx with rfl | hx
      · exact s2
      · exact q3 x hx
    · rw [PyData.shownAll, List.length_cons, List.length_cons, q4]
    · rw [PyData.depthAll]
      omega
theorem repr_lls {c : Nat} {vs : List (List D)} (h : ∀ v ∈ vs, (∀ d ∈ v, Fine S k n M d) ∧ v.length ≤ c) (hk : k ≤ 10) (hn : vs.length * (c * (n + 2) + 3 + 2) + 3 ≤ 100000) :
    ∃ z, ∀ M' a xs, Keep S M M' → M'[a]? = some (.lst xs) → xs.length = vs.length → (∀ (i : Nat) (v : List D), vs[i]? = some v → ∃ m, xs[i]? = some (.ob m) ∧ M'[m]? = some (.lst v)) → reprD [.ob a] M' = .ok (.str z) M' := by
  obtain ⟨qs, q1, q2, q3, q4, q5⟩ := lls_py h
  refine ⟨PyData.shown (.list qs), fun M' a xs kp ha hl hx => ?_⟩
  refine repr_py (toPyR_le (list_py ha (q1 M' xs kp hl hx)) (by omega)) (by simp [PyData.showable, q2]) ?_ (by simp only [PyData.depth]; omega)
  simp only [PyData.shown]
  exact Nat.le_trans (Nat.le_trans (listText_len_le _) (all_len (c := vs.length) q3 (by rw [q4]; exact Nat.le_refl _))) hn
end
end RI
namespace K04
open PySem PySem.Spec PyProof.Rows L2 RI
structure G4 (G : Glo) : Prop where
  K : GOK G
  xN : G.isExn "NoRun" = true
  fv : G.fld "NoRun" "number" = true
  e1 : G.exm "NoRun" "NoRun" = some true
  e2 : G.exm "BadString" "NoRun" = some false
  e3 : G.exm "BadString" "BadString" = some true
section
variable {G : Glo} {M M' : Store} {b c t n : Nat} {d x y : D} {S : Nat → Prop}
theorem Dk.geK (h : Dk M b c t) (k : Ge M M') : Dk M' b c t := RI.Dk.keep h k.all
theorem gf_runs (K : GOK G) {ps : List (Int × Int)} (hn : M[n]? = some (.ins "String" (strF ps))) : getFD G (.ob n) "own_runs" M = some (.tup (ps.map runD)) := by
  simp [getFD, hn, K.iS, K.f1, strF, List.lookup]
theorem p_runs (K : GOK G) {ps : List (Int × Int)} (hn : M[n]? = some (.ins "String" (strF ps))) : propD "String" (g_String_runs G) (.ob n) M = .ok (.tup (ps.map runD)) M := by
  simp -implicitDefEqProofs [propD, hn, g_String_runs, d_String_runs, startE, gf_runs K hn, noX]
theorem ap_meth {fo : Den D} {fs : Den (List D)} {c m : Str} {k : Nat} {g : List D → Store → Out D} {ρ : Env1} : denMeth fo fs c m k g ρ M = (fo ρ M).bind fun x M => if insD c m M x then (fs ρ M).bind fun ds M => if ds.length + 1 = k then g (x :: ds) M else .no else .no := rfl
theorem insD_ok {m : Str} {ps : List (Int × Int)} (hn : M[n]? = some (.ins "String" (strF ps))) (hm : (strF ([] : List (Int × Int))).lookup m = none) : insD "String" m M (.ob n) = true := by
  have e : (strF ps).lookup m = none := by
    simp only [strF, List.lookup] at hm ⊢
    revert hm
    cases (m == "own_runs") <;> cases (m == "own_length") <;> cases (m == "own_totals") <;> cases (m == "own_kinds") <;> simp
  simp [insD, hn, e]
theorem raise_nr (K : G4 G) {ρ : Env1} (hx : belowD M.length x = true) : raiseD 2 "NoRun" (g_NoRun G) [x] ρ M = .exc "NoRun" [("number", x)] ρ M := by
  have e : setFD G (.ob M.length) "number" x (M ++ [.exn "NoRun" none]) = some (M ++ [.exn "NoRun" (some (M.length + 1)), .xdo [("number", x)]]) := by
    simp [setFD, at_0, K.xN, K.fv]
  have e3 : g_NoRun G [.ob M.length, x] (M ++ [.exn "NoRun" none]) = .ok .non (M ++ [.exn "NoRun" (some (M.length + 1)), .xdo [("number", x)]]) := by
    simp -implicitDefEqProofs [g_NoRun, d_NoRun, startE, e]
  have bf : belowF M.length [("number", x)] = true := by simp [belowF, hx]
  simp [raiseD, e3, List.drop_left, List.take_left, bf]
/-! ### what a call comes to -/
def madeD (d : D) : List D := match errD d with
  | none => [.str "ok", d]
  | some (n, w) => [.str "bad", n, .str w]
def CallR (v : List D) (M : Store) : D → Store → Prop := fun d M' => ∃ (a : Nat) (ps : List (Int × Int)), d = .ob a ∧ M'[a]? = some (.ins "String" (strF ps)) ∧ v = [.str "ok", .tup (ps.map runD)] ∧ Ge M M'
def CallE (v : List D) (M : Store) : EX := fun c fs M' => Ge M M' ∧ ((c = "NoRun" ∧ ∃ x, fs = [(("number" : Str), x)] ∧ v = [.str "no", x]) ∨ (c = "BadString" ∧ ∃ n w, fs = [(("word" : Str), D.str w), (("number" : Str), n)] ∧ v = [.str "bad", n, .str w]))
theorem callr_up {M1 : Store} {v : List D} (k : Ge M M1) (h : CallR v M1 d M') : CallR v M d M' := by
  obtain ⟨a, ps, h1, h2, h3, h4⟩ := h
  exact ⟨a, ps, h1, h2, h3, k.trans h4⟩
theorem calle_up {M1 : Store} {v : List D} (k : Ge M M1) {c : Str} {fs : List (Str × D)} (h : CallE v M1 c fs M') : CallE v M c fs M' := ⟨k.trans h.1, h.2⟩
theorem ap_act {z : D} {call : Store → Out D} {r : Env1} : denAct z call (some z :: r) M = call M := if_pos rfl
theorem ap_xf2 {w : Str} (K : G4 G) {ρ : Env1} : denXfG G "BadString" [("word", .str w), ("number", x)] "number" ρ M = .ok x M := ap_xf K.K.fn (by
  have q : (("number" : Str) == "word") = false := by decide +kernel
  simp [List.lookup, q])
theorem ap_xf3 {w : Str} (K : G4 G) {ρ : Env1} : denXfG G "BadString" [("word", .str w), ("number", x)] "word" ρ M = .ok (.str w) M := ap_xf K.K.fw (by simp [List.lookup])
theorem ap_xf1 (K : G4 G) {ρ : Env1} : denXfG G "NoRun" [("number", x)] "number" ρ M = .ok x M := ap_xf K.fv (by simp [List.lookup])
end
end K04

namespace K04
open PySem PySem.Spec PyProof.Rows L2 RI
section
variable {G : Glo} {M M' : Store} {b c t n m : Nat} {d x y : D} {S : Nat → Prop}
theorem told_all (K : G4 G) {call : Store → Out D} {v : List D} (h : Ok (call M) (CallR v M) (CallE v M)) : ∃ a M', (∀ z, g__law_told G z call M = .ok (.ob a) M') ∧ M'[a]? = some (.lst v) ∧ Ge M M' ∧ M.length ≤ a := by
  cases hc : call M with
  | ok d M1 =>
    rw [hc] at h
    obtain ⟨a, ps, rfl, ha, rfl, k⟩ := h
    refine ⟨M1.length, M1 ++ [.lst [.str "ok", .tup (ps.map runD)]], fun z => Ok.eq ?_, by rw [at_0]; rfl, k.trans (Ge.app _), k.1⟩
    try simp -implicitDefEqProofs only [ok_ok, ok_exc, ok_bind, ok_of, oks_fl, oks_exc, oks_seq, nxt_nx, nxt_ret, nxt_brk, nxt_ct, oks_nx, oks_ret, oks_retN, retk, oks_asg, setk_nm, setk_tup, setAll, oks_drop, dropk, oks_ifs, ifk_t, ifk_f, oks_for, forkk, oks_par, park, oks_par3, par3k, stk, oks_setIx, oks_setF, ok_fin, fink_nx, fink_ret, ok_and, andk_t, andk_f, ok_or, ork_t, ork_f, ok_not, notk_t, notk_f, ok_asB, blk, ok_andV, andvk_t, andvk_f, ok_notV, notvk, ok_den3, d3k_t, d3k_f, ok_ife, ifek_t, ifek_f, loopk_nx, loopk_ct, loopk_brk, loopk_ret, onT_nm, onT_tup, ok_lc, gdk_t, gdk_f, exE_no, exS_no, exE_exS, ap_v, ap_c, ap_two, ap_call, ap_nil, ap_cons, ap_tup, ap_lst, ap_attr, ap_isi, ap_sl, ap_nopart, ap_it, ap_rng1, ap_rng2, ap_enA, ap_zip, ap_mt, ap_prop, ap_yes, ap_neg, ap_part, ap_two_c, of_some, op_addI, op_subI, startE, arity, Out.bind_ok, wipeE, List.map_cons, List.map_nil, List.getElem?_cons_zero, List.getElem?_cons_succ, Option.join_some, List.set_cons_zero, List.set_cons_succ, List.length_cons, List.length_nil, List.length_singleton, Nat.reduceAdd, Nat.reduceSub, Nat.zero_add, List.replicate, List.cons_append, List.nil_append, if_true, ite_true, eq_self, Bool.not_true, Bool.not_false, Bool.false_eq_true, reduceIte, true_and, and_true, decide_true, decide_false, line_c, Nat.reduceLeDiff, newL_small, List.length_append, List.append_assoc, Int.reduceSub, Int.reduceAdd, Int.reduceNeg, Int.reduceMul, cI_lt, cI_le, cI_gt, cI_ge, cI_ne, c_isnot, c_is, len_t, enA_t, ix_t0, ix_t1, ix_t2, ix_t3, pw18, pw20, pw30, pw31, ap_neg30, ap_rev, oks_raise, oks_try, exS_ap, exE_ap, ap_fmt, ap_xi, ap_zipX, ap_zipY, ap_step, oks_raise0, ap_partP, ok_tru, truk_t, g__law_told, d__law_told, d__law_told_1, oks_trys, ap_act, hc, p_runs K.K ha]
    exact ⟨rfl, rfl⟩
  | exc c fs M1 =>
    rw [hc] at h
    obtain ⟨k, ⟨rfl, x, rfl, rfl⟩ | ⟨rfl, n, w, rfl, rfl⟩⟩ := h
    · refine ⟨M1.length, M1 ++ [.lst [.str "no", x]], fun z => Ok.eq ?_, by rw [at_0]; rfl, k.trans (Ge.app _), k.1⟩
      try simp -implicitDefEqProofs only [ok_ok, ok_exc, ok_bind, ok_of, oks_fl, oks_exc, oks_seq, nxt_nx, nxt_ret, nxt_brk, nxt_ct, oks_nx, oks_ret, oks_retN, retk, oks_asg, setk_nm, setk_tup, setAll, oks_drop, dropk, oks_ifs, ifk_t, ifk_f, oks_for, forkk, oks_par, park, oks_par3, par3k, stk, oks_setIx, oks_setF, ok_fin, fink_nx, fink_ret, ok_and, andk_t, andk_f, ok_or, ork_t, ork_f, ok_not, notk_t, notk_f, ok_asB, blk, ok_andV, andvk_t, andvk_f, ok_notV, notvk, ok_den3, d3k_t, d3k_f, ok_ife, ifek_t, ifek_f, loopk_nx, loopk_ct, loopk_brk, loopk_ret, onT_nm, onT_tup, ok_lc, gdk_t, gdk_f, exE_no, exS_no, exE_exS, ap_v, ap_c, ap_two, ap_call, ap_nil, ap_cons, ap_tup, ap_lst, ap_attr, ap_isi, ap_sl, ap_nopart, ap_it, ap_rng1, ap_rng2, ap_enA, ap_zip, ap_mt, ap_prop, ap_yes, ap_neg, ap_part, ap_two_c, of_some, op_addI, op_subI, startE, arity, Out.bind_ok, wipeE, List.map_cons, List.map_nil, List.getElem?_cons_zero, List.getElem?_cons_succ, Option.join_some, List.set_cons_zero, List.set_cons_succ, List.length_cons, List.length_nil, List.length_singleton, Nat.reduceAdd, Nat.reduceSub, Nat.zero_add, List.replicate, List.cons_append, List.nil_append, if_true, ite_true, eq_self, Bool.not_true, Bool.not_false, Bool.false_eq_true, reduceIte, true_and, and_true, decide_true, decide_false, line_c, Nat.reduceLeDiff, newL_small, List.length_append, List.append_assoc, Int.reduceSub, Int.reduceAdd, Int.reduceNeg, Int.reduceMul, cI_lt, cI_le, cI_gt, cI_ge, cI_ne, c_isnot, c_is, len_t, enA_t, ix_t0, ix_t1, ix_t2, ix_t3, pw18, pw20, pw30, pw31, ap_neg30, ap_rev, oks_raise, oks_try, exS_ap, exE_ap, ap_fmt, ap_xi, ap_zipX, ap_zipY, ap_step, oks_raise0, ap_partP, ok_tru, truk_t, g__law_told, d__law_told, d__law_told_1, oks_trys, ap_act, hc]
      rw [CatX]
      refine tryx_t (emd_t K.xN K.e1) (by simp) ?_
      try simp -implicitDefEqProofs only [ok_ok, ok_exc, ok_bind, ok_of, oks_fl, oks_exc, oks_seq, nxt_nx, nxt_ret, nxt_brk, nxt_ct, oks_nx, oks_ret, oks_retN, retk, oks_asg, setk_nm, setk_tup, setAll, oks_drop, dropk, oks_ifs, ifk_t, ifk_f, oks_for, forkk, oks_par, park, oks_par3, par3k, stk, oks_setIx, oks_setF, ok_fin, fink_nx, fink_ret, ok_and, andk_t, andk_f, ok_or, ork_t, ork_f, ok_not, notk_t, notk_f, ok_asB, blk, ok_andV, andvk_t, andvk_f, ok_notV, notvk, ok_den3, d3k_t, d3k_f, ok_ife, ifek_t, ifek_f, loopk_nx, loopk_ct, loopk_brk, loopk_ret, onT_nm, onT_tup, ok_lc, gdk_t, gdk_f, exE_no, exS_no, exE_exS, ap_v, ap_c, ap_two, ap_call, ap_nil, ap_cons, ap_tup, ap_lst, ap_attr, ap_isi, ap_sl, ap_nopart, ap_it, ap_rng1, ap_rng2, ap_enA, ap_zip, ap_mt, ap_prop, ap_yes, ap_neg, ap_part, ap_two_c, of_some, op_addI, op_subI, startE, arity, Out.bind_ok, wipeE, List.map_cons, List.map_nil, List.getElem?_cons_zero, List.getElem?_cons_succ, Option.join_some, List.set_cons_zero, List.set_cons_succ, List.length_cons, List.length_nil, List.length_singleton, Nat.reduceAdd, Nat.reduceSub, Nat.zero_add, List.replicate, List.cons_append, List.nil_append, if_true, ite_true, eq_self, Bool.not_true, Bool.not_false, Bool.false_eq_true, reduceIte, true_and, and_true, decide_true, decide_false, line_c, Nat.reduceLeDiff, newL_small, List.length_append, List.append_assoc, Int.reduceSub, Int.reduceAdd, Int.reduceNeg, Int.reduceMul, cI_lt, cI_le, cI_gt, cI_ge, cI_ne, c_isnot, c_is, len_t, enA_t, ix_t0, ix_t1, ix_t2, ix_t3, pw18, pw20, pw30, pw31, ap_neg30, ap_rev, oks_raise, oks_try, exS_ap, exE_ap, ap_fmt, ap_xi, ap_zipX, ap_zipY, ap_step, oks_raise0, ap_partP, ok_tru, truk_t, ap_xf1 K]
      exact ⟨rfl, rfl⟩
    · refine ⟨M1.length, M1 ++ [.lst [.str "bad", n, .str w]], fun z => Ok.eq ?_, by rw [at_0]; rfl, k.trans (Ge.app _), k.1⟩
      try simp -implicitDefEqProofs only [ok_ok, ok_exc, ok_bind, ok_of, oks_fl, oks_exc, oks_seq, nxt_nx, nxt_ret, nxt_brk, nxt_ct, oks_nx, oks_ret, oks_retN, retk, oks_asg, setk_nm, setk_tup, setAll, oks_drop, dropk, oks_ifs, ifk_t, ifk_f, oks_for, forkk, oks_par, park, oks_par3, par3k, stk, oks_setIx, oks_setF, ok_fin, fink_nx, fink_ret, ok_and, andk_t, andk_f, ok_or, ork_t, ork_f, ok_not, notk_t, notk_f, ok_asB, blk, ok_andV, andvk_t, andvk_f, ok_notV, notvk, ok_den3, d3k_t, d3k_f, ok_ife, ifek_t, ifek_f, loopk_nx, loopk_ct, loopk_brk, loopk_ret, onT_nm, onT_tup, ok_lc, gdk_t, gdk_f, exE_no, exS_no, exE_exS, ap_v, ap_c, ap_two, ap_call, ap_nil, ap_cons, ap_tup, ap_lst, ap_attr, ap_isi, ap_sl, ap_nopart, ap_it, ap_rng1, ap_rng2, ap_enA, ap_zip, ap_mt, ap_prop, ap_yes, ap_neg, ap_part, ap_two_c, of_some, op_addI, op_subI, startE, arity, Out.bind_ok, wipeE, List.map_cons, List.map_nil, List.getElem?_cons_zero, List.getElem?_cons_succ, Option.join_some, List.set_cons_zero, List.set_cons_succ, List.length_cons, List.length_nil, List.length_singleton, Nat.reduceAdd, Nat.reduceSub, Nat.zero_add, List.replicate, List.cons_append, List.nil_append, if_true, ite_true, eq_self, Bool.not_true, Bool.not_false, Bool.false_eq_true, reduceIte, true_and, and_true, decide_true, decide_false, line_c, Nat.reduceLeDiff, newL_small, List.length_append, List.append_assoc, Int.reduceSub, Int.reduceAdd, Int.reduceNeg, Int.reduceMul, cI_lt, cI_le, cI_gt, cI_ge, cI_ne, c_isnot, c_is, len_t, enA_t, ix_t0, ix_t1, ix_t2, ix_t3, pw18, pw20, pw30, pw31, ap_neg30, ap_rev, oks_raise, oks_try, exS_ap, exE_ap, ap_fmt, ap_xi, ap_zipX, ap_zipY, ap_step, oks_raise0, ap_partP, ok_tru, truk_t, g__law_told, d__law_told, d__law_told_1, oks_trys, ap_act, hc]
      rw [CatX]
      refine tryx_f (emd_t K.K.xB K.e2) ?_
      rw [CatX]
      refine tryx_t (emd_t K.K.xB K.e3) (by simp) ?_
      try simp -implicitDefEqProofs only [ok_ok, ok_exc, ok_bind, ok_of, oks_fl, oks_exc, oks_seq, nxt_nx, nxt_ret, nxt_brk, nxt_ct, oks_nx, oks_ret, oks_retN, retk, oks_asg, setk_nm, setk_tup, setAll, oks_drop, dropk, oks_ifs, ifk_t, ifk_f, oks_for, forkk, oks_par, park, oks_par3, par3k, stk, oks_setIx, oks_setF, ok_fin, fink_nx, fink_ret, ok_and, andk_t, andk_f, ok_or, ork_t, ork_f, ok_not, notk_t, notk_f, ok_asB, blk, ok_andV, andvk_t, andvk_f, ok_notV, notvk, ok_den3, d3k_t, d3k_f, ok_ife, ifek_t, ifek_f, loopk_nx, loopk_ct, loopk_brk, loopk_ret, onT_nm, onT_tup, ok_lc, gdk_t, gdk_f, exE_no, exS_no, exE_exS, ap_v, ap_c, ap_two, ap_call, ap_nil, ap_cons, ap_tup, ap_lst, ap_attr, ap_isi, ap_sl, ap_nopart, ap_it, ap_rng1, ap_rng2, ap_enA, ap_zip, ap_mt, ap_prop, ap_yes, ap_neg, ap_part, ap_two_c, of_some, op_addI, op_subI, startE, arity, Out.bind_ok, wipeE, List.map_cons, List.map_nil, List.getElem?_cons_zero, List.getElem?_cons_succ, Option.join_some, List.set_cons_zero, List.set_cons_succ, List.length_cons, List.length_nil, List.length_singleton, Nat.reduceAdd, Nat.reduceSub, Nat.zero_add, List.replicate, List.cons_append, List.nil_append, if_true, ite_true, eq_self, Bool.not_true, Bool.not_false, Bool.false_eq_true, reduceIte, true_and, and_true, decide_true, decide_false, line_c, Nat.reduceLeDiff, newL_small, List.length_append, List.append_assoc, Int.reduceSub, Int.reduceAdd, Int.reduceNeg, Int.reduceMul, cI_lt, cI_le, cI_gt, cI_ge, cI_ne, c_isnot, c_is, len_t, enA_t, ix_t0, ix_t1, ix_t2, ix_t3, pw18, pw20, pw30, pw31, ap_neg30, ap_rev, oks_raise, oks_try, exS_ap, exE_ap, ap_fmt, ap_xi, ap_zipX, ap_zipY, ap_step, oks_raise0, ap_partP, ok_tru, truk_t, ap_xf2 K, ap_xf3 K]
      exact ⟨rfl, rfl⟩
  | no =>
    rw [hc] at h
    exact h.elim
theorem ok_lam (K : G4 G) {P : Addr} {fe : Den D} {ρ : Env1} {v : List D} {Q : D → Store → Prop} {E : EX} (h1 : M[1]? = some (.tab P lamQ)) (h : Ok (fe ρ M) (CallR v M) (CallE v M)) (k : ∀ a M', M'[a]? = some (.lst v) → Ge M M' → M.length ≤ a → Q (.ob a) M') : Ok (denLam P lamQ (g__law_told G) fe ρ M) Q E := by
  obtain ⟨a, M', e, ha, kk, hl⟩ := told_all K h
  exact Ok.ofE (lam_ok h1 e) (k a M' ha kk hl)
theorem mk_any (K : GOK G) (h : Pl M d) : Ok (mkIA 2 "String" (g_String G) [d] M) (CallR (madeD d) M) (CallE (madeD d) M) := by
  have hpl : Pl (M ++ [.ins "String" []]) d := h.ge (Ge.app _)
  cases q : errD d with
  | none =>
    obtain ⟨ps, rfl, hp, h1, h2⟩ := errD_none q
    obtain ⟨M1, e1, a1, k1⟩ := string_ok K hp h2 q hpl
    exact Ok.ofE e1 ⟨_, ps, rfl, a1, by unfold madeD; rw [q], k1 _⟩
  | some p =>
    obtain ⟨n, w⟩ := p
    obtain ⟨M1, hM1⟩ : ∃ N : Store, N = M ++ [.ins "String" []] := ⟨_, rfl⟩
    have ck := chk_eq K hpl
    rw [q, ← hM1] at ck
    have e1 : mkIA 2 "String" (g_String G) [d] M = .exc "BadString" [("word", .str w), ("number", n)] M1 := by
      have ck' : g_check_runs G [d] M1 = .exc "BadString" [("word", .str w), ("number", n)] M1 := ck
      have ev : g_String G [.ob M.length, d] M1 = .exc "BadString" [("word", .str w), ("number", n)] M1 := by
        simp -implicitDefEqProofs [g_String, d_String, startE, arity, ck', finD]
      simp -implicitDefEqProofs [mkIA, mkID, ← hM1, ev]
    rw [e1]
    exact ⟨by rw [hM1]; exact Ge.app _, .inr ⟨rfl, n, w, rfl, by unfold madeD; rw [q]⟩⟩
theorem made_w (K : GOK G) (h : Pl M d) : Ok (g__law_made G [d] M) (fun r M' => ∃ a, r = .ob a ∧ M'[a]? = some (.lst (madeD d)) ∧ Ge M M') noE := by
  try simp -implicitDefEqProofs only [ok_ok, ok_exc, ok_bind, ok_of, oks_fl, oks_exc, oks_seq, nxt_nx, nxt_ret, nxt_brk, nxt_ct, oks_nx, oks_ret, oks_retN, retk, oks_asg, setk_nm, setk_tup, setAll, oks_drop, dropk, oks_ifs, ifk_t, ifk_f, oks_for, forkk, oks_par, park, oks_par3, par3k, stk, oks_setIx, oks_setF, ok_fin, fink_nx, fink_ret, ok_and, andk_t, andk_f, ok_or, ork_t, ork_f, ok_not, notk_t, notk_f, ok_asB, blk, ok_andV, andvk_t, andvk_f, ok_notV, notvk, ok_den3, d3k_t, d3k_f, ok_ife, ifek_t, ifek_f, loopk_nx, loopk_ct, loopk_brk, loopk_ret, onT_nm, onT_tup, ok_lc, gdk_t, gdk_f, exE_no, exS_no, exE_exS, ap_v, ap_c, ap_two, ap_call, ap_nil, ap_cons, ap_tup, ap_lst, ap_attr, ap_isi, ap_sl, ap_nopart, ap_it, ap_rng1, ap_rng2, ap_enA, ap_zip, ap_mt, ap_prop, ap_yes, ap_neg, ap_part, ap_two_c, of_some, op_addI, op_subI, startE, arity, Out.bind_ok, wipeE, List.map_cons, List.map_nil, List.getElem?_cons_zero, List.getElem?_cons_succ, Option.join_some, List.set_cons_zero, List.set_cons_succ, List.length_cons, List.length_nil, List.length_singleton, Nat.reduceAdd, Nat.reduceSub, Nat.zero_add, List.replicate, List.cons_append, List.nil_append, if_true, ite_true, eq_self, Bool.not_true, Bool.not_false, Bool.false_eq_true, reduceIte, true_and, and_true, decide_true, decide_false, line_c, Nat.reduceLeDiff, newL_small, List.length_append, List.append_assoc, Int.reduceSub, Int.reduceAdd, Int.reduceNeg, Int.reduceMul, cI_lt, cI_le, cI_gt, cI_ge, cI_ne, c_isnot, c_is, len_t, enA_t, ix_t0, ix_t1, ix_t2, ix_t3, pw18, pw20, pw30, pw31, ap_neg30, ap_rev, oks_raise, oks_try, exS_ap, exE_ap, ap_fmt, ap_xi, ap_zipX, ap_zipY, ap_step, oks_raise0, ap_partP, ok_tru, truk_t, g__law_made, d__law_made, err_eq K h]
  cases q : errD d with
  | none =>
    have e : isNonD (errO none) = true := rfl
    try simp -implicitDefEqProofs only [ok_ok, ok_exc, ok_bind, ok_of, oks_fl, oks_exc, oks_seq, nxt_nx, nxt_ret, nxt_brk, nxt_ct, oks_nx, oks_ret, oks_retN, retk, oks_asg, setk_nm, setk_tup, setAll, oks_drop, dropk, oks_ifs, ifk_t, ifk_f, oks_for, forkk, oks_par, park, oks_par3, par3k, stk, oks_setIx, oks_setF, ok_fin, fink_nx, fink_ret, ok_and, andk_t, andk_f, ok_or, ork_t, ork_f, ok_not, notk_t, notk_f, ok_asB, blk, ok_andV, andvk_t, andvk_f, ok_notV, notvk, ok_den3, d3k_t, d3k_f, ok_ife, ifek_t, ifek_f, loopk_nx, loopk_ct, loopk_brk, loopk_ret, onT_nm, onT_tup, ok_lc, gdk_t, gdk_f, exE_no, exS_no, exE_exS, ap_v, ap_c, ap_two, ap_call, ap_nil, ap_cons, ap_tup, ap_lst, ap_attr, ap_isi, ap_sl, ap_nopart, ap_it, ap_rng1, ap_rng2, ap_enA, ap_zip, ap_mt, ap_prop, ap_yes, ap_neg, ap_part, ap_two_c, of_some, op_addI, op_subI, startE, arity, Out.bind_ok, wipeE, List.map_cons, List.map_nil, List.getElem?_cons_zero, List.getElem?_cons_succ, Option.join_some, List.set_cons_zero, List.set_cons_succ, List.length_cons, List.length_nil, List.length_singleton, Nat.reduceAdd, Nat.reduceSub, Nat.zero_add, List.replicate, List.cons_append, List.nil_append, if_true, ite_true, eq_self, Bool.not_true, Bool.not_false, Bool.false_eq_true, reduceIte, true_and, and_true, decide_true, decide_false, line_c, Nat.reduceLeDiff, newL_small, List.length_append, List.append_assoc, Int.reduceSub, Int.reduceAdd, Int.reduceNeg, Int.reduceMul, cI_lt, cI_le, cI_gt, cI_ge, cI_ne, c_isnot, c_is, len_t, enA_t, ix_t0, ix_t1, ix_t2, ix_t3, pw18, pw20, pw30, pw31, ap_neg30, ap_rev, oks_raise, oks_try, exS_ap, exE_ap, ap_fmt, ap_xi, ap_zipX, ap_zipY, ap_step, oks_raise0, ap_partP, ok_tru, truk_t, e]
    exact ⟨_, rfl, by rw [at_0]; unfold madeD; rw [q]; rfl, Ge.app _⟩
  | some p =>
    obtain ⟨n, w⟩ := p
    have e : isNonD (errO (some (n, w))) = false := rfl
    have e1 : errO (some (n, w)) = .tup [n, .str w] := rfl
    try simp -implicitDefEqProofs only [ok_ok, ok_exc, ok_bind, ok_of, oks_fl, oks_exc, oks_seq, nxt_nx, nxt_ret, nxt_brk, nxt_ct, oks_nx, oks_ret, oks_retN, retk, oks_asg, setk_nm, setk_tup, setAll, oks_drop, dropk, oks_ifs, ifk_t, ifk_f, oks_for, forkk, oks_par, park, oks_par3, par3k, stk, oks_setIx, oks_setF, ok_fin, fink_nx, fink_ret, ok_and, andk_t, andk_f, ok_or, ork_t, ork_f, ok_not, notk_t, notk_f, ok_asB, blk, ok_andV, andvk_t, andvk_f, ok_notV, notvk, ok_den3, d3k_t, d3k_f, ok_ife, ifek_t, ifek_f, loopk_nx, loopk_ct, loopk_brk, loopk_ret, onT_nm, onT_tup, ok_lc, gdk_t, gdk_f, exE_no, exS_no, exE_exS, ap_v, ap_c, ap_two, ap_call, ap_nil, ap_cons, ap_tup, ap_lst, ap_attr, ap_isi, ap_sl, ap_nopart, ap_it, ap_rng1, ap_rng2, ap_enA, ap_zip, ap_mt, ap_prop, ap_yes, ap_neg, ap_part, ap_two_c, of_some, op_addI, op_subI, startE, arity, Out.bind_ok, wipeE, List.map_cons, List.map_nil, List.getElem?_cons_zero, List.getElem?_cons_succ, Option.join_some, List.set_cons_zero, List.set_cons_succ, List.length_cons, List.length_nil, List.length_singleton, Nat.reduceAdd, Nat.reduceSub, Nat.zero_add, List.replicate, List.cons_append, List.nil_append, if_true, ite_true, eq_self, Bool.not_true, Bool.not_false, Bool.false_eq_true, reduceIte, true_and, and_true, decide_true, decide_false, line_c, Nat.reduceLeDiff, newL_small, List.length_append, List.append_assoc, Int.reduceSub, Int.reduceAdd, Int.reduceNeg, Int.reduceMul, cI_lt, cI_le, cI_gt, cI_ge, cI_ne, c_isnot, c_is, len_t, enA_t, ix_t0, ix_t1, ix_t2, ix_t3, pw18, pw20, pw30, pw31, ap_neg30, ap_rev, oks_raise, oks_try, exS_ap, exE_ap, ap_fmt, ap_xi, ap_zipX, ap_zipY, ap_step, oks_raise0, ap_partP, ok_tru, truk_t, e, e1]
    exact ⟨_, rfl, by rw [at_0]; unfold madeD; rw [q]; rfl, Ge.app _⟩
theorem adj_rev {ps : List (Int × Int)} (hA : Adj ps) : Adj ps.reverse := by
  intro i x y hx hy
  have l2 := (List.getElem?_eq_some_iff.mp hy).1
  rw [List.length_reverse] at l2
  rw [List.getElem?_reverse (by omega)] at hx hy
  refine (hA _ y x hy ?_).symm
  rw [← hx]
  congr 1
  omega
/-- right runs -/
structure Rn (ps : List (Int × Int)) : Prop where
  p : ∀ p ∈ ps, RunI p
  A : Adj ps
  l1 : 1 ≤ ps.length
  l6 : ps.length ≤ 6
theorem Rn.rev {ps : List (Int × Int)} (h : Rn ps) : Rn ps.reverse := ⟨fun p hp => h.p p (List.mem_reverse.mp hp), adj_rev h.A, by rw [List.length_reverse]; exact h.l1, by rw [List.length_reverse]; exact h.l6⟩
theorem Rn.made {ps : List (Int × Int)} (h : Rn ps) : madeD (.tup (ps.map runD)) = [.str "ok", .tup (ps.map runD)] := by
  unfold madeD
  rw [valid_err h.p h.A h.l1 h.l6]
theorem turned_w (K : GOK G) {ps : List (Int × Int)} (R : Rn ps) (hn : M[n]? = some (.ins "String" (strF ps))) :
    Ok (g_String_turned G [.ob n] M) (fun d M' => ∃ a, d = .ob a ∧ M'[a]? = some (.ins "String" (strF ps.reverse)) ∧ Ge M M') noE := by
  have l6 := R.l6
  have e : ((ps.map runD).reverse) = ps.reverse.map runD := by rw [List.map_reverse]
  try simp -implicitDefEqProofs only [ok_ok, ok_exc, ok_bind, ok_of, oks_fl, oks_exc, oks_seq, nxt_nx, nxt_ret, nxt_brk, nxt_ct, oks_nx, oks_ret, oks_retN, retk, oks_asg, setk_nm, setk_tup, setAll, oks_drop, dropk, oks_ifs, ifk_t, ifk_f, oks_for, forkk, oks_par, park, oks_par3, par3k, stk, oks_setIx, oks_setF, ok_fin, fink_nx, fink_ret, ok_and, andk_t, andk_f, ok_or, ork_t, ork_f, ok_not, notk_t, notk_f, ok_asB, blk, ok_andV, andvk_t, andvk_f, ok_notV, notvk, ok_den3, d3k_t, d3k_f, ok_ife, ifek_t, ifek_f, loopk_nx, loopk_ct, loopk_brk, loopk_ret, onT_nm, onT_tup, ok_lc, gdk_t, gdk_f, exE_no, exS_no, exE_exS, ap_v, ap_c, ap_two, ap_call, ap_nil, ap_cons, ap_tup, ap_lst, ap_attr, ap_isi, ap_sl, ap_nopart, ap_it, ap_rng1, ap_rng2, ap_enA, ap_zip, ap_mt, ap_prop, ap_yes, ap_neg, ap_part, ap_two_c, of_some, op_addI, op_subI, startE, arity, Out.bind_ok, wipeE, List.map_cons, List.map_nil, List.getElem?_cons_zero, List.getElem?_cons_succ, Option.join_some, List.set_cons_zero, List.set_cons_succ, List.length_cons, List.length_nil, List.length_singleton, Nat.reduceAdd, Nat.reduceSub, Nat.zero_add, List.replicate, List.cons_append, List.nil_append, if_true, ite_true, eq_self, Bool.not_true, Bool.not_false, Bool.false_eq_true, reduceIte, true_and, and_true, decide_true, decide_false, line_c, Nat.reduceLeDiff, newL_small, List.length_append, List.append_assoc, Int.reduceSub, Int.reduceAdd, Int.reduceNeg, Int.reduceMul, cI_lt, cI_le, cI_gt, cI_ge, cI_ne, c_isnot, c_is, len_t, enA_t, ix_t0, ix_t1, ix_t2, ix_t3, pw18, pw20, pw30, pw31, ap_neg30, ap_rev, oks_raise, oks_try, exS_ap, exE_ap, ap_fmt, ap_xi, ap_zipX, ap_zipY, ap_step, oks_raise0, ap_partP, ok_tru, truk_t, g_String_turned, d_String_turned, gf_runs K hn, rev_t (M := M) (ds := ps.map runD) (by rw [List.length_map]; omega), e]
  have R2 := R.rev
  refine (string_w K R2.p R2.A R2.l1 R2.l6).imp ?_
  rintro _ M1 ⟨a, rfl, _, ha, k⟩
  exact ⟨a, rfl, ha, k⟩
/-! ### a run put -/
def withD (ps : List (Int × Int)) (v r : D) : List D := if isW v 0 ((ps.length : Int) - 1) then (match v with
  | .int i => madeD (.tup ((ps.map runD).take i.toNat ++ [r] ++ (ps.map runD).drop (i + 1).toNat))
  | _ => []) else [.str "no", v]
theorem with_w (K : G4 G) {ps : List (Int × Int)} (R : Rn ps) (hn : M[n]? = some (.ins "String" (strF ps))) (hv : Pl M x) (hr : ∀ i : Nat, Pl M (.tup ((ps.map runD).take i ++ [y] ++ (ps.map runD).drop (i + 1)))) :
    Ok (g_String_with_run G [.ob n, x, y] M) (CallR (withD ps x y) M) (CallE (withD ps x y) M) := by
  have l6 := R.l6
  have w := whole_eq K.K.T hv 0 ((ps.length : Int) - 1)
  try simp -implicitDefEqProofs only [ok_ok, ok_exc, ok_bind, ok_of, oks_fl, oks_exc, oks_seq, nxt_nx, nxt_ret, nxt_brk, nxt_ct, oks_nx, oks_ret, oks_retN, retk, oks_asg, setk_nm, setk_tup, setAll, oks_drop, dropk, oks_ifs, ifk_t, ifk_f, oks_for, forkk, oks_par, park, oks_par3, par3k, stk, oks_setIx, oks_setF, ok_fin, fink_nx, fink_ret, ok_and, andk_t, andk_f, ok_or, ork_t, ork_f, ok_not, notk_t, notk_f, ok_asB, blk, ok_andV, andvk_t, andvk_f, ok_notV, notvk, ok_den3, d3k_t, d3k_f, ok_ife, ifek_t, ifek_f, loopk_nx, loopk_ct, loopk_brk, loopk_ret, onT_nm, onT_tup, ok_lc, gdk_t, gdk_f, exE_no, exS_no, exE_exS, ap_v, ap_c, ap_two, ap_call, ap_nil, ap_cons, ap_tup, ap_lst, ap_attr, ap_isi, ap_sl, ap_nopart, ap_it, ap_rng1, ap_rng2, ap_enA, ap_zip, ap_mt, ap_prop, ap_yes, ap_neg, ap_part, ap_two_c, of_some, op_addI, op_subI, startE, arity, Out.bind_ok, wipeE, List.map_cons, List.map_nil, List.getElem?_cons_zero, List.getElem?_cons_succ, Option.join_some, List.set_cons_zero, List.set_cons_succ, List.length_cons, List.length_nil, List.length_singleton, Nat.reduceAdd, Nat.reduceSub, Nat.zero_add, List.replicate, List.cons_append, List.nil_append, if_true, ite_true, eq_self, Bool.not_true, Bool.not_false, Bool.false_eq_true, reduceIte, true_and, and_true, decide_true, decide_false, line_c, Nat.reduceLeDiff, newL_small, List.length_append, List.append_assoc, Int.reduceSub, Int.reduceAdd, Int.reduceNeg, Int.reduceMul, cI_lt, cI_le, cI_gt, cI_ge, cI_ne, c_isnot, c_is, len_t, enA_t, ix_t0, ix_t1, ix_t2, ix_t3, pw18, pw20, pw30, pw31, ap_neg30, ap_rev, oks_raise, oks_try, exS_ap, exE_ap, ap_fmt, ap_xi, ap_zipX, ap_zipY, ap_step, oks_raise0, ap_partP, ok_tru, truk_t, g_String_with_run, d_String_with_run, gf_runs K.K hn, List.length_map, w]
  cases q : isW x 0 ((ps.length : Int) - 1) with
  | false =>
    try simp -implicitDefEqProofs only [ok_ok, ok_exc, ok_bind, ok_of, oks_fl, oks_exc, oks_seq, nxt_nx, nxt_ret, nxt_brk, nxt_ct, oks_nx, oks_ret, oks_retN, retk, oks_asg, setk_nm, setk_tup, setAll, oks_drop, dropk, oks_ifs, ifk_t, ifk_f, oks_for, forkk, oks_par, park, oks_par3, par3k, stk, oks_setIx, oks_setF, ok_fin, fink_nx, fink_ret, ok_and, andk_t, andk_f, ok_or, ork_t, ork_f, ok_not, notk_t, notk_f, ok_asB, blk, ok_andV, andvk_t, andvk_f, ok_notV, notvk, ok_den3, d3k_t, d3k_f, ok_ife, ifek_t, ifek_f, loopk_nx, loopk_ct, loopk_brk, loopk_ret, onT_nm, onT_tup, ok_lc, gdk_t, gdk_f, exE_no, exS_no, exE_exS, ap_v, ap_c, ap_two, ap_call, ap_nil, ap_cons, ap_tup, ap_lst, ap_attr, ap_isi, ap_sl, ap_nopart, ap_it, ap_rng1, ap_rng2, ap_enA, ap_zip, ap_mt, ap_prop, ap_yes, ap_neg, ap_part, ap_two_c, of_some, op_addI, op_subI, startE, arity, Out.bind_ok, wipeE, List.map_cons, List.map_nil, List.getElem?_cons_zero, List.getElem?_cons_succ, Option.join_some, List.set_cons_zero, List.set_cons_succ, List.length_cons, List.length_nil, List.length_singleton, Nat.reduceAdd, Nat.reduceSub, Nat.zero_add, List.replicate, List.cons_append, List.nil_append, if_true, ite_true, eq_self, Bool.not_true, Bool.not_false, Bool.false_eq_true, reduceIte, true_and, and_true, decide_true, decide_false, line_c, Nat.reduceLeDiff, newL_small, List.length_append, List.append_assoc, Int.reduceSub, Int.reduceAdd, Int.reduceNeg, Int.reduceMul, cI_lt, cI_le, cI_gt, cI_ge, cI_ne, c_isnot, c_is, len_t, enA_t, ix_t0, ix_t1, ix_t2, ix_t3, pw18, pw20, pw30, pw31, ap_neg30, ap_rev, oks_raise, oks_try, exS_ap, exE_ap, ap_fmt, ap_xi, ap_zipX, ap_zipY, ap_step, oks_raise0, ap_partP, ok_tru, truk_t, raise_nr K hv.below]
    exact ⟨Ge.refl, .inl ⟨rfl, x, rfl, by unfold withD; rw [if_neg (by rw [q]; exact Bool.false_ne_true)]⟩⟩
  | true =>
    obtain ⟨i, rfl, i0, i1⟩ := isW_int q
    have t1 : ∀ M, opD .Add (.tup ((ps.map runD).take i.toNat)) (.tup [y]) M = .ok (.tup ((ps.map runD).take i.toNat ++ [y])) M := fun M => add_t (by rw [List.length_take, List.length_map]; simp; omega)
    have t2 : ∀ M, opD .Add (.tup ((ps.map runD).take i.toNat ++ [y])) (.tup ((ps.map runD).drop (i + 1).toNat)) M = .ok (.tup ((ps.map runD).take i.toNat ++ [y] ++ (ps.map runD).drop (i + 1).toNat)) M := fun M => add_t (by rw [List.length_append, List.length_take, List.length_drop, List.length_map]; simp; omega)
    try simp -implicitDefEqProofs only [ok_ok, ok_exc, ok_bind, ok_of, oks_fl, oks_exc, oks_seq, nxt_nx, nxt_ret, nxt_brk, nxt_ct, oks_nx, oks_ret, oks_retN, retk, oks_asg, setk_nm, setk_tup, setAll, oks_drop, dropk, oks_ifs, ifk_t, ifk_f, oks_for, forkk, oks_par, park, oks_par3, par3k, stk, oks_setIx, oks_setF, ok_fin, fink_nx, fink_ret, ok_and, andk_t, andk_f, ok_or, ork_t, ork_f, ok_not, notk_t, notk_f, ok_asB, blk, ok_andV, andvk_t, andvk_f, ok_notV, notvk, ok_den3, d3k_t, d3k_f, ok_ife, ifek_t, ifek_f, loopk_nx, loopk_ct, loopk_brk, loopk_ret, onT_nm, onT_tup, ok_lc, gdk_t, gdk_f, exE_no, exS_no, exE_exS, ap_v, ap_c, ap_two, ap_call, ap_nil, ap_cons, ap_tup, ap_lst, ap_attr, ap_isi, ap_sl, ap_nopart, ap_it, ap_rng1, ap_rng2, ap_enA, ap_zip, ap_mt, ap_prop, ap_yes, ap_neg, ap_part, ap_two_c, of_some, op_addI, op_subI, startE, arity, Out.bind_ok, wipeE, List.map_cons, List.map_nil, List.getElem?_cons_zero, List.getElem?_cons_succ, Option.join_some, List.set_cons_zero, List.set_cons_succ, List.length_cons, List.length_nil, List.length_singleton, Nat.reduceAdd, Nat.reduceSub, Nat.zero_add, List.replicate, List.cons_append, List.nil_append, if_true, ite_true, eq_self, Bool.not_true, Bool.not_false, Bool.false_eq_true, reduceIte, true_and, and_true, decide_true, decide_false, line_c, Nat.reduceLeDiff, newL_small, List.length_append, Int.reduceSub, Int.reduceAdd, Int.reduceNeg, Int.reduceMul, cI_lt, cI_le, cI_gt, cI_ge, cI_ne, c_isnot, c_is, len_t, enA_t, ix_t0, ix_t1, ix_t2, ix_t3, pw18, pw20, pw30, pw31, ap_neg30, ap_rev, oks_raise, oks_try, exS_ap, exE_ap, ap_fmt, ap_xi, ap_zipX, ap_zipY, ap_step, oks_raise0, ap_partP, ok_tru, truk_t, sl_to (M := M) (ds := ps.map runD) i0, ap_two_c, sl_from (M := M) (ds := ps.map runD) (p := i + 1) (by omega), t1, t2]
    have e : withD ps (.int i) y = madeD (.tup ((ps.map runD).take i.toNat ++ [y] ++ (ps.map runD).drop (i + 1).toNat)) := by
      unfold withD
      rw [if_pos q]
    rw [e]
    refine mk_any K.K ?_
    have := hr i.toNat
    rw [show (i + 1).toNat = i.toNat + 1 by omega]
    exact this
theorem lwith_w (K : G4 G) {ps : List (Int × Int)} (R : Rn ps) (hv : Pl M x) (hr : ∀ i : Nat, Pl M (.tup ((ps.map runD).take i ++ [y] ++ (ps.map runD).drop (i + 1)))) :
    Ok (g__law_with G [.tup (ps.map runD), x, y] M) (fun d M' => ∃ a, d = .ob a ∧ M'[a]? = some (.lst (withD ps x y)) ∧ Ge M M') noE := by
  have l6 := R.l6
  have w := lwhole_eq K.K.T hv 0 ((ps.length : Int) - 1)
  try simp -implicitDefEqProofs only [ok_ok, ok_exc, ok_bind, ok_of, oks_fl, oks_exc, oks_seq, nxt_nx, nxt_ret, nxt_brk, nxt_ct, oks_nx, oks_ret, oks_retN, retk, oks_asg, setk_nm, setk_tup, setAll, oks_drop, dropk, oks_ifs, ifk_t, ifk_f, oks_for, forkk, oks_par, park, oks_par3, par3k, stk, oks_setIx, oks_setF, ok_fin, fink_nx, fink_ret, ok_and, andk_t, andk_f, ok_or, ork_t, ork_f, ok_not, notk_t, notk_f, ok_asB, blk, ok_andV, andvk_t, andvk_f, ok_notV, notvk, ok_den3, d3k_t, d3k_f, ok_ife, ifek_t, ifek_f, loopk_nx, loopk_ct, loopk_brk, loopk_ret, onT_nm, onT_tup, ok_lc, gdk_t, gdk_f, exE_no, exS_no, exE_exS, ap_v, ap_c, ap_two, ap_call, ap_nil, ap_cons, ap_tup, ap_lst, ap_attr, ap_isi, ap_sl, ap_nopart, ap_it, ap_rng1, ap_rng2, ap_enA, ap_zip, ap_mt, ap_prop, ap_yes, ap_neg, ap_part, ap_two_c, of_some, op_addI, op_subI, startE, arity, Out.bind_ok, wipeE, List.map_cons, List.map_nil, List.getElem?_cons_zero, List.getElem?_cons_succ, Option.join_some, List.set_cons_zero, List.set_cons_succ, List.length_cons, List.length_nil, List.length_singleton, Nat.reduceAdd, Nat.reduceSub, Nat.zero_add, List.replicate, List.cons_append, List.nil_append, if_true, ite_true, eq_self, Bool.not_true, Bool.not_false, Bool.false_eq_true, reduceIte, true_and, and_true, decide_true, decide_false, line_c, Nat.reduceLeDiff, newL_small, List.length_append, List.append_assoc, Int.reduceSub, Int.reduceAdd, Int.reduceNeg, Int.reduceMul, cI_lt, cI_le, cI_gt, cI_ge, cI_ne, c_isnot, c_is, len_t, enA_t, ix_t0, ix_t1, ix_t2, ix_t3, pw18, pw20, pw30, pw31, ap_neg30, ap_rev, oks_raise, oks_try, exS_ap, exE_ap, ap_fmt, ap_xi, ap_zipX, ap_zipY, ap_step, oks_raise0, ap_partP, ok_tru, truk_t, g__law_with, d__law_with, List.length_map, w]
  cases q : isW x 0 ((ps.length : Int) - 1) with
  | false =>
    try simp -implicitDefEqProofs only [ok_ok, ok_exc, ok_bind, ok_of, oks_fl, oks_exc, oks_seq, nxt_nx, nxt_ret, nxt_brk, nxt_ct, oks_nx, oks_ret, oks_retN, retk, oks_asg, setk_nm, setk_tup, setAll, oks_drop, dropk, oks_ifs, ifk_t, ifk_f, oks_for, forkk, oks_par, park, oks_par3, par3k, stk, oks_setIx, oks_setF, ok_fin, fink_nx, fink_ret, ok_and, andk_t, andk_f, ok_or, ork_t, ork_f, ok_not, notk_t, notk_f, ok_asB, blk, ok_andV, andvk_t, andvk_f, ok_notV, notvk, ok_den3, d3k_t, d3k_f, ok_ife, ifek_t, ifek_f, loopk_nx, loopk_ct, loopk_brk, loopk_ret, onT_nm, onT_tup, ok_lc, gdk_t, gdk_f, exE_no, exS_no, exE_exS, ap_v, ap_c, ap_two, ap_call, ap_nil, ap_cons, ap_tup, ap_lst, ap_attr, ap_isi, ap_sl, ap_nopart, ap_it, ap_rng1, ap_rng2, ap_enA, ap_zip, ap_mt, ap_prop, ap_yes, ap_neg, ap_part, ap_two_c, of_some, op_addI, op_subI, startE, arity, Out.bind_ok, wipeE, List.map_cons, List.map_nil, List.getElem?_cons_zero, List.getElem?_cons_succ, Option.join_some, List.set_cons_zero, List.set_cons_succ, List.length_cons, List.length_nil, List.length_singleton, Nat.reduceAdd, Nat.reduceSub, Nat.zero_add, List.replicate, List.cons_append, List.nil_append, if_true, ite_true, eq_self, Bool.not_true, Bool.not_false, Bool.false_eq_true, reduceIte, true_and, and_true, decide_true, decide_false, line_c, Nat.reduceLeDiff, newL_small, List.length_append, List.append_assoc, Int.reduceSub, Int.reduceAdd, Int.reduceNeg, Int.reduceMul, cI_lt, cI_le, cI_gt, cI_ge, cI_ne, c_isnot, c_is, len_t, enA_t, ix_t0, ix_t1, ix_t2, ix_t3, pw18, pw20, pw30, pw31, ap_neg30, ap_rev, oks_raise, oks_try, exS_ap, exE_ap, ap_fmt, ap_xi, ap_zipX, ap_zipY, ap_step, oks_raise0, ap_partP, ok_tru, truk_t]
    exact ⟨_, rfl, by rw [at_0]; unfold withD; rw [if_neg (by rw [q]; exact Bool.false_ne_true)]; rfl, Ge.app _⟩
  | true =>
    obtain ⟨i, rfl, i0, i1⟩ := isW_int q
    have t1 : ∀ M, opD .Add (.tup ((ps.map runD).take i.toNat)) (.tup [y]) M = .ok (.tup ((ps.map runD).take i.toNat ++ [y])) M := fun M => add_t (by rw [List.length_take, List.length_map]; simp; omega)
    have t2 : ∀ M, opD .Add (.tup ((ps.map runD).take i.toNat ++ [y])) (.tup ((ps.map runD).drop (i + 1).toNat)) M = .ok (.tup ((ps.map runD).take i.toNat ++ [y] ++ (ps.map runD).drop (i + 1).toNat)) M := fun M => add_t (by rw [List.length_append, List.length_take, List.length_drop, List.length_map]; simp; omega)
    try simp -implicitDefEqProofs only [ok_ok, ok_exc, ok_bind, ok_of, oks_fl, oks_exc, oks_seq, nxt_nx, nxt_ret, nxt_brk, nxt_ct, oks_nx, oks_ret, oks_retN, retk, oks_asg, setk_nm, setk_tup, setAll, oks_drop, dropk, oks_ifs, ifk_t, ifk_f, oks_for, forkk, oks_par, park, oks_par3, par3k, stk, oks_setIx, oks_setF, ok_fin, fink_nx, fink_ret, ok_and, andk_t, andk_f, ok_or, ork_t, ork_f, ok_not, notk_t, notk_f, ok_asB, blk, ok_andV, andvk_t, andvk_f, ok_notV, notvk, ok_den3, d3k_t, d3k_f, ok_ife, ifek_t, ifek_f, loopk_nx, loopk_ct, loopk_brk, loopk_ret, onT_nm, onT_tup, ok_lc, gdk_t, gdk_f, exE_no, exS_no, exE_exS, ap_v, ap_c, ap_two, ap_call, ap_nil, ap_cons, ap_tup, ap_lst, ap_attr, ap_isi, ap_sl, ap_nopart, ap_it, ap_rng1, ap_rng2, ap_enA, ap_zip, ap_mt, ap_prop, ap_yes, ap_neg, ap_part, ap_two_c, of_some, op_addI, op_subI, startE, arity, Out.bind_ok, wipeE, List.map_cons, List.map_nil, List.getElem?_cons_zero, List.getElem?_cons_succ, Option.join_some, List.set_cons_zero, List.set_cons_succ, List.length_cons, List.length_nil, List.length_singleton, Nat.reduceAdd, Nat.reduceSub, Nat.zero_add, List.replicate, List.cons_append, List.nil_append, if_true, ite_true, eq_self, Bool.not_true, Bool.not_false, Bool.false_eq_true, reduceIte, true_and, and_true, decide_true, decide_false, line_c, Nat.reduceLeDiff, newL_small, List.length_append, Int.reduceSub, Int.reduceAdd, Int.reduceNeg, Int.reduceMul, cI_lt, cI_le, cI_gt, cI_ge, cI_ne, c_isnot, c_is, len_t, enA_t, ix_t0, ix_t1, ix_t2, ix_t3, pw18, pw20, pw30, pw31, ap_neg30, ap_rev, oks_raise, oks_try, exS_ap, exE_ap, ap_fmt, ap_xi, ap_zipX, ap_zipY, ap_step, oks_raise0, ap_partP, ok_tru, truk_t, sl_to (M := M) (ds := ps.map runD) i0, ap_two_c, sl_from (M := M) (ds := ps.map runD) (p := i + 1) (by omega), t1, t2]
    have e : withD ps (.int i) y = madeD (.tup ((ps.map runD).take i.toNat ++ [y] ++ (ps.map runD).drop (i + 1).toNat)) := by
      unfold withD
      rw [if_pos q]
    rw [e]
    refine made_w K.K ?_
    have := hr i.toNat
    rw [show (i + 1).toNat = i.toNat + 1 by omega]
    exact this
/-! ### joined -/
def joinD (ps qs : List (Int × Int)) (p q : Int × Int) : D := if p.1 = q.1 then .tup (ps.dropLast.map runD ++ [runD (p.1, p.2 + q.2)] ++ (qs.drop 1).map runD) else .tup (ps.map runD ++ qs.map runD)
theorem last_at {ps : List (Int × Int)} {p : Int × Int} (hp : ps.getLast? = some p) : ∀ M, ixD (.tup (ps.map runD)) (.int (-1)) M = .ok (.tup [.int p.1, .int p.2]) M := fun M => ix_t (atI_last (by rw [List.getLast?_map, hp]; rfl))
theorem head_at {qs : List (Int × Int)} {q : Int × Int} (hq : qs.head? = some q) : ∀ M, ixD (.tup (qs.map runD)) (.int 0) M = .ok (.tup [.int q.1, .int q.2]) M := fun M => by
  cases qs with
  | nil => cases hq
  | cons a r =>
    cases hq
    exact ix_t0
theorem cut_last {ps : List (Int × Int)} (h : 1 ≤ ps.length) : RI.cutD (ps.map runD) none (some (-1)) = ps.dropLast.map runD := by
  rw [cut_toN (by decide), List.dropLast_eq_take, List.map_take, List.length_map, show ((ps.length : Int) + (-1)).toNat = ps.length - 1 by omega]
theorem ap_partN {i : Int} {ρ : Env1} : denPart (denNeg (dc (.int i))) ρ M = .ok (some (-i)) M := rfl
theorem join_eq (G : Glo) {ps qs : List (Int × Int)} {p q : Int × Int} (R : Rn ps) (T : Rn qs) (hp : ps.getLast? = some p) (hq : qs.head? = some q) : g_join_runs G [.tup (ps.map runD), .tup (qs.map runD)] M = .ok (joinD ps qs p q) M := by
  have r6 := R.l6
  have t6 := T.l6
  have P := R.p p (List.mem_of_getLast? hp)
  have Q := T.p q (List.mem_of_head? hq)
  obtain ⟨a1, a2, a3, a4⟩ := P
  obtain ⟨b1, b2, b3, b4⟩ := Q
  refine Ok.eq ?_
  try simp -implicitDefEqProofs only [ok_ok, ok_exc, ok_bind, ok_of, oks_fl, oks_exc, oks_seq, nxt_nx, nxt_ret, nxt_brk, nxt_ct, oks_nx, oks_ret, oks_retN, retk, oks_asg, setk_nm, setk_tup, setAll, oks_drop, dropk, oks_ifs, ifk_t, ifk_f, oks_for, forkk, oks_par, park, oks_par3, par3k, stk, oks_setIx, oks_setF, ok_fin, fink_nx, fink_ret, ok_and, andk_t, andk_f, ok_or, ork_t, ork_f, ok_not, notk_t, notk_f, ok_asB, blk, ok_andV, andvk_t, andvk_f, ok_notV, notvk, ok_den3, d3k_t, d3k_f, ok_ife, ifek_t, ifek_f, loopk_nx, loopk_ct, loopk_brk, loopk_ret, onT_nm, onT_tup, ok_lc, gdk_t, gdk_f, exE_no, exS_no, exE_exS, ap_v, ap_c, ap_two, ap_call, ap_nil, ap_cons, ap_tup, ap_lst, ap_attr, ap_isi, ap_sl, ap_nopart, ap_it, ap_rng1, ap_rng2, ap_enA, ap_zip, ap_mt, ap_prop, ap_yes, ap_neg, ap_part, ap_two_c, of_some, op_addI, op_subI, startE, arity, Out.bind_ok, wipeE, List.map_cons, List.map_nil, List.getElem?_cons_zero, List.getElem?_cons_succ, Option.join_some, List.set_cons_zero, List.set_cons_succ, List.length_cons, List.length_nil, List.length_singleton, Nat.reduceAdd, Nat.reduceSub, Nat.zero_add, List.replicate, List.cons_append, List.nil_append, if_true, ite_true, eq_self, Bool.not_true, Bool.not_false, Bool.false_eq_true, reduceIte, true_and, and_true, decide_true, decide_false, line_c, Nat.reduceLeDiff, newL_small, List.length_append, List.append_assoc, Int.reduceSub, Int.reduceAdd, Int.reduceNeg, Int.reduceMul, cI_lt, cI_le, cI_gt, cI_ge, cI_ne, c_isnot, c_is, len_t, enA_t, ix_t0, ix_t1, ix_t2, ix_t3, pw18, pw20, pw30, pw31, ap_neg30, ap_rev, oks_raise, oks_try, exS_ap, exE_ap, ap_fmt, ap_xi, ap_zipX, ap_zipY, ap_step, oks_raise0, ap_partP, ok_tru, truk_t, g_join_runs, d_join_runs, last_at hp, head_at hq]
  by_cases h : p.1 = q.1
  · have e : (p.1 == q.1) = true := by simp [h]
    have t1 : ∀ M, opD .Add (.tup (ps.dropLast.map runD)) (.tup [.tup [.int p.1, .int (p.2 + q.2)]]) M = .ok (.tup (ps.dropLast.map runD ++ [.tup [.int p.1, .int (p.2 + q.2)]])) M := fun M => add_t (by rw [List.length_map, List.length_dropLast]; simp; omega)
    have t2 : ∀ M, opD .Add (.tup (ps.dropLast.map runD ++ [.tup [.int p.1, .int (p.2 + q.2)]])) (.tup ((qs.drop 1).map runD)) M = .ok (.tup (ps.dropLast.map runD ++ [.tup [.int p.1, .int (p.2 + q.2)]] ++ (qs.drop 1).map runD)) M := fun M => add_t (by rw [List.length_append, List.length_map, List.length_map, List.length_dropLast, List.length_drop]; simp; omega)
    have s1 : ∀ M, slD (.tup (qs.map runD)) (some 1) none M = .ok (.tup ((qs.drop 1).map runD)) M := fun M => by rw [sl_from (by decide), List.map_drop]; rfl
    try simp -implicitDefEqProofs only [ok_ok, ok_exc, ok_bind, ok_of, oks_fl, oks_exc, oks_seq, nxt_nx, nxt_ret, nxt_brk, nxt_ct, oks_nx, oks_ret, oks_retN, retk, oks_asg, setk_nm, setk_tup, setAll, oks_drop, dropk, oks_ifs, ifk_t, ifk_f, oks_for, forkk, oks_par, park, oks_par3, par3k, stk, oks_setIx, oks_setF, ok_fin, fink_nx, fink_ret, ok_and, andk_t, andk_f, ok_or, ork_t, ork_f, ok_not, notk_t, notk_f, ok_asB, blk, ok_andV, andvk_t, andvk_f, ok_notV, notvk, ok_den3, d3k_t, d3k_f, ok_ife, ifek_t, ifek_f, loopk_nx, loopk_ct, loopk_brk, loopk_ret, onT_nm, onT_tup, ok_lc, gdk_t, gdk_f, exE_no, exS_no, exE_exS, ap_v, ap_c, ap_two, ap_call, ap_nil, ap_cons, ap_tup, ap_lst, ap_attr, ap_isi, ap_sl, ap_nopart, ap_it, ap_rng1, ap_rng2, ap_enA, ap_zip, ap_mt, ap_prop, ap_yes, ap_neg, ap_part, ap_two_c, of_some, op_addI, op_subI, startE, arity, Out.bind_ok, wipeE, List.map_cons, List.map_nil, List.getElem?_cons_zero, List.getElem?_cons_succ, Option.join_some, List.set_cons_zero, List.set_cons_succ, List.length_cons, List.length_nil, List.length_singleton, Nat.reduceAdd, Nat.reduceSub, Nat.zero_add, List.replicate, List.cons_append, List.nil_append, if_true, ite_true, eq_self, Bool.not_true, Bool.not_false, Bool.false_eq_true, reduceIte, true_and, and_true, decide_true, decide_false, line_c, Nat.reduceLeDiff, newL_small, List.length_append, Int.reduceSub, Int.reduceAdd, Int.reduceNeg, Int.reduceMul, cI_lt, cI_le, cI_gt, cI_ge, cI_ne, c_isnot, c_is, len_t, enA_t, ix_t0, ix_t1, ix_t2, ix_t3, pw18, pw20, pw30, pw31, ap_neg30, ap_rev, oks_raise, oks_try, exS_ap, exE_ap, ap_fmt, ap_xi, ap_zipX, ap_zipY, ap_step, oks_raise0, ap_partP, ok_tru, truk_t, e, ap_partN, cut_last R.l1, sl_t, ap_partP, s1, t1, t2]
    exact ⟨by unfold joinD; rw [if_pos h]; rfl, rfl⟩
  · have e : (p.1 == q.1) = false := by simp [h]
    have t1 : ∀ M, opD .Add (.tup (ps.map runD)) (.tup (qs.map runD)) M = .ok (.tup (ps.map runD ++ qs.map runD)) M := fun M => add_t (by rw [List.length_map, List.length_map]; omega)
    try simp -implicitDefEqProofs only [ok_ok, ok_exc, ok_bind, ok_of, oks_fl, oks_exc, oks_seq, nxt_nx, nxt_ret, nxt_brk, nxt_ct, oks_nx, oks_ret, oks_retN, retk, oks_asg, setk_nm, setk_tup, setAll, oks_drop, dropk, oks_ifs, ifk_t, ifk_f, oks_for, forkk, oks_par, park, oks_par3, par3k, stk, oks_setIx, oks_setF, ok_fin, fink_nx, fink_ret, ok_and, andk_t, andk_f, ok_or, ork_t, ork_f, ok_not, notk_t, notk_f, ok_asB, blk, ok_andV, andvk_t, andvk_f, ok_notV, notvk, ok_den3, d3k_t, d3k_f, ok_ife, ifek_t, ifek_f, loopk_nx, loopk_ct, loopk_brk, loopk_ret, onT_nm, onT_tup, ok_lc, gdk_t, gdk_f, exE_no, exS_no, exE_exS, ap_v, ap_c, ap_two, ap_call, ap_nil, ap_cons, ap_tup, ap_lst, ap_attr, ap_isi, ap_sl, ap_nopart, ap_it, ap_rng1, ap_rng2, ap_enA, ap_zip, ap_mt, ap_prop, ap_yes, ap_neg, ap_part, ap_two_c, of_some, op_addI, op_subI, startE, arity, Out.bind_ok, wipeE, List.map_cons, List.map_nil, List.getElem?_cons_zero, List.getElem?_cons_succ, Option.join_some, List.set_cons_zero, List.set_cons_succ, List.length_cons, List.length_nil, List.length_singleton, Nat.reduceAdd, Nat.reduceSub, Nat.zero_add, List.replicate, List.cons_append, List.nil_append, if_true, ite_true, eq_self, Bool.not_true, Bool.not_false, Bool.false_eq_true, reduceIte, true_and, and_true, decide_true, decide_false, line_c, Nat.reduceLeDiff, newL_small, List.length_append, List.append_assoc, Int.reduceSub, Int.reduceAdd, Int.reduceNeg, Int.reduceMul, cI_lt, cI_le, cI_gt, cI_ge, cI_ne, c_isnot, c_is, len_t, enA_t, ix_t0, ix_t1, ix_t2, ix_t3, pw18, pw20, pw30, pw31, ap_neg30, ap_rev, oks_raise, oks_try, exS_ap, exE_ap, ap_fmt, ap_xi, ap_zipX, ap_zipY, ap_step, oks_raise0, ap_partP, ok_tru, truk_t, e, t1]
    exact ⟨by unfold joinD; rw [if_neg h], rfl⟩
theorem Rn.last {ps : List (Int × Int)} (R : Rn ps) : ∃ p, ps.getLast? = some p ∧ RunI p := by
  cases e : ps.getLast? with
  | none =>
    have := R.l1
    rw [List.getLast?_eq_none_iff.mp e] at this
    cases this
  | some p => exact ⟨p, rfl, R.p p (List.mem_of_getLast? e)⟩
theorem Rn.head {ps : List (Int × Int)} (R : Rn ps) : ∃ p, ps.head? = some p ∧ RunI p := by
  cases e : ps.head? with
  | none =>
    have := R.l1
    rw [List.head?_eq_none_iff.mp e] at this
    cases this
  | some p => exact ⟨p, rfl, R.p p (List.mem_of_head? e)⟩
theorem fine_rn {p : Int × Int} (hp : RunI p) : Fine S 5 80 M (runD p) := by
  obtain ⟨a1, a2, a3, a4⟩ := hp
  exact (fine_tup (k := 3) (n := 34) (c := 2) (ds := [.int p.1, .int p.2]) (fun d hd => by
    simp only [List.mem_cons, List.not_mem_nil, or_false] at hd
    rcases hd with rfl | rfl <;> exact fine_int (j := 32) (by decide) (by omega) (by decide) (by decide) (by decide)) (by simp)).up (by decide) (by decide)
theorem fine_pr {p q : Int × Int} (hp : RunI p) (hq : RunI q) : Fine S 5 80 M (runD (p.1, p.2 + q.2)) := by
  obtain ⟨a1, a2, a3, a4⟩ := hp
  obtain ⟨b1, b2, b3, b4⟩ := hq
  exact (fine_tup (k := 3) (n := 34) (c := 2) (ds := [.int p.1, .int (p.2 + q.2)]) (fun d hd => by
    simp only [List.mem_cons, List.not_mem_nil, or_false] at hd
    rcases hd with rfl | rfl <;> exact fine_int (j := 32) (by decide) (by omega) (by decide) (by decide) (by decide)) (by simp)).up (by decide) (by decide)
theorem join_fine {ps qs : List (Int × Int)} {p q : Int × Int} (R : Rn ps) (T : Rn qs) (hp : RunI p) (hq : RunI q) : Fine S 6 1100 M (joinD ps qs p q) := by
  have r6 := R.l6
  have t6 := T.l6
  have fr : ∀ {l : List (Int × Int)}, (∀ x ∈ l, RunI x) → ∀ d ∈ l.map runD, Fine S 5 80 M d := fun h d hd => by
    obtain ⟨x, hx, rfl⟩ := List.mem_map.mp hd
    exact fine_rn (h x hx)
  unfold joinD
  split
  · refine (fine_tup (k := 5) (n := 80) (c := 12) (fun d hd => ?_) (by simp; omega)).up (by decide) (by decide)
    rw [List.mem_append, List.mem_append] at hd
    rcases hd with (h | h) | h
    · exact fr (fun x hx => R.p x (List.dropLast_subset _ hx)) d h
    · rw [List.mem_singleton] at h
      rw [h]
      exact fine_pr hp hq
    · exact fr (fun x hx => T.p x (List.mem_of_mem_drop hx)) d h
  · refine (fine_tup (k := 5) (n := 80) (c := 12) (fun d hd => ?_) (by simp; omega)).up (by decide) (by decide)
    rw [List.mem_append] at hd
    rcases hd with h | h
    · exact fr R.p d h
    · exact fr T.p d h
theorem joined_w (K : G4 G) {ps qs : List (Int × Int)} {p q : Int × Int} (R : Rn ps) (T : Rn qs) (hp : ps.getLast? = some p) (hq : qs.head? = some q) (hn : M[n]? = some (.ins "String" (strF ps))) (hm : M[m]? = some (.ins "String" (strF qs))) :
    Ok (g_String_joined G [.ob n, .ob m] M) (CallR (madeD (joinD ps qs p q)) M) (CallE (madeD (joinD ps qs p q)) M) := by
  try simp -implicitDefEqProofs only [ok_ok, ok_exc, ok_bind, ok_of, oks_fl, oks_exc, oks_seq, nxt_nx, nxt_ret, nxt_brk, nxt_ct, oks_nx, oks_ret, oks_retN, retk, oks_asg, setk_nm, setk_tup, setAll, oks_drop, dropk, oks_ifs, ifk_t, ifk_f, oks_for, forkk, oks_par, park, oks_par3, par3k, stk, oks_setIx, oks_setF, ok_fin, fink_nx, fink_ret, ok_and, andk_t, andk_f, ok_or, ork_t, ork_f, ok_not, notk_t, notk_f, ok_asB, blk, ok_andV, andvk_t, andvk_f, ok_notV, notvk, ok_den3, d3k_t, d3k_f, ok_ife, ifek_t, ifek_f, loopk_nx, loopk_ct, loopk_brk, loopk_ret, onT_nm, onT_tup, ok_lc, gdk_t, gdk_f, exE_no, exS_no, exE_exS, ap_v, ap_c, ap_two, ap_call, ap_nil, ap_cons, ap_tup, ap_lst, ap_attr, ap_isi, ap_sl, ap_nopart, ap_it, ap_rng1, ap_rng2, ap_enA, ap_zip, ap_mt, ap_prop, ap_yes, ap_neg, ap_part, ap_two_c, of_some, op_addI, op_subI, startE, arity, Out.bind_ok, wipeE, List.map_cons, List.map_nil, List.getElem?_cons_zero, List.getElem?_cons_succ, Option.join_some, List.set_cons_zero, List.set_cons_succ, List.length_cons, List.length_nil, List.length_singleton, Nat.reduceAdd, Nat.reduceSub, Nat.zero_add, List.replicate, List.cons_append, List.nil_append, if_true, ite_true, eq_self, Bool.not_true, Bool.not_false, Bool.false_eq_true, reduceIte, true_and, and_true, decide_true, decide_false, line_c, Nat.reduceLeDiff, newL_small, List.length_append, List.append_assoc, Int.reduceSub, Int.reduceAdd, Int.reduceNeg, Int.reduceMul, cI_lt, cI_le, cI_gt, cI_ge, cI_ne, c_isnot, c_is, len_t, enA_t, ix_t0, ix_t1, ix_t2, ix_t3, pw18, pw20, pw30, pw31, ap_neg30, ap_rev, oks_raise, oks_try, exS_ap, exE_ap, ap_fmt, ap_xi, ap_zipX, ap_zipY, ap_step, oks_raise0, ap_partP, ok_tru, truk_t, g_String_joined, d_String_joined, gf_runs K.K hn, gf_runs K.K hm, join_eq G R T hp hq]
  exact mk_any K.K (join_fine (S := fun _ => False) R T (R.p p (List.mem_of_getLast? hp)) (T.p q (List.mem_of_head? hq))).pl
theorem both_w (K : G4 G) {ps qs : List (Int × Int)} {p q : Int × Int} (R : Rn ps) (T : Rn qs) (hp : ps.getLast? = some p) (hq : qs.head? = some q) :
    Ok (g__law_both G [.tup (ps.map runD), .tup (qs.map runD)] M) (fun d M' => ∃ a, d = .ob a ∧ M'[a]? = some (.lst (madeD (joinD ps qs p q))) ∧ Ge M M') noE := by
  have r6 := R.l6
  have t6 := T.l6
  obtain ⟨a1, a2, a3, a4⟩ := R.p p (List.mem_of_getLast? hp)
  obtain ⟨b1, b2, b3, b4⟩ := T.p q (List.mem_of_head? hq)
  have pl := (join_fine (S := fun _ => False) (M := M) R T (R.p p (List.mem_of_getLast? hp)) (T.p q (List.mem_of_head? hq))).pl
  try simp -implicitDefEqProofs only [ok_ok, ok_exc, ok_bind, ok_of, oks_fl, oks_exc, oks_seq, nxt_nx, nxt_ret, nxt_brk, nxt_ct, oks_nx, oks_ret, oks_retN, retk, oks_asg, setk_nm, setk_tup, setAll, oks_drop, dropk, oks_ifs, ifk_t, ifk_f, oks_for, forkk, oks_par, park, oks_par3, par3k, stk, oks_setIx, oks_setF, ok_fin, fink_nx, fink_ret, ok_and, andk_t, andk_f, ok_or, ork_t, ork_f, ok_not, notk_t, notk_f, ok_asB, blk, ok_andV, andvk_t, andvk_f, ok_notV, notvk, ok_den3, d3k_t, d3k_f, ok_ife, ifek_t, ifek_f, loopk_nx, loopk_ct, loopk_brk, loopk_ret, onT_nm, onT_tup, ok_lc, gdk_t, gdk_f, exE_no, exS_no, exE_exS, ap_v, ap_c, ap_two, ap_call, ap_nil, ap_cons, ap_tup, ap_lst, ap_attr, ap_isi, ap_sl, ap_nopart, ap_it, ap_rng1, ap_rng2, ap_enA, ap_zip, ap_mt, ap_prop, ap_yes, ap_neg, ap_part, ap_two_c, of_some, op_addI, op_subI, startE, arity, Out.bind_ok, wipeE, List.map_cons, List.map_nil, List.getElem?_cons_zero, List.getElem?_cons_succ, Option.join_some, List.set_cons_zero, List.set_cons_succ, List.length_cons, List.length_nil, List.length_singleton, Nat.reduceAdd, Nat.reduceSub, Nat.zero_add, List.replicate, List.cons_append, List.nil_append, if_true, ite_true, eq_self, Bool.not_true, Bool.not_false, Bool.false_eq_true, reduceIte, true_and, and_true, decide_true, decide_false, line_c, Nat.reduceLeDiff, newL_small, List.length_append, List.append_assoc, Int.reduceSub, Int.reduceAdd, Int.reduceNeg, Int.reduceMul, cI_lt, cI_le, cI_gt, cI_ge, cI_ne, c_isnot, c_is, len_t, enA_t, ix_t0, ix_t1, ix_t2, ix_t3, pw18, pw20, pw30, pw31, ap_neg30, ap_rev, oks_raise, oks_try, exS_ap, exE_ap, ap_fmt, ap_xi, ap_zipX, ap_zipY, ap_step, oks_raise0, ap_partP, ok_tru, truk_t, g__law_both, d__law_both, last_at hp, head_at hq]
  by_cases h : p.1 = q.1
  · have e : (p.1 == q.1) = true := by simp [h]
    have t1 : ∀ M, opD .Add (.tup (ps.dropLast.map runD)) (.tup [.tup [.int p.1, .int (p.2 + q.2)]]) M = .ok (.tup (ps.dropLast.map runD ++ [.tup [.int p.1, .int (p.2 + q.2)]])) M := fun M => add_t (by rw [List.length_map, List.length_dropLast]; simp; omega)
    have t2 : ∀ M, opD .Add (.tup (ps.dropLast.map runD ++ [.tup [.int p.1, .int (p.2 + q.2)]])) (.tup ((qs.drop 1).map runD)) M = .ok (.tup (ps.dropLast.map runD ++ [.tup [.int p.1, .int (p.2 + q.2)]] ++ (qs.drop 1).map runD)) M := fun M => add_t (by rw [List.length_append, List.length_map, List.length_map, List.length_dropLast, List.length_drop]; simp; omega)
    have s1 : ∀ M, slD (.tup (qs.map runD)) (some 1) none M = .ok (.tup ((qs.drop 1).map runD)) M := fun M => by rw [sl_from (by decide), List.map_drop]; rfl
    have ej : joinD ps qs p q = .tup (ps.dropLast.map runD ++ [.tup [.int p.1, .int (p.2 + q.2)]] ++ (qs.drop 1).map runD) := by unfold joinD; rw [if_pos h]; rfl
    try simp -implicitDefEqProofs only [ok_ok, ok_exc, ok_bind, ok_of, oks_fl, oks_exc, oks_seq, nxt_nx, nxt_ret, nxt_brk, nxt_ct, oks_nx, oks_ret, oks_retN, retk, oks_asg, setk_nm, setk_tup, setAll, oks_drop, dropk, oks_ifs, ifk_t, ifk_f, oks_for, forkk, oks_par, park, oks_par3, par3k, stk, oks_setIx, oks_setF, ok_fin, fink_nx, fink_ret, ok_and, andk_t, andk_f, ok_or, ork_t, ork_f, ok_not, notk_t, notk_f, ok_asB, blk, ok_andV, andvk_t, andvk_f, ok_notV, notvk, ok_den3, d3k_t, d3k_f, ok_ife, ifek_t, ifek_f, loopk_nx, loopk_ct, loopk_brk, loopk_ret, onT_nm, onT_tup, ok_lc, gdk_t, gdk_f, exE_no, exS_no, exE_exS, ap_v, ap_c, ap_two, ap_call, ap_nil, ap_cons, ap_tup, ap_lst, ap_attr, ap_isi, ap_sl, ap_nopart, ap_it, ap_rng1, ap_rng2, ap_enA, ap_zip, ap_mt, ap_prop, ap_yes, ap_neg, ap_part, ap_two_c, of_some, op_addI, op_subI, startE, arity, Out.bind_ok, wipeE, List.map_cons, List.map_nil, List.getElem?_cons_zero, List.getElem?_cons_succ, Option.join_some, List.set_cons_zero, List.set_cons_succ, List.length_cons, List.length_nil, List.length_singleton, Nat.reduceAdd, Nat.reduceSub, Nat.zero_add, List.replicate, List.cons_append, List.nil_append, if_true, ite_true, eq_self, Bool.not_true, Bool.not_false, Bool.false_eq_true, reduceIte, true_and, and_true, decide_true, decide_false, line_c, Nat.reduceLeDiff, newL_small, List.length_append, Int.reduceSub, Int.reduceAdd, Int.reduceNeg, Int.reduceMul, cI_lt, cI_le, cI_gt, cI_ge, cI_ne, c_isnot, c_is, len_t, enA_t, ix_t0, ix_t1, ix_t2, ix_t3, pw18, pw20, pw30, pw31, ap_neg30, ap_rev, oks_raise, oks_try, exS_ap, exE_ap, ap_fmt, ap_xi, ap_zipX, ap_zipY, ap_step, oks_raise0, ap_partP, ok_tru, truk_t, e, ap_partN, last_at hp, head_at hq, cut_last R.l1, sl_t, ap_partP, s1, t1, t2]
    rw [← ej]
    exact made_w K.K pl
  · have e : (p.1 == q.1) = false := by simp [h]
    have t1 : ∀ M, opD .Add (.tup (ps.map runD)) (.tup (qs.map runD)) M = .ok (.tup (ps.map runD ++ qs.map runD)) M := fun M => add_t (by rw [List.length_map, List.length_map]; omega)
    have ej : joinD ps qs p q = .tup (ps.map runD ++ qs.map runD) := by unfold joinD; rw [if_neg h]
    try simp -implicitDefEqProofs only [ok_ok, ok_exc, ok_bind, ok_of, oks_fl, oks_exc, oks_seq, nxt_nx, nxt_ret, nxt_brk, nxt_ct, oks_nx, oks_ret, oks_retN, retk, oks_asg, setk_nm, setk_tup, setAll, oks_drop, dropk, oks_ifs, ifk_t, ifk_f, oks_for, forkk, oks_par, park, oks_par3, par3k, stk, oks_setIx, oks_setF, ok_fin, fink_nx, fink_ret, ok_and, andk_t, andk_f, ok_or, ork_t, ork_f, ok_not, notk_t, notk_f, ok_asB, blk, ok_andV, andvk_t, andvk_f, ok_notV, notvk, ok_den3, d3k_t, d3k_f, ok_ife, ifek_t, ifek_f, loopk_nx, loopk_ct, loopk_brk, loopk_ret, onT_nm, onT_tup, ok_lc, gdk_t, gdk_f, exE_no, exS_no, exE_exS, ap_v, ap_c, ap_two, ap_call, ap_nil, ap_cons, ap_tup, ap_lst, ap_attr, ap_isi, ap_sl, ap_nopart, ap_it, ap_rng1, ap_rng2, ap_enA, ap_zip, ap_mt, ap_prop, ap_yes, ap_neg, ap_part, ap_two_c, of_some, op_addI, op_subI, startE, arity, Out.bind_ok, wipeE, List.map_cons, List.map_nil, List.getElem?_cons_zero, List.getElem?_cons_succ, Option.join_some, List.set_cons_zero, List.set_cons_succ, List.length_cons, List.length_nil, List.length_singleton, Nat.reduceAdd, Nat.reduceSub, Nat.zero_add, List.replicate, List.cons_append, List.nil_append, if_true, ite_true, eq_self, Bool.not_true, Bool.not_false, Bool.false_eq_true, reduceIte, true_and, and_true, decide_true, decide_false, line_c, Nat.reduceLeDiff, newL_small, List.length_append, List.append_assoc, Int.reduceSub, Int.reduceAdd, Int.reduceNeg, Int.reduceMul, cI_lt, cI_le, cI_gt, cI_ge, cI_ne, c_isnot, c_is, len_t, enA_t, ix_t0, ix_t1, ix_t2, ix_t3, pw18, pw20, pw30, pw31, ap_neg30, ap_rev, oks_raise, oks_try, exS_ap, exE_ap, ap_fmt, ap_xi, ap_zipX, ap_zipY, ap_step, oks_raise0, ap_partP, ok_tru, truk_t, e, t1]
    rw [← ej]
    exact made_w K.K pl
theorem bent_w (G : Glo) {p : Int × Int} (hp : RunI p) (hb : Dk M b c t) (ht : t < 900000) : Ok (g__law_bent_run G [.ob b, runD p] M) (fun d M' => (∀ S : Nat → Prop, S b → (∀ n, S n → n < M.length) → Fine S 5 999 M' d) ∧ Kb b M M' ∧ Dk M' b c (t + 3)) noE := by
  obtain ⟨d, M', e, a1, a2, a3⟩ := bent_run_m G hp hb ht
  exact Ok.ofE e ⟨a3, a1, a2⟩
end
end K04

namespace K04
open PySem PySem.Spec PyProof.Rows L2 RI
section
variable {G : Glo} {M M' : Store} {b c t n m : Nat} {d x y : D} {S : Nat → Prop}
theorem errD_some {w : Str} {v : D} (q : errD v = some (x, w)) : (w = "run" ∨ w = "kind" ∨ w = "length" ∨ w = "same" ∨ w = "runs") ∧ (x = .non ∨ ∃ i : Nat, i < 10 ∧ x = .int i) := by
  have sc : ∀ (ds : List D) (m : Nat) (a : Option Int) (i : Nat) (w : Str), scanD m a ds = some (i, w) → i < m + ds.length ∧ (w = "run" ∨ w = "kind" ∨ w = "length" ∨ w = "same") := by
    intro ds
    induction ds with
    | nil => exact fun _ _ _ _ h => by cases h
    | cons d r ih =>
      intro m a i w h
      unfold scanD at h
      split at h
      · rename_i w' hw
        simp only [Option.some.injEq, Prod.mk.injEq] at h
        obtain ⟨rfl, rfl⟩ := h
        refine ⟨by rw [List.length_cons]; omega, ?_⟩
        unfold runWA at hw
        split at hw
        · rename_i w2 hw2
          cases hw
          unfold runW at hw2
          split at hw2
          · split at hw2
            · split at hw2
              · cases hw2
              · cases hw2; exact .inr (.inr (.inl rfl))
            · cases hw2; exact .inr (.inl rfl)
          · cases hw2; exact .inl rfl
        · split at hw
          · split at hw
            · cases hw; exact .inr (.inr (.inr rfl))
            · cases hw
          · cases hw
      · have := ih _ _ _ _ h
        refine ⟨by rw [List.length_cons]; omega, this.2⟩
  unfold errD at q
  split at q
  · split at q
    · rename_i hl
      rw [Option.map_eq_some_iff] at q
      obtain ⟨⟨i, w'⟩, hs, he⟩ := q
      simp only [Prod.mk.injEq] at he
      obtain ⟨rfl, rfl⟩ := he
      have := sc _ _ _ _ _ hs
      refine ⟨?_, .inr ⟨i, by omega, rfl⟩⟩
      rcases this.2 with h | h | h | h <;> simp [h]
    · cases q; exact ⟨by simp, .inl rfl⟩
  · cases q; exact ⟨by simp, .inl rfl⟩
theorem word_fine {N : Nat} (hN : 100 ≤ N) {w : String} (h : ((PyData.str w).showable && decide ((PyData.str w).shown.length ≤ 100) && decide ((PyData.str w).depth ≤ 6)) = true) : Fine S 6 N M (.str w) := (fine_c (py := .str w) (fun _ => rfl) h : Fine S 6 100 M (.str w)).up (Nat.le_refl _) hN
theorem made_fine {N : Nat} (hN : 100 ≤ N) (h : Fine S 6 N M d) : (∀ v ∈ madeD d, Fine S 6 N M v) ∧ (madeD d).length ≤ 3 := by
  cases q : errD d with
  | none =>
    have e : madeD d = [.str "ok", d] := by unfold madeD; rw [q]
    rw [e]
    refine ⟨fun v hv => ?_, by simp⟩
    simp only [List.mem_cons, List.not_mem_nil, or_false] at hv
    rcases hv with rfl | rfl
    · exact word_fine (by first | exact hN | decide) (by decide +kernel)
    · exact h
  | some p =>
    obtain ⟨x, w⟩ := p
    have e : madeD d = [.str "bad", x, .str w] := by unfold madeD; rw [q]
    obtain ⟨h1, h2⟩ := errD_some q
    rw [e]
    refine ⟨fun v hv => ?_, by simp⟩
    simp only [List.mem_cons, List.not_mem_nil, or_false] at hv
    rcases hv with rfl | rfl | rfl
    · exact word_fine (by first | exact hN | decide) (by decide +kernel)
    · rcases h2 with rfl | ⟨i, hi, rfl⟩
      · exact (fine_c (py := .none) (fun _ => rfl) (by decide +kernel) : Fine S 6 100 M .non).up (Nat.le_refl _) hN
      · exact (fine_i (by omega)).up (by decide) (by omega)
    · rcases h1 with rfl | rfl | rfl | rfl | rfl <;> exact word_fine (by first | exact hN | decide) (by decide +kernel)
theorem put_fine {ps : List (Int × Int)} (R : Rn ps) (hy : Fine S 5 999 M y) (i j : Nat) : Fine S 6 14000 M (.tup ((ps.map runD).take i ++ [y] ++ (ps.map runD).drop j)) := by
  have l6 := R.l6
  refine (fine_tup (k := 5) (n := 999) (c := 13) (fun d hd => ?_) (by simp only [List.length_append, List.length_take, List.length_drop, List.length_map, List.length_singleton]; omega)).up (by decide) (by decide)
  have fr : ∀ d ∈ ps.map runD, Fine S 5 999 M d := fun d hd => by
    obtain ⟨x, hx, rfl⟩ := List.mem_map.mp hd
    exact fine_run (R.p x hx)
  rw [List.mem_append, List.mem_append] at hd
  rcases hd with (h | h) | h
  · exact fr d (List.mem_of_mem_take h)
  · rw [List.mem_singleton] at h
    rw [h]
    exact hy
  · exact fr d (List.mem_of_mem_drop h)
theorem with_fine {ps : List (Int × Int)} (R : Rn ps) (hx : Fine S 4 100 M x) (hy : Fine S 5 999 M y) : (∀ v ∈ withD ps x y, Fine S 6 14000 M v) ∧ (withD ps x y).length ≤ 3 := by
  cases q : isW x 0 ((ps.length : Int) - 1) with
  | false =>
    have e : withD ps x y = [.str "no", x] := by unfold withD; rw [if_neg (by rw [q]; exact Bool.false_ne_true)]
    rw [e]
    refine ⟨fun v hv => ?_, by simp⟩
    simp only [List.mem_cons, List.not_mem_nil, or_false] at hv
    rcases hv with rfl | rfl
    · exact word_fine (by first | exact hN | decide) (by decide +kernel)
    · exact hx.up (by decide) (by decide)
  | true =>
    obtain ⟨i, rfl, i0, i1⟩ := isW_int q
    have e : withD ps (.int i) y = madeD (.tup ((ps.map runD).take i.toNat ++ [y] ++ (ps.map runD).drop (i + 1).toNat)) := by
      unfold withD
      rw [if_pos q]
    rw [e]
    exact made_fine (by decide) (put_fine R hy _ _)
/-- a run put in the place of another -/
theorem put_step (K : G4 G) {P : Addr} {ps : List (Int × Int)} (R : Rn ps) (hD : Dk M b c t) (ht : t < 100000) {mo : Int} (m0 : 0 ≤ mo) (m1 : mo ≤ 10 ^ 29) (hb : 1 ≠ b) (h1 : M[1]? = some (.tab P lamQ)) (nb : n ≠ b) (hn : M[n]? = some (.ins "String" (strF ps))) {x0 x2 x4 x5 x6 x8 x10 x11 x12 : Option D} {Q : Fl → Env1 → Store → Prop}
    (q : ∀ y z M', Kb b M M' → Dk M' b c (t + 20) → Q .nx [x0, some (.ob b), x2, some (.int mo), x4, x5, some d, some (.tup (ps.map runD)), x8, some (.ob n), x10, y, z] M') :
    OkS (onT (.name 6) (d_law_1 G P) d [x0, some (.ob b), x2, some (.int mo), x4, x5, x6, some (.tup (ps.map runD)), x8, some (.ob n), x10, x11, x12] M) Q noS := by
  have l1 := R.l1
  have l6 := R.l6
  try simp -implicitDefEqProofs only [ok_ok, ok_exc, ok_bind, ok_of, oks_fl, oks_exc, oks_seq, nxt_nx, nxt_ret, nxt_brk, nxt_ct, oks_nx, oks_ret, oks_retN, retk, oks_asg, setk_nm, setk_tup, setAll, oks_drop, dropk, oks_ifs, ifk_t, ifk_f, oks_for, forkk, oks_par, park, oks_par3, par3k, stk, oks_setIx, oks_setF, ok_fin, fink_nx, fink_ret, ok_and, andk_t, andk_f, ok_or, ork_t, ork_f, ok_not, notk_t, notk_f, ok_asB, blk, ok_andV, andvk_t, andvk_f, ok_notV, notvk, ok_den3, d3k_t, d3k_f, ok_ife, ifek_t, ifek_f, loopk_nx, loopk_ct, loopk_brk, loopk_ret, onT_nm, onT_tup, ok_lc, gdk_t, gdk_f, exE_no, exS_no, exE_exS, ap_v, ap_c, ap_two, ap_call, ap_nil, ap_cons, ap_tup, ap_lst, ap_attr, ap_isi, ap_sl, ap_nopart, ap_it, ap_rng1, ap_rng2, ap_enA, ap_zip, ap_mt, ap_prop, ap_yes, ap_neg, ap_part, ap_two_c, of_some, op_addI, op_subI, startE, arity, Out.bind_ok, wipeE, List.map_cons, List.map_nil, List.getElem?_cons_zero, List.getElem?_cons_succ, Option.join_some, List.set_cons_zero, List.set_cons_succ, List.length_cons, List.length_nil, List.length_singleton, Nat.reduceAdd, Nat.reduceSub, Nat.zero_add, List.replicate, List.cons_append, List.nil_append, if_true, ite_true, eq_self, Bool.not_true, Bool.not_false, Bool.false_eq_true, reduceIte, true_and, and_true, decide_true, decide_false, line_c, Nat.reduceLeDiff, newL_small, List.length_append, List.append_assoc, Int.reduceSub, Int.reduceAdd, Int.reduceNeg, Int.reduceMul, cI_lt, cI_le, cI_gt, cI_ge, cI_ne, c_isnot, c_is, len_t, enA_t, ix_t0, ix_t1, ix_t2, ix_t3, pw18, pw20, pw30, pw31, ap_neg30, ap_rev, oks_raise, oks_try, exS_ap, exE_ap, ap_fmt, ap_xi, ap_zipX, ap_zipY, ap_step, oks_raise0, ap_partP, ok_tru, truk_t, d_law_1, List.length_map]
  refine (take_w G hD (by omega) (by omega) (by omega)).imp ?_
  rintro _ M1 ⟨r1, rfl, r10, r11, k1, D1⟩
  try simp -implicitDefEqProofs only [ok_ok, ok_exc, ok_bind, ok_of, oks_fl, oks_exc, oks_seq, nxt_nx, nxt_ret, nxt_brk, nxt_ct, oks_nx, oks_ret, oks_retN, retk, oks_asg, setk_nm, setk_tup, setAll, oks_drop, dropk, oks_ifs, ifk_t, ifk_f, oks_for, forkk, oks_par, park, oks_par3, par3k, stk, oks_setIx, oks_setF, ok_fin, fink_nx, fink_ret, ok_and, andk_t, andk_f, ok_or, ork_t, ork_f, ok_not, notk_t, notk_f, ok_asB, blk, ok_andV, andvk_t, andvk_f, ok_notV, notvk, ok_den3, d3k_t, d3k_f, ok_ife, ifek_t, ifek_f, loopk_nx, loopk_ct, loopk_brk, loopk_ret, onT_nm, onT_tup, ok_lc, gdk_t, gdk_f, exE_no, exS_no, exE_exS, ap_v, ap_c, ap_two, ap_call, ap_nil, ap_cons, ap_tup, ap_lst, ap_attr, ap_isi, ap_sl, ap_nopart, ap_it, ap_rng1, ap_rng2, ap_enA, ap_zip, ap_mt, ap_prop, ap_yes, ap_neg, ap_part, ap_two_c, of_some, op_addI, op_subI, startE, arity, Out.bind_ok, wipeE, List.map_cons, List.map_nil, List.getElem?_cons_zero, List.getElem?_cons_succ, Option.join_some, List.set_cons_zero, List.set_cons_succ, List.length_cons, List.length_nil, List.length_singleton, Nat.reduceAdd, Nat.reduceSub, Nat.zero_add, List.replicate, List.cons_append, List.nil_append, if_true, ite_true, eq_self, Bool.not_true, Bool.not_false, Bool.false_eq_true, reduceIte, true_and, and_true, decide_true, decide_false, line_c, Nat.reduceLeDiff, newL_small, List.length_append, List.append_assoc, Int.reduceSub, Int.reduceAdd, Int.reduceNeg, Int.reduceMul, cI_lt, cI_le, cI_gt, cI_ge, cI_ne, c_isnot, c_is, len_t, enA_t, ix_t0, ix_t1, ix_t2, ix_t3, pw18, pw20, pw30, pw31, ap_neg30, ap_rev, oks_raise, oks_try, exS_ap, exE_ap, ap_fmt, ap_xi, ap_zipX, ap_zipY, ap_step, oks_raise0, ap_partP, ok_tru, truk_t, List.length_map]
  refine (take_w G D1 (by omega) (by omega) (by omega)).imp ?_
  rintro _ M2 ⟨r2, rfl, r20, r21, k2, D2⟩
  try simp -implicitDefEqProofs only [ok_ok, ok_exc, ok_bind, ok_of, oks_fl, oks_exc, oks_seq, nxt_nx, nxt_ret, nxt_brk, nxt_ct, oks_nx, oks_ret, oks_retN, retk, oks_asg, setk_nm, setk_tup, setAll, oks_drop, dropk, oks_ifs, ifk_t, ifk_f, oks_for, forkk, oks_par, park, oks_par3, par3k, stk, oks_setIx, oks_setF, ok_fin, fink_nx, fink_ret, ok_and, andk_t, andk_f, ok_or, ork_t, ork_f, ok_not, notk_t, notk_f, ok_asB, blk, ok_andV, andvk_t, andvk_f, ok_notV, notvk, ok_den3, d3k_t, d3k_f, ok_ife, ifek_t, ifek_f, loopk_nx, loopk_ct, loopk_brk, loopk_ret, onT_nm, onT_tup, ok_lc, gdk_t, gdk_f, exE_no, exS_no, exE_exS, ap_v, ap_c, ap_two, ap_call, ap_nil, ap_cons, ap_tup, ap_lst, ap_attr, ap_isi, ap_sl, ap_nopart, ap_it, ap_rng1, ap_rng2, ap_enA, ap_zip, ap_mt, ap_prop, ap_yes, ap_neg, ap_part, ap_two_c, of_some, op_addI, op_subI, startE, arity, Out.bind_ok, wipeE, List.map_cons, List.map_nil, List.getElem?_cons_zero, List.getElem?_cons_succ, Option.join_some, List.set_cons_zero, List.set_cons_succ, List.length_cons, List.length_nil, List.length_singleton, Nat.reduceAdd, Nat.reduceSub, Nat.zero_add, List.replicate, List.cons_append, List.nil_append, if_true, ite_true, eq_self, Bool.not_true, Bool.not_false, Bool.false_eq_true, reduceIte, true_and, and_true, decide_true, decide_false, line_c, Nat.reduceLeDiff, newL_small, List.length_append, List.append_assoc, Int.reduceSub, Int.reduceAdd, Int.reduceNeg, Int.reduceMul, cI_lt, cI_le, cI_gt, cI_ge, cI_ne, c_isnot, c_is, len_t, enA_t, ix_t0, ix_t1, ix_t2, ix_t3, pw18, pw20, pw30, pw31, ap_neg30, ap_rev, oks_raise, oks_try, exS_ap, exE_ap, ap_fmt, ap_xi, ap_zipX, ap_zipY, ap_step, oks_raise0, ap_partP, ok_tru, truk_t, List.length_map]
  refine (odd_w G D2 (by omega)).imp ?_
  rintro o M3 ⟨fo, k3, D3⟩
  have fo := fo (one b) fun n (h : n = b) => by rw [h]; exact D2.lt
  try simp -implicitDefEqProofs only [ok_ok, ok_exc, ok_bind, ok_of, oks_fl, oks_exc, oks_seq, nxt_nx, nxt_ret, nxt_brk, nxt_ct, oks_nx, oks_ret, oks_retN, retk, oks_asg, setk_nm, setk_tup, setAll, oks_drop, dropk, oks_ifs, ifk_t, ifk_f, oks_for, forkk, oks_par, park, oks_par3, par3k, stk, oks_setIx, oks_setF, ok_fin, fink_nx, fink_ret, ok_and, andk_t, andk_f, ok_or, ork_t, ork_f, ok_not, notk_t, notk_f, ok_asB, blk, ok_andV, andvk_t, andvk_f, ok_notV, notvk, ok_den3, d3k_t, d3k_f, ok_ife, ifek_t, ifek_f, loopk_nx, loopk_ct, loopk_brk, loopk_ret, onT_nm, onT_tup, ok_lc, gdk_t, gdk_f, exE_no, exS_no, exE_exS, ap_v, ap_c, ap_two, ap_call, ap_nil, ap_cons, ap_tup, ap_lst, ap_attr, ap_isi, ap_sl, ap_nopart, ap_it, ap_rng1, ap_rng2, ap_enA, ap_zip, ap_mt, ap_prop, ap_yes, ap_neg, ap_part, ap_two_c, of_some, op_addI, op_subI, startE, arity, Out.bind_ok, wipeE, List.map_cons, List.map_nil, List.getElem?_cons_zero, List.getElem?_cons_succ, Option.join_some, List.set_cons_zero, List.set_cons_succ, List.length_cons, List.length_nil, List.length_singleton, Nat.reduceAdd, Nat.reduceSub, Nat.zero_add, List.replicate, List.cons_append, List.nil_append, if_true, ite_true, eq_self, Bool.not_true, Bool.not_false, Bool.false_eq_true, reduceIte, true_and, and_true, decide_true, decide_false, line_c, Nat.reduceLeDiff, newL_small, List.length_append, List.append_assoc, Int.reduceSub, Int.reduceAdd, Int.reduceNeg, Int.reduceMul, cI_lt, cI_le, cI_gt, cI_ge, cI_ne, c_isnot, c_is, len_t, enA_t, ix_t0, ix_t1, ix_t2, ix_t3, pw18, pw20, pw30, pw31, ap_neg30, ap_rev, oks_raise, oks_try, exS_ap, exE_ap, ap_fmt, ap_xi, ap_zipX, ap_zipY, ap_step, oks_raise0, ap_partP, ok_tru, truk_t, List.length_map]
  have lb := D3.lt
  refine (one_w G (D3.app _) (by rw [at_0]; rfl) (by omega) (by simp) (by simp) (by omega)).imp ?_
  rintro v M4 ⟨hv, k4, D4⟩
  have fv : Fine (one b) 4 100 M4 v := by
    simp only [List.mem_cons, List.not_mem_nil, or_false] at hv
    rcases hv with rfl | rfl | rfl | rfl
    · exact (fine_i (by omega)).up (by decide) (by decide)
    · exact (fine_i (by omega)).up (by decide) (by decide)
    · exact fo.mono ((Kb.app _).trans k4)
    · exact (fine_i (by omega)).up (by decide) (by decide)
  try simp -implicitDefEqProofs only [ok_ok, ok_exc, ok_bind, ok_of, oks_fl, oks_exc, oks_seq, nxt_nx, nxt_ret, nxt_brk, nxt_ct, oks_nx, oks_ret, oks_retN, retk, oks_asg, setk_nm, setk_tup, setAll, oks_drop, dropk, oks_ifs, ifk_t, ifk_f, oks_for, forkk, oks_par, park, oks_par3, par3k, stk, oks_setIx, oks_setF, ok_fin, fink_nx, fink_ret, ok_and, andk_t, andk_f, ok_or, ork_t, ork_f, ok_not, notk_t, notk_f, ok_asB, blk, ok_andV, andvk_t, andvk_f, ok_notV, notvk, ok_den3, d3k_t, d3k_f, ok_ife, ifek_t, ifek_f, loopk_nx, loopk_ct, loopk_brk, loopk_ret, onT_nm, onT_tup, ok_lc, gdk_t, gdk_f, exE_no, exS_no, exE_exS, ap_v, ap_c, ap_two, ap_call, ap_nil, ap_cons, ap_tup, ap_lst, ap_attr, ap_isi, ap_sl, ap_nopart, ap_it, ap_rng1, ap_rng2, ap_enA, ap_zip, ap_mt, ap_prop, ap_yes, ap_neg, ap_part, ap_two_c, of_some, op_addI, op_subI, startE, arity, Out.bind_ok, wipeE, List.map_cons, List.map_nil, List.getElem?_cons_zero, List.getElem?_cons_succ, Option.join_some, List.set_cons_zero, List.set_cons_succ, List.length_cons, List.length_nil, List.length_singleton, Nat.reduceAdd, Nat.reduceSub, Nat.zero_add, List.replicate, List.cons_append, List.nil_append, if_true, ite_true, eq_self, Bool.not_true, Bool.not_false, Bool.false_eq_true, reduceIte, true_and, and_true, decide_true, decide_false, line_c, Nat.reduceLeDiff, newL_small, List.length_append, List.append_assoc, Int.reduceSub, Int.reduceAdd, Int.reduceNeg, Int.reduceMul, cI_lt, cI_le, cI_gt, cI_ge, cI_ne, c_isnot, c_is, len_t, enA_t, ix_t0, ix_t1, ix_t2, ix_t3, pw18, pw20, pw30, pw31, ap_neg30, ap_rev, oks_raise, oks_try, exS_ap, exE_ap, ap_fmt, ap_xi, ap_zipX, ap_zipY, ap_step, oks_raise0, ap_partP, ok_tru, truk_t]
  refine (take_w G D4 (by omega) (by omega) (by omega)).imp ?_
  rintro _ M5 ⟨kd, rfl, kd0, kd1, k5, D5⟩
  try simp -implicitDefEqProofs only [ok_ok, ok_exc, ok_bind, ok_of, oks_fl, oks_exc, oks_seq, nxt_nx, nxt_ret, nxt_brk, nxt_ct, oks_nx, oks_ret, oks_retN, retk, oks_asg, setk_nm, setk_tup, setAll, oks_drop, dropk, oks_ifs, ifk_t, ifk_f, oks_for, forkk, oks_par, park, oks_par3, par3k, stk, oks_setIx, oks_setF, ok_fin, fink_nx, fink_ret, ok_and, andk_t, andk_f, ok_or, ork_t, ork_f, ok_not, notk_t, notk_f, ok_asB, blk, ok_andV, andvk_t, andvk_f, ok_notV, notvk, ok_den3, d3k_t, d3k_f, ok_ife, ifek_t, ifek_f, loopk_nx, loopk_ct, loopk_brk, loopk_ret, onT_nm, onT_tup, ok_lc, gdk_t, gdk_f, exE_no, exS_no, exE_exS, ap_v, ap_c, ap_two, ap_call, ap_nil, ap_cons, ap_tup, ap_lst, ap_attr, ap_isi, ap_sl, ap_nopart, ap_it, ap_rng1, ap_rng2, ap_enA, ap_zip, ap_mt, ap_prop, ap_yes, ap_neg, ap_part, ap_two_c, of_some, op_addI, op_subI, startE, arity, Out.bind_ok, wipeE, List.map_cons, List.map_nil, List.getElem?_cons_zero, List.getElem?_cons_succ, Option.join_some, List.set_cons_zero, List.set_cons_succ, List.length_cons, List.length_nil, List.length_singleton, Nat.reduceAdd, Nat.reduceSub, Nat.zero_add, List.replicate, List.cons_append, List.nil_append, if_true, ite_true, eq_self, Bool.not_true, Bool.not_false, Bool.false_eq_true, reduceIte, true_and, and_true, decide_true, decide_false, line_c, Nat.reduceLeDiff, newL_small, List.length_append, List.append_assoc, Int.reduceSub, Int.reduceAdd, Int.reduceNeg, Int.reduceMul, cI_lt, cI_le, cI_gt, cI_ge, cI_ne, c_isnot, c_is, len_t, enA_t, ix_t0, ix_t1, ix_t2, ix_t3, pw18, pw20, pw30, pw31, ap_neg30, ap_rev, oks_raise, oks_try, exS_ap, exE_ap, ap_fmt, ap_xi, ap_zipX, ap_zipY, ap_step, oks_raise0, ap_partP, ok_tru, truk_t]
  refine (length_w G D5 m0 m1 (by omega)).imp ?_
  rintro _ M6 ⟨ln, rfl, ln0, ln1, _, k6, D6⟩
  try simp -implicitDefEqProofs only [ok_ok, ok_exc, ok_bind, ok_of, oks_fl, oks_exc, oks_seq, nxt_nx, nxt_ret, nxt_brk, nxt_ct, oks_nx, oks_ret, oks_retN, retk, oks_asg, setk_nm, setk_tup, setAll, oks_drop, dropk, oks_ifs, ifk_t, ifk_f, oks_for, forkk, oks_par, park, oks_par3, par3k, stk, oks_setIx, oks_setF, ok_fin, fink_nx, fink_ret, ok_and, andk_t, andk_f, ok_or, ork_t, ork_f, ok_not, notk_t, notk_f, ok_asB, blk, ok_andV, andvk_t, andvk_f, ok_notV, notvk, ok_den3, d3k_t, d3k_f, ok_ife, ifek_t, ifek_f, loopk_nx, loopk_ct, loopk_brk, loopk_ret, onT_nm, onT_tup, ok_lc, gdk_t, gdk_f, exE_no, exS_no, exE_exS, ap_v, ap_c, ap_two, ap_call, ap_nil, ap_cons, ap_tup, ap_lst, ap_attr, ap_isi, ap_sl, ap_nopart, ap_it, ap_rng1, ap_rng2, ap_enA, ap_zip, ap_mt, ap_prop, ap_yes, ap_neg, ap_part, ap_two_c, of_some, op_addI, op_subI, startE, arity, Out.bind_ok, wipeE, List.map_cons, List.map_nil, List.getElem?_cons_zero, List.getElem?_cons_succ, Option.join_some, List.set_cons_zero, List.set_cons_succ, List.length_cons, List.length_nil, List.length_singleton, Nat.reduceAdd, Nat.reduceSub, Nat.zero_add, List.replicate, List.cons_append, List.nil_append, if_true, ite_true, eq_self, Bool.not_true, Bool.not_false, Bool.false_eq_true, reduceIte, true_and, and_true, decide_true, decide_false, line_c, Nat.reduceLeDiff, newL_small, List.length_append, List.append_assoc, Int.reduceSub, Int.reduceAdd, Int.reduceNeg, Int.reduceMul, cI_lt, cI_le, cI_gt, cI_ge, cI_ne, c_isnot, c_is, len_t, enA_t, ix_t0, ix_t1, ix_t2, ix_t3, pw18, pw20, pw30, pw31, ap_neg30, ap_rev, oks_raise, oks_try, exS_ap, exE_ap, ap_fmt, ap_xi, ap_zipX, ap_zipY, ap_step, oks_raise0, ap_partP, ok_tru, truk_t]
  refine (take_w G D6 (by omega) (by omega) (by omega)).imp ?_
  rintro _ M7 ⟨w, rfl, w0, w1, k7, D7⟩
  have hr : RunI (kd, ln) := ⟨kd0, by omega, ln0, ln1⟩
  have fin : ∀ (y : D) (A : Store), Kb b M7 A → Dk A b c (t + 14) → Fine (one b) 5 999 A y → OkS (denSeq (denIfS (asB (den2 (denCall (denCons (denLam P lamQ (g__law_told G) (denMeth (dv 9) (denCons (dv 11) (denCons (dv 12) (denNil))) "String" "with_run" 3 (g_String_with_run G))) (denNil)) reprD) (denCall (denCons (denCall (denCons (dv 7) (denCons (dv 11) (denCons (dv 12) (denNil)))) (arity 3 (g__law_with G))) (denNil)) reprD) (cmpD .NotEq))) (denSeq (denRet (dc (.bl false))) (denNx)) (denNx)) (denNx)
      [x0, some (.ob b), x2, some (.int mo), x4, x5, some d, some (.tup (ps.map runD)), x8, some (.ob n), x10, some v, some y] A) Q noS := by
    intro y A kA DA fy
    have k0A : Kb b M A := (((k1.trans k2).trans (k3.trans ((Kb.app _).trans k4))).trans (k5.trans k6)).trans (k7.trans kA)
    have k4A : Kb b M4 A := (k5.trans k6).trans (k7.trans kA)
    have fv := fv.mono k4A
    have hn := k0A.at nb hn
    have h1 := k0A.at hb h1
    obtain ⟨wf, wl⟩ := with_fine R fv fy
    obtain ⟨z, hz⟩ := repr_l wf (by decide) (by omega)
    have pl : ∀ A', Ge A A' → ∀ i : Nat, Pl A' (.tup ((ps.map runD).take i ++ [y] ++ (ps.map runD).drop (i + 1))) := fun A' kk i => (put_fine R fy i (i + 1)).pl.ge kk
    try simp -implicitDefEqProofs only [ok_ok, ok_exc, ok_bind, ok_of, oks_fl, oks_exc, oks_seq, nxt_nx, nxt_ret, nxt_brk, nxt_ct, oks_nx, oks_ret, oks_retN, retk, oks_asg, setk_nm, setk_tup, setAll, oks_drop, dropk, oks_ifs, ifk_t, ifk_f, oks_for, forkk, oks_par, park, oks_par3, par3k, stk, oks_setIx, oks_setF, ok_fin, fink_nx, fink_ret, ok_and, andk_t, andk_f, ok_or, ork_t, ork_f, ok_not, notk_t, notk_f, ok_asB, blk, ok_andV, andvk_t, andvk_f, ok_notV, notvk, ok_den3, d3k_t, d3k_f, ok_ife, ifek_t, ifek_f, loopk_nx, loopk_ct, loopk_brk, loopk_ret, onT_nm, onT_tup, ok_lc, gdk_t, gdk_f, exE_no, exS_no, exE_exS, ap_v, ap_c, ap_two, ap_call, ap_nil, ap_cons, ap_tup, ap_lst, ap_attr, ap_isi, ap_sl, ap_nopart, ap_it, ap_rng1, ap_rng2, ap_enA, ap_zip, ap_mt, ap_prop, ap_yes, ap_neg, ap_part, ap_two_c, of_some, op_addI, op_subI, startE, arity, Out.bind_ok, wipeE, List.map_cons, List.map_nil, List.getElem?_cons_zero, List.getElem?_cons_succ, Option.join_some, List.set_cons_zero, List.set_cons_succ, List.length_cons, List.length_nil, List.length_singleton, Nat.reduceAdd, Nat.reduceSub, Nat.zero_add, List.replicate, List.cons_append, List.nil_append, if_true, ite_true, eq_self, Bool.not_true, Bool.not_false, Bool.false_eq_true, reduceIte, true_and, and_true, decide_true, decide_false, line_c, Nat.reduceLeDiff, newL_small, List.length_append, List.append_assoc, Int.reduceSub, Int.reduceAdd, Int.reduceNeg, Int.reduceMul, cI_lt, cI_le, cI_gt, cI_ge, cI_ne, c_isnot, c_is, len_t, enA_t, ix_t0, ix_t1, ix_t2, ix_t3, pw18, pw20, pw30, pw31, ap_neg30, ap_rev, oks_raise, oks_try, exS_ap, exE_ap, ap_fmt, ap_xi, ap_zipX, ap_zipY, ap_step, oks_raise0, ap_partP, ok_tru, truk_t]
    refine ok_lam K h1 (v := withD ps v y) ?_ ?_
    · try simp -implicitDefEqProofs only [ok_ok, ok_exc, ok_bind, ok_of, oks_fl, oks_exc, oks_seq, nxt_nx, nxt_ret, nxt_brk, nxt_ct, oks_nx, oks_ret, oks_retN, retk, oks_asg, setk_nm, setk_tup, setAll, oks_drop, dropk, oks_ifs, ifk_t, ifk_f, oks_for, forkk, oks_par, park, oks_par3, par3k, stk, oks_setIx, oks_setF, ok_fin, fink_nx, fink_ret, ok_and, andk_t, andk_f, ok_or, ork_t, ork_f, ok_not, notk_t, notk_f, ok_asB, blk, ok_andV, andvk_t, andvk_f, ok_notV, notvk, ok_den3, d3k_t, d3k_f, ok_ife, ifek_t, ifek_f, loopk_nx, loopk_ct, loopk_brk, loopk_ret, onT_nm, onT_tup, ok_lc, gdk_t, gdk_f, exE_no, exS_no, exE_exS, ap_v, ap_c, ap_two, ap_call, ap_nil, ap_cons, ap_tup, ap_lst, ap_attr, ap_isi, ap_sl, ap_nopart, ap_it, ap_rng1, ap_rng2, ap_enA, ap_zip, ap_mt, ap_prop, ap_yes, ap_neg, ap_part, ap_two_c, of_some, op_addI, op_subI, startE, arity, Out.bind_ok, wipeE, List.map_cons, List.map_nil, List.getElem?_cons_zero, List.getElem?_cons_succ, Option.join_some, List.set_cons_zero, List.set_cons_succ, List.length_cons, List.length_nil, List.length_singleton, Nat.reduceAdd, Nat.reduceSub, Nat.zero_add, List.replicate, List.cons_append, List.nil_append, if_true, ite_true, eq_self, Bool.not_true, Bool.not_false, Bool.false_eq_true, reduceIte, true_and, and_true, decide_true, decide_false, line_c, Nat.reduceLeDiff, newL_small, List.length_append, List.append_assoc, Int.reduceSub, Int.reduceAdd, Int.reduceNeg, Int.reduceMul, cI_lt, cI_le, cI_gt, cI_ge, cI_ne, c_isnot, c_is, len_t, enA_t, ix_t0, ix_t1, ix_t2, ix_t3, pw18, pw20, pw30, pw31, ap_neg30, ap_rev, oks_raise, oks_try, exS_ap, exE_ap, ap_fmt, ap_xi, ap_zipX, ap_zipY, ap_step, oks_raise0, ap_partP, ok_tru, truk_t, ap_meth, insD_ok hn (m := "with_run") (by decide +kernel)]
      exact with_w K R hn fv.pl (pl A Ge.refl)
    · intro a A1 ha kA1 _
      try simp -implicitDefEqProofs only [ok_ok, ok_exc, ok_bind, ok_of, oks_fl, oks_exc, oks_seq, nxt_nx, nxt_ret, nxt_brk, nxt_ct, oks_nx, oks_ret, oks_retN, retk, oks_asg, setk_nm, setk_tup, setAll, oks_drop, dropk, oks_ifs, ifk_t, ifk_f, oks_for, forkk, oks_par, park, oks_par3, par3k, stk, oks_setIx, oks_setF, ok_fin, fink_nx, fink_ret, ok_and, andk_t, andk_f, ok_or, ork_t, ork_f, ok_not, notk_t, notk_f, ok_asB, blk, ok_andV, andvk_t, andvk_f, ok_notV, notvk, ok_den3, d3k_t, d3k_f, ok_ife, ifek_t, ifek_f, loopk_nx, loopk_ct, loopk_brk, loopk_ret, onT_nm, onT_tup, ok_lc, gdk_t, gdk_f, exE_no, exS_no, exE_exS, ap_v, ap_c, ap_two, ap_call, ap_nil, ap_cons, ap_tup, ap_lst, ap_attr, ap_isi, ap_sl, ap_nopart, ap_it, ap_rng1, ap_rng2, ap_enA, ap_zip, ap_mt, ap_prop, ap_yes, ap_neg, ap_part, ap_two_c, of_some, op_addI, op_subI, startE, arity, Out.bind_ok, wipeE, List.map_cons, List.map_nil, List.getElem?_cons_zero, List.getElem?_cons_succ, Option.join_some, List.set_cons_zero, List.set_cons_succ, List.length_cons, List.length_nil, List.length_singleton, Nat.reduceAdd, Nat.reduceSub, Nat.zero_add, List.replicate, List.cons_append, List.nil_append, if_true, ite_true, eq_self, Bool.not_true, Bool.not_false, Bool.false_eq_true, reduceIte, true_and, and_true, decide_true, decide_false, line_c, Nat.reduceLeDiff, newL_small, List.length_append, List.append_assoc, Int.reduceSub, Int.reduceAdd, Int.reduceNeg, Int.reduceMul, cI_lt, cI_le, cI_gt, cI_ge, cI_ne, c_isnot, c_is, len_t, enA_t, ix_t0, ix_t1, ix_t2, ix_t3, pw18, pw20, pw30, pw31, ap_neg30, ap_rev, oks_raise, oks_try, exS_ap, exE_ap, ap_fmt, ap_xi, ap_zipX, ap_zipY, ap_step, oks_raise0, ap_partP, ok_tru, truk_t, hz A1 a kA1.keep ha]
      refine (lwith_w K R (fv.pl.ge kA1) (pl A1 kA1)).imp ?_
      rintro _ A2 ⟨a2, rfl, ha2, kA2⟩
      try simp -implicitDefEqProofs only [ok_ok, ok_exc, ok_bind, ok_of, oks_fl, oks_exc, oks_seq, nxt_nx, nxt_ret, nxt_brk, nxt_ct, oks_nx, oks_ret, oks_retN, retk, oks_asg, setk_nm, setk_tup, setAll, oks_drop, dropk, oks_ifs, ifk_t, ifk_f, oks_for, forkk, oks_par, park, oks_par3, par3k, stk, oks_setIx, oks_setF, ok_fin, fink_nx, fink_ret, ok_and, andk_t, andk_f, ok_or, ork_t, ork_f, ok_not, notk_t, notk_f, ok_asB, blk, ok_andV, andvk_t, andvk_f, ok_notV, notvk, ok_den3, d3k_t, d3k_f, ok_ife, ifek_t, ifek_f, loopk_nx, loopk_ct, loopk_brk, loopk_ret, onT_nm, onT_tup, ok_lc, gdk_t, gdk_f, exE_no, exS_no, exE_exS, ap_v, ap_c, ap_two, ap_call, ap_nil, ap_cons, ap_tup, ap_lst, ap_attr, ap_isi, ap_sl, ap_nopart, ap_it, ap_rng1, ap_rng2, ap_enA, ap_zip, ap_mt, ap_prop, ap_yes, ap_neg, ap_part, ap_two_c, of_some, op_addI, op_subI, startE, arity, Out.bind_ok, wipeE, List.map_cons, List.map_nil, List.getElem?_cons_zero, List.getElem?_cons_succ, Option.join_some, List.set_cons_zero, List.set_cons_succ, List.length_cons, List.length_nil, List.length_singleton, Nat.reduceAdd, Nat.reduceSub, Nat.zero_add, List.replicate, List.cons_append, List.nil_append, if_true, ite_true, eq_self, Bool.not_true, Bool.not_false, Bool.false_eq_true, reduceIte, true_and, and_true, decide_true, decide_false, line_c, Nat.reduceLeDiff, newL_small, List.length_append, List.append_assoc, Int.reduceSub, Int.reduceAdd, Int.reduceNeg, Int.reduceMul, cI_lt, cI_le, cI_gt, cI_ge, cI_ne, c_isnot, c_is, len_t, enA_t, ix_t0, ix_t1, ix_t2, ix_t3, pw18, pw20, pw30, pw31, ap_neg30, ap_rev, oks_raise, oks_try, exS_ap, exE_ap, ap_fmt, ap_xi, ap_zipX, ap_zipY, ap_step, oks_raise0, ap_partP, ok_tru, truk_t, hz A2 a2 (kA1.trans kA2).keep ha2, c_sne]
      exact q _ _ _ (k0A.trans ((kA1.trans kA2).kb)) (Dk.up (Dk.geK DA (kA1.trans kA2)) (by omega))
  try simp -implicitDefEqProofs only [ok_ok, ok_exc, ok_bind, ok_of, oks_fl, oks_exc, oks_seq, nxt_nx, nxt_ret, nxt_brk, nxt_ct, oks_nx, oks_ret, oks_retN, retk, oks_asg, setk_nm, setk_tup, setAll, oks_drop, dropk, oks_ifs, ifk_t, ifk_f, oks_for, forkk, oks_par, park, oks_par3, par3k, stk, oks_setIx, oks_setF, ok_fin, fink_nx, fink_ret, ok_and, andk_t, andk_f, ok_or, ork_t, ork_f, ok_not, notk_t, notk_f, ok_asB, blk, ok_andV, andvk_t, andvk_f, ok_notV, notvk, ok_den3, d3k_t, d3k_f, ok_ife, ifek_t, ifek_f, loopk_nx, loopk_ct, loopk_brk, loopk_ret, onT_nm, onT_tup, ok_lc, gdk_t, gdk_f, exE_no, exS_no, exE_exS, ap_v, ap_c, ap_two, ap_call, ap_nil, ap_cons, ap_tup, ap_lst, ap_attr, ap_isi, ap_sl, ap_nopart, ap_it, ap_rng1, ap_rng2, ap_enA, ap_zip, ap_mt, ap_prop, ap_yes, ap_neg, ap_part, ap_two_c, of_some, op_addI, op_subI, startE, arity, Out.bind_ok, wipeE, List.map_cons, List.map_nil, List.getElem?_cons_zero, List.getElem?_cons_succ, Option.join_some, List.set_cons_zero, List.set_cons_succ, List.length_cons, List.length_nil, List.length_singleton, Nat.reduceAdd, Nat.reduceSub, Nat.zero_add, List.replicate, List.cons_append, List.nil_append, if_true, ite_true, eq_self, Bool.not_true, Bool.not_false, Bool.false_eq_true, reduceIte, true_and, and_true, decide_true, decide_false, line_c, Nat.reduceLeDiff, newL_small, List.length_append, List.append_assoc, Int.reduceSub, Int.reduceAdd, Int.reduceNeg, Int.reduceMul, cI_lt, cI_le, cI_gt, cI_ge, cI_ne, c_isnot, c_is, len_t, enA_t, ix_t0, ix_t1, ix_t2, ix_t3, pw18, pw20, pw30, pw31, ap_neg30, ap_rev, oks_raise, oks_try, exS_ap, exE_ap, ap_fmt, ap_xi, ap_zipX, ap_zipY, ap_step, oks_raise0, ap_partP, ok_tru, truk_t, cmp_int]
  by_cases hw : w = 0
  · have e : (w == 0) = true := by simp [hw]
    try simp -implicitDefEqProofs only [ok_ok, ok_exc, ok_bind, ok_of, oks_fl, oks_exc, oks_seq, nxt_nx, nxt_ret, nxt_brk, nxt_ct, oks_nx, oks_ret, oks_retN, retk, oks_asg, setk_nm, setk_tup, setAll, oks_drop, dropk, oks_ifs, ifk_t, ifk_f, oks_for, forkk, oks_par, park, oks_par3, par3k, stk, oks_setIx, oks_setF, ok_fin, fink_nx, fink_ret, ok_and, andk_t, andk_f, ok_or, ork_t, ork_f, ok_not, notk_t, notk_f, ok_asB, blk, ok_andV, andvk_t, andvk_f, ok_notV, notvk, ok_den3, d3k_t, d3k_f, ok_ife, ifek_t, ifek_f, loopk_nx, loopk_ct, loopk_brk, loopk_ret, onT_nm, onT_tup, ok_lc, gdk_t, gdk_f, exE_no, exS_no, exE_exS, ap_v, ap_c, ap_two, ap_call, ap_nil, ap_cons, ap_tup, ap_lst, ap_attr, ap_isi, ap_sl, ap_nopart, ap_it, ap_rng1, ap_rng2, ap_enA, ap_zip, ap_mt, ap_prop, ap_yes, ap_neg, ap_part, ap_two_c, of_some, op_addI, op_subI, startE, arity, Out.bind_ok, wipeE, List.map_cons, List.map_nil, List.getElem?_cons_zero, List.getElem?_cons_succ, Option.join_some, List.set_cons_zero, List.set_cons_succ, List.length_cons, List.length_nil, List.length_singleton, Nat.reduceAdd, Nat.reduceSub, Nat.zero_add, List.replicate, List.cons_append, List.nil_append, if_true, ite_true, eq_self, Bool.not_true, Bool.not_false, Bool.false_eq_true, reduceIte, true_and, and_true, decide_true, decide_false, line_c, Nat.reduceLeDiff, newL_small, List.length_append, List.append_assoc, Int.reduceSub, Int.reduceAdd, Int.reduceNeg, Int.reduceMul, cI_lt, cI_le, cI_gt, cI_ge, cI_ne, c_isnot, c_is, len_t, enA_t, ix_t0, ix_t1, ix_t2, ix_t3, pw18, pw20, pw30, pw31, ap_neg30, ap_rev, oks_raise, oks_try, exS_ap, exE_ap, ap_fmt, ap_xi, ap_zipX, ap_zipY, ap_step, oks_raise0, ap_partP, ok_tru, truk_t, e]
    refine (bent_w G hr D7 (by omega)).imp ?_
    rintro y M8 ⟨fy, k8, D8⟩
    have fy := fy (one b) rfl fun n (h : n = b) => by rw [h]; exact D7.lt
    try simp -implicitDefEqProofs only [ok_ok, ok_exc, ok_bind, ok_of, oks_fl, oks_exc, oks_seq, nxt_nx, nxt_ret, nxt_brk, nxt_ct, oks_nx, oks_ret, oks_retN, retk, oks_asg, setk_nm, setk_tup, setAll, oks_drop, dropk, ifk_t, ifk_f, oks_for, forkk, oks_par, park, oks_par3, par3k, stk, oks_setIx, oks_setF, ok_fin, fink_nx, fink_ret, ok_and, andk_t, andk_f, ok_or, ork_t, ork_f, ok_not, notk_t, notk_f, blk, ok_andV, andvk_t, andvk_f, ok_notV, notvk, ok_den3, d3k_t, d3k_f, ok_ife, ifek_t, ifek_f, loopk_nx, loopk_ct, loopk_brk, loopk_ret, onT_nm, onT_tup, ok_lc, gdk_t, gdk_f, exE_no, exS_no, exE_exS, ap_v, ap_c, ap_two, ap_nil, ap_cons, ap_tup, ap_lst, ap_attr, ap_isi, ap_sl, ap_nopart, ap_it, ap_rng1, ap_rng2, ap_enA, ap_zip, ap_mt, ap_prop, ap_yes, ap_neg, ap_part, ap_two_c, of_some, op_addI, op_subI, startE, arity, Out.bind_ok, wipeE, List.map_cons, List.map_nil, List.getElem?_cons_zero, List.getElem?_cons_succ, Option.join_some, List.set_cons_zero, List.set_cons_succ, List.length_cons, List.length_nil, List.length_singleton, Nat.reduceAdd, Nat.reduceSub, Nat.zero_add, List.replicate, List.cons_append, List.nil_append, if_true, ite_true, eq_self, Bool.not_true, Bool.not_false, Bool.false_eq_true, reduceIte, true_and, and_true, decide_true, decide_false, line_c, Nat.reduceLeDiff, newL_small, List.length_append, List.append_assoc, Int.reduceSub, Int.reduceAdd, Int.reduceNeg, Int.reduceMul, cI_lt, cI_le, cI_gt, cI_ge, cI_ne, c_isnot, c_is, len_t, enA_t, ix_t0, ix_t1, ix_t2, ix_t3, pw18, pw20, pw30, pw31, ap_neg30, ap_rev, oks_raise, oks_try, exS_ap, exE_ap, ap_fmt, ap_xi, ap_zipX, ap_zipY, ap_step, oks_raise0, ap_partP, ok_tru, truk_t]
    have := fin y M8 k8 (Dk.up D8 (by omega)) fy
    rw [oks_seq] at this
    exact this
  · have e : (w == 0) = false := by simp [hw]
    try simp -implicitDefEqProofs only [ok_ok, ok_exc, ok_bind, ok_of, oks_fl, oks_exc, oks_seq, nxt_nx, nxt_ret, nxt_brk, nxt_ct, oks_nx, oks_ret, oks_retN, retk, oks_asg, setk_nm, setk_tup, setAll, oks_drop, dropk, ifk_t, ifk_f, oks_for, forkk, oks_par, park, oks_par3, par3k, stk, oks_setIx, oks_setF, ok_fin, fink_nx, fink_ret, ok_and, andk_t, andk_f, ok_or, ork_t, ork_f, ok_not, notk_t, notk_f, blk, ok_andV, andvk_t, andvk_f, ok_notV, notvk, ok_den3, d3k_t, d3k_f, ok_ife, ifek_t, ifek_f, loopk_nx, loopk_ct, loopk_brk, loopk_ret, onT_nm, onT_tup, ok_lc, gdk_t, gdk_f, exE_no, exS_no, exE_exS, ap_v, ap_c, ap_two, ap_nil, ap_cons, ap_tup, ap_lst, ap_attr, ap_isi, ap_sl, ap_nopart, ap_it, ap_rng1, ap_rng2, ap_enA, ap_zip, ap_mt, ap_prop, ap_yes, ap_neg, ap_part, ap_two_c, of_some, op_addI, op_subI, startE, arity, Out.bind_ok, wipeE, List.map_cons, List.map_nil, List.getElem?_cons_zero, List.getElem?_cons_succ, Option.join_some, List.set_cons_zero, List.set_cons_succ, List.length_cons, List.length_nil, List.length_singleton, Nat.reduceAdd, Nat.reduceSub, Nat.zero_add, List.replicate, List.cons_append, List.nil_append, if_true, ite_true, eq_self, Bool.not_true, Bool.not_false, Bool.false_eq_true, reduceIte, true_and, and_true, decide_true, decide_false, line_c, Nat.reduceLeDiff, newL_small, List.length_append, List.append_assoc, Int.reduceSub, Int.reduceAdd, Int.reduceNeg, Int.reduceMul, cI_lt, cI_le, cI_gt, cI_ge, cI_ne, c_isnot, c_is, len_t, enA_t, ix_t0, ix_t1, ix_t2, ix_t3, pw18, pw20, pw30, pw31, ap_neg30, ap_rev, oks_raise, oks_try, exS_ap, exE_ap, ap_fmt, ap_xi, ap_zipX, ap_zipY, ap_step, oks_raise0, ap_partP, ok_tru, truk_t, e]
    have := fin _ M7 Kb.refl (Dk.up D7 (by omega)) (fine_run hr)
    rw [oks_seq] at this
    exact this
end
end K04

namespace K04
open PySem PySem.Spec PyProof.Rows L2 RI
noncomputable def d_law_2_r3 (G : Glo) (P : Addr) : DenS := denSeq (denAsg (denTup (denCons (denCall (denCons (dv 7) (denNil)) (mkIA 2 "String" (g_String G))) (denCons (denCall (denCons (dv 8) (denNil)) (mkIA 2 "String" (g_String G))) (denNil)))) (.tup [9, 10])) (denSeq (denAsg (denLst (denCons (denLam P lamQ (g__law_told G) (denMeth (dv 9) (denNil) "String" "turned" 1 (g_String_turned G))) (denNil))) (.name 4)) (denSeq (denDrop (denMt (dv 4) (denCons (denLam P lamQ (g__law_told G) (denMeth (dv 9) (denCons (dv 10) (denNil)) "String" "joined" 2 (g_String_joined G))) (denNil)) appD)) (denSeq (denDrop (denMt (dv 4) (denCons (denLam P lamQ (g__law_told G) (denMeth (dv 10) (denCons (dv 9) (denNil)) "String" "joined" 2 (g_String_joined G))) (denNil)) appD)) (denSeq (denDrop (denMt (dv 4) (denCons (denLam P lamQ (g__law_told G) (denMeth (denMeth (denMeth (dv 9) (denNil) "String" "turned" 1 (g_String_turned G)) (denNil) "String" "turned" 1 (g_String_turned G)) (denCons (dv 9) (denNil)) "String" "joined" 2 (g_String_joined G))) (denNil)) appD)) (denSeq (denAsg (denLst (denCons (denLst (denCons (dc (.str "ok")) (denCons (denRevT (dv 7)) (denNil)))) (denCons (denCall (denCons (dv 7) (denCons (dv 8) (denNil))) (arity 2 (g__law_both G))) (denCons (denCall (denCons (dv 8) (denCons (dv 7) (denNil))) (arity 2 (g__law_both G))) (denCons (denCall (denCons (dv 7) (denCons (dv 7) (denNil))) (arity 2 (g__law_both G))) (denNil)))))) (.name 5)) (denSeq (denIfS (asB (den2 (denCall (denCons (dv 4) (denNil)) reprD) (denCall (denCons (dv 5) (denNil)) reprD) (cmpD .NotEq))) (denSeq (denRet (dc (.bl false))) (denNx)) (denNx)) (denSeq (denFor (denRange1 (denCons (dc (.int 6)) (denNil))) (.name 6) (d_law_1 G P)) (denSeq (denIfS (asB (den2 (denCall (denCons (denLst (denCons (denProp (dv 9) "String" (g_String_runs G)) (denCons (denProp (dv 10) "String" (g_String_runs G)) (denNil)))) (denNil)) reprD) (denCall (denCons (denLst (denCons (dv 7) (denCons (dv 8) (denNil)))) (denNil)) reprD) (cmpD .NotEq))) (denSeq (denRet (dc (.bl false))) (denNx)) (denNx)) (denNx)))))))))
theorem d_law_2_e3 {G : Glo} {P : Addr} : d_law_2 G P = (denSeq (denAsg (denCall (denCons (dv 1) (denCons (denLst (denCons (dc (.int 0)) (denCons (dc (.int 0)) (denCons (dc (.int 5)) (denNil))))) (denNil))) (arity 2 (g__law_one G))) (.name 3)) (denSeq (denAsg (denTup (denCons (denCall (denCons (dv 1) (denCons (dc (.int 6)) (denCons (dv 3) (denNil)))) (arity 3 (g__law_runs G))) (denCons (denCall (denCons (dv 1) (denCons (denCall (denCons (dv 1) (denCons (denLst (denCons (dc (.int 2)) (denCons (dc (.int 6)) (denNil)))) (denNil))) (arity 2 (g__law_one G))) (denCons (dv 3) (denNil)))) (arity 3 (g__law_runs G))) (denNil)))) (.tup [7, 8])) (denSeq (denIfS (asB (den2 (denCall (denCons (dv 1) (denCons (dc (.int 3)) (denNil))) (arity 2 (g__law_take G))) (dc (.int 0)) (cmpD .Eq))) (denSeq (denAsg (den2 (denTup (denCons (denTup (denCons (den2 (den2 (dv 7) (denNeg (dc (.int 1))) ixD) (dc (.int 0)) ixD) (denCons (den2 (den2 (dv 8) (dc (.int 0)) ixD) (dc (.int 1)) ixD) (denNil)))) (denNil))) (denCall (denCons (denSl (denLc (denIt (denSl (dv 8) (denPart (dc (.int 1))) (denNoPart))) (.name 12) (asB (den2 (den2 (dv 12) (dc (.int 0)) ixD) (den2 (den2 (dv 7) (denNeg (dc (.int 1))) ixD) (dc (.int 0)) ixD) (cmpD .NotEq))) (dv 12) [12]) (denNoPart) (denPart (dc (.int 1)))) (denNil)) tupleD) (opD .Add)) (.name 8)) (denNx)) (denNx)) (d_law_2_r3 G P)))) := rfl
noncomputable def d_law_2_r4 (G : Glo) (P : Addr) : DenS := denSeq (denAsg (denLst (denCons (denLam P lamQ (g__law_told G) (denMeth (dv 9) (denNil) "String" "turned" 1 (g_String_turned G))) (denNil))) (.name 4)) (denSeq (denDrop (denMt (dv 4) (denCons (denLam P lamQ (g__law_told G) (denMeth (dv 9) (denCons (dv 10) (denNil)) "String" "joined" 2 (g_String_joined G))) (denNil)) appD)) (denSeq (denDrop (denMt (dv 4) (denCons (denLam P lamQ (g__law_told G) (denMeth (dv 10) (denCons (dv 9) (denNil)) "String" "joined" 2 (g_String_joined G))) (denNil)) appD)) (denSeq (denDrop (denMt (dv 4) (denCons (denLam P lamQ (g__law_told G) (denMeth (denMeth (denMeth (dv 9) (denNil) "String" "turned" 1 (g_String_turned G)) (denNil) "String" "turned" 1 (g_String_turned G)) (denCons (dv 9) (denNil)) "String" "joined" 2 (g_String_joined G))) (denNil)) appD)) (denSeq (denAsg (denLst (denCons (denLst (denCons (dc (.str "ok")) (denCons (denRevT (dv 7)) (denNil)))) (denCons (denCall (denCons (dv 7) (denCons (dv 8) (denNil))) (arity 2 (g__law_both G))) (denCons (denCall (denCons (dv 8) (denCons (dv 7) (denNil))) (arity 2 (g__law_both G))) (denCons (denCall (denCons (dv 7) (denCons (dv 7) (denNil))) (arity 2 (g__law_both G))) (denNil)))))) (.name 5)) (denSeq (denIfS (asB (den2 (denCall (denCons (dv 4) (denNil)) reprD) (denCall (denCons (dv 5) (denNil)) reprD) (cmpD .NotEq))) (denSeq (denRet (dc (.bl false))) (denNx)) (denNx)) (denSeq (denFor (denRange1 (denCons (dc (.int 6)) (denNil))) (.name 6) (d_law_1 G P)) (denSeq (denIfS (asB (den2 (denCall (denCons (denLst (denCons (denProp (dv 9) "String" (g_String_runs G)) (denCons (denProp (dv 10) "String" (g_String_runs G)) (denNil)))) (denNil)) reprD) (denCall (denCons (denLst (denCons (dv 7) (denCons (dv 8) (denNil)))) (denNil)) reprD) (cmpD .NotEq))) (denSeq (denRet (dc (.bl false))) (denNx)) (denNx)) (denNx))))))))
theorem d_law_2_e4 {G : Glo} {P : Addr} : d_law_2_r3 G P = (denSeq (denAsg (denTup (denCons (denCall (denCons (dv 7) (denNil)) (mkIA 2 "String" (g_String G))) (denCons (denCall (denCons (dv 8) (denNil)) (mkIA 2 "String" (g_String G))) (denNil)))) (.tup [9, 10])) (d_law_2_r4 G P)) := rfl
noncomputable def d_law_2_r9 (G : Glo) (P : Addr) : DenS := denSeq (denIfS (asB (den2 (denCall (denCons (dv 4) (denNil)) reprD) (denCall (denCons (dv 5) (denNil)) reprD) (cmpD .NotEq))) (denSeq (denRet (dc (.bl false))) (denNx)) (denNx)) (denSeq (denFor (denRange1 (denCons (dc (.int 6)) (denNil))) (.name 6) (d_law_1 G P)) (denSeq (denIfS (asB (den2 (denCall (denCons (denLst (denCons (denProp (dv 9) "String" (g_String_runs G)) (denCons (denProp (dv 10) "String" (g_String_runs G)) (denNil)))) (denNil)) reprD) (denCall (denCons (denLst (denCons (dv 7) (denCons (dv 8) (denNil)))) (denNil)) reprD) (cmpD .NotEq))) (denSeq (denRet (dc (.bl false))) (denNx)) (denNx)) (denNx)))
theorem d_law_2_e9 {G : Glo} {P : Addr} : d_law_2_r4 G P = (denSeq (denAsg (denLst (denCons (denLam P lamQ (g__law_told G) (denMeth (dv 9) (denNil) "String" "turned" 1 (g_String_turned G))) (denNil))) (.name 4)) (denSeq (denDrop (denMt (dv 4) (denCons (denLam P lamQ (g__law_told G) (denMeth (dv 9) (denCons (dv 10) (denNil)) "String" "joined" 2 (g_String_joined G))) (denNil)) appD)) (denSeq (denDrop (denMt (dv 4) (denCons (denLam P lamQ (g__law_told G) (denMeth (dv 10) (denCons (dv 9) (denNil)) "String" "joined" 2 (g_String_joined G))) (denNil)) appD)) (denSeq (denDrop (denMt (dv 4) (denCons (denLam P lamQ (g__law_told G) (denMeth (denMeth (denMeth (dv 9) (denNil) "String" "turned" 1 (g_String_turned G)) (denNil) "String" "turned" 1 (g_String_turned G)) (denCons (dv 9) (denNil)) "String" "joined" 2 (g_String_joined G))) (denNil)) appD)) (denSeq (denAsg (denLst (denCons (denLst (denCons (dc (.str "ok")) (denCons (denRevT (dv 7)) (denNil)))) (denCons (denCall (denCons (dv 7) (denCons (dv 8) (denNil))) (arity 2 (g__law_both G))) (denCons (denCall (denCons (dv 8) (denCons (dv 7) (denNil))) (arity 2 (g__law_both G))) (denCons (denCall (denCons (dv 7) (denCons (dv 7) (denNil))) (arity 2 (g__law_both G))) (denNil)))))) (.name 5)) (d_law_2_r9 G P)))))) := rfl
noncomputable def d_law_2_r11 (G : Glo) (P : Addr) : DenS := denSeq (denIfS (asB (den2 (denCall (denCons (denLst (denCons (denProp (dv 9) "String" (g_String_runs G)) (denCons (denProp (dv 10) "String" (g_String_runs G)) (denNil)))) (denNil)) reprD) (denCall (denCons (denLst (denCons (dv 7) (denCons (dv 8) (denNil)))) (denNil)) reprD) (cmpD .NotEq))) (denSeq (denRet (dc (.bl false))) (denNx)) (denNx)) (denNx)
theorem d_law_2_e11 {G : Glo} {P : Addr} : d_law_2_r9 G P = (denSeq (denIfS (asB (den2 (denCall (denCons (dv 4) (denNil)) reprD) (denCall (denCons (dv 5) (denNil)) reprD) (cmpD .NotEq))) (denSeq (denRet (dc (.bl false))) (denNx)) (denNx)) (denSeq (denFor (denRange1 (denCons (dc (.int 6)) (denNil))) (.name 6) (d_law_1 G P)) (d_law_2_r11 G P))) := rfl
end K04

namespace K04
open PySem PySem.Spec PyProof.Rows L2 RI
section
variable {G : Glo} {M M' : Store} {b c t n m : Nat} {d x y : D} {S : Nat → Prop}
theorem rn_fine {ps : List (Int × Int)} (R : Rn ps) : Fine S 6 1100 M (.tup (ps.map runD)) := (fine_tup (k := 5) (n := 80) (c := 6) (fun d hd => by
  obtain ⟨p, hpm, rfl⟩ := List.mem_map.mp hd
  exact fine_rn (R.p p hpm)) (by rw [List.length_map]; exact R.l6)).up (by decide) (by decide)
theorem r11_w (K : G4 G) {P : Addr} {ps qs : List (Int × Int)} (R : Rn ps) (T : Rn qs) (hn : M[n]? = some (.ins "String" (strF ps))) (hm : M[m]? = some (.ins "String" (strF qs))) {x0 x1 x2 x3 x4 x5 x6 x11 x12 : Option D} {Q : Fl → Env1 → Store → Prop}
    (q : ∀ M', Ge M M' → Q .nx [x0, x1, x2, x3, x4, x5, x6, some (.tup (ps.map runD)), some (.tup (qs.map runD)), some (.ob n), some (.ob m), x11, x12] M') :
    OkS (d_law_2_r11 G P [x0, x1, x2, x3, x4, x5, x6, some (.tup (ps.map runD)), some (.tup (qs.map runD)), some (.ob n), some (.ob m), x11, x12] M) Q noS := by
  obtain ⟨z, hz⟩ := repr_l (S := fun _ => False) (M := M) (ds := [.tup (ps.map runD), .tup (qs.map runD)]) (k := 6) (n := 1100) (fun d hd => by
    simp only [List.mem_cons, List.not_mem_nil, or_false] at hd
    rcases hd with rfl | rfl
    · exact rn_fine R
    · exact rn_fine T) (by decide) (by simp)
  try simp -implicitDefEqProofs only [ok_ok, ok_exc, ok_bind, ok_of, oks_fl, oks_exc, oks_seq, nxt_nx, nxt_ret, nxt_brk, nxt_ct, oks_nx, oks_ret, oks_retN, retk, oks_asg, setk_nm, setk_tup, setAll, oks_drop, dropk, oks_ifs, ifk_t, ifk_f, oks_for, forkk, oks_par, park, oks_par3, par3k, stk, oks_setIx, oks_setF, ok_fin, fink_nx, fink_ret, ok_and, andk_t, andk_f, ok_or, ork_t, ork_f, ok_not, notk_t, notk_f, ok_asB, blk, ok_andV, andvk_t, andvk_f, ok_notV, notvk, ok_den3, d3k_t, d3k_f, ok_ife, ifek_t, ifek_f, loopk_nx, loopk_ct, loopk_brk, loopk_ret, onT_nm, onT_tup, ok_lc, gdk_t, gdk_f, exE_no, exS_no, exE_exS, ap_v, ap_c, ap_two, ap_call, ap_nil, ap_cons, ap_tup, ap_lst, ap_attr, ap_isi, ap_sl, ap_nopart, ap_it, ap_rng1, ap_rng2, ap_enA, ap_zip, ap_mt, ap_prop, ap_yes, ap_neg, ap_part, ap_two_c, of_some, op_addI, op_subI, startE, arity, Out.bind_ok, wipeE, List.map_cons, List.map_nil, List.getElem?_cons_zero, List.getElem?_cons_succ, Option.join_some, List.set_cons_zero, List.set_cons_succ, List.length_cons, List.length_nil, List.length_singleton, Nat.reduceAdd, Nat.reduceSub, Nat.zero_add, List.replicate, List.cons_append, List.nil_append, if_true, ite_true, eq_self, Bool.not_true, Bool.not_false, Bool.false_eq_true, reduceIte, true_and, and_true, decide_true, decide_false, line_c, Nat.reduceLeDiff, newL_small, List.length_append, List.append_assoc, Int.reduceSub, Int.reduceAdd, Int.reduceNeg, Int.reduceMul, cI_lt, cI_le, cI_gt, cI_ge, cI_ne, c_isnot, c_is, len_t, enA_t, ix_t0, ix_t1, ix_t2, ix_t3, pw18, pw20, pw30, pw31, ap_neg30, ap_rev, oks_raise, oks_try, exS_ap, exE_ap, ap_fmt, ap_xi, ap_zipX, ap_zipY, ap_step, oks_raise0, ap_partP, ok_tru, truk_t, d_law_2_r11, p_runs K.K hn, p_runs K.K hm]
  have z1 := hz (M ++ [SO.lst [.tup (ps.map runD), .tup (qs.map runD)]]) M.length (Keep.app _) (by rw [at_0]; rfl)
  have z2 := hz (M ++ [SO.lst [.tup (ps.map runD), .tup (qs.map runD)], SO.lst [.tup (ps.map runD), .tup (qs.map runD)]]) (M.length + 1) (Keep.app _) (by rw [at_k]; rfl)
  try simp -implicitDefEqProofs only [ok_ok, ok_exc, ok_bind, ok_of, oks_fl, oks_exc, oks_seq, nxt_nx, nxt_ret, nxt_brk, nxt_ct, oks_nx, oks_ret, oks_retN, retk, oks_asg, setk_nm, setk_tup, setAll, oks_drop, dropk, oks_ifs, ifk_t, ifk_f, oks_for, forkk, oks_par, park, oks_par3, par3k, stk, oks_setIx, oks_setF, ok_fin, fink_nx, fink_ret, ok_and, andk_t, andk_f, ok_or, ork_t, ork_f, ok_not, notk_t, notk_f, ok_asB, blk, ok_andV, andvk_t, andvk_f, ok_notV, notvk, ok_den3, d3k_t, d3k_f, ok_ife, ifek_t, ifek_f, loopk_nx, loopk_ct, loopk_brk, loopk_ret, onT_nm, onT_tup, ok_lc, gdk_t, gdk_f, exE_no, exS_no, exE_exS, ap_v, ap_c, ap_two, ap_call, ap_nil, ap_cons, ap_tup, ap_lst, ap_attr, ap_isi, ap_sl, ap_nopart, ap_it, ap_rng1, ap_rng2, ap_enA, ap_zip, ap_mt, ap_prop, ap_yes, ap_neg, ap_part, ap_two_c, of_some, op_addI, op_subI, startE, arity, Out.bind_ok, wipeE, List.map_cons, List.map_nil, List.getElem?_cons_zero, List.getElem?_cons_succ, Option.join_some, List.set_cons_zero, List.set_cons_succ, List.length_cons, List.length_nil, List.length_singleton, Nat.reduceAdd, Nat.reduceSub, Nat.zero_add, List.replicate, List.cons_append, List.nil_append, if_true, ite_true, eq_self, Bool.not_true, Bool.not_false, Bool.false_eq_true, reduceIte, true_and, and_true, decide_true, decide_false, line_c, Nat.reduceLeDiff, newL_small, List.length_append, List.append_assoc, Int.reduceSub, Int.reduceAdd, Int.reduceNeg, Int.reduceMul, cI_lt, cI_le, cI_gt, cI_ge, cI_ne, c_isnot, c_is, len_t, enA_t, ix_t0, ix_t1, ix_t2, ix_t3, pw18, pw20, pw30, pw31, ap_neg30, ap_rev, oks_raise, oks_try, exS_ap, exE_ap, ap_fmt, ap_xi, ap_zipX, ap_zipY, ap_step, oks_raise0, ap_partP, ok_tru, truk_t, z1, z2, c_sne]
  exact q _ (Ge.app _)
theorem r9_w (K : G4 G) {P : Addr} {ps qs : List (Int × Int)} (R : Rn ps) (T : Rn qs) (hD : Dk M b c t) (ht : t < 90000) {mo : Int} (m0 : 0 ≤ mo) (m1 : mo ≤ 10 ^ 29) (hb : 1 ≠ b) (h1 : M[1]? = some (.tab P lamQ)) (nb : n ≠ b) (mb : m ≠ b) (hn : M[n]? = some (.ins "String" (strF ps))) (hm : M[m]? = some (.ins "String" (strF qs)))
    {a4 a5 : Nat} {z : Str} (z4 : reprD [.ob a4] M = .ok (.str z) M) (z5 : reprD [.ob a5] M = .ok (.str z) M) {x0 x2 x6 x11 x12 : Option D} {Q : Fl → Env1 → Store → Prop}
    (q : ∀ y6 y11 y12 M', Kb b M M' → Dk M' b c (t + 120) → Q .nx [x0, some (.ob b), x2, some (.int mo), some (.ob a4), some (.ob a5), y6, some (.tup (ps.map runD)), some (.tup (qs.map runD)), some (.ob n), some (.ob m), y11, y12] M') :
    OkS (d_law_2_r9 G P [x0, some (.ob b), x2, some (.int mo), some (.ob a4), some (.ob a5), x6, some (.tup (ps.map runD)), some (.tup (qs.map runD)), some (.ob n), some (.ob m), x11, x12] M) Q noS := by
  have r6 : itRange1 [.int 6] M = .ok ⟨rangeD 0 6, none⟩ M := rng1 (by decide) (by decide)
  rw [d_law_2_e11]
  try simp -implicitDefEqProofs only [ok_ok, ok_exc, ok_bind, ok_of, oks_fl, oks_exc, oks_seq, nxt_nx, nxt_ret, nxt_brk, nxt_ct, oks_nx, oks_ret, oks_retN, retk, oks_asg, setk_nm, setk_tup, setAll, oks_drop, dropk, oks_ifs, ifk_t, ifk_f, oks_for, forkk, oks_par, park, oks_par3, par3k, stk, oks_setIx, oks_setF, ok_fin, fink_nx, fink_ret, ok_and, andk_t, andk_f, ok_or, ork_t, ork_f, ok_not, notk_t, notk_f, ok_asB, blk, ok_andV, andvk_t, andvk_f, ok_notV, notvk, ok_den3, d3k_t, d3k_f, ok_ife, ifek_t, ifek_f, loopk_nx, loopk_ct, loopk_brk, loopk_ret, onT_nm, onT_tup, ok_lc, gdk_t, gdk_f, exE_no, exS_no, exE_exS, ap_v, ap_c, ap_two, ap_call, ap_nil, ap_cons, ap_tup, ap_lst, ap_attr, ap_isi, ap_sl, ap_nopart, ap_it, ap_rng1, ap_rng2, ap_enA, ap_zip, ap_mt, ap_prop, ap_yes, ap_neg, ap_part, ap_two_c, of_some, op_addI, op_subI, startE, arity, Out.bind_ok, wipeE, List.map_cons, List.map_nil, List.getElem?_cons_zero, List.getElem?_cons_succ, Option.join_some, List.set_cons_zero, List.set_cons_succ, List.length_cons, List.length_nil, List.length_singleton, Nat.reduceAdd, Nat.reduceSub, Nat.zero_add, List.replicate, List.cons_append, List.nil_append, if_true, ite_true, eq_self, Bool.not_true, Bool.not_false, Bool.false_eq_true, reduceIte, true_and, and_true, decide_true, decide_false, line_c, Nat.reduceLeDiff, newL_small, List.length_append, List.append_assoc, Int.reduceSub, Int.reduceAdd, Int.reduceNeg, Int.reduceMul, cI_lt, cI_le, cI_gt, cI_ge, cI_ne, c_isnot, c_is, len_t, enA_t, ix_t0, ix_t1, ix_t2, ix_t3, pw18, pw20, pw30, pw31, ap_neg30, ap_rev, oks_raise, oks_try, exS_ap, exE_ap, ap_fmt, ap_xi, ap_zipX, ap_zipY, ap_step, oks_raise0, ap_partP, ok_tru, truk_t, z4, z5, c_sne, r6]
  refine oks_inv (fun j ρ A => ∃ x6 x11 x12 : Option D, ρ = [x0, some (.ob b), x2, some (.int mo), some (.ob a4), some (.ob a5), x6, some (.tup (ps.map runD)), some (.tup (qs.map runD)), some (.ob n), some (.ob m), x11, x12] ∧ Kb b M A ∧ Dk A b c (t + 20 * j)) ⟨_, _, _, rfl, Kb.refl, hD⟩ (fun _ _ _ _ => trivial) ?_ ?_
  · rintro j v ρ A hj ⟨y6, y11, y12, rfl, kA, DA⟩
    have hj6 : j < 6 := by
      have := (List.getElem?_eq_some_iff.mp hj).1
      simpa [rangeD] using this
    refine put_step K R DA (by omega) m0 m1 hb (kA.at hb h1) nb (kA.at nb hn) fun y z A' k' D' => ?_
    exact ⟨_, _, _, rfl, kA.trans k', Dk.up D' (by omega)⟩
  · rintro ρ A ⟨y6, y11, y12, rfl, kA, DA⟩
    have lr : (rangeD 0 6).length = 6 := by simp [rangeD]
    rw [lr] at DA
    refine r11_w K R T (kA.at nb hn) (kA.at mb hm) fun A' k' => ?_
    exact q _ _ _ _ (kA.trans k'.kb) (Dk.geK DA k')
theorem r4_w (K : G4 G) {P : Addr} {ps qs : List (Int × Int)} (R : Rn ps) (T : Rn qs) (hD : Dk M b c t) (ht : t < 90000) {mo : Int} (m0 : 0 ≤ mo) (m1 : mo ≤ 10 ^ 29) (hb : 1 ≠ b) (h1 : M[1]? = some (.tab P lamQ)) (nb : n ≠ b) (mb : m ≠ b) (hn : M[n]? = some (.ins "String" (strF ps))) (hm : M[m]? = some (.ins "String" (strF qs)))
    {x0 x2 x4 x5 x6 x11 x12 : Option D} {Q : Fl → Env1 → Store → Prop}
    (q : ∀ y4 y5 y6 y11 y12 M', Kb b M M' → Dk M' b c (t + 120) → Q .nx [x0, some (.ob b), x2, some (.int mo), y4, y5, y6, some (.tup (ps.map runD)), some (.tup (qs.map runD)), some (.ob n), some (.ob m), y11, y12] M') :
    OkS (d_law_2_r4 G P [x0, some (.ob b), x2, some (.int mo), x4, x5, x6, some (.tup (ps.map runD)), some (.tup (qs.map runD)), some (.ob n), some (.ob m), x11, x12] M) Q noS := by
  obtain ⟨p, hp, pI⟩ := R.last
  obtain ⟨p', hp', pI'⟩ := R.head
  obtain ⟨u, hu, uI⟩ := T.last
  obtain ⟨u', hu', uI'⟩ := T.head
  have v1 : (∀ v ∈ madeD (.tup (ps.reverse.map runD)), Fine (fun _ => False) 6 1100 M v) ∧ _ := made_fine (by decide) (rn_fine R.rev)
  have v2 : (∀ v ∈ madeD (joinD ps qs p u'), Fine (fun _ => False) 6 1100 M v) ∧ _ := made_fine (by decide) ((join_fine R T pI uI').up (by decide) (by decide))
  have v3 : (∀ v ∈ madeD (joinD qs ps u p'), Fine (fun _ => False) 6 1100 M v) ∧ _ := made_fine (by decide) ((join_fine T R uI pI').up (by decide) (by decide))
  have v4 : (∀ v ∈ madeD (joinD ps ps p p'), Fine (fun _ => False) 6 1100 M v) ∧ _ := made_fine (by decide) ((join_fine R R pI pI').up (by decide) (by decide))
  obtain ⟨z, hz⟩ := repr_lls (S := fun _ => False) (M := M) (k := 6) (n := 1100) (c := 3) (vs := [madeD (.tup (ps.reverse.map runD)), madeD (joinD ps qs p u'), madeD (joinD qs ps u p'), madeD (joinD ps ps p p')]) (fun v hv => by
    simp only [List.mem_cons, List.not_mem_nil, or_false] at hv
    rcases hv with rfl | rfl | rfl | rfl
    · exact v1
    · exact v2
    · exact v3
    · exact v4) (by decide) (by simp)
  clear v1 v2 v3 v4
  rw [d_law_2_e9]
  try simp -implicitDefEqProofs only [ok_ok, ok_exc, ok_bind, ok_of, oks_fl, oks_exc, oks_seq, nxt_nx, nxt_ret, nxt_brk, nxt_ct, oks_nx, oks_ret, oks_retN, retk, oks_asg, setk_nm, setk_tup, setAll, oks_drop, dropk, oks_ifs, ifk_t, ifk_f, oks_for, forkk, oks_par, park, oks_par3, par3k, stk, oks_setIx, oks_setF, ok_fin, fink_nx, fink_ret, ok_and, andk_t, andk_f, ok_or, ork_t, ork_f, ok_not, notk_t, notk_f, ok_asB, blk, ok_andV, andvk_t, andvk_f, ok_notV, notvk, ok_den3, d3k_t, d3k_f, ok_ife, ifek_t, ifek_f, loopk_nx, loopk_ct, loopk_brk, loopk_ret, onT_nm, onT_tup, ok_lc, gdk_t, gdk_f, exE_no, exS_no, exE_exS, ap_v, ap_c, ap_two, ap_call, ap_nil, ap_cons, ap_tup, ap_lst, ap_attr, ap_isi, ap_sl, ap_nopart, ap_it, ap_rng1, ap_rng2, ap_enA, ap_zip, ap_mt, ap_prop, ap_yes, ap_neg, ap_part, ap_two_c, of_some, op_addI, op_subI, startE, arity, Out.bind_ok, wipeE, List.map_cons, List.map_nil, List.getElem?_cons_zero, List.getElem?_cons_succ, Option.join_some, List.set_cons_zero, List.set_cons_succ, List.length_cons, List.length_nil, List.length_singleton, Nat.reduceAdd, Nat.reduceSub, Nat.zero_add, List.replicate, List.cons_append, List.nil_append, if_true, ite_true, eq_self, Bool.not_true, Bool.not_false, Bool.false_eq_true, reduceIte, true_and, and_true, decide_true, decide_false, line_c, Nat.reduceLeDiff, newL_small, List.length_append, List.append_assoc, Int.reduceSub, Int.reduceAdd, Int.reduceNeg, Int.reduceMul, cI_lt, cI_le, cI_gt, cI_ge, cI_ne, c_isnot, c_is, len_t, enA_t, ix_t0, ix_t1, ix_t2, ix_t3, pw18, pw20, pw30, pw31, ap_neg30, ap_rev, oks_raise, oks_try, exS_ap, exE_ap, ap_fmt, ap_xi, ap_zipX, ap_zipY, ap_step, oks_raise0, ap_partP, ok_tru, truk_t]
  refine ok_lam K h1 (v := madeD (.tup (ps.reverse.map runD))) ?_ ?_
  · try simp -implicitDefEqProofs only [ok_ok, ok_exc, ok_bind, ok_of, oks_fl, oks_exc, oks_seq, nxt_nx, nxt_ret, nxt_brk, nxt_ct, oks_nx, oks_ret, oks_retN, retk, oks_asg, setk_nm, setk_tup, setAll, oks_drop, dropk, oks_ifs, ifk_t, ifk_f, oks_for, forkk, oks_par, park, oks_par3, par3k, stk, oks_setIx, oks_setF, ok_fin, fink_nx, fink_ret, ok_and, andk_t, andk_f, ok_or, ork_t, ork_f, ok_not, notk_t, notk_f, ok_asB, blk, ok_andV, andvk_t, andvk_f, ok_notV, notvk, ok_den3, d3k_t, d3k_f, ok_ife, ifek_t, ifek_f, loopk_nx, loopk_ct, loopk_brk, loopk_ret, onT_nm, onT_tup, ok_lc, gdk_t, gdk_f, exE_no, exS_no, exE_exS, ap_v, ap_c, ap_two, ap_call, ap_nil, ap_cons, ap_tup, ap_lst, ap_attr, ap_isi, ap_sl, ap_nopart, ap_it, ap_rng1, ap_rng2, ap_enA, ap_zip, ap_mt, ap_prop, ap_yes, ap_neg, ap_part, ap_two_c, of_some, op_addI, op_subI, startE, arity, Out.bind_ok, wipeE, List.map_cons, List.map_nil, List.getElem?_cons_zero, List.getElem?_cons_succ, Option.join_some, List.set_cons_zero, List.set_cons_succ, List.length_cons, List.length_nil, List.length_singleton, Nat.reduceAdd, Nat.reduceSub, Nat.zero_add, List.replicate, List.cons_append, List.nil_append, if_true, ite_true, eq_self, Bool.not_true, Bool.not_false, Bool.false_eq_true, reduceIte, true_and, and_true, decide_true, decide_false, line_c, Nat.reduceLeDiff, newL_small, List.length_append, List.append_assoc, Int.reduceSub, Int.reduceAdd, Int.reduceNeg, Int.reduceMul, cI_lt, cI_le, cI_gt, cI_ge, cI_ne, c_isnot, c_is, len_t, enA_t, ix_t0, ix_t1, ix_t2, ix_t3, pw18, pw20, pw30, pw31, ap_neg30, ap_rev, oks_raise, oks_try, exS_ap, exE_ap, ap_fmt, ap_xi, ap_zipX, ap_zipY, ap_step, oks_raise0, ap_partP, ok_tru, truk_t, ap_meth, insD_ok hn (m := "turned") (by decide +kernel)]
    refine (turned_w K.K R hn).imp ?_
    rintro _ M1 ⟨a, rfl, ha, k⟩
    exact ⟨a, _, rfl, ha, R.rev.made, k⟩
  intro a1 M1 ha1 k1 la1
  try simp -implicitDefEqProofs only [ok_ok, ok_exc, ok_bind, ok_of, oks_fl, oks_exc, oks_seq, nxt_nx, nxt_ret, nxt_brk, nxt_ct, oks_nx, oks_ret, oks_retN, retk, oks_asg, setk_nm, setk_tup, setAll, oks_drop, dropk, oks_ifs, ifk_t, ifk_f, oks_for, forkk, oks_par, park, oks_par3, par3k, stk, oks_setIx, oks_setF, ok_fin, fink_nx, fink_ret, ok_and, andk_t, andk_f, ok_or, ork_t, ork_f, ok_not, notk_t, notk_f, ok_asB, blk, ok_andV, andvk_t, andvk_f, ok_notV, notvk, ok_den3, d3k_t, d3k_f, ok_ife, ifek_t, ifek_f, loopk_nx, loopk_ct, loopk_brk, loopk_ret, onT_nm, onT_tup, ok_lc, gdk_t, gdk_f, exE_no, exS_no, exE_exS, ap_v, ap_c, ap_two, ap_call, ap_nil, ap_cons, ap_tup, ap_lst, ap_attr, ap_isi, ap_sl, ap_nopart, ap_it, ap_rng1, ap_rng2, ap_enA, ap_zip, ap_mt, ap_prop, ap_yes, ap_neg, ap_part, ap_two_c, of_some, op_addI, op_subI, startE, arity, Out.bind_ok, wipeE, List.map_cons, List.map_nil, List.getElem?_cons_zero, List.getElem?_cons_succ, Option.join_some, List.set_cons_zero, List.set_cons_succ, List.length_cons, List.length_nil, List.length_singleton, Nat.reduceAdd, Nat.reduceSub, Nat.zero_add, List.replicate, List.cons_append, List.nil_append, if_true, ite_true, eq_self, Bool.not_true, Bool.not_false, Bool.false_eq_true, reduceIte, true_and, and_true, decide_true, decide_false, line_c, Nat.reduceLeDiff, newL_small, List.length_append, List.append_assoc, Int.reduceSub, Int.reduceAdd, Int.reduceNeg, Int.reduceMul, cI_lt, cI_le, cI_gt, cI_ge, cI_ne, c_isnot, c_is, len_t, enA_t, ix_t0, ix_t1, ix_t2, ix_t3, pw18, pw20, pw30, pw31, ap_neg30, ap_rev, oks_raise, oks_try, exS_ap, exE_ap, ap_fmt, ap_xi, ap_zipX, ap_zipY, ap_step, oks_raise0, ap_partP, ok_tru, truk_t]
  have h1 := k1.at h1
  have hn1 := k1.at hn
  have hm1 := k1.at hm
  obtain ⟨A1, hA1⟩ : ∃ N : Store, N = M1 ++ [SO.lst [.ob a1]] := ⟨_, rfl⟩
  have kA1 : Ge M1 A1 := by rw [hA1]; exact Ge.app _
  have f1 : A1[M1.length]? = some (.lst [.ob a1]) := by rw [hA1, at_0]; rfl
  have lA1 : A1.length = M1.length + 1 := by rw [hA1]; simp
  rw [← hA1]
  clear hA1
  try simp -implicitDefEqProofs only [ok_ok, ok_exc, ok_bind, ok_of, oks_fl, oks_exc, oks_seq, nxt_nx, nxt_ret, nxt_brk, nxt_ct, oks_nx, oks_ret, oks_retN, retk, oks_asg, setk_nm, setk_tup, setAll, oks_drop, dropk, oks_ifs, ifk_t, ifk_f, oks_for, forkk, oks_par, park, oks_par3, par3k, stk, oks_setIx, oks_setF, ok_fin, fink_nx, fink_ret, ok_and, andk_t, andk_f, ok_or, ork_t, ork_f, ok_not, notk_t, notk_f, ok_asB, blk, ok_andV, andvk_t, andvk_f, ok_notV, notvk, ok_den3, d3k_t, d3k_f, ok_ife, ifek_t, ifek_f, loopk_nx, loopk_ct, loopk_brk, loopk_ret, onT_nm, onT_tup, ok_lc, gdk_t, gdk_f, exE_no, exS_no, exE_exS, ap_v, ap_c, ap_two, ap_call, ap_nil, ap_cons, ap_tup, ap_lst, ap_attr, ap_isi, ap_sl, ap_nopart, ap_it, ap_rng1, ap_rng2, ap_enA, ap_zip, ap_mt, ap_prop, ap_yes, ap_neg, ap_part, ap_two_c, of_some, op_addI, op_subI, startE, arity, Out.bind_ok, wipeE, List.map_cons, List.map_nil, List.getElem?_cons_zero, List.getElem?_cons_succ, Option.join_some, List.set_cons_zero, List.set_cons_succ, List.length_cons, List.length_nil, List.length_singleton, Nat.reduceAdd, Nat.reduceSub, Nat.zero_add, List.replicate, List.cons_append, List.nil_append, if_true, ite_true, eq_self, Bool.not_true, Bool.not_false, Bool.false_eq_true, reduceIte, true_and, and_true, decide_true, decide_false, line_c, Nat.reduceLeDiff, newL_small, List.length_append, List.append_assoc, Int.reduceSub, Int.reduceAdd, Int.reduceNeg, Int.reduceMul, cI_lt, cI_le, cI_gt, cI_ge, cI_ne, c_isnot, c_is, len_t, enA_t, ix_t0, ix_t1, ix_t2, ix_t3, pw18, pw20, pw30, pw31, ap_neg30, ap_rev, oks_raise, oks_try, exS_ap, exE_ap, ap_fmt, ap_xi, ap_zipX, ap_zipY, ap_step, oks_raise0, ap_partP, ok_tru, truk_t, isl_l f1]
  refine ok_lam K (kA1.at h1) (v := madeD (joinD ps qs p u')) ?_ ?_
  · try simp -implicitDefEqProofs only [ok_ok, ok_exc, ok_bind, ok_of, oks_fl, oks_exc, oks_seq, nxt_nx, nxt_ret, nxt_brk, nxt_ct, oks_nx, oks_ret, oks_retN, retk, oks_asg, setk_nm, setk_tup, setAll, oks_drop, dropk, oks_ifs, ifk_t, ifk_f, oks_for, forkk, oks_par, park, oks_par3, par3k, stk, oks_setIx, oks_setF, ok_fin, fink_nx, fink_ret, ok_and, andk_t, andk_f, ok_or, ork_t, ork_f, ok_not, notk_t, notk_f, ok_asB, blk, ok_andV, andvk_t, andvk_f, ok_notV, notvk, ok_den3, d3k_t, d3k_f, ok_ife, ifek_t, ifek_f, loopk_nx, loopk_ct, loopk_brk, loopk_ret, onT_nm, onT_tup, ok_lc, gdk_t, gdk_f, exE_no, exS_no, exE_exS, ap_v, ap_c, ap_two, ap_call, ap_nil, ap_cons, ap_tup, ap_lst, ap_attr, ap_isi, ap_sl, ap_nopart, ap_it, ap_rng1, ap_rng2, ap_enA, ap_zip, ap_mt, ap_prop, ap_yes, ap_neg, ap_part, ap_two_c, of_some, op_addI, op_subI, startE, arity, Out.bind_ok, wipeE, List.map_cons, List.map_nil, List.getElem?_cons_zero, List.getElem?_cons_succ, Option.join_some, List.set_cons_zero, List.set_cons_succ, List.length_cons, List.length_nil, List.length_singleton, Nat.reduceAdd, Nat.reduceSub, Nat.zero_add, List.replicate, List.cons_append, List.nil_append, if_true, ite_true, eq_self, Bool.not_true, Bool.not_false, Bool.false_eq_true, reduceIte, true_and, and_true, decide_true, decide_false, line_c, Nat.reduceLeDiff, newL_small, List.length_append, List.append_assoc, Int.reduceSub, Int.reduceAdd, Int.reduceNeg, Int.reduceMul, cI_lt, cI_le, cI_gt, cI_ge, cI_ne, c_isnot, c_is, len_t, enA_t, ix_t0, ix_t1, ix_t2, ix_t3, pw18, pw20, pw30, pw31, ap_neg30, ap_rev, oks_raise, oks_try, exS_ap, exE_ap, ap_fmt, ap_xi, ap_zipX, ap_zipY, ap_step, oks_raise0, ap_partP, ok_tru, truk_t, ap_meth, insD_ok (kA1.at hn1) (m := "joined") (by decide +kernel)]
    exact joined_w K R T hp hu' (kA1.at hn1) (kA1.at hm1)
  intro a2 M2 ha2 k2 la2
  have f2 := k2.at f1
  try simp -implicitDefEqProofs only [ok_ok, ok_exc, ok_bind, ok_of, oks_fl, oks_exc, oks_seq, nxt_nx, nxt_ret, nxt_brk, nxt_ct, oks_nx, oks_ret, oks_retN, retk, oks_asg, setk_nm, setk_tup, setAll, oks_drop, dropk, oks_ifs, ifk_t, ifk_f, oks_for, forkk, oks_par, park, oks_par3, par3k, stk, oks_setIx, oks_setF, ok_fin, fink_nx, fink_ret, ok_and, andk_t, andk_f, ok_or, ork_t, ork_f, ok_not, notk_t, notk_f, ok_asB, blk, ok_andV, andvk_t, andvk_f, ok_notV, notvk, ok_den3, d3k_t, d3k_f, ok_ife, ifek_t, ifek_f, loopk_nx, loopk_ct, loopk_brk, loopk_ret, onT_nm, onT_tup, ok_lc, gdk_t, gdk_f, exE_no, exS_no, exE_exS, ap_v, ap_c, ap_two, ap_call, ap_nil, ap_cons, ap_tup, ap_lst, ap_attr, ap_isi, ap_sl, ap_nopart, ap_it, ap_rng1, ap_rng2, ap_enA, ap_zip, ap_mt, ap_prop, ap_yes, ap_neg, ap_part, ap_two_c, of_some, op_addI, op_subI, startE, arity, Out.bind_ok, wipeE, List.map_cons, List.map_nil, List.getElem?_cons_zero, List.getElem?_cons_succ, Option.join_some, List.set_cons_zero, List.set_cons_succ, List.length_cons, List.length_nil, List.length_singleton, Nat.reduceAdd, Nat.reduceSub, Nat.zero_add, List.replicate, List.cons_append, List.nil_append, if_true, ite_true, eq_self, Bool.not_true, Bool.not_false, Bool.false_eq_true, reduceIte, true_and, and_true, decide_true, decide_false, line_c, Nat.reduceLeDiff, newL_small, List.length_append, List.append_assoc, Int.reduceSub, Int.reduceAdd, Int.reduceNeg, Int.reduceMul, cI_lt, cI_le, cI_gt, cI_ge, cI_ne, c_isnot, c_is, len_t, enA_t, ix_t0, ix_t1, ix_t2, ix_t3, pw18, pw20, pw30, pw31, ap_neg30, ap_rev, oks_raise, oks_try, exS_ap, exE_ap, ap_fmt, ap_xi, ap_zipX, ap_zipY, ap_step, oks_raise0, ap_partP, ok_tru, truk_t, app_l f2 (by simp)]
  obtain ⟨B2, hB2⟩ : ∃ N : Store, N = M2.set M1.length (.lst [.ob a1, .ob a2]) := ⟨_, rfl⟩
  have kB2 : Ge M1 B2 := by rw [hB2]; exact (kA1.trans k2).setn (Nat.le_refl _) _
  have g2 : B2[M1.length]? = some (.lst [.ob a1, .ob a2]) := by rw [hB2, List.getElem?_set_self (lt_of_at f2)]
  have e2 : B2[a2]? = some (.lst (madeD (joinD ps qs p u'))) := by rw [hB2, List.getElem?_set_ne (by omega)]; exact ha2
  have lB2 : M1.length < B2.length := lt_of_at g2
  rw [← hB2]
  clear hB2 f2 ha2 k2 kA1 f1
  try simp -implicitDefEqProofs only [ok_ok, ok_exc, ok_bind, ok_of, oks_fl, oks_exc, oks_seq, nxt_nx, nxt_ret, nxt_brk, nxt_ct, oks_nx, oks_ret, oks_retN, retk, oks_asg, setk_nm, setk_tup, setAll, oks_drop, dropk, oks_ifs, ifk_t, ifk_f, oks_for, forkk, oks_par, park, oks_par3, par3k, stk, oks_setIx, oks_setF, ok_fin, fink_nx, fink_ret, ok_and, andk_t, andk_f, ok_or, ork_t, ork_f, ok_not, notk_t, notk_f, ok_asB, blk, ok_andV, andvk_t, andvk_f, ok_notV, notvk, ok_den3, d3k_t, d3k_f, ok_ife, ifek_t, ifek_f, loopk_nx, loopk_ct, loopk_brk, loopk_ret, onT_nm, onT_tup, ok_lc, gdk_t, gdk_f, exE_no, exS_no, exE_exS, ap_v, ap_c, ap_two, ap_call, ap_nil, ap_cons, ap_tup, ap_lst, ap_attr, ap_isi, ap_sl, ap_nopart, ap_it, ap_rng1, ap_rng2, ap_enA, ap_zip, ap_mt, ap_prop, ap_yes, ap_neg, ap_part, ap_two_c, of_some, op_addI, op_subI, startE, arity, Out.bind_ok, wipeE, List.map_cons, List.map_nil, List.getElem?_cons_zero, List.getElem?_cons_succ, Option.join_some, List.set_cons_zero, List.set_cons_succ, List.length_cons, List.length_nil, List.length_singleton, Nat.reduceAdd, Nat.reduceSub, Nat.zero_add, List.replicate, List.cons_append, List.nil_append, if_true, ite_true, eq_self, Bool.not_true, Bool.not_false, Bool.false_eq_true, reduceIte, true_and, and_true, decide_true, decide_false, line_c, Nat.reduceLeDiff, newL_small, List.length_append, List.append_assoc, Int.reduceSub, Int.reduceAdd, Int.reduceNeg, Int.reduceMul, cI_lt, cI_le, cI_gt, cI_ge, cI_ne, c_isnot, c_is, len_t, enA_t, ix_t0, ix_t1, ix_t2, ix_t3, pw18, pw20, pw30, pw31, ap_neg30, ap_rev, oks_raise, oks_try, exS_ap, exE_ap, ap_fmt, ap_xi, ap_zipX, ap_zipY, ap_step, oks_raise0, ap_partP, ok_tru, truk_t, isl_l g2]
  refine ok_lam K (kB2.at h1) (v := madeD (joinD qs ps u p')) ?_ ?_
  · try simp -implicitDefEqProofs only [ok_ok, ok_exc, ok_bind, ok_of, oks_fl, oks_exc, oks_seq, nxt_nx, nxt_ret, nxt_brk, nxt_ct, oks_nx, oks_ret, oks_retN, retk, oks_asg, setk_nm, setk_tup, setAll, oks_drop, dropk, oks_ifs, ifk_t, ifk_f, oks_for, forkk, oks_par, park, oks_par3, par3k, stk, oks_setIx, oks_setF, ok_fin, fink_nx, fink_ret, ok_and, andk_t, andk_f, ok_or, ork_t, ork_f, ok_not, notk_t, notk_f, ok_asB, blk, ok_andV, andvk_t, andvk_f, ok_notV, notvk, ok_den3, d3k_t, d3k_f, ok_ife, ifek_t, ifek_f, loopk_nx, loopk_ct, loopk_brk, loopk_ret, onT_nm, onT_tup, ok_lc, gdk_t, gdk_f, exE_no, exS_no, exE_exS, ap_v, ap_c, ap_two, ap_call, ap_nil, ap_cons, ap_tup, ap_lst, ap_attr, ap_isi, ap_sl, ap_nopart, ap_it, ap_rng1, ap_rng2, ap_enA, ap_zip, ap_mt, ap_prop, ap_yes, ap_neg, ap_part, ap_two_c, of_some, op_addI, op_subI, startE, arity, Out.bind_ok, wipeE, List.map_cons, List.map_nil, List.getElem?_cons_zero, List.getElem?_cons_succ, Option.join_some, List.set_cons_zero, List.set_cons_succ, List.length_cons, List.length_nil, List.length_singleton, Nat.reduceAdd, Nat.reduceSub, Nat.zero_add, List.replicate, List.cons_append, List.nil_append, if_true, ite_true, eq_self, Bool.not_true, Bool.not_false, Bool.false_eq_true, reduceIte, true_and, and_true, decide_true, decide_false, line_c, Nat.reduceLeDiff, newL_small, List.length_append, List.append_assoc, Int.reduceSub, Int.reduceAdd, Int.reduceNeg, Int.reduceMul, cI_lt, cI_le, cI_gt, cI_ge, cI_ne, c_isnot, c_is, len_t, enA_t, ix_t0, ix_t1, ix_t2, ix_t3, pw18, pw20, pw30, pw31, ap_neg30, ap_rev, oks_raise, oks_try, exS_ap, exE_ap, ap_fmt, ap_xi, ap_zipX, ap_zipY, ap_step, oks_raise0, ap_partP, ok_tru, truk_t, ap_meth, insD_ok (kB2.at hm1) (m := "joined") (by decide +kernel)]
    exact joined_w K T R hu hp' (kB2.at hm1) (kB2.at hn1)
  intro a3 M3 ha3 k3 la3
  have f3 := k3.at g2
  try simp -implicitDefEqProofs only [ok_ok, ok_exc, ok_bind, ok_of, oks_fl, oks_exc, oks_seq, nxt_nx, nxt_ret, nxt_brk, nxt_ct, oks_nx, oks_ret, oks_retN, retk, oks_asg, setk_nm, setk_tup, setAll, oks_drop, dropk, oks_ifs, ifk_t, ifk_f, oks_for, forkk, oks_par, park, oks_par3, par3k, stk, oks_setIx, oks_setF, ok_fin, fink_nx, fink_ret, ok_and, andk_t, andk_f, ok_or, ork_t, ork_f, ok_not, notk_t, notk_f, ok_asB, blk, ok_andV, andvk_t, andvk_f, ok_notV, notvk, ok_den3, d3k_t, d3k_f, ok_ife, ifek_t, ifek_f, loopk_nx, loopk_ct, loopk_brk, loopk_ret, onT_nm, onT_tup, ok_lc, gdk_t, gdk_f, exE_no, exS_no, exE_exS, ap_v, ap_c, ap_two, ap_call, ap_nil, ap_cons, ap_tup, ap_lst, ap_attr, ap_isi, ap_sl, ap_nopart, ap_it, ap_rng1, ap_rng2, ap_enA, ap_zip, ap_mt, ap_prop, ap_yes, ap_neg, ap_part, ap_two_c, of_some, op_addI, op_subI, startE, arity, Out.bind_ok, wipeE, List.map_cons, List.map_nil, List.getElem?_cons_zero, List.getElem?_cons_succ, Option.join_some, List.set_cons_zero, List.set_cons_succ, List.length_cons, List.length_nil, List.length_singleton, Nat.reduceAdd, Nat.reduceSub, Nat.zero_add, List.replicate, List.cons_append, List.nil_append, if_true, ite_true, eq_self, Bool.not_true, Bool.not_false, Bool.false_eq_true, reduceIte, true_and, and_true, decide_true, decide_false, line_c, Nat.reduceLeDiff, newL_small, List.length_append, List.append_assoc, Int.reduceSub, Int.reduceAdd, Int.reduceNeg, Int.reduceMul, cI_lt, cI_le, cI_gt, cI_ge, cI_ne, c_isnot, c_is, len_t, enA_t, ix_t0, ix_t1, ix_t2, ix_t3, pw18, pw20, pw30, pw31, ap_neg30, ap_rev, oks_raise, oks_try, exS_ap, exE_ap, ap_fmt, ap_xi, ap_zipX, ap_zipY, ap_step, oks_raise0, ap_partP, ok_tru, truk_t, app_l f3 (by simp)]
  obtain ⟨B3, hB3⟩ : ∃ N : Store, N = M3.set M1.length (.lst [.ob a1, .ob a2, .ob a3]) := ⟨_, rfl⟩
  have kB3 : Ge M1 B3 := by rw [hB3]; exact (kB2.trans k3).setn (Nat.le_refl _) _
  have g3 : B3[M1.length]? = some (.lst [.ob a1, .ob a2, .ob a3]) := by rw [hB3, List.getElem?_set_self (lt_of_at f3)]
  have e2 : B3[a2]? = some (.lst (madeD (joinD ps qs p u'))) := by rw [hB3, List.getElem?_set_ne (by omega)]; exact k3.at e2
  have e3 : B3[a3]? = some (.lst (madeD (joinD qs ps u p'))) := by rw [hB3, List.getElem?_set_ne (by omega)]; exact ha3
  have lB3 : M1.length < B3.length := lt_of_at g3
  rw [← hB3]
  clear hB3 f3 ha3 k3 kB2 g2
  try simp -implicitDefEqProofs only [ok_ok, ok_exc, ok_bind, ok_of, oks_fl, oks_exc, oks_seq, nxt_nx, nxt_ret, nxt_brk, nxt_ct, oks_nx, oks_ret, oks_retN, retk, oks_asg, setk_nm, setk_tup, setAll, oks_drop, dropk, oks_ifs, ifk_t, ifk_f, oks_for, forkk, oks_par, park, oks_par3, par3k, stk, oks_setIx, oks_setF, ok_fin, fink_nx, fink_ret, ok_and, andk_t, andk_f, ok_or, ork_t, ork_f, ok_not, notk_t, notk_f, ok_asB, blk, ok_andV, andvk_t, andvk_f, ok_notV, notvk, ok_den3, d3k_t, d3k_f, ok_ife, ifek_t, ifek_f, loopk_nx, loopk_ct, loopk_brk, loopk_ret, onT_nm, onT_tup, ok_lc, gdk_t, gdk_f, exE_no, exS_no, exE_exS, ap_v, ap_c, ap_two, ap_call, ap_nil, ap_cons, ap_tup, ap_lst, ap_attr, ap_isi, ap_sl, ap_nopart, ap_it, ap_rng1, ap_rng2, ap_enA, ap_zip, ap_mt, ap_prop, ap_yes, ap_neg, ap_part, ap_two_c, of_some, op_addI, op_subI, startE, arity, Out.bind_ok, wipeE, List.map_cons, List.map_nil, List.getElem?_cons_zero, List.getElem?_cons_succ, Option.join_some, List.set_cons_zero, List.set_cons_succ, List.length_cons, List.length_nil, List.length_singleton, Nat.reduceAdd, Nat.reduceSub, Nat.zero_add, List.replicate, List.cons_append, List.nil_append, if_true, ite_true, eq_self, Bool.not_true, Bool.not_false, Bool.false_eq_true, reduceIte, true_and, and_true, decide_true, decide_false, line_c, Nat.reduceLeDiff, newL_small, List.length_append, List.append_assoc, Int.reduceSub, Int.reduceAdd, Int.reduceNeg, Int.reduceMul, cI_lt, cI_le, cI_gt, cI_ge, cI_ne, c_isnot, c_is, len_t, enA_t, ix_t0, ix_t1, ix_t2, ix_t3, pw18, pw20, pw30, pw31, ap_neg30, ap_rev, oks_raise, oks_try, exS_ap, exE_ap, ap_fmt, ap_xi, ap_zipX, ap_zipY, ap_step, oks_raise0, ap_partP, ok_tru, truk_t, isl_l g3]
  refine ok_lam K (kB3.at h1) (v := madeD (joinD ps ps p p')) ?_ ?_
  · try simp -implicitDefEqProofs only [ok_ok, ok_exc, ok_bind, ok_of, oks_fl, oks_exc, oks_seq, nxt_nx, nxt_ret, nxt_brk, nxt_ct, oks_nx, oks_ret, oks_retN, retk, oks_asg, setk_nm, setk_tup, setAll, oks_drop, dropk, oks_ifs, ifk_t, ifk_f, oks_for, forkk, oks_par, park, oks_par3, par3k, stk, oks_setIx, oks_setF, ok_fin, fink_nx, fink_ret, ok_and, andk_t, andk_f, ok_or, ork_t, ork_f, ok_not, notk_t, notk_f, ok_asB, blk, ok_andV, andvk_t, andvk_f, ok_notV, notvk, ok_den3, d3k_t, d3k_f, ok_ife, ifek_t, ifek_f, loopk_nx, loopk_ct, loopk_brk, loopk_ret, onT_nm, onT_tup, ok_lc, gdk_t, gdk_f, exE_no, exS_no, exE_exS, ap_v, ap_c, ap_two, ap_call, ap_nil, ap_cons, ap_tup, ap_lst, ap_attr, ap_isi, ap_sl, ap_nopart, ap_it, ap_rng1, ap_rng2, ap_enA, ap_zip, ap_mt, ap_prop, ap_yes, ap_neg, ap_part, ap_two_c, of_some, op_addI, op_subI, startE, arity, Out.bind_ok, wipeE, List.map_cons, List.map_nil, List.getElem?_cons_zero, List.getElem?_cons_succ, Option.join_some, List.set_cons_zero, List.set_cons_succ, List.length_cons, List.length_nil, List.length_singleton, Nat.reduceAdd, Nat.reduceSub, Nat.zero_add, List.replicate, List.cons_append, List.nil_append, if_true, ite_true, eq_self, Bool.not_true, Bool.not_false, Bool.false_eq_true, reduceIte, true_and, and_true, decide_true, decide_false, line_c, Nat.reduceLeDiff, newL_small, List.length_append, List.append_assoc, Int.reduceSub, Int.reduceAdd, Int.reduceNeg, Int.reduceMul, cI_lt, cI_le, cI_gt, cI_ge, cI_ne, c_isnot, c_is, len_t, enA_t, ix_t0, ix_t1, ix_t2, ix_t3, pw18, pw20, pw30, pw31, ap_neg30, ap_rev, oks_raise, oks_try, exS_ap, exE_ap, ap_fmt, ap_xi, ap_zipX, ap_zipY, ap_step, oks_raise0, ap_partP, ok_tru, truk_t, ap_meth, insD_ok (kB3.at hn1) (m := "turned") (by decide +kernel)]
    refine (turned_w K.K R (kB3.at hn1)).imp ?_
    rintro _ C1 ⟨c1, rfl, hc1, q1⟩
    try simp -implicitDefEqProofs only [ok_ok, ok_exc, ok_bind, ok_of, oks_fl, oks_exc, oks_seq, nxt_nx, nxt_ret, nxt_brk, nxt_ct, oks_nx, oks_ret, oks_retN, retk, oks_asg, setk_nm, setk_tup, setAll, oks_drop, dropk, oks_ifs, ifk_t, ifk_f, oks_for, forkk, oks_par, park, oks_par3, par3k, stk, oks_setIx, oks_setF, ok_fin, fink_nx, fink_ret, ok_and, andk_t, andk_f, ok_or, ork_t, ork_f, ok_not, notk_t, notk_f, ok_asB, blk, ok_andV, andvk_t, andvk_f, ok_notV, notvk, ok_den3, d3k_t, d3k_f, ok_ife, ifek_t, ifek_f, loopk_nx, loopk_ct, loopk_brk, loopk_ret, onT_nm, onT_tup, ok_lc, gdk_t, gdk_f, exE_no, exS_no, exE_exS, ap_v, ap_c, ap_two, ap_call, ap_nil, ap_cons, ap_tup, ap_lst, ap_attr, ap_isi, ap_sl, ap_nopart, ap_it, ap_rng1, ap_rng2, ap_enA, ap_zip, ap_mt, ap_prop, ap_yes, ap_neg, ap_part, ap_two_c, of_some, op_addI, op_subI, startE, arity, Out.bind_ok, wipeE, List.map_cons, List.map_nil, List.getElem?_cons_zero, List.getElem?_cons_succ, Option.join_some, List.set_cons_zero, List.set_cons_succ, List.length_cons, List.length_nil, List.length_singleton, Nat.reduceAdd, Nat.reduceSub, Nat.zero_add, List.replicate, List.cons_append, List.nil_append, if_true, ite_true, eq_self, Bool.not_true, Bool.not_false, Bool.false_eq_true, reduceIte, true_and, and_true, decide_true, decide_false, line_c, Nat.reduceLeDiff, newL_small, List.length_append, List.append_assoc, Int.reduceSub, Int.reduceAdd, Int.reduceNeg, Int.reduceMul, cI_lt, cI_le, cI_gt, cI_ge, cI_ne, c_isnot, c_is, len_t, enA_t, ix_t0, ix_t1, ix_t2, ix_t3, pw18, pw20, pw30, pw31, ap_neg30, ap_rev, oks_raise, oks_try, exS_ap, exE_ap, ap_fmt, ap_xi, ap_zipX, ap_zipY, ap_step, oks_raise0, ap_partP, ok_tru, truk_t, insD_ok hc1 (m := "turned") (by decide +kernel)]
    refine (turned_w K.K R.rev hc1).imp ?_
    rintro _ C2 ⟨c2, rfl, hc2, q2⟩
    rw [List.reverse_reverse] at hc2
    have hnC := q2.at (q1.at (kB3.at hn1))
    try simp -implicitDefEqProofs only [ok_ok, ok_exc, ok_bind, ok_of, oks_fl, oks_exc, oks_seq, nxt_nx, nxt_ret, nxt_brk, nxt_ct, oks_nx, oks_ret, oks_retN, retk, oks_asg, setk_nm, setk_tup, setAll, oks_drop, dropk, oks_ifs, ifk_t, ifk_f, oks_for, forkk, oks_par, park, oks_par3, par3k, stk, oks_setIx, oks_setF, ok_fin, fink_nx, fink_ret, ok_and, andk_t, andk_f, ok_or, ork_t, ork_f, ok_not, notk_t, notk_f, ok_asB, blk, ok_andV, andvk_t, andvk_f, ok_notV, notvk, ok_den3, d3k_t, d3k_f, ok_ife, ifek_t, ifek_f, loopk_nx, loopk_ct, loopk_brk, loopk_ret, onT_nm, onT_tup, ok_lc, gdk_t, gdk_f, exE_no, exS_no, exE_exS, ap_v, ap_c, ap_two, ap_call, ap_nil, ap_cons, ap_tup, ap_lst, ap_attr, ap_isi, ap_sl, ap_nopart, ap_it, ap_rng1, ap_rng2, ap_enA, ap_zip, ap_mt, ap_prop, ap_yes, ap_neg, ap_part, ap_two_c, of_some, op_addI, op_subI, startE, arity, Out.bind_ok, wipeE, List.map_cons, List.map_nil, List.getElem?_cons_zero, List.getElem?_cons_succ, Option.join_some, List.set_cons_zero, List.set_cons_succ, List.length_cons, List.length_nil, List.length_singleton, Nat.reduceAdd, Nat.reduceSub, Nat.zero_add, List.replicate, List.cons_append, List.nil_append, if_true, ite_true, eq_self, Bool.not_true, Bool.not_false, Bool.false_eq_true, reduceIte, true_and, and_true, decide_true, decide_false, line_c, Nat.reduceLeDiff, newL_small, List.length_append, List.append_assoc, Int.reduceSub, Int.reduceAdd, Int.reduceNeg, Int.reduceMul, cI_lt, cI_le, cI_gt, cI_ge, cI_ne, c_isnot, c_is, len_t, enA_t, ix_t0, ix_t1, ix_t2, ix_t3, pw18, pw20, pw30, pw31, ap_neg30, ap_rev, oks_raise, oks_try, exS_ap, exE_ap, ap_fmt, ap_xi, ap_zipX, ap_zipY, ap_step, oks_raise0, ap_partP, ok_tru, truk_t, insD_ok hc2 (m := "joined") (by decide +kernel)]
    exact (joined_w K R R hp hp' hc2 hnC).mono (fun _ _ h => callr_up (q1.trans q2) h) fun _ _ _ h => calle_up (q1.trans q2) h
  intro a4 M4 ha4 k4 la4
  have f4 := k4.at g3
  try simp -implicitDefEqProofs only [ok_ok, ok_exc, ok_bind, ok_of, oks_fl, oks_exc, oks_seq, nxt_nx, nxt_ret, nxt_brk, nxt_ct, oks_nx, oks_ret, oks_retN, retk, oks_asg, setk_nm, setk_tup, setAll, oks_drop, dropk, oks_ifs, ifk_t, ifk_f, oks_for, forkk, oks_par, park, oks_par3, par3k, stk, oks_setIx, oks_setF, ok_fin, fink_nx, fink_ret, ok_and, andk_t, andk_f, ok_or, ork_t, ork_f, ok_not, notk_t, notk_f, ok_asB, blk, ok_andV, andvk_t, andvk_f, ok_notV, notvk, ok_den3, d3k_t, d3k_f, ok_ife, ifek_t, ifek_f, loopk_nx, loopk_ct, loopk_brk, loopk_ret, onT_nm, onT_tup, ok_lc, gdk_t, gdk_f, exE_no, exS_no, exE_exS, ap_v, ap_c, ap_two, ap_call, ap_nil, ap_cons, ap_tup, ap_lst, ap_attr, ap_isi, ap_sl, ap_nopart, ap_it, ap_rng1, ap_rng2, ap_enA, ap_zip, ap_mt, ap_prop, ap_yes, ap_neg, ap_part, ap_two_c, of_some, op_addI, op_subI, startE, arity, Out.bind_ok, wipeE, List.map_cons, List.map_nil, List.getElem?_cons_zero, List.getElem?_cons_succ, Option.join_some, List.set_cons_zero, List.set_cons_succ, List.length_cons, List.length_nil, List.length_singleton, Nat.reduceAdd, Nat.reduceSub, Nat.zero_add, List.replicate, List.cons_append, List.nil_append, if_true, ite_true, eq_self, Bool.not_true, Bool.not_false, Bool.false_eq_true, reduceIte, true_and, and_true, decide_true, decide_false, line_c, Nat.reduceLeDiff, newL_small, List.length_append, List.append_assoc, Int.reduceSub, Int.reduceAdd, Int.reduceNeg, Int.reduceMul, cI_lt, cI_le, cI_gt, cI_ge, cI_ne, c_isnot, c_is, len_t, enA_t, ix_t0, ix_t1, ix_t2, ix_t3, pw18, pw20, pw30, pw31, ap_neg30, ap_rev, oks_raise, oks_try, exS_ap, exE_ap, ap_fmt, ap_xi, ap_zipX, ap_zipY, ap_step, oks_raise0, ap_partP, ok_tru, truk_t, app_l f4 (by simp)]
  obtain ⟨B4, hB4⟩ : ∃ N : Store, N = M4.set M1.length (.lst [.ob a1, .ob a2, .ob a3, .ob a4]) := ⟨_, rfl⟩
  have kB4 : Ge M1 B4 := by rw [hB4]; exact (kB3.trans k4).setn (Nat.le_refl _) _
  have g4 : B4[M1.length]? = some (.lst [.ob a1, .ob a2, .ob a3, .ob a4]) := by rw [hB4, List.getElem?_set_self (lt_of_at f4)]
  have e2 : B4[a2]? = some (.lst (madeD (joinD ps qs p u'))) := by rw [hB4, List.getElem?_set_ne (by omega)]; exact k4.at e2
  have e3 : B4[a3]? = some (.lst (madeD (joinD qs ps u p'))) := by rw [hB4, List.getElem?_set_ne (by omega)]; exact k4.at e3
  have e4 : B4[a4]? = some (.lst (madeD (joinD ps ps p p'))) := by rw [hB4, List.getElem?_set_ne (by omega)]; exact ha4
  have e1 : B4[a1]? = some (.lst (madeD (.tup (ps.reverse.map runD)))) := kB4.at ha1
  rw [← hB4]
  clear hB4 f4 ha4 k4 kB3 g3
  have l6 := R.l6
  have er : ((ps.map runD).reverse) = ps.reverse.map runD := by rw [List.map_reverse]
  try simp -implicitDefEqProofs only [ok_ok, ok_exc, ok_bind, ok_of, oks_fl, oks_exc, oks_seq, nxt_nx, nxt_ret, nxt_brk, nxt_ct, oks_nx, oks_ret, oks_retN, retk, oks_asg, setk_nm, setk_tup, setAll, oks_drop, dropk, oks_ifs, ifk_t, ifk_f, oks_for, forkk, oks_par, park, oks_par3, par3k, stk, oks_setIx, oks_setF, ok_fin, fink_nx, fink_ret, ok_and, andk_t, andk_f, ok_or, ork_t, ork_f, ok_not, notk_t, notk_f, ok_asB, blk, ok_andV, andvk_t, andvk_f, ok_notV, notvk, ok_den3, d3k_t, d3k_f, ok_ife, ifek_t, ifek_f, loopk_nx, loopk_ct, loopk_brk, loopk_ret, onT_nm, onT_tup, ok_lc, gdk_t, gdk_f, exE_no, exS_no, exE_exS, ap_v, ap_c, ap_two, ap_call, ap_nil, ap_cons, ap_tup, ap_lst, ap_attr, ap_isi, ap_sl, ap_nopart, ap_it, ap_rng1, ap_rng2, ap_enA, ap_zip, ap_mt, ap_prop, ap_yes, ap_neg, ap_part, ap_two_c, of_some, op_addI, op_subI, startE, arity, Out.bind_ok, wipeE, List.map_cons, List.map_nil, List.getElem?_cons_zero, List.getElem?_cons_succ, Option.join_some, List.set_cons_zero, List.set_cons_succ, List.length_cons, List.length_nil, List.length_singleton, Nat.reduceAdd, Nat.reduceSub, Nat.zero_add, List.replicate, List.cons_append, List.nil_append, if_true, ite_true, eq_self, Bool.not_true, Bool.not_false, Bool.false_eq_true, reduceIte, true_and, and_true, decide_true, decide_false, line_c, Nat.reduceLeDiff, newL_small, List.length_append, List.append_assoc, Int.reduceSub, Int.reduceAdd, Int.reduceNeg, Int.reduceMul, cI_lt, cI_le, cI_gt, cI_ge, cI_ne, c_isnot, c_is, len_t, enA_t, ix_t0, ix_t1, ix_t2, ix_t3, pw18, pw20, pw30, pw31, ap_neg30, ap_rev, oks_raise, oks_try, exS_ap, exE_ap, ap_fmt, ap_xi, ap_zipX, ap_zipY, ap_step, oks_raise0, ap_partP, ok_tru, truk_t, rev_t (M := B4) (ds := ps.map runD) (by rw [List.length_map]; omega), er]
  obtain ⟨C1, hC1⟩ : ∃ N : Store, N = B4 ++ [SO.lst [.str "ok", .tup (ps.reverse.map runD)]] := ⟨_, rfl⟩
  have kC1 : Ge B4 C1 := by rw [hC1]; exact Ge.app _
  have c1 : C1[B4.length]? = some (.lst (madeD (.tup (ps.reverse.map runD)))) := by rw [hC1, at_0, R.rev.made]; rfl
  rw [← hC1]
  clear hC1
  refine (both_w K R T hp hu').imp ?_
  rintro _ C2 ⟨c2, rfl, hc2, kC2⟩
  try simp -implicitDefEqProofs only [ok_ok, ok_exc, ok_bind, ok_of, oks_fl, oks_exc, oks_seq, nxt_nx, nxt_ret, nxt_brk, nxt_ct, oks_nx, oks_ret, oks_retN, retk, oks_asg, setk_nm, setk_tup, setAll, oks_drop, dropk, oks_ifs, ifk_t, ifk_f, oks_for, forkk, oks_par, park, oks_par3, par3k, stk, oks_setIx, oks_setF, ok_fin, fink_nx, fink_ret, ok_and, andk_t, andk_f, ok_or, ork_t, ork_f, ok_not, notk_t, notk_f, ok_asB, blk, ok_andV, andvk_t, andvk_f, ok_notV, notvk, ok_den3, d3k_t, d3k_f, ok_ife, ifek_t, ifek_f, loopk_nx, loopk_ct, loopk_brk, loopk_ret, onT_nm, onT_tup, ok_lc, gdk_t, gdk_f, exE_no, exS_no, exE_exS, ap_v, ap_c, ap_two, ap_call, ap_nil, ap_cons, ap_tup, ap_lst, ap_attr, ap_isi, ap_sl, ap_nopart, ap_it, ap_rng1, ap_rng2, ap_enA, ap_zip, ap_mt, ap_prop, ap_yes, ap_neg, ap_part, ap_two_c, of_some, op_addI, op_subI, startE, arity, Out.bind_ok, wipeE, List.map_cons, List.map_nil, List.getElem?_cons_zero, List.getElem?_cons_succ, Option.join_some, List.set_cons_zero, List.set_cons_succ, List.length_cons, List.length_nil, List.length_singleton, Nat.reduceAdd, Nat.reduceSub, Nat.zero_add, List.replicate, List.cons_append, List.nil_append, if_true, ite_true, eq_self, Bool.not_true, Bool.not_false, Bool.false_eq_true, reduceIte, true_and, and_true, decide_true, decide_false, line_c, Nat.reduceLeDiff, newL_small, List.length_append, List.append_assoc, Int.reduceSub, Int.reduceAdd, Int.reduceNeg, Int.reduceMul, cI_lt, cI_le, cI_gt, cI_ge, cI_ne, c_isnot, c_is, len_t, enA_t, ix_t0, ix_t1, ix_t2, ix_t3, pw18, pw20, pw30, pw31, ap_neg30, ap_rev, oks_raise, oks_try, exS_ap, exE_ap, ap_fmt, ap_xi, ap_zipX, ap_zipY, ap_step, oks_raise0, ap_partP, ok_tru, truk_t]
  refine (both_w K T R hu hp').imp ?_
  rintro _ C3 ⟨c3, rfl, hc3, kC3⟩
  try simp -implicitDefEqProofs only [ok_ok, ok_exc, ok_bind, ok_of, oks_fl, oks_exc, oks_seq, nxt_nx, nxt_ret, nxt_brk, nxt_ct, oks_nx, oks_ret, oks_retN, retk, oks_asg, setk_nm, setk_tup, setAll, oks_drop, dropk, oks_ifs, ifk_t, ifk_f, oks_for, forkk, oks_par, park, oks_par3, par3k, stk, oks_setIx, oks_setF, ok_fin, fink_nx, fink_ret, ok_and, andk_t, andk_f, ok_or, ork_t, ork_f, ok_not, notk_t, notk_f, ok_asB, blk, ok_andV, andvk_t, andvk_f, ok_notV, notvk, ok_den3, d3k_t, d3k_f, ok_ife, ifek_t, ifek_f, loopk_nx, loopk_ct, loopk_brk, loopk_ret, onT_nm, onT_tup, ok_lc, gdk_t, gdk_f, exE_no, exS_no, exE_exS, ap_v, ap_c, ap_two, ap_call, ap_nil, ap_cons, ap_tup, ap_lst, ap_attr, ap_isi, ap_sl, ap_nopart, ap_it, ap_rng1, ap_rng2, ap_enA, ap_zip, ap_mt, ap_prop, ap_yes, ap_neg, ap_part, ap_two_c, of_some, op_addI, op_subI, startE, arity, Out.bind_ok, wipeE, List.map_cons, List.map_nil, List.getElem?_cons_zero, List.getElem?_cons_succ, Option.join_some, List.set_cons_zero, List.set_cons_succ, List.length_cons, List.length_nil, List.length_singleton, Nat.reduceAdd, Nat.reduceSub, Nat.zero_add, List.replicate, List.cons_append, List.nil_append, if_true, ite_true, eq_self, Bool.not_true, Bool.not_false, Bool.false_eq_true, reduceIte, true_and, and_true, decide_true, decide_false, line_c, Nat.reduceLeDiff, newL_small, List.length_append, List.append_assoc, Int.reduceSub, Int.reduceAdd, Int.reduceNeg, Int.reduceMul, cI_lt, cI_le, cI_gt, cI_ge, cI_ne, c_isnot, c_is, len_t, enA_t, ix_t0, ix_t1, ix_t2, ix_t3, pw18, pw20, pw30, pw31, ap_neg30, ap_rev, oks_raise, oks_try, exS_ap, exE_ap, ap_fmt, ap_xi, ap_zipX, ap_zipY, ap_step, oks_raise0, ap_partP, ok_tru, truk_t]
  refine (both_w K R R hp hp').imp ?_
  rintro _ C4 ⟨c4, rfl, hc4, kC4⟩
  try simp -implicitDefEqProofs only [ok_ok, ok_exc, ok_bind, ok_of, oks_fl, oks_exc, oks_seq, nxt_nx, nxt_ret, nxt_brk, nxt_ct, oks_nx, oks_ret, oks_retN, retk, oks_asg, setk_nm, setk_tup, setAll, oks_drop, dropk, oks_ifs, ifk_t, ifk_f, oks_for, forkk, oks_par, park, oks_par3, par3k, stk, oks_setIx, oks_setF, ok_fin, fink_nx, fink_ret, ok_and, andk_t, andk_f, ok_or, ork_t, ork_f, ok_not, notk_t, notk_f, ok_asB, blk, ok_andV, andvk_t, andvk_f, ok_notV, notvk, ok_den3, d3k_t, d3k_f, ok_ife, ifek_t, ifek_f, loopk_nx, loopk_ct, loopk_brk, loopk_ret, onT_nm, onT_tup, ok_lc, gdk_t, gdk_f, exE_no, exS_no, exE_exS, ap_v, ap_c, ap_two, ap_call, ap_nil, ap_cons, ap_tup, ap_lst, ap_attr, ap_isi, ap_sl, ap_nopart, ap_it, ap_rng1, ap_rng2, ap_enA, ap_zip, ap_mt, ap_prop, ap_yes, ap_neg, ap_part, ap_two_c, of_some, op_addI, op_subI, startE, arity, Out.bind_ok, wipeE, List.map_cons, List.map_nil, List.getElem?_cons_zero, List.getElem?_cons_succ, Option.join_some, List.set_cons_zero, List.set_cons_succ, List.length_cons, List.length_nil, List.length_singleton, Nat.reduceAdd, Nat.reduceSub, Nat.zero_add, List.replicate, List.cons_append, List.nil_append, if_true, ite_true, eq_self, Bool.not_true, Bool.not_false, Bool.false_eq_true, reduceIte, true_and, and_true, decide_true, decide_false, line_c, Nat.reduceLeDiff, newL_small, List.length_append, List.append_assoc, Int.reduceSub, Int.reduceAdd, Int.reduceNeg, Int.reduceMul, cI_lt, cI_le, cI_gt, cI_ge, cI_ne, c_isnot, c_is, len_t, enA_t, ix_t0, ix_t1, ix_t2, ix_t3, pw18, pw20, pw30, pw31, ap_neg30, ap_rev, oks_raise, oks_try, exS_ap, exE_ap, ap_fmt, ap_xi, ap_zipX, ap_zipY, ap_step, oks_raise0, ap_partP, ok_tru, truk_t]
  obtain ⟨C5, hC5⟩ : ∃ N : Store, N = C4 ++ [SO.lst [.ob B4.length, .ob c2, .ob c3, .ob c4]] := ⟨_, rfl⟩
  have kC5 : Ge C4 C5 := by rw [hC5]; exact Ge.app _
  have c5 : C5[C4.length]? = some (.lst [.ob B4.length, .ob c2, .ob c3, .ob c4]) := by rw [hC5, at_0]; rfl
  rw [← hC5]
  clear hC5
  have k25 := (kC3.trans kC4).trans kC5
  have kB5 := (kC1.trans kC2).trans k25
  have kM5 : Ge M C5 := (k1.trans kB4).trans kB5
  have z4 := hz C5 M1.length _ kM5.keep (kB5.at g4) rfl (fun i v hv => by
    match i, hv with
    | 0, hv => cases hv; exact ⟨a1, rfl, kB5.at e1⟩
    | 1, hv => cases hv; exact ⟨a2, rfl, kB5.at e2⟩
    | 2, hv => cases hv; exact ⟨a3, rfl, kB5.at e3⟩
    | 3, hv => cases hv; exact ⟨a4, rfl, kB5.at e4⟩)
  have z5 := hz C5 C4.length _ kM5.keep c5 rfl (fun i v hv => by
    match i, hv with
    | 0, hv => cases hv; exact ⟨_, rfl, (kC2.trans k25).at c1⟩
    | 1, hv => cases hv; exact ⟨c2, rfl, k25.at hc2⟩
    | 2, hv => cases hv; exact ⟨c3, rfl, (kC4.trans kC5).at hc3⟩
    | 3, hv => cases hv; exact ⟨c4, rfl, kC5.at hc4⟩)
  refine r9_w K R T (Dk.geK hD kM5) ht m0 m1 hb (kB5.at (kB4.at h1)) nb mb (kM5.at hn) (kM5.at hm) z4 z5 fun _ _ _ M' k' D' => ?_
  exact q _ _ _ _ _ _ (kM5.kb.trans k') D'
theorem r3_w (K : G4 G) {P : Addr} {ps qs : List (Int × Int)} (R : Rn ps) (T : Rn qs) (hD : Dk M b c t) (ht : t < 90000) {mo : Int} (m0 : 0 ≤ mo) (m1 : mo ≤ 10 ^ 29) (hb : 1 ≠ b) (h1 : M[1]? = some (.tab P lamQ))
    {x0 x2 x4 x5 x6 x9 x10 x11 x12 : Option D} {Q : Fl → Env1 → Store → Prop}
    (q : ∀ y4 y5 y6 y9 y10 y11 y12 M', Kb b M M' → Dk M' b c (t + 120) → Q .nx [x0, some (.ob b), x2, some (.int mo), y4, y5, y6, some (.tup (ps.map runD)), some (.tup (qs.map runD)), y9, y10, y11, y12] M') :
    OkS (d_law_2_r3 G P [x0, some (.ob b), x2, some (.int mo), x4, x5, x6, some (.tup (ps.map runD)), some (.tup (qs.map runD)), x9, x10, x11, x12] M) Q noS := by
  rw [d_law_2_e4]
  try simp -implicitDefEqProofs only [ok_ok, ok_exc, ok_bind, ok_of, oks_fl, oks_exc, oks_seq, nxt_nx, nxt_ret, nxt_brk, nxt_ct, oks_nx, oks_ret, oks_retN, retk, oks_asg, setk_nm, setk_tup, setAll, oks_drop, dropk, oks_ifs, ifk_t, ifk_f, oks_for, forkk, oks_par, park, oks_par3, par3k, stk, oks_setIx, oks_setF, ok_fin, fink_nx, fink_ret, ok_and, andk_t, andk_f, ok_or, ork_t, ork_f, ok_not, notk_t, notk_f, ok_asB, blk, ok_andV, andvk_t, andvk_f, ok_notV, notvk, ok_den3, d3k_t, d3k_f, ok_ife, ifek_t, ifek_f, loopk_nx, loopk_ct, loopk_brk, loopk_ret, onT_nm, onT_tup, ok_lc, gdk_t, gdk_f, exE_no, exS_no, exE_exS, ap_v, ap_c, ap_two, ap_call, ap_nil, ap_cons, ap_tup, ap_lst, ap_attr, ap_isi, ap_sl, ap_nopart, ap_it, ap_rng1, ap_rng2, ap_enA, ap_zip, ap_mt, ap_prop, ap_yes, ap_neg, ap_part, ap_two_c, of_some, op_addI, op_subI, startE, arity, Out.bind_ok, wipeE, List.map_cons, List.map_nil, List.getElem?_cons_zero, List.getElem?_cons_succ, Option.join_some, List.set_cons_zero, List.set_cons_succ, List.length_cons, List.length_nil, List.length_singleton, Nat.reduceAdd, Nat.reduceSub, Nat.zero_add, List.replicate, List.cons_append, List.nil_append, if_true, ite_true, eq_self, Bool.not_true, Bool.not_false, Bool.false_eq_true, reduceIte, true_and, and_true, decide_true, decide_false, line_c, Nat.reduceLeDiff, newL_small, List.length_append, List.append_assoc, Int.reduceSub, Int.reduceAdd, Int.reduceNeg, Int.reduceMul, cI_lt, cI_le, cI_gt, cI_ge, cI_ne, c_isnot, c_is, len_t, enA_t, ix_t0, ix_t1, ix_t2, ix_t3, pw18, pw20, pw30, pw31, ap_neg30, ap_rev, oks_raise, oks_try, exS_ap, exE_ap, ap_fmt, ap_xi, ap_zipX, ap_zipY, ap_step, oks_raise0, ap_partP, ok_tru, truk_t]
  refine (string_w K.K R.p R.A R.l1 R.l6).imp ?_
  rintro _ M1 ⟨n, rfl, ln, hn, k1⟩
  try simp -implicitDefEqProofs only [ok_ok, ok_exc, ok_bind, ok_of, oks_fl, oks_exc, oks_seq, nxt_nx, nxt_ret, nxt_brk, nxt_ct, oks_nx, oks_ret, oks_retN, retk, oks_asg, setk_nm, setk_tup, setAll, oks_drop, dropk, oks_ifs, ifk_t, ifk_f, oks_for, forkk, oks_par, park, oks_par3, par3k, stk, oks_setIx, oks_setF, ok_fin, fink_nx, fink_ret, ok_and, andk_t, andk_f, ok_or, ork_t, ork_f, ok_not, notk_t, notk_f, ok_asB, blk, ok_andV, andvk_t, andvk_f, ok_notV, notvk, ok_den3, d3k_t, d3k_f, ok_ife, ifek_t, ifek_f, loopk_nx, loopk_ct, loopk_brk, loopk_ret, onT_nm, onT_tup, ok_lc, gdk_t, gdk_f, exE_no, exS_no, exE_exS, ap_v, ap_c, ap_two, ap_call, ap_nil, ap_cons, ap_tup, ap_lst, ap_attr, ap_isi, ap_sl, ap_nopart, ap_it, ap_rng1, ap_rng2, ap_enA, ap_zip, ap_mt, ap_prop, ap_yes, ap_neg, ap_part, ap_two_c, of_some, op_addI, op_subI, startE, arity, Out.bind_ok, wipeE, List.map_cons, List.map_nil, List.getElem?_cons_zero, List.getElem?_cons_succ, Option.join_some, List.set_cons_zero, List.set_cons_succ, List.length_cons, List.length_nil, List.length_singleton, Nat.reduceAdd, Nat.reduceSub, Nat.zero_add, List.replicate, List.cons_append, List.nil_append, if_true, ite_true, eq_self, Bool.not_true, Bool.not_false, Bool.false_eq_true, reduceIte, true_and, and_true, decide_true, decide_false, line_c, Nat.reduceLeDiff, newL_small, List.length_append, List.append_assoc, Int.reduceSub, Int.reduceAdd, Int.reduceNeg, Int.reduceMul, cI_lt, cI_le, cI_gt, cI_ge, cI_ne, c_isnot, c_is, len_t, enA_t, ix_t0, ix_t1, ix_t2, ix_t3, pw18, pw20, pw30, pw31, ap_neg30, ap_rev, oks_raise, oks_try, exS_ap, exE_ap, ap_fmt, ap_xi, ap_zipX, ap_zipY, ap_step, oks_raise0, ap_partP, ok_tru, truk_t]
  refine (string_w K.K T.p T.A T.l1 T.l6).imp ?_
  rintro _ M2 ⟨m, rfl, lm, hm, k2⟩
  try simp -implicitDefEqProofs only [ok_ok, ok_exc, ok_bind, ok_of, oks_fl, oks_exc, oks_seq, nxt_nx, nxt_ret, nxt_brk, nxt_ct, oks_nx, oks_ret, oks_retN, retk, oks_asg, setk_nm, setk_tup, setAll, oks_drop, dropk, oks_ifs, ifk_t, ifk_f, oks_for, forkk, oks_par, park, oks_par3, par3k, stk, oks_setIx, oks_setF, ok_fin, fink_nx, fink_ret, ok_and, andk_t, andk_f, ok_or, ork_t, ork_f, ok_not, notk_t, notk_f, ok_asB, blk, ok_andV, andvk_t, andvk_f, ok_notV, notvk, ok_den3, d3k_t, d3k_f, ok_ife, ifek_t, ifek_f, loopk_nx, loopk_ct, loopk_brk, loopk_ret, onT_nm, onT_tup, ok_lc, gdk_t, gdk_f, exE_no, exS_no, exE_exS, ap_v, ap_c, ap_two, ap_call, ap_nil, ap_cons, ap_tup, ap_lst, ap_attr, ap_isi, ap_sl, ap_nopart, ap_it, ap_rng1, ap_rng2, ap_enA, ap_zip, ap_mt, ap_prop, ap_yes, ap_neg, ap_part, ap_two_c, of_some, op_addI, op_subI, startE, arity, Out.bind_ok, wipeE, List.map_cons, List.map_nil, List.getElem?_cons_zero, List.getElem?_cons_succ, Option.join_some, List.set_cons_zero, List.set_cons_succ, List.length_cons, List.length_nil, List.length_singleton, Nat.reduceAdd, Nat.reduceSub, Nat.zero_add, List.replicate, List.cons_append, List.nil_append, if_true, ite_true, eq_self, Bool.not_true, Bool.not_false, Bool.false_eq_true, reduceIte, true_and, and_true, decide_true, decide_false, line_c, Nat.reduceLeDiff, newL_small, List.length_append, List.append_assoc, Int.reduceSub, Int.reduceAdd, Int.reduceNeg, Int.reduceMul, cI_lt, cI_le, cI_gt, cI_ge, cI_ne, c_isnot, c_is, len_t, enA_t, ix_t0, ix_t1, ix_t2, ix_t3, pw18, pw20, pw30, pw31, ap_neg30, ap_rev, oks_raise, oks_try, exS_ap, exE_ap, ap_fmt, ap_xi, ap_zipX, ap_zipY, ap_step, oks_raise0, ap_partP, ok_tru, truk_t]
  have lb := hD.lt
  have k := k1.trans k2
  refine r4_w K R T (Dk.geK hD k) ht m0 m1 hb (k.at h1) (by omega) (by have := k1.1; omega) (k2.at hn) hm fun _ _ _ _ _ M' k' D' => ?_
  exact q _ _ _ _ _ _ _ _ (k.kb.trans k') D'
end
end K04

namespace K04
open PySem PySem.Spec PyProof.Rows L2 RI
section
variable {G : Glo} {M M' : Store} {b c t n m : Nat} {d x y : D} {S : Nat → Prop}
theorem it_t {ds : List D} : itOf (.tup ds) M = .ok ⟨ds, none⟩ M := rfl
theorem rn_other {p u : Int × Int} {l : List (Int × Int)} (hp : RunI p) (hu : RunI u) (hl : ∀ q ∈ l, RunI q) : Rn ((p.1, u.2) :: (l.filter fun q => !(q.1 == p.1)).take 1) := by
  have hm : ∀ q ∈ (l.filter fun q => !(q.1 == p.1)).take 1, RunI q ∧ q.1 ≠ p.1 := fun q hq => by
    have := List.mem_filter.mp (List.mem_of_mem_take hq)
    exact ⟨hl q this.1, by simpa using this.2⟩
  have hlen : ((l.filter fun q => !(q.1 == p.1)).take 1).length ≤ 1 := by rw [List.length_take]; omega
  refine ⟨fun q hq => ?_, fun i x y hx hy => ?_, by simp, by rw [List.length_cons]; omega⟩
  · rcases List.mem_cons.mp hq with rfl | hq
    · exact ⟨hp.1, hp.2.1, hu.2.2.1, hu.2.2.2⟩
    · exact (hm q hq).1
  · have l2 := (List.getElem?_eq_some_iff.mp hy).1
    rw [List.length_cons] at l2
    have i0 : i = 0 := by omega
    subst i0
    cases hx
    rw [List.getElem?_cons_succ] at hy
    exact fun e => (hm y (List.mem_of_getElem? hy)).2 e.symm
def LI4 (P b c : Nat) (j : Nat) (ρ : Env1) (M : Store) : Prop := (Dk M b c (1000 * j) ∧ 1 ≠ b ∧ M[1]? = some (.tab P lamQ)) ∧ ∃ x0 x2 x3 x4 x5 x6 x7 x8 x9 x10 x11 x12, ρ = [x0, some (.ob b), x2, x3, x4, x5, x6, x7, x8, x9, x10, x11, x12]
theorem law2_w (K : G4 G) {P : Addr} {j : Nat} (hj : j < 6) (hD : Dk M b c (1000 * j)) (hb : 1 ≠ b) (h1 : M[1]? = some (.tab P lamQ)) {x0 x2 x3 x4 x5 x6 x7 x8 x9 x10 x11 x12 : Option D} {Q : Fl → Env1 → Store → Prop}
    (q : ∀ ρ' M', LI4 P b c (j + 1) ρ' M' → Q .nx ρ' M') : OkS (onT (.name 2) (d_law_2 G P) d [x0, some (.ob b), x2, x3, x4, x5, x6, x7, x8, x9, x10, x11, x12] M) Q noS := by
  rw [onT_nm, d_law_2_e3]
  try simp -implicitDefEqProofs only [ok_ok, ok_exc, ok_bind, ok_of, oks_fl, oks_exc, oks_seq, nxt_nx, nxt_ret, nxt_brk, nxt_ct, oks_nx, oks_ret, oks_retN, retk, oks_asg, setk_nm, setk_tup, setAll, oks_drop, dropk, oks_ifs, ifk_t, ifk_f, oks_for, forkk, oks_par, park, oks_par3, par3k, stk, oks_setIx, oks_setF, ok_fin, fink_nx, fink_ret, ok_and, andk_t, andk_f, ok_or, ork_t, ork_f, ok_not, notk_t, notk_f, ok_asB, blk, ok_andV, andvk_t, andvk_f, ok_notV, notvk, ok_den3, d3k_t, d3k_f, ok_ife, ifek_t, ifek_f, loopk_nx, loopk_ct, loopk_brk, loopk_ret, onT_nm, onT_tup, ok_lc, gdk_t, gdk_f, exE_no, exS_no, exE_exS, ap_v, ap_c, ap_two, ap_call, ap_nil, ap_cons, ap_tup, ap_lst, ap_attr, ap_isi, ap_sl, ap_nopart, ap_it, ap_rng1, ap_rng2, ap_enA, ap_zip, ap_mt, ap_prop, ap_yes, ap_neg, ap_part, ap_two_c, of_some, op_addI, op_subI, startE, arity, Out.bind_ok, wipeE, List.map_cons, List.map_nil, List.getElem?_cons_zero, List.getElem?_cons_succ, Option.join_some, List.set_cons_zero, List.set_cons_succ, List.length_cons, List.length_nil, List.length_singleton, Nat.reduceAdd, Nat.reduceSub, Nat.zero_add, List.replicate, List.cons_append, List.nil_append, if_true, ite_true, eq_self, Bool.not_true, Bool.not_false, Bool.false_eq_true, reduceIte, true_and, and_true, decide_true, decide_false, line_c, Nat.reduceLeDiff, newL_small, List.length_append, List.append_assoc, Int.reduceSub, Int.reduceAdd, Int.reduceNeg, Int.reduceMul, cI_lt, cI_le, cI_gt, cI_ge, cI_ne, c_isnot, c_is, len_t, enA_t, ix_t0, ix_t1, ix_t2, ix_t3, pw18, pw20, pw30, pw31, ap_neg30, ap_rev, oks_raise, oks_try, exS_ap, exE_ap, ap_fmt, ap_xi, ap_zipX, ap_zipY, ap_step, oks_raise0, ap_partP, ok_tru, truk_t]
  have lb := hD.lt
  refine (one_w G (hD.app _) (by rw [at_0]; rfl) (by omega) (by simp) (by simp) (by omega)).imp ?_
  rintro mo M1 ⟨hmo, k1, D1⟩
  have hm : ∃ m : Int, mo = .int m ∧ 0 ≤ m ∧ m ≤ 10 ^ 29 := by
    simp only [List.mem_cons, List.not_mem_nil, or_false] at hmo
    rcases hmo with rfl | rfl | rfl <;> exact ⟨_, rfl, by decide, by decide⟩
  obtain ⟨mo, rfl, m0, m1⟩ := hm
  try simp -implicitDefEqProofs only [ok_ok, ok_exc, ok_bind, ok_of, oks_fl, oks_exc, oks_seq, nxt_nx, nxt_ret, nxt_brk, nxt_ct, oks_nx, oks_ret, oks_retN, retk, oks_asg, setk_nm, setk_tup, setAll, oks_drop, dropk, oks_ifs, ifk_t, ifk_f, oks_for, forkk, oks_par, park, oks_par3, par3k, stk, oks_setIx, oks_setF, ok_fin, fink_nx, fink_ret, ok_and, andk_t, andk_f, ok_or, ork_t, ork_f, ok_not, notk_t, notk_f, ok_asB, blk, ok_andV, andvk_t, andvk_f, ok_notV, notvk, ok_den3, d3k_t, d3k_f, ok_ife, ifek_t, ifek_f, loopk_nx, loopk_ct, loopk_brk, loopk_ret, onT_nm, onT_tup, ok_lc, gdk_t, gdk_f, exE_no, exS_no, exE_exS, ap_v, ap_c, ap_two, ap_call, ap_nil, ap_cons, ap_tup, ap_lst, ap_attr, ap_isi, ap_sl, ap_nopart, ap_it, ap_rng1, ap_rng2, ap_enA, ap_zip, ap_mt, ap_prop, ap_yes, ap_neg, ap_part, ap_two_c, of_some, op_addI, op_subI, startE, arity, Out.bind_ok, wipeE, List.map_cons, List.map_nil, List.getElem?_cons_zero, List.getElem?_cons_succ, Option.join_some, List.set_cons_zero, List.set_cons_succ, List.length_cons, List.length_nil, List.length_singleton, Nat.reduceAdd, Nat.reduceSub, Nat.zero_add, List.replicate, List.cons_append, List.nil_append, if_true, ite_true, eq_self, Bool.not_true, Bool.not_false, Bool.false_eq_true, reduceIte, true_and, and_true, decide_true, decide_false, line_c, Nat.reduceLeDiff, newL_small, List.length_append, List.append_assoc, Int.reduceSub, Int.reduceAdd, Int.reduceNeg, Int.reduceMul, cI_lt, cI_le, cI_gt, cI_ge, cI_ne, c_isnot, c_is, len_t, enA_t, ix_t0, ix_t1, ix_t2, ix_t3, pw18, pw20, pw30, pw31, ap_neg30, ap_rev, oks_raise, oks_try, exS_ap, exE_ap, ap_fmt, ap_xi, ap_zipX, ap_zipY, ap_step, oks_raise0, ap_partP, ok_tru, truk_t]
  refine (runs_w G D1 (by decide) (by decide) m0 m1 (by omega)).imp ?_
  rintro _ M2 ⟨ps, rfl, l1, l6, hA, hp, _, k2, D2⟩
  have R : Rn ps := ⟨hp, hA, l1, by omega⟩
  try simp -implicitDefEqProofs only [ok_ok, ok_exc, ok_bind, ok_of, oks_fl, oks_exc, oks_seq, nxt_nx, nxt_ret, nxt_brk, nxt_ct, oks_nx, oks_ret, oks_retN, retk, oks_asg, setk_nm, setk_tup, setAll, oks_drop, dropk, oks_ifs, ifk_t, ifk_f, oks_for, forkk, oks_par, park, oks_par3, par3k, stk, oks_setIx, oks_setF, ok_fin, fink_nx, fink_ret, ok_and, andk_t, andk_f, ok_or, ork_t, ork_f, ok_not, notk_t, notk_f, ok_asB, blk, ok_andV, andvk_t, andvk_f, ok_notV, notvk, ok_den3, d3k_t, d3k_f, ok_ife, ifek_t, ifek_f, loopk_nx, loopk_ct, loopk_brk, loopk_ret, onT_nm, onT_tup, ok_lc, gdk_t, gdk_f, exE_no, exS_no, exE_exS, ap_v, ap_c, ap_two, ap_call, ap_nil, ap_cons, ap_tup, ap_lst, ap_attr, ap_isi, ap_sl, ap_nopart, ap_it, ap_rng1, ap_rng2, ap_enA, ap_zip, ap_mt, ap_prop, ap_yes, ap_neg, ap_part, ap_two_c, of_some, op_addI, op_subI, startE, arity, Out.bind_ok, wipeE, List.map_cons, List.map_nil, List.getElem?_cons_zero, List.getElem?_cons_succ, Option.join_some, List.set_cons_zero, List.set_cons_succ, List.length_cons, List.length_nil, List.length_singleton, Nat.reduceAdd, Nat.reduceSub, Nat.zero_add, List.replicate, List.cons_append, List.nil_append, if_true, ite_true, eq_self, Bool.not_true, Bool.not_false, Bool.false_eq_true, reduceIte, true_and, and_true, decide_true, decide_false, line_c, Nat.reduceLeDiff, newL_small, List.length_append, List.append_assoc, Int.reduceSub, Int.reduceAdd, Int.reduceNeg, Int.reduceMul, cI_lt, cI_le, cI_gt, cI_ge, cI_ne, c_isnot, c_is, len_t, enA_t, ix_t0, ix_t1, ix_t2, ix_t3, pw18, pw20, pw30, pw31, ap_neg30, ap_rev, oks_raise, oks_try, exS_ap, exE_ap, ap_fmt, ap_xi, ap_zipX, ap_zipY, ap_step, oks_raise0, ap_partP, ok_tru, truk_t]
  have lb2 := D2.lt
  refine (one_w G (D2.app _) (by rw [at_0]; rfl) (by omega) (by simp) (by simp) (by omega)).imp ?_
  rintro mn M3 ⟨hmn, k3, D3⟩
  have hm : ∃ m : Int, mn = .int m ∧ 1 ≤ m ∧ m ≤ 6 := by
    simp only [List.mem_cons, List.not_mem_nil, or_false] at hmn
    rcases hmn with rfl | rfl <;> exact ⟨_, rfl, by decide, by decide⟩
  obtain ⟨mn, rfl, n0, n1⟩ := hm
  try simp -implicitDefEqProofs only [ok_ok, ok_exc, ok_bind, ok_of, oks_fl, oks_exc, oks_seq, nxt_nx, nxt_ret, nxt_brk, nxt_ct, oks_nx, oks_ret, oks_retN, retk, oks_asg, setk_nm, setk_tup, setAll, oks_drop, dropk, oks_ifs, ifk_t, ifk_f, oks_for, forkk, oks_par, park, oks_par3, par3k, stk, oks_setIx, oks_setF, ok_fin, fink_nx, fink_ret, ok_and, andk_t, andk_f, ok_or, ork_t, ork_f, ok_not, notk_t, notk_f, ok_asB, blk, ok_andV, andvk_t, andvk_f, ok_notV, notvk, ok_den3, d3k_t, d3k_f, ok_ife, ifek_t, ifek_f, loopk_nx, loopk_ct, loopk_brk, loopk_ret, onT_nm, onT_tup, ok_lc, gdk_t, gdk_f, exE_no, exS_no, exE_exS, ap_v, ap_c, ap_two, ap_call, ap_nil, ap_cons, ap_tup, ap_lst, ap_attr, ap_isi, ap_sl, ap_nopart, ap_it, ap_rng1, ap_rng2, ap_enA, ap_zip, ap_mt, ap_prop, ap_yes, ap_neg, ap_part, ap_two_c, of_some, op_addI, op_subI, startE, arity, Out.bind_ok, wipeE, List.map_cons, List.map_nil, List.getElem?_cons_zero, List.getElem?_cons_succ, Option.join_some, List.set_cons_zero, List.set_cons_succ, List.length_cons, List.length_nil, List.length_singleton, Nat.reduceAdd, Nat.reduceSub, Nat.zero_add, List.replicate, List.cons_append, List.nil_append, if_true, ite_true, eq_self, Bool.not_true, Bool.not_false, Bool.false_eq_true, reduceIte, true_and, and_true, decide_true, decide_false, line_c, Nat.reduceLeDiff, newL_small, List.length_append, List.append_assoc, Int.reduceSub, Int.reduceAdd, Int.reduceNeg, Int.reduceMul, cI_lt, cI_le, cI_gt, cI_ge, cI_ne, c_isnot, c_is, len_t, enA_t, ix_t0, ix_t1, ix_t2, ix_t3, pw18, pw20, pw30, pw31, ap_neg30, ap_rev, oks_raise, oks_try, exS_ap, exE_ap, ap_fmt, ap_xi, ap_zipX, ap_zipY, ap_step, oks_raise0, ap_partP, ok_tru, truk_t]
  refine (runs_w G D3 n0 (by omega) m0 m1 (by omega)).imp ?_
  rintro _ M4 ⟨qs, rfl, u1, u6, uA, up, _, k4, D4⟩
  have T : Rn qs := ⟨up, uA, u1, by omega⟩
  try simp -implicitDefEqProofs only [ok_ok, ok_exc, ok_bind, ok_of, oks_fl, oks_exc, oks_seq, nxt_nx, nxt_ret, nxt_brk, nxt_ct, oks_nx, oks_ret, oks_retN, retk, oks_asg, setk_nm, setk_tup, setAll, oks_drop, dropk, oks_ifs, ifk_t, ifk_f, oks_for, forkk, oks_par, park, oks_par3, par3k, stk, oks_setIx, oks_setF, ok_fin, fink_nx, fink_ret, ok_and, andk_t, andk_f, ok_or, ork_t, ork_f, ok_not, notk_t, notk_f, ok_asB, blk, ok_andV, andvk_t, andvk_f, ok_notV, notvk, ok_den3, d3k_t, d3k_f, ok_ife, ifek_t, ifek_f, loopk_nx, loopk_ct, loopk_brk, loopk_ret, onT_nm, onT_tup, ok_lc, gdk_t, gdk_f, exE_no, exS_no, exE_exS, ap_v, ap_c, ap_two, ap_call, ap_nil, ap_cons, ap_tup, ap_lst, ap_attr, ap_isi, ap_sl, ap_nopart, ap_it, ap_rng1, ap_rng2, ap_enA, ap_zip, ap_mt, ap_prop, ap_yes, ap_neg, ap_part, ap_two_c, of_some, op_addI, op_subI, startE, arity, Out.bind_ok, wipeE, List.map_cons, List.map_nil, List.getElem?_cons_zero, List.getElem?_cons_succ, Option.join_some, List.set_cons_zero, List.set_cons_succ, List.length_cons, List.length_nil, List.length_singleton, Nat.reduceAdd, Nat.reduceSub, Nat.zero_add, List.replicate, List.cons_append, List.nil_append, if_true, ite_true, eq_self, Bool.not_true, Bool.not_false, Bool.false_eq_true, reduceIte, true_and, and_true, decide_true, decide_false, line_c, Nat.reduceLeDiff, newL_small, List.length_append, List.append_assoc, Int.reduceSub, Int.reduceAdd, Int.reduceNeg, Int.reduceMul, cI_lt, cI_le, cI_gt, cI_ge, cI_ne, c_isnot, c_is, len_t, enA_t, ix_t0, ix_t1, ix_t2, ix_t3, pw18, pw20, pw30, pw31, ap_neg30, ap_rev, oks_raise, oks_try, exS_ap, exE_ap, ap_fmt, ap_xi, ap_zipX, ap_zipY, ap_step, oks_raise0, ap_partP, ok_tru, truk_t]
  refine (take_w G D4 (by omega) (by omega) (by omega)).imp ?_
  rintro _ M5 ⟨w, rfl, w0, w1, k5, D5⟩
  have k05 : Kb b M M5 := (((Kb.app _).trans k1).trans (k2.trans ((Kb.app _).trans k3))).trans (k4.trans k5)
  have h5 := k05.at hb h1
  have fin : ∀ (qs : List (Int × Int)) (A : Store), Rn qs → Ge M5 A → OkS (d_law_2_r3 G P [x0, some (.ob b), some d, some (.int mo), x4, x5, x6, some (.tup (ps.map runD)), some (.tup (qs.map runD)), x9, x10, x11, x12] A) Q noS := fun qs A T kA =>
    r3_w K R T (Dk.geK D5 kA) (by omega) m0 m1 hb (kA.at h5) fun _ _ _ _ _ _ _ M' k' D' => q _ _ ⟨⟨Dk.up D' (by omega), hb, ((k05.ge kA).trans k').at hb h1⟩, _, _, _, _, _, _, _, _, _, _, _, _, rfl⟩
  obtain ⟨p, hpl, pI⟩ := R.last
  obtain ⟨u, huh, uI⟩ := T.head
  try simp -implicitDefEqProofs only [ok_ok, ok_exc, ok_bind, ok_of, oks_fl, oks_exc, oks_seq, nxt_nx, nxt_ret, nxt_brk, nxt_ct, oks_nx, oks_ret, oks_retN, retk, oks_asg, setk_nm, setk_tup, setAll, oks_drop, dropk, oks_ifs, ifk_t, ifk_f, oks_for, forkk, oks_par, park, oks_par3, par3k, stk, oks_setIx, oks_setF, ok_fin, fink_nx, fink_ret, ok_and, andk_t, andk_f, ok_or, ork_t, ork_f, ok_not, notk_t, notk_f, ok_asB, blk, ok_andV, andvk_t, andvk_f, ok_notV, notvk, ok_den3, d3k_t, d3k_f, ok_ife, ifek_t, ifek_f, loopk_nx, loopk_ct, loopk_brk, loopk_ret, onT_nm, onT_tup, ok_lc, gdk_t, gdk_f, exE_no, exS_no, exE_exS, ap_v, ap_c, ap_two, ap_call, ap_nil, ap_cons, ap_tup, ap_lst, ap_attr, ap_isi, ap_sl, ap_nopart, ap_it, ap_rng1, ap_rng2, ap_enA, ap_zip, ap_mt, ap_prop, ap_yes, ap_neg, ap_part, ap_two_c, of_some, op_addI, op_subI, startE, arity, Out.bind_ok, wipeE, List.map_cons, List.map_nil, List.getElem?_cons_zero, List.getElem?_cons_succ, Option.join_some, List.set_cons_zero, List.set_cons_succ, List.length_cons, List.length_nil, List.length_singleton, Nat.reduceAdd, Nat.reduceSub, Nat.zero_add, List.replicate, List.cons_append, List.nil_append, if_true, ite_true, eq_self, Bool.not_true, Bool.not_false, Bool.false_eq_true, reduceIte, true_and, and_true, decide_true, decide_false, line_c, Nat.reduceLeDiff, newL_small, List.length_append, List.append_assoc, Int.reduceSub, Int.reduceAdd, Int.reduceNeg, Int.reduceMul, cI_lt, cI_le, cI_gt, cI_ge, cI_ne, c_isnot, c_is, len_t, enA_t, ix_t0, ix_t1, ix_t2, ix_t3, pw18, pw20, pw30, pw31, ap_neg30, ap_rev, oks_raise, oks_try, exS_ap, exE_ap, ap_fmt, ap_xi, ap_zipX, ap_zipY, ap_step, oks_raise0, ap_partP, ok_tru, truk_t, cmp_int]
  by_cases hw : w = 0
  · have e : (w == 0) = true := by simp [hw]
    have s1 : ∀ M, slD (.tup (qs.map runD)) (some 1) none M = .ok (.tup ((qs.drop 1).map runD)) M := fun M => by rw [sl_from (by decide), List.map_drop]; rfl
    try simp -implicitDefEqProofs only [ok_ok, ok_exc, ok_bind, ok_of, oks_fl, oks_exc, oks_seq, nxt_nx, nxt_ret, nxt_brk, nxt_ct, oks_nx, oks_ret, oks_retN, retk, oks_asg, setk_nm, setk_tup, setAll, oks_drop, dropk, oks_ifs, ifk_t, ifk_f, oks_for, forkk, oks_par, park, oks_par3, par3k, stk, oks_setIx, oks_setF, ok_fin, fink_nx, fink_ret, ok_and, andk_t, andk_f, ok_or, ork_t, ork_f, ok_not, notk_t, notk_f, ok_asB, blk, ok_andV, andvk_t, andvk_f, ok_notV, notvk, ok_den3, d3k_t, d3k_f, ok_ife, ifek_t, ifek_f, loopk_nx, loopk_ct, loopk_brk, loopk_ret, onT_nm, onT_tup, ok_lc, gdk_t, gdk_f, exE_no, exS_no, exE_exS, ap_v, ap_c, ap_two, ap_call, ap_nil, ap_cons, ap_tup, ap_lst, ap_attr, ap_isi, ap_sl, ap_nopart, ap_it, ap_rng1, ap_rng2, ap_enA, ap_zip, ap_mt, ap_prop, ap_yes, ap_neg, ap_part, ap_two_c, of_some, op_addI, op_subI, startE, arity, Out.bind_ok, wipeE, List.map_cons, List.map_nil, List.getElem?_cons_zero, List.getElem?_cons_succ, Option.join_some, List.set_cons_zero, List.set_cons_succ, List.length_cons, List.length_nil, List.length_singleton, Nat.reduceAdd, Nat.reduceSub, Nat.zero_add, List.replicate, List.cons_append, List.nil_append, if_true, ite_true, eq_self, Bool.not_true, Bool.not_false, Bool.false_eq_true, reduceIte, true_and, and_true, decide_true, decide_false, line_c, Nat.reduceLeDiff, newL_small, List.length_append, List.append_assoc, Int.reduceSub, Int.reduceAdd, Int.reduceNeg, Int.reduceMul, cI_lt, cI_le, cI_gt, cI_ge, cI_ne, c_isnot, c_is, len_t, enA_t, ix_t0, ix_t1, ix_t2, ix_t3, pw18, pw20, pw30, pw31, ap_neg30, ap_rev, oks_raise, oks_try, exS_ap, exE_ap, ap_fmt, ap_xi, ap_zipX, ap_zipY, ap_step, oks_raise0, ap_partP, ok_tru, truk_t, e, last_at hpl, head_at huh, s1, it_t]
    refine lck_map (fun d => d) (fun d => match d with
      | .tup (.int i :: _) => !(i == p.1)
      | _ => false) (by rw [List.length_map, List.length_drop]; omega) trivial ?_ ?_
    · intro v hv A kA
      obtain ⟨r, hr, rfl⟩ := List.mem_map.mp hv
      refine ⟨_, set_nm, ?_⟩
      have i0 : ixD (runD r) (.int 0) A = .ok (.int r.1) A := ix_t0
      try simp -implicitDefEqProofs only [ok_ok, ok_exc, ok_bind, ok_of, oks_fl, oks_exc, oks_seq, nxt_nx, nxt_ret, nxt_brk, nxt_ct, oks_nx, oks_ret, oks_retN, retk, oks_asg, setk_nm, setk_tup, setAll, oks_drop, dropk, oks_ifs, ifk_t, ifk_f, oks_for, forkk, oks_par, park, oks_par3, par3k, stk, oks_setIx, oks_setF, ok_fin, fink_nx, fink_ret, ok_and, andk_t, andk_f, ok_or, ork_t, ork_f, ok_not, notk_t, notk_f, ok_asB, blk, ok_andV, andvk_t, andvk_f, ok_notV, notvk, ok_den3, d3k_t, d3k_f, ok_ife, ifek_t, ifek_f, loopk_nx, loopk_ct, loopk_brk, loopk_ret, onT_nm, onT_tup, ok_lc, gdk_t, gdk_f, exE_no, exS_no, exE_exS, ap_v, ap_c, ap_two, ap_call, ap_nil, ap_cons, ap_tup, ap_lst, ap_attr, ap_isi, ap_sl, ap_nopart, ap_it, ap_rng1, ap_rng2, ap_enA, ap_zip, ap_mt, ap_prop, ap_yes, ap_neg, ap_part, ap_two_c, of_some, op_addI, op_subI, startE, arity, Out.bind_ok, wipeE, List.map_cons, List.map_nil, List.getElem?_cons_zero, List.getElem?_cons_succ, Option.join_some, List.set_cons_zero, List.set_cons_succ, List.length_cons, List.length_nil, List.length_singleton, Nat.reduceAdd, Nat.reduceSub, Nat.zero_add, List.replicate, List.cons_append, List.nil_append, if_true, ite_true, eq_self, Bool.not_true, Bool.not_false, Bool.false_eq_true, reduceIte, true_and, and_true, decide_true, decide_false, line_c, Nat.reduceLeDiff, newL_small, List.length_append, List.append_assoc, Int.reduceSub, Int.reduceAdd, Int.reduceNeg, Int.reduceMul, cI_lt, cI_le, cI_gt, cI_ge, cI_ne, c_isnot, c_is, len_t, enA_t, ix_t0, ix_t1, ix_t2, ix_t3, pw18, pw20, pw30, pw31, ap_neg30, ap_rev, oks_raise, oks_try, exS_ap, exE_ap, ap_fmt, ap_xi, ap_zipX, ap_zipY, ap_step, oks_raise0, ap_partP, ok_tru, truk_t, i0, last_at hpl]
      exact ⟨rfl, Ge.refl, fun _ => Ge.refl⟩
    · intro A kA hA
      rw [List.map_id'] at hA
      obtain ⟨l, hl⟩ : ∃ l, l = (qs.drop 1).filter fun q => !(q.1 == p.1) := ⟨_, rfl⟩
      have ef : ((qs.drop 1).map runD).filter (fun d => match d with
        | .tup (.int i :: _) => !(i == p.1)
        | _ => false) = l.map runD := by
        rw [hl, List.filter_map]
        rfl
      rw [ef] at hA
      have ll : l.length ≤ 6 := by
        rw [hl]
        exact Nat.le_trans (List.length_filter_le _ _) (by rw [List.length_drop]; omega)
      have e2 : RI.cutD (l.map runD) none (some 1) = (l.take 1).map runD := by rw [cut_to (by decide), List.map_take]; rfl
      have e3 : slD (.ob M5.length) none (some 1) A = .ok (.ob A.length) (A ++ [.lst ((l.take 1).map runD)]) := by
        rw [sl_l hA (by rw [List.length_map]; omega), e2]
      have e4 : tupleD [.ob A.length] (A ++ [.lst ((l.take 1).map runD)]) = .ok (.tup ((l.take 1).map runD)) (A ++ [.lst ((l.take 1).map runD)]) := tup_l (by rw [at_0]; rfl)
      have e5 : ∀ M, opD .Add (.tup [.tup [.int p.1, .int u.2]]) (.tup ((l.take 1).map runD)) M = .ok (.tup (((p.1, u.2) :: l.take 1).map runD)) M := fun M => by
        rw [add_t (by rw [List.length_map, List.length_take]; simp; omega)]
        rfl
      try simp -implicitDefEqProofs only [ok_ok, ok_exc, ok_bind, ok_of, oks_fl, oks_exc, oks_seq, nxt_nx, nxt_ret, nxt_brk, nxt_ct, oks_nx, oks_ret, oks_retN, retk, oks_asg, setk_nm, setk_tup, setAll, oks_drop, dropk, oks_ifs, ifk_t, ifk_f, oks_for, forkk, oks_par, park, oks_par3, par3k, stk, oks_setIx, oks_setF, ok_fin, fink_nx, fink_ret, ok_and, andk_t, andk_f, ok_or, ork_t, ork_f, ok_not, notk_t, notk_f, ok_asB, blk, ok_andV, andvk_t, andvk_f, ok_notV, notvk, ok_den3, d3k_t, d3k_f, ok_ife, ifek_t, ifek_f, loopk_nx, loopk_ct, loopk_brk, loopk_ret, onT_nm, onT_tup, ok_lc, gdk_t, gdk_f, exE_no, exS_no, exE_exS, ap_v, ap_c, ap_two, ap_call, ap_nil, ap_cons, ap_tup, ap_lst, ap_attr, ap_isi, ap_sl, ap_nopart, ap_it, ap_rng1, ap_rng2, ap_enA, ap_zip, ap_mt, ap_prop, ap_yes, ap_neg, ap_part, ap_two_c, of_some, op_addI, op_subI, startE, arity, Out.bind_ok, wipeE, List.map_cons, List.map_nil, List.getElem?_cons_zero, List.getElem?_cons_succ, Option.join_some, List.set_cons_zero, List.set_cons_succ, List.length_cons, List.length_nil, List.length_singleton, Nat.reduceAdd, Nat.reduceSub, Nat.zero_add, List.replicate, List.cons_append, List.nil_append, if_true, ite_true, eq_self, Bool.not_true, Bool.not_false, Bool.false_eq_true, reduceIte, true_and, and_true, decide_true, decide_false, line_c, Nat.reduceLeDiff, newL_small, List.length_append, List.append_assoc, Int.reduceSub, Int.reduceAdd, Int.reduceNeg, Int.reduceMul, cI_lt, cI_le, cI_gt, cI_ge, cI_ne, c_isnot, c_is, len_t, enA_t, ix_t0, ix_t1, ix_t2, ix_t3, pw18, pw20, pw30, pw31, ap_neg30, ap_rev, oks_raise, oks_try, exS_ap, exE_ap, ap_fmt, ap_xi, ap_zipX, ap_zipY, ap_step, oks_raise0, ap_partP, ok_tru, truk_t, e3, e4, e5]
      have := fin ((p.1, u.2) :: l.take 1) (A ++ [.lst ((l.take 1).map runD)]) (by rw [hl]; exact rn_other pI uI fun q hq => up q (List.mem_of_mem_drop hq)) (kA.trans (Ge.app _))
      exact this
  · have e : (w == 0) = false := by simp [hw]
    try simp -implicitDefEqProofs only [ok_ok, ok_exc, ok_bind, ok_of, oks_fl, oks_exc, oks_seq, nxt_nx, nxt_ret, nxt_brk, nxt_ct, oks_nx, oks_ret, oks_retN, retk, oks_asg, setk_nm, setk_tup, setAll, oks_drop, dropk, oks_ifs, ifk_t, ifk_f, oks_for, forkk, oks_par, park, oks_par3, par3k, stk, oks_setIx, oks_setF, ok_fin, fink_nx, fink_ret, ok_and, andk_t, andk_f, ok_or, ork_t, ork_f, ok_not, notk_t, notk_f, ok_asB, blk, ok_andV, andvk_t, andvk_f, ok_notV, notvk, ok_den3, d3k_t, d3k_f, ok_ife, ifek_t, ifek_f, loopk_nx, loopk_ct, loopk_brk, loopk_ret, onT_nm, onT_tup, ok_lc, gdk_t, gdk_f, exE_no, exS_no, exE_exS, ap_v, ap_c, ap_two, ap_call, ap_nil, ap_cons, ap_tup, ap_lst, ap_attr, ap_isi, ap_sl, ap_nopart, ap_it, ap_rng1, ap_rng2, ap_enA, ap_zip, ap_mt, ap_prop, ap_yes, ap_neg, ap_part, ap_two_c, of_some, op_addI, op_subI, startE, arity, Out.bind_ok, wipeE, List.map_cons, List.map_nil, List.getElem?_cons_zero, List.getElem?_cons_succ, Option.join_some, List.set_cons_zero, List.set_cons_succ, List.length_cons, List.length_nil, List.length_singleton, Nat.reduceAdd, Nat.reduceSub, Nat.zero_add, List.replicate, List.cons_append, List.nil_append, if_true, ite_true, eq_self, Bool.not_true, Bool.not_false, Bool.false_eq_true, reduceIte, true_and, and_true, decide_true, decide_false, line_c, Nat.reduceLeDiff, newL_small, List.length_append, List.append_assoc, Int.reduceSub, Int.reduceAdd, Int.reduceNeg, Int.reduceMul, cI_lt, cI_le, cI_gt, cI_ge, cI_ne, c_isnot, c_is, len_t, enA_t, ix_t0, ix_t1, ix_t2, ix_t3, pw18, pw20, pw30, pw31, ap_neg30, ap_rev, oks_raise, oks_try, exS_ap, exE_ap, ap_fmt, ap_xi, ap_zipX, ap_zipY, ap_step, oks_raise0, ap_partP, ok_tru, truk_t, e]
    exact fin qs M5 T Ge.refl
end
end K04

namespace K04
open PySem PySem.Spec PyProof.Rows L2 RI
section
variable {G : Glo} {M M' : Store} {b c t t' f : Nat} {S : Nat → Prop} {d x y : D}
theorem deck_X (G : Glo) (X : SO) (ns : List Int) (hn : ns.length ≤ 63) : ∃ M b c, g__law_deck G [.ob 0] [.frl (ns.map D.int), X] = .ok (.ob b) M ∧ Dk M b c 0 ∧ 1 ≠ b ∧ M[1]? = some X := by
  have e1 : ∀ Z : Store, lenD [.ob 0] (.frl (ns.map D.int) :: Z) = .ok (.int ns.length) (.frl (ns.map D.int) :: Z) := fun Z => by simp [lenD, seqD, readAt]
  obtain ⟨l, hcut, hl⟩ := cut_int ns none (some 62)
  have sl : ∀ Z : Store, slD (.ob 0) none (some 62) (.frl (ns.map D.int) :: Z) = .ok (.ob (Z.length + 1)) (.frl (ns.map D.int) :: Z ++ [.lst (l.map D.int)]) := fun Z => by
    unfold slD
    simp only [readAt, List.getElem?_cons_zero, hcut]
    rw [newL_small (by rw [List.length_map]; omega)]
    rfl
  obtain ⟨M1, hM1⟩ : ∃ M1 : Store, M1 = [.frl (ns.map D.int), X, .lst (l.map D.int)] := ⟨_, rfl⟩
  have loop := forD_chk (k := 2) (l := l.map D.int) (body := onT (.name 2) (d__law_deck_1 G))
    (fun ρ M => ∃ (x : Option D) (g : Int), ρ = [some (.ob 0), some (.int g), x] ∧ M = M1) (fun ρ M ⟨x, g, _, hM⟩ => by rw [hM, hM1]; rfl) (l.map D.int) [some (.ob 0), some (.int 0), none] M1 ?_ ⟨_, _, rfl, rfl⟩
  · obtain ⟨ρ', M', e3, x, g, hρ, hMM⟩ := loop
    rw [hMM, hρ] at e3
    have s1 := sl [X]
    have s2 := sl [X, .lst (l.map D.int), .dct []]
    have e4 := e1 [X, .lst (l.map D.int), .dct [], .lst (l.map D.int), .lst (l.map D.int)]
    have ld : listD [.ob 4] [.frl (ns.map D.int), X, .lst (l.map D.int), .dct [], .lst (l.map D.int)] = .ok (.ob 5) [.frl (ns.map D.int), X, .lst (l.map D.int), .dct [], .lst (l.map D.int), .lst (l.map D.int)] := by
      have q : (l.map D.int).length ≤ 1000 := by rw [List.length_map]; omega
      exact newL_small q
    have nl : newL [.int ((ns.length : Int) + 7)] [.frl (ns.map D.int), X, .lst (l.map D.int), .dct [], .lst (l.map D.int), .lst (l.map D.int)] = .ok (.ob 6) [.frl (ns.map D.int), X, .lst (l.map D.int), .dct [], .lst (l.map D.int), .lst (l.map D.int), .lst [.int ((ns.length : Int) + 7)]] := newL_small (by simp)
    have ct : opD .Add (.ob 5) (.ob 6) [.frl (ns.map D.int), X, .lst (l.map D.int), .dct [], .lst (l.map D.int), .lst (l.map D.int), .lst [.int ((ns.length : Int) + 7)]] = .ok (.ob 7) [.frl (ns.map D.int), X, .lst (l.map D.int), .dct [], .lst (l.map D.int), .lst (l.map D.int), .lst [.int ((ns.length : Int) + 7)], .lst (l.map D.int ++ [.int ((ns.length : Int) + 7)])] :=
      cat_l (M := [.frl (ns.map D.int), X, .lst (l.map D.int), .dct [], .lst (l.map D.int), .lst (l.map D.int), .lst [.int ((ns.length : Int) + 7)]]) rfl rfl (by simp; omega)
    have mg : mergeKD [] [(.inr "cells", .ob 7), (.inr "turn", .int 0), (.inr "great", .int g)] = [(.inr "cells", .ob 7), (.inr "turn", .int 0), (.inr "great", .int g)] := by
      simp [mergeKD, putKD, k_ct, k_cg, k_tg]
    have ks : keysD [(.str "cells", .ob 7), (.str "turn", .int 0), (.str "great", .int g)] = some [(.inr "cells", .ob 7), (.inr "turn", .int 0), (.inr "great", .int g)] := rfl
    have it : itOf (.ob 2) M1 = .ok ⟨l.map D.int, some (2, l.map D.int)⟩ M1 := by rw [hM1]; rfl
    refine ⟨[.frl (ns.map D.int), X, .lst (l.map D.int), deckO 7 0 g, .lst (l.map D.int), .lst (l.map D.int), .lst [.int ((ns.length : Int) + 7)], .lst (l.map D.int ++ [.int ((ns.length : Int) + 7)])], 3, 7, ?_, ⟨0, Nat.le_refl _, ⟨g, l ++ [(ns.length : Int) + 7], rfl, by simp, by simp⟩, by decide⟩, by decide, rfl⟩
    simp only [List.length_nil, List.length_cons, Nat.zero_add, Nat.reduceAdd, List.cons_append, List.nil_append] at s1 s2
    rw [← hM1] at s1
    have e5 : g__law_deck G [.ob 0] [.frl (ns.map D.int), X] = finD (denSeq (denRet (denDN [(dc (.str "cells"), den2 (denCall (denCons (denSl (dv 0) (denNoPart) (denPart (dc (.int 62)))) (denNil)) listD) (denLst (denCons (den2 (denCall (denCons (dv 0) (denNil)) lenD) (dc (.int 7)) (opD .Add)) (denNil))) (opD .Add)), (dc (.str "turn"), dc (.int 0)), (dc (.str "great"), dv 1)])) denNx [some (.ob 0), some (.int g), x] M1) := by
      simp -implicitDefEqProofs only [g__law_deck, d__law_deck, startE, List.map_cons, List.map_nil, List.length_cons, List.length_nil, Nat.reduceAdd, Nat.reduceSub, List.replicate, List.cons_append, List.nil_append, ap_seq, ap_asg, ap_c, bindS, set_nm, List.set_cons_zero, List.set_cons_succ, th_nx, ap_for, ap_it, ap_sl, ap_v, List.getElem?_cons_zero, Option.join_some, of_some, Out.bind_ok, ap_nopart, denPart, s1, it, e3]
    rw [e5, hM1]
    simp -implicitDefEqProofs [denDN, denPairs, denPart, s2, ld, e4, nl, ct, ks, mg, deckO]
  · intro d hd ρ M hI
    obtain ⟨x, g, rfl, rfl⟩ := hI
    obtain ⟨z, _, rfl⟩ := List.mem_map.mp hd
    by_cases hx : (1000000000000000000 : Int) ≤ (if z < 0 then -z else z)
    · refine ⟨[some (.ob 0), some (.int (g * 59 + (if z < 0 then -z else z))), some (.int z)], _, ?_, ⟨_, _, rfl, rfl⟩⟩
      simp -implicitDefEqProofs [onT, d__law_deck_1, absD, op_powI, cmpD, blO, hx, mul_cr]
    · refine ⟨[some (.ob 0), some (.int g), some (.int z)], _, ?_, ⟨_, _, rfl, rfl⟩⟩
      simp -implicitDefEqProofs [onT, d__law_deck_1, absD, op_powI, cmpD, blO, hx]

theorem oks_nx_of {o : SOut} {P : Env1 → Store → Prop} (q : OkS o (fun f ρ' M' => f = .nx ∧ P ρ' M') noS) : ∃ ρ' M', o = .fl .nx ρ' M' ∧ P ρ' M' := by
  cases o with
  | fl f ρ' M' =>
    simp only [OkS] at q
    exact ⟨ρ', M', by rw [q.1], q.2⟩
  | exc c fs ρ' M' =>
    simp only [OkS] at q
    exact q.elim
  | no =>
    simp only [OkS] at q
theorem step2 (K : G4 G) {P : Addr} (j : Nat) (hj : j < 6) (ρ : Env1) (M : Store) (h : LI4 P b c j ρ M) : ∃ ρ' M', onT (.name 2) (d_law_2 G P) d ρ M = .fl .nx ρ' M' ∧ LI4 P b c (j + 1) ρ' M' := by
  obtain ⟨⟨hD, hb, h1⟩, x0, x2, x3, x4, x5, x6, x7, x8, x9, x10, x11, x12, rfl⟩ := h
  exact oks_nx_of (law2_w K hj hD hb h1 fun ρ' M' h => ⟨rfl, h⟩)
theorem law_ok (K : G4 G) (P : Addr) (ns : List Int) (hn : ns.length ≤ 63) : ∃ M, g_law G P [.ob 0] [.frl (ns.map D.int), .tab P lamQ] = .ok (.bl true) M := by
  obtain ⟨M, b, c, e, hD, hb, h1⟩ := deck_X G (.tab P lamQ) ns hn
  have lr : ∀ n, (rangeD 0 n).length = n := fun n => by simp [rangeD]
  have rg6 : ∀ M, itRange1 [.int 6] M = .ok ⟨rangeD 0 6, none⟩ M := fun M => rng1 (by decide) (by decide)
  obtain ⟨ρ1, M1, e1, h1⟩ := forD_n (body := onT (.name 2) (d_law_2 G P)) (fun j ρ M => LI4 P b c j ρ M) 6 (rangeD 0 6) 0 [some (.ob 0), some (.ob b), none, none, none, none, none, none, none, none, none, none, none] M (by rw [lr]; decide) (fun d hd n ρ M hn hI => step2 K n hn ρ M hI) ⟨⟨hD, hb, h1⟩, _, _, _, _, _, _, _, _, _, _, _, _, rfl⟩
  refine ⟨M1, ?_⟩
  simp -implicitDefEqProofs [g_law, d_law, startE, arity, e, rg6, e1]
end
end K04

namespace RI
open PySem PySem.Spec PyProof.Rows L2 LamX
section
variable {K : PySem.W.Frag}
theorem funC_mk {x qual : Str} {st : Stmt} {f c : Addr} {oc : Value} {od an : Option Addr} {osl : Array (Option Value)} {kV doc pm ct : Value} (l : K.lookup f = some ⟨oc, od, .func (PySem.W.fnOf x qual (defArgs st) (defBody st) (defScope st) .none kV doc pm an (.ref c) ct), osl⟩)
    (cc : PySem.W.codeIn K (.ref c) qual = true) : FunC K x qual st f (PySem.W.fnOf x qual (defArgs st) (defBody st) (defScope st) .none kV doc pm an (.ref c) ct) c := ⟨⟨oc, od, kV, doc, pm, an, ct, osl, rfl, l, cc⟩⟩
end
end RI

namespace K04
open PySem PySem.Spec PyProof.Rows L2 RI
section
variable {P : Program} {w : World} {K : PySem.W.Frag} {mg : Str → Option Value} {base : Heap}
theorem sc_law : FnScope ["_law_script", "_law_deck_here", "_law_turn", "_law_most", "_law_found", "_law_due", "_law_again", "_law_runs_here", "_law_others", "_law_string", "_law_other", "_law_number", "_law_run"] ["_law_script"] (defScope (top 34)) := ⟨rfl, rfl, rfl, by decide +kernel, rfl, by decide +kernel, by decide +kernel⟩
theorem ok_law (T : Txt K mg) (B__law_bent_run : FnB P w K mg base (clOf mg) 4 "_law_bent_run" ["_law_deck_here", "_law_run"] (g__law_bent_run (gloOf2 K mg exs inss fls))) (B__law_both : FnB P w K mg base (clOf mg) 5 "_law_both" ["_law_runs_here", "_law_others"] (g__law_both (gloOf2 K mg exs inss fls))) (B__law_deck : FnB P w K mg base (clOf mg) 1 "_law_deck" ["_law_script"] (g__law_deck (gloOf2 K mg exs inss fls))) (B__law_length : FnB P w K mg base (clOf mg) 3 "_law_length" ["_law_deck_here", "_law_most"] (g__law_length (gloOf2 K mg exs inss fls))) (B__law_odd : FnB P w K mg base (clOf mg) 3 "_law_odd" ["_law_deck_here"] (g__law_odd (gloOf2 K mg exs inss fls))) (B__law_one : FnB P w K mg base (clOf mg) 2 "_law_one" ["_law_deck_here", "_law_items"] (g__law_one (gloOf2 K mg exs inss fls))) (B__law_runs : FnB P w K mg base (clOf mg) 4 "_law_runs" ["_law_deck_here", "_law_many", "_law_most"] (g__law_runs (gloOf2 K mg exs inss fls))) (B__law_take : FnB P w K mg base (clOf mg) 1 "_law_take" ["_law_deck_here", "_law_many"] (g__law_take (gloOf2 K mg exs inss fls))) (B__law_with : FnB P w K mg base (clOf mg) 5 "_law_with" ["_law_runs_here", "_law_number", "_law_run"] (g__law_with (gloOf2 K mg exs inss fls))) (B_String : IcB P w K mg base (clOf mg) 5 "String" ["self", "runs"] (g_String (gloOf2 K mg exs inss fls))) (B_String_runs : PpB P w K mg base (clOf mg) 1 "String" "runs" ["self"] (g_String_runs (gloOf2 K mg exs inss fls))) (B_String_joined : MeB P w K mg base (clOf mg) 7 "String" "joined" ["self", "other"] (g_String_joined (gloOf2 K mg exs inss fls))) (B_String_turned : MeB P w K mg base (clOf mg) 7 "String" "turned" ["self"] (g_String_turned (gloOf2 K mg exs inss fls))) (B_String_with_run : MeB P w K mg base (clOf mg) 7 "String" "with_run" ["self", "number", "run"] (g_String_with_run (gloOf2 K mg exs inss fls))) (B__law_told : GvB P w K mg base (clOf mg) 8 "_law_told" "_law_call" (g__law_told (gloOf2 K mg exs inss fls))) {f c p : Addr} {fd : FuncData} (F : FunC K "law" "law" (top 34) f fd c) (TB : LamX.TabB base mg c p) : FnG P w K mg base (clOf mg) 10 f fd ["_law_script"] (g_law (gloOf2 K mg exs inss fls) p) :=
  fnG_ofC F sc_law fun A outer s H E hr hgd => by
    have hu := hr.units
    have hN := sc_law.nd
    have tk : Takes (cxOf (L2.CX P w) P w K mg base ["_law_script", "_law_deck_here", "_law_turn", "_law_most", "_law_found", "_law_due", "_law_again", "_law_runs_here", "_law_others", "_law_string", "_law_other", "_law_number", "_law_run"] "law" (defScope (top 34)) f (.ref c) A outer s H E) (fun c d _ h => E c d h) := takes_of rfl rfl rfl rfl
    have hp := passes_of (X := cxOf (L2.CX P w) P w K mg base ["_law_script", "_law_deck_here", "_law_turn", "_law_most", "_law_found", "_law_due", "_law_again", "_law_runs_here", "_law_others", "_law_string", "_law_other", "_law_number", "_law_run"] "law" (defScope (top 34)) f (.ref c) A outer s H E) rfl
    exact rb_cons (sset 1 hN (xcall B__law_deck (hr.mono (by decide)) hgd tk (xcons (xv 0) (ra_nil)))) (rb_cons (rs_for hp rfl (pi_rng1 (by rfl) T.b_range rfl (xcons (xi) (ra_nil))) (pg_of rfl hN rfl (fun _ => .inl rfl)) (rb_cons (sset 3 hN (xcall B__law_one (hr.mono (by decide)) hgd tk (xcons (xv 1) (xcons (xlst (xcons (xi) (xcons (xi) (xcons (xi) (ra_nil))))) (ra_nil))))) (rb_cons (rs_asg (xtup (xcons (xcall B__law_runs (hr.mono (by decide)) hgd tk (xcons (xv 1) (xcons (xi) (xcons (xv 3) (ra_nil))))) (xcons (xcall B__law_runs (hr.mono (by decide)) hgd tk (xcons (xv 1) (xcons (xcall B__law_one (hr.mono (by decide)) hgd tk (xcons (xv 1) (xcons (xlst (xcons (xi) (xcons (xi) (ra_nil)))) (ra_nil)))) (xcons (xv 3) (ra_nil))))) (ra_nil)))) (pg_of rfl hN rfl (fun _ => .inl rfl)) rfl rfl rfl) (rb_cons (rs_if (tcmp .Eq hu (xcall B__law_take (hr.mono (by decide)) hgd tk (xcons (xv 1) (xcons (xi) (ra_nil)))) (xi)) (rb_cons (sset 8 hN (xbin .Add (xtup (xcons (xtup (xcons (xix hu (xix hu (xv 7) (rd_neg (xi))) (xi)) (xcons (xix hu (xix hu (xv 8) (xi)) (xi)) (ra_nil)))) (ra_nil))) (xty (fun _ => c_tuple) T.b_tuple v_tuple (xcons (rd_sl (rd_lc rfl hN (pi_seq (rd_sl (xv 8) (ro_some (xi)) (ro_none))) (blkOk_by (own := [("_law_run", 12)]) rfl) (fun _ _ _ _ _ => pg_nm hN rfl (by first | exact .inr rfl | exact .inl rfl)) (fun _ _ _ _ _ => rts_one (tcmp .NotEq hu (xix hu (xv 12) (xi)) (xix hu (xix hu (xv 7) (rd_neg (xi))) (xi)))) (fun _ _ _ _ _ => xv 12) (fun _ => rfl) rfl) (ro_none) (ro_some (xi))) (ra_nil))))) (rb_nil)) (rb_nil)) (rb_cons (rs_asg (xtup (xcons (xmkI B_String (hr.mono (by decide)) hgd tk (xcons (xv 7) (ra_nil))) (xcons (xmkI B_String (hr.mono (by decide)) hgd tk (xcons (xv 8) (ra_nil))) (ra_nil)))) (pg_of rfl hN rfl (fun _ => .inl rfl)) rfl rfl rfl) (rb_cons (sset 4 hN (xlst (xcons (rd_lam (k := 7) (gT := g__law_told (gloOf2 K mg exs inss fls)) B__law_told TB rfl (hr.mono (by decide)) hgd tk (LamX.lamS_by (sc := defScope (top 34)) (by decide +kernel)) (fun A outer s H E f d hr hgd => lamIn (fun tk => have hu := hr.units; xmeth0 B_String_turned (hr.mono (by decide)) hgd tk (xv 9)))) (ra_nil)))) (rb_cons (rs_expr (xapp (xv 4) (xcons (rd_lam (k := 7) (gT := g__law_told (gloOf2 K mg exs inss fls)) B__law_told TB rfl (hr.mono (by decide)) hgd tk (LamX.lamS_by (sc := defScope (top 34)) (by decide +kernel)) (fun A outer s H E f d hr hgd => lamIn (fun tk => have hu := hr.units; xmeth B_String_joined (hr.mono (by decide)) hgd tk (xv 9) (xcons (xv 10) (ra_nil))))) (ra_nil))) rfl) (rb_cons (rs_expr (xapp (xv 4) (xcons (rd_lam (k := 7) (gT := g__law_told (gloOf2 K mg exs inss fls)) B__law_told TB rfl (hr.mono (by decide)) hgd tk (LamX.lamS_by (sc := defScope (top 34)) (by decide +kernel)) (fun A outer s H E f d hr hgd => lamIn (fun tk => have hu := hr.units; xmeth B_String_joined (hr.mono (by decide)) hgd tk (xv 10) (xcons (xv 9) (ra_nil))))) (ra_nil))) rfl) (rb_cons (rs_expr (xapp (xv 4) (xcons (rd_lam (k := 7) (gT := g__law_told (gloOf2 K mg exs inss fls)) B__law_told TB rfl (hr.mono (by decide)) hgd tk (LamX.lamS_by (sc := defScope (top 34)) (by decide +kernel)) (fun A outer s H E f d hr hgd => lamIn (fun tk => have hu := hr.units; xmeth B_String_joined (hr.mono (by decide)) hgd tk (xmeth0 B_String_turned (hr.mono (by decide)) hgd tk (xmeth0 B_String_turned (hr.mono (by decide)) hgd tk (xv 9))) (xcons (xv 9) (ra_nil))))) (ra_nil))) rfl) (rb_cons (sset 5 hN (xlst (xcons (xlst (xcons (xs) (xcons (rd_revT (xv 7)) (ra_nil)))) (xcons (xcall B__law_both (hr.mono (by decide)) hgd tk (xcons (xv 7) (xcons (xv 8) (ra_nil)))) (xcons (xcall B__law_both (hr.mono (by decide)) hgd tk (xcons (xv 8) (xcons (xv 7) (ra_nil)))) (xcons (xcall B__law_both (hr.mono (by decide)) hgd tk (xcons (xv 7) (xcons (xv 7) (ra_nil)))) (ra_nil))))))) (rb_cons (rs_if (tcmp .NotEq hu (xbi (fun _ => c_repr hgd hu) T.b_repr v_repr (xcons (xv 4) (ra_nil))) (xbi (fun _ => c_repr hgd hu) T.b_repr v_repr (xcons (xv 5) (ra_nil)))) (rb_cons (rs_ret (xb)) (rb_nil)) (rb_nil)) (rb_cons (rs_for hp rfl (pi_rng1 (by rfl) T.b_range rfl (xcons (xi) (ra_nil))) (pg_of rfl hN rfl (fun _ => .inl rfl)) (rb_cons (sset 11 hN (xcall B__law_one (hr.mono (by decide)) hgd tk (xcons (xv 1) (xcons (xlst (xcons (xcall B__law_take (hr.mono (by decide)) hgd tk (xcons (xv 1) (xcons (xbi (fun _ => c_len) T.b_len v_len (xcons (xv 7) (ra_nil))) (ra_nil)))) (xcons (xcall B__law_take (hr.mono (by decide)) hgd tk (xcons (xv 1) (xcons (xbi (fun _ => c_len) T.b_len v_len (xcons (xv 7) (ra_nil))) (ra_nil)))) (xcons (xcall B__law_odd (hr.mono (by decide)) hgd tk (xcons (xv 1) (ra_nil))) (xcons (xbi (fun _ => c_len) T.b_len v_len (xcons (xv 7) (ra_nil))) (ra_nil)))))) (ra_nil))))) (rb_cons (sset 12 hN (xtup (xcons (xcall B__law_take (hr.mono (by decide)) hgd tk (xcons (xv 1) (xcons (xi) (ra_nil)))) (xcons (xcall B__law_length (hr.mono (by decide)) hgd tk (xcons (xv 1) (xcons (xv 3) (ra_nil)))) (ra_nil))))) (rb_cons (rs_if (tcmp .Eq hu (xcall B__law_take (hr.mono (by decide)) hgd tk (xcons (xv 1) (xcons (xi) (ra_nil)))) (xi)) (rb_cons (sset 12 hN (xcall B__law_bent_run (hr.mono (by decide)) hgd tk (xcons (xv 1) (xcons (xv 12) (ra_nil))))) (rb_nil)) (rb_nil)) (rb_cons (rs_if (tcmp .NotEq hu (xbi (fun _ => c_repr hgd hu) T.b_repr v_repr (xcons (rd_lam (k := 7) (gT := g__law_told (gloOf2 K mg exs inss fls)) B__law_told TB rfl (hr.mono (by decide)) hgd tk (LamX.lamS_by (sc := defScope (top 34)) (by decide +kernel)) (fun A outer s H E f d hr hgd => lamIn (fun tk => have hu := hr.units; xmeth B_String_with_run (hr.mono (by decide)) hgd tk (xv 9) (xcons (xv 11) (xcons (xv 12) (ra_nil)))))) (ra_nil))) (xbi (fun _ => c_repr hgd hu) T.b_repr v_repr (xcons (xcall B__law_with (hr.mono (by decide)) hgd tk (xcons (xv 7) (xcons (xv 11) (xcons (xv 12) (ra_nil))))) (ra_nil)))) (rb_cons (rs_ret (xb)) (rb_nil)) (rb_nil)) (rb_nil))))) (fun _ => rfl)) (rb_cons (rs_if (tcmp .NotEq hu (xbi (fun _ => c_repr hgd hu) T.b_repr v_repr (xcons (xlst (xcons (xprop B_String_runs rfl (hr.mono (by decide)) hgd (xv 9)) (xcons (xprop B_String_runs rfl (hr.mono (by decide)) hgd (xv 10)) (ra_nil)))) (ra_nil))) (xbi (fun _ => c_repr hgd hu) T.b_repr v_repr (xcons (xlst (xcons (xv 7) (xcons (xv 8) (ra_nil)))) (ra_nil)))) (rb_cons (rs_ret (xb)) (rb_nil)) (rb_nil)) (rb_nil))))))))))))) (fun _ => rfl)) (rb_cons (rs_ret (xb)) (rb_nil)))
end
end K04

namespace K04
open PySem PySem.Spec PyProof.Rows L2 RI
def isiT : List (Cid × Cid × Bool) := (T7.map fun t => (Cid.ty t, Cid.ty "int", t == "int" || t == "bool")) ++ ((T7.map fun t => (Cid.ty t, Cid.ty "bool", t == "bool")) ++ ((T7.map fun t => (Cid.ty t, Cid.ty "tuple", t == "tuple"))))
def exmT : List (Str × Str × Bool) := [("NoRun", "NoRun", true), ("BadString", "NoRun", false), ("BadString", "BadString", true)]
theorem gok_of {K : PySem.W.Frag} {mg : Str → Option Value} (hI : ∀ t k b, (t, k, b) ∈ isiT → (gloOf2 K mg exs inss fls).isi t k = some b) : GOK (gloOf2 K mg exs inss fls) := {
  T := ⟨fun t ht => hI _ _ _ (List.mem_append.mpr (.inl (List.mem_map.mpr ⟨t, ht, rfl⟩))), fun t ht => hI _ _ _ (List.mem_append.mpr (.inr (List.mem_append.mpr (.inl (List.mem_map.mpr ⟨t, ht, rfl⟩))))), fun t ht => hI _ _ _ (List.mem_append.mpr (.inr (List.mem_append.mpr (.inr (List.mem_map.mpr ⟨t, ht, rfl⟩)))))⟩
  xB := (by decide +kernel : decide (("BadString" : Str) ∈ exs) = true)
  fn := (by decide +kernel : decide ((("BadString" : Str), ("number" : Str)) ∈ fls) = true)
  fw := (by decide +kernel : decide ((("BadString" : Str), ("word" : Str)) ∈ fls) = true)
  iS := (by decide +kernel : decide (("String" : Str) ∈ inss) = true)
  f1 := (by decide +kernel : decide ((("String" : Str), ("own_runs" : Str)) ∈ fls) = true)
  f2 := (by decide +kernel : decide ((("String" : Str), ("own_length" : Str)) ∈ fls) = true)
  f3 := (by decide +kernel : decide ((("String" : Str), ("own_totals" : Str)) ∈ fls) = true)
  f4 := (by decide +kernel : decide ((("String" : Str), ("own_kinds" : Str)) ∈ fls) = true) }
theorem g4_of {K : PySem.W.Frag} {mg : Str → Option Value} (hI : ∀ t k b, (t, k, b) ∈ isiT → (gloOf2 K mg exs inss fls).isi t k = some b) (hE : ∀ t k b, (t, k, b) ∈ exmT → (gloOf2 K mg exs inss fls).exm t k = some b) : G4 (gloOf2 K mg exs inss fls) := {
  K := gok_of hI
  xN := (by decide +kernel : decide (("NoRun" : Str) ∈ exs) = true)
  fv := (by decide +kernel : decide ((("NoRun" : Str), ("number" : Str)) ∈ fls) = true)
  e1 := hE _ _ _ (by simp [exmT])
  e2 := hE _ _ _ (by simp [exmT])
  e3 := hE _ _ _ (by simp [exmT]) }
theorem all_mk {l : PySem.W.OpenLaw} {w : World} {K : PySem.W.Frag} {h : Heap} {mg : Str → Option Value} {fa : Addr} (X : K.In h) (G : h.Ns mainGlobals mg) (hfa : mg "law" = some (.ref fa)) {C_ShareError C_BadString C_NoRun C_String f_BadString f_NoRun f_String p_String_runs f_String_runs f_String_turned f_String_joined f_String_with_run f__law_deck f__law_take f__law_one f__law_mixed f__law_length f__law_runs f_is_row f_is_integer f_is_whole f_run_fault f_check_runs f_count_beads f__law_told f_join_runs f__law_is_whole f__law_run_word f__law_runs_error f__law_made f__law_both f__law_odd f__law_bent_run f__law_with f_law c_law p_law : Addr}
    (a_ShareError : PySem.W.nsIn K mainGlobals "ShareError" = some (some (.ref C_ShareError)))
    (l_ShareError : ExcCls K C_ShareError [] tailVE "ValueError.__new__")
    (e_ShareError : exB K C_ShareError = true)
    (a_BadString : PySem.W.nsIn K mainGlobals "BadString" = some (some (.ref C_BadString)))
    (l_BadString : ExcCls K C_BadString [C_ShareError] tailVE "ValueError.__new__")
    (e_BadString : exB K C_BadString = true)
    (n_BadString_number : PySem.W.findIn K (.ref C_BadString) "number" = some none)
    (n_BadString_word : PySem.W.findIn K (.ref C_BadString) "word" = some none)
    (i_BadString : PySem.W.findIn K (.ref C_BadString) "__init__" = some (some (.ref f_BadString)))
    (t_BadString : PySem.W.typeIn K (.ref f_BadString) = some (.type "function"))
    (f_BadString_ : ∃ fd, Fun K "__init__" "BadString.__init__" (inClass (top 10) 0) f_BadString fd)
    (a_NoRun : PySem.W.nsIn K mainGlobals "NoRun" = some (some (.ref C_NoRun)))
    (l_NoRun : ExcCls K C_NoRun [] tailLE "LookupError.__new__")
    (e_NoRun : exB K C_NoRun = true)
    (n_NoRun_number : PySem.W.findIn K (.ref C_NoRun) "number" = some none)
    (i_NoRun : PySem.W.findIn K (.ref C_NoRun) "__init__" = some (some (.ref f_NoRun)))
    (t_NoRun : PySem.W.typeIn K (.ref f_NoRun) = some (.type "function"))
    (f_NoRun_ : ∃ fd, Fun K "__init__" "NoRun.__init__" (inClass (top 11) 0) f_NoRun fd)
    (a_String : PySem.W.nsIn K mainGlobals "String" = some (some (.ref C_String)))
    (s_String : insB K C_String = true)
    (n_String_own_runs : PySem.W.findIn K (.ref C_String) "own_runs" = some none)
    (n_String_own_length : PySem.W.findIn K (.ref C_String) "own_length" = some none)
    (n_String_own_totals : PySem.W.findIn K (.ref C_String) "own_totals" = some none)
    (n_String_own_kinds : PySem.W.findIn K (.ref C_String) "own_kinds" = some none)
    (y_String : PySem.W.makesIn K C_String = true)
    (i_String : PySem.W.findIn K (.ref C_String) "__init__" = some (some (.ref f_String)))
    (t_String : PySem.W.isFn K (.ref f_String) = true)
    (k_String : PySem.W.keepIn K (.ref C_String) = true)
    (f_String_ : ∃ fd, Fun K "__init__" "String.__init__" (inClass (top 17) 0) f_String fd)
    (pa_String_runs : PySem.W.findIn K (.ref C_String) "runs" = some (some (.ref p_String_runs)))
    (pg_String_runs : PySem.W.specialIn K (.ref p_String_runs) "__get__" = some (some (.builtin "property.__get__")))
    (pt_String_runs : PySem.W.takesIn K (.ref p_String_runs) = some true)
    (pr_String_runs : ∃ rest, PySem.W.recIn K p_String_runs "property" = some (.ref f_String_runs :: rest))
    (f_String_runs_ : ∃ fd, Fun K "runs" "String.runs" (inClass (top 17) 1) f_String_runs fd)
    (ma_String_turned : PySem.W.findIn K (.ref C_String) "turned" = some (some (.ref f_String_turned)))
    (mf_String_turned : PySem.W.isFn K (.ref f_String_turned) = true)
    (mk_String_turned : PySem.W.keepIn K (.ref f_String_turned) = true)
    (f_String_turned_ : ∃ fd, Fun K "turned" "String.turned" (inClass (top 17) 6) f_String_turned fd)
    (ma_String_joined : PySem.W.findIn K (.ref C_String) "joined" = some (some (.ref f_String_joined)))
    (mf_String_joined : PySem.W.isFn K (.ref f_String_joined) = true)
    (mk_String_joined : PySem.W.keepIn K (.ref f_String_joined) = true)
    (f_String_joined_ : ∃ fd, Fun K "joined" "String.joined" (inClass (top 17) 8) f_String_joined fd)
    (ma_String_with_run : PySem.W.findIn K (.ref C_String) "with_run" = some (some (.ref f_String_with_run)))
    (mf_String_with_run : PySem.W.isFn K (.ref f_String_with_run) = true)
    (mk_String_with_run : PySem.W.keepIn K (.ref f_String_with_run) = true)
    (f_String_with_run_ : ∃ fd, Fun K "with_run" "String.with_run" (inClass (top 17) 7) f_String_with_run fd)
    (a__law_deck : PySem.W.nsIn K mainGlobals "_law_deck" = some (some (.ref f__law_deck)))
    (k__law_deck : PySem.W.keepIn K (.ref f__law_deck) = true)
    (f__law_deck_ : ∃ fd, Fun K "_law_deck" "_law_deck" (top 19) f__law_deck fd)
    (a__law_take : PySem.W.nsIn K mainGlobals "_law_take" = some (some (.ref f__law_take)))
    (k__law_take : PySem.W.keepIn K (.ref f__law_take) = true)
    (f__law_take_ : ∃ fd, Fun K "_law_take" "_law_take" (top 20) f__law_take fd)
    (a__law_one : PySem.W.nsIn K mainGlobals "_law_one" = some (some (.ref f__law_one)))
    (k__law_one : PySem.W.keepIn K (.ref f__law_one) = true)
    (f__law_one_ : ∃ fd, Fun K "_law_one" "_law_one" (top 21) f__law_one fd)
    (a__law_mixed : PySem.W.nsIn K mainGlobals "_law_mixed" = some (some (.ref f__law_mixed)))
    (k__law_mixed : PySem.W.keepIn K (.ref f__law_mixed) = true)
    (f__law_mixed_ : ∃ fd, Fun K "_law_mixed" "_law_mixed" (top 22) f__law_mixed fd)
    (a__law_length : PySem.W.nsIn K mainGlobals "_law_length" = some (some (.ref f__law_length)))
    (k__law_length : PySem.W.keepIn K (.ref f__law_length) = true)
    (f__law_length_ : ∃ fd, Fun K "_law_length" "_law_length" (top 23) f__law_length fd)
    (a__law_runs : PySem.W.nsIn K mainGlobals "_law_runs" = some (some (.ref f__law_runs)))
    (k__law_runs : PySem.W.keepIn K (.ref f__law_runs) = true)
    (f__law_runs_ : ∃ fd, Fun K "_law_runs" "_law_runs" (top 24) f__law_runs fd)
    (a_is_row : PySem.W.nsIn K mainGlobals "is_row" = some (some (.ref f_is_row)))
    (k_is_row : PySem.W.keepIn K (.ref f_is_row) = true)
    (f_is_row_ : ∃ fd, Fun K "is_row" "is_row" (top 7) f_is_row fd)
    (a_is_integer : PySem.W.nsIn K mainGlobals "is_integer" = some (some (.ref f_is_integer)))
    (k_is_integer : PySem.W.keepIn K (.ref f_is_integer) = true)
    (f_is_integer_ : ∃ fd, Fun K "is_integer" "is_integer" (top 5) f_is_integer fd)
    (a_is_whole : PySem.W.nsIn K mainGlobals "is_whole" = some (some (.ref f_is_whole)))
    (k_is_whole : PySem.W.keepIn K (.ref f_is_whole) = true)
    (f_is_whole_ : ∃ fd, Fun K "is_whole" "is_whole" (top 6) f_is_whole fd)
    (a_run_fault : PySem.W.nsIn K mainGlobals "run_fault" = some (some (.ref f_run_fault)))
    (k_run_fault : PySem.W.keepIn K (.ref f_run_fault) = true)
    (f_run_fault_ : ∃ fd, Fun K "run_fault" "run_fault" (top 13) f_run_fault fd)
    (a_check_runs : PySem.W.nsIn K mainGlobals "check_runs" = some (some (.ref f_check_runs)))
    (k_check_runs : PySem.W.keepIn K (.ref f_check_runs) = true)
    (f_check_runs_ : ∃ fd, Fun K "check_runs" "check_runs" (top 14) f_check_runs fd)
    (a_count_beads : PySem.W.nsIn K mainGlobals "count_beads" = some (some (.ref f_count_beads)))
    (k_count_beads : PySem.W.keepIn K (.ref f_count_beads) = true)
    (f_count_beads_ : ∃ fd, Fun K "count_beads" "count_beads" (top 15) f_count_beads fd)
    (a__law_told : PySem.W.nsIn K mainGlobals "_law_told" = some (some (.ref f__law_told)))
    (k__law_told : PySem.W.keepIn K (.ref f__law_told) = true)
    (f__law_told_ : ∃ fd, Fun K "_law_told" "_law_told" (top 30) f__law_told fd)
    (a_join_runs : PySem.W.nsIn K mainGlobals "join_runs" = some (some (.ref f_join_runs)))
    (k_join_runs : PySem.W.keepIn K (.ref f_join_runs) = true)
    (f_join_runs_ : ∃ fd, Fun K "join_runs" "join_runs" (top 16) f_join_runs fd)
    (a__law_is_whole : PySem.W.nsIn K mainGlobals "_law_is_whole" = some (some (.ref f__law_is_whole)))
    (k__law_is_whole : PySem.W.keepIn K (.ref f__law_is_whole) = true)
    (f__law_is_whole_ : ∃ fd, Fun K "_law_is_whole" "_law_is_whole" (top 25) f__law_is_whole fd)
    (a__law_run_word : PySem.W.nsIn K mainGlobals "_law_run_word" = some (some (.ref f__law_run_word)))
    (k__law_run_word : PySem.W.keepIn K (.ref f__law_run_word) = true)
    (f__law_run_word_ : ∃ fd, Fun K "_law_run_word" "_law_run_word" (top 27) f__law_run_word fd)
    (a__law_runs_error : PySem.W.nsIn K mainGlobals "_law_runs_error" = some (some (.ref f__law_runs_error)))
    (k__law_runs_error : PySem.W.keepIn K (.ref f__law_runs_error) = true)
    (f__law_runs_error_ : ∃ fd, Fun K "_law_runs_error" "_law_runs_error" (top 28) f__law_runs_error fd)
    (a__law_made : PySem.W.nsIn K mainGlobals "_law_made" = some (some (.ref f__law_made)))
    (k__law_made : PySem.W.keepIn K (.ref f__law_made) = true)
    (f__law_made_ : ∃ fd, Fun K "_law_made" "_law_made" (top 31) f__law_made fd)
    (a__law_both : PySem.W.nsIn K mainGlobals "_law_both" = some (some (.ref f__law_both)))
    (k__law_both : PySem.W.keepIn K (.ref f__law_both) = true)
    (f__law_both_ : ∃ fd, Fun K "_law_both" "_law_both" (top 33) f__law_both fd)
    (a__law_odd : PySem.W.nsIn K mainGlobals "_law_odd" = some (some (.ref f__law_odd)))
    (k__law_odd : PySem.W.keepIn K (.ref f__law_odd) = true)
    (f__law_odd_ : ∃ fd, Fun K "_law_odd" "_law_odd" (top 26) f__law_odd fd)
    (a__law_bent_run : PySem.W.nsIn K mainGlobals "_law_bent_run" = some (some (.ref f__law_bent_run)))
    (k__law_bent_run : PySem.W.keepIn K (.ref f__law_bent_run) = true)
    (f__law_bent_run_ : ∃ fd, Fun K "_law_bent_run" "_law_bent_run" (top 29) f__law_bent_run fd)
    (a__law_with : PySem.W.nsIn K mainGlobals "_law_with" = some (some (.ref f__law_with)))
    (k__law_with : PySem.W.keepIn K (.ref f__law_with) = true)
    (f__law_with_ : ∃ fd, Fun K "_law_with" "_law_with" (top 32) f__law_with fd)
    (a_law : PySem.W.nsIn K mainGlobals "law" = some (some (.ref f_law)))
    (k_law : PySem.W.keepIn K (.ref f_law) = true)
    (f_law_ : ∃ fd, FunC K "law" "law" (top 34) f_law fd c_law)
    (tb_law : ∃ oc od vs osl, K.lookup c_law = some ⟨oc, od, .fields vs, osl⟩ ∧ vs[11]? = some (.ref p_law))
    (np_law : K.lookup p_law = none)
    (ch_law : PySem.W.codeHdIn K c_law p_law = true)
    (ht_law : h.get? p_law = some { cls := .none, data := .fields #[] })
    (v_MAX_KINDS_ : ∃ t, PySem.W.nsIn K mainGlobals "MAX_KINDS" = some (some (.int 4 t)))
    (v_MAX_LENGTH_ : ∃ t, PySem.W.nsIn K mainGlobals "MAX_LENGTH" = some (some (.int 1000000000000000000000000000000 t)))
    (v_MAX_RUNS_ : ∃ t, PySem.W.nsIn K mainGlobals "MAX_RUNS" = some (some (.int 6 t)))
    (z_abs : PySem.W.nsIn K mainGlobals "abs" = some none)
    (z_bool : PySem.W.nsIn K mainGlobals "bool" = some none)
    (z_enumerate : PySem.W.nsIn K mainGlobals "enumerate" = some none)
    (z_int : PySem.W.nsIn K mainGlobals "int" = some none)
    (z_isinstance : PySem.W.nsIn K mainGlobals "isinstance" = some none)
    (z_len : PySem.W.nsIn K mainGlobals "len" = some none)
    (z_list : PySem.W.nsIn K mainGlobals "list" = some none)
    (z_max : PySem.W.nsIn K mainGlobals "max" = some none)
    (z_min : PySem.W.nsIn K mainGlobals "min" = some none)
    (z_range : PySem.W.nsIn K mainGlobals "range" = some none)
    (z_repr : PySem.W.nsIn K mainGlobals "repr" = some none)
    (z_str : PySem.W.nsIn K mainGlobals "str" = some none)
    (z_sum : PySem.W.nsIn K mainGlobals "sum" = some none)
    (z_tuple : PySem.W.nsIn K mainGlobals "tuple" = some none)
    (isi_ : isiChk K [("ShareError", C_ShareError), ("BadString", C_BadString), ("NoRun", C_NoRun), ("String", C_String)] isiT = true)
    (exm_ : exmChk K [("ShareError", C_ShareError), ("BadString", C_BadString), ("NoRun", C_NoRun), ("String", C_String)] exmT = true)
    : ∃ (c p : Addr) (lq : Str) (fd : FuncData) (cl : ClsA) (g : List D → Store → Out D), h.get? p = some { cls := .none, data := .fields #[] } ∧ K.lookup p = none ∧ PySem.W.CodeHd h c p ∧ (∀ (s : Shared) (u : Value), BindsTo s fd ⟨[u], []⟩ [("_law_script", u)]) ∧ (∀ ns : List Int, ns.length ≤ 63 → ∃ M, g [.ob 0] [.frl (ns.map D.int), .tab p lq] = .ok (.bl true) M) ∧
      ∀ base : Heap, K.In base → base.Ns mainGlobals mg → LamX.TabB base mg c p → FnG l.prog w K mg base cl 10 fa fd ["_law_script"] g := by
  have e := hfa.symm.trans (PySem.W.mg_of X G a_law)
  cases e
  have m_ShareError := PySem.W.mg_of X G a_ShareError
  have T_ShareError : ExC K C_ShareError := l_ShareError.exC ExG.base_VE e_ShareError
  have m_BadString := PySem.W.mg_of X G a_BadString
  have T_BadString : ExC K C_BadString := l_BadString.exC ExG.base_VE e_BadString
  have m_NoRun := PySem.W.mg_of X G a_NoRun
  have T_NoRun : ExC K C_NoRun := l_NoRun.exC ExG.base_LE e_NoRun
  have m_String := PySem.W.mg_of X G a_String
  have T_String : InsC K C_String := insC_of s_String
  have hX : AllX K mg exs := allX_cons m_ShareError T_ShareError (allX_cons m_BadString T_BadString (allX_cons m_NoRun T_NoRun (allX_nil)))
  have hN : AllI K mg inss := allI_cons m_String T_String (allI_nil)
  have hF : AllF K mg fls := allF_cons m_BadString n_BadString_number (allF_cons m_BadString n_BadString_word (allF_cons m_String n_String_own_runs (allF_cons m_String n_String_own_length (allF_cons m_String n_String_own_totals (allF_cons m_String n_String_own_kinds (allF_cons m_NoRun n_NoRun_number (allF_nil)))))))
  have hM : AllM mg [("ShareError", C_ShareError), ("BadString", C_BadString), ("NoRun", C_NoRun), ("String", C_String)] := allM_cons m_ShareError (allM_cons m_BadString (allM_cons m_NoRun (allM_cons m_String (allM_nil))))
  have T : Txt K mg := {
    O := isiOk2_of hX hN
    F := fldOk2_of hF
    E := exmOk2_of
    q_BadString := ⟨_, m_BadString, clOf_of _ _ m_BadString⟩
    q_NoRun := ⟨_, m_NoRun, clOf_of _ _ m_NoRun⟩
    b_abs := PySem.W.mg_none_of X G z_abs
    b_bool := PySem.W.mg_none_of X G z_bool
    b_enumerate := PySem.W.mg_none_of X G z_enumerate
    b_int := PySem.W.mg_none_of X G z_int
    b_isinstance := PySem.W.mg_none_of X G z_isinstance
    b_len := PySem.W.mg_none_of X G z_len
    b_list := PySem.W.mg_none_of X G z_list
    b_max := PySem.W.mg_none_of X G z_max
    b_min := PySem.W.mg_none_of X G z_min
    b_range := PySem.W.mg_none_of X G z_range
    b_repr := PySem.W.mg_none_of X G z_repr
    b_str := PySem.W.mg_none_of X G z_str
    b_sum := PySem.W.mg_none_of X G z_sum
    b_tuple := PySem.W.mg_none_of X G z_tuple
    c_MAX_KINDS := let ⟨t, e⟩ := v_MAX_KINDS_; ⟨t, PySem.W.mg_of X G e⟩
    c_MAX_LENGTH := let ⟨t, e⟩ := v_MAX_LENGTH_; ⟨t, PySem.W.mg_of X G e⟩
    c_MAX_RUNS := let ⟨t, e⟩ := v_MAX_RUNS_; ⟨t, PySem.W.mg_of X G e⟩
  }
  obtain ⟨d__law_deck, F__law_deck⟩ := f__law_deck_
  have b__law_deck := F__law_deck.binds (ps := ["_law_script"]) fun _ _ _ _ _ _ us hl => match us, hl with | [_], _ => rfl
  obtain ⟨d__law_take, F__law_take⟩ := f__law_take_
  have b__law_take := F__law_take.binds (ps := ["_law_deck_here", "_law_many"]) fun _ _ _ _ _ _ us hl => match us, hl with | [_, _], _ => rfl
  obtain ⟨d__law_one, F__law_one⟩ := f__law_one_
  have b__law_one := F__law_one.binds (ps := ["_law_deck_here", "_law_items"]) fun _ _ _ _ _ _ us hl => match us, hl with | [_, _], _ => rfl
  obtain ⟨d__law_mixed, F__law_mixed⟩ := f__law_mixed_
  have b__law_mixed := F__law_mixed.binds (ps := ["_law_deck_here", "_law_many"]) fun _ _ _ _ _ _ us hl => match us, hl with | [_, _], _ => rfl
  obtain ⟨d__law_length, F__law_length⟩ := f__law_length_
  have b__law_length := F__law_length.binds (ps := ["_law_deck_here", "_law_most"]) fun _ _ _ _ _ _ us hl => match us, hl with | [_, _], _ => rfl
  obtain ⟨d__law_runs, F__law_runs⟩ := f__law_runs_
  have b__law_runs := F__law_runs.binds (ps := ["_law_deck_here", "_law_many", "_law_most"]) fun _ _ _ _ _ _ us hl => match us, hl with | [_, _, _], _ => rfl
  obtain ⟨d_is_row, F_is_row⟩ := f_is_row_
  have b_is_row := F_is_row.binds (ps := ["value", "low", "high"]) fun _ _ _ _ _ _ us hl => match us, hl with | [_, _, _], _ => rfl
  obtain ⟨d_BadString, F_BadString⟩ := f_BadString_
  have b_BadString := F_BadString.binds (ps := ["self", "number", "word"]) fun _ _ _ _ _ _ us hl => match us, hl with | [_, _, _], _ => rfl
  obtain ⟨d_is_integer, F_is_integer⟩ := f_is_integer_
  have b_is_integer := F_is_integer.binds (ps := ["value"]) fun _ _ _ _ _ _ us hl => match us, hl with | [_], _ => rfl
  obtain ⟨d_is_whole, F_is_whole⟩ := f_is_whole_
  have b_is_whole := F_is_whole.binds (ps := ["value", "low", "high"]) fun _ _ _ _ _ _ us hl => match us, hl with | [_, _, _], _ => rfl
  obtain ⟨d_run_fault, F_run_fault⟩ := f_run_fault_
  have b_run_fault := F_run_fault.binds (ps := ["run"]) fun _ _ _ _ _ _ us hl => match us, hl with | [_], _ => rfl
  obtain ⟨d_check_runs, F_check_runs⟩ := f_check_runs_
  have b_check_runs := F_check_runs.binds (ps := ["runs"]) fun _ _ _ _ _ _ us hl => match us, hl with | [_], _ => rfl
  obtain ⟨d_count_beads, F_count_beads⟩ := f_count_beads_
  have b_count_beads := F_count_beads.binds (ps := ["runs", "first", "last"]) fun _ _ _ _ _ _ us hl => match us, hl with | [_, _, _], _ => rfl
  obtain ⟨d_String, F_String⟩ := f_String_
  have b_String := F_String.binds (ps := ["self", "runs"]) fun _ _ _ _ _ _ us hl => match us, hl with | [_, _], _ => rfl
  obtain ⟨d_String_runs, F_String_runs⟩ := f_String_runs_
  have b_String_runs := F_String_runs.binds (ps := ["self"]) fun _ _ _ _ _ _ us hl => match us, hl with | [_], _ => rfl
  obtain ⟨d__law_told, F__law_told⟩ := f__law_told_
  have b__law_told := F__law_told.binds (ps := ["_law_call"]) fun _ _ _ _ _ _ us hl => match us, hl with | [_], _ => rfl
  obtain ⟨d_String_turned, F_String_turned⟩ := f_String_turned_
  have b_String_turned := F_String_turned.binds (ps := ["self"]) fun _ _ _ _ _ _ us hl => match us, hl with | [_], _ => rfl
  obtain ⟨d_join_runs, F_join_runs⟩ := f_join_runs_
  have b_join_runs := F_join_runs.binds (ps := ["front", "behind"]) fun _ _ _ _ _ _ us hl => match us, hl with | [_, _], _ => rfl
  obtain ⟨d_String_joined, F_String_joined⟩ := f_String_joined_
  have b_String_joined := F_String_joined.binds (ps := ["self", "other"]) fun _ _ _ _ _ _ us hl => match us, hl with | [_, _], _ => rfl
  obtain ⟨d__law_is_whole, F__law_is_whole⟩ := f__law_is_whole_
  have b__law_is_whole := F__law_is_whole.binds (ps := ["_law_value", "_law_low", "_law_high"]) fun _ _ _ _ _ _ us hl => match us, hl with | [_, _, _], _ => rfl
  obtain ⟨d__law_run_word, F__law_run_word⟩ := f__law_run_word_
  have b__law_run_word := F__law_run_word.binds (ps := ["_law_run", "_law_ahead"]) fun _ _ _ _ _ _ us hl => match us, hl with | [_, _], _ => rfl
  obtain ⟨d__law_runs_error, F__law_runs_error⟩ := f__law_runs_error_
  have b__law_runs_error := F__law_runs_error.binds (ps := ["_law_runs_here"]) fun _ _ _ _ _ _ us hl => match us, hl with | [_], _ => rfl
  obtain ⟨d__law_made, F__law_made⟩ := f__law_made_
  have b__law_made := F__law_made.binds (ps := ["_law_runs_here"]) fun _ _ _ _ _ _ us hl => match us, hl with | [_], _ => rfl
  obtain ⟨d__law_both, F__law_both⟩ := f__law_both_
  have b__law_both := F__law_both.binds (ps := ["_law_runs_here", "_law_others"]) fun _ _ _ _ _ _ us hl => match us, hl with | [_, _], _ => rfl
  obtain ⟨d__law_odd, F__law_odd⟩ := f__law_odd_
  have b__law_odd := F__law_odd.binds (ps := ["_law_deck_here"]) fun _ _ _ _ _ _ us hl => match us, hl with | [_], _ => rfl
  obtain ⟨d__law_bent_run, F__law_bent_run⟩ := f__law_bent_run_
  have b__law_bent_run := F__law_bent_run.binds (ps := ["_law_deck_here", "_law_run"]) fun _ _ _ _ _ _ us hl => match us, hl with | [_, _], _ => rfl
  obtain ⟨d_NoRun, F_NoRun⟩ := f_NoRun_
  have b_NoRun := F_NoRun.binds (ps := ["self", "number"]) fun _ _ _ _ _ _ us hl => match us, hl with | [_, _], _ => rfl
  obtain ⟨d_String_with_run, F_String_with_run⟩ := f_String_with_run_
  have b_String_with_run := F_String_with_run.binds (ps := ["self", "number", "run"]) fun _ _ _ _ _ _ us hl => match us, hl with | [_, _, _], _ => rfl
  obtain ⟨d__law_with, F__law_with⟩ := f__law_with_
  have b__law_with := F__law_with.binds (ps := ["_law_runs_here", "_law_number", "_law_run"]) fun _ _ _ _ _ _ us hl => match us, hl with | [_, _, _], _ => rfl
  obtain ⟨d_law, F_law⟩ := f_law_
  have hlaw : ∀ base : Heap, K.In base → base.Ns mainGlobals mg → LamX.TabB base mg c_law p_law → FnG l.prog w K mg base (clOf mg) 10 fa d_law ["_law_script"] (g_law (gloOf2 K mg exs inss fls) p_law) := fun base _ _ TB => by
    have B__law_deck : FnB l.prog w K mg base (clOf mg) 1 "_law_deck" _ (g__law_deck (gloOf2 K mg exs inss fls)) := ⟨_, _, PySem.W.mg_of X G a__law_deck, k__law_deck, b__law_deck, ok__law_deck (P := l.prog) (w := w) (base := base) T  F__law_deck⟩
    have B__law_take : FnB l.prog w K mg base (clOf mg) 1 "_law_take" _ (g__law_take (gloOf2 K mg exs inss fls)) := ⟨_, _, PySem.W.mg_of X G a__law_take, k__law_take, b__law_take, ok__law_take (P := l.prog) (w := w) (base := base) T  F__law_take⟩
    have B__law_one : FnB l.prog w K mg base (clOf mg) 2 "_law_one" _ (g__law_one (gloOf2 K mg exs inss fls)) := ⟨_, _, PySem.W.mg_of X G a__law_one, k__law_one, b__law_one, ok__law_one (P := l.prog) (w := w) (base := base) T B__law_take F__law_one⟩
    have B__law_mixed : FnB l.prog w K mg base (clOf mg) 2 "_law_mixed" _ (g__law_mixed (gloOf2 K mg exs inss fls)) := ⟨_, _, PySem.W.mg_of X G a__law_mixed, k__law_mixed, b__law_mixed, ok__law_mixed (P := l.prog) (w := w) (base := base) T B__law_take F__law_mixed⟩
    have B__law_length : FnB l.prog w K mg base (clOf mg) 3 "_law_length" _ (g__law_length (gloOf2 K mg exs inss fls)) := ⟨_, _, PySem.W.mg_of X G a__law_length, k__law_length, b__law_length, ok__law_length (P := l.prog) (w := w) (base := base) T B__law_one B__law_take F__law_length⟩
    have B__law_runs : FnB l.prog w K mg base (clOf mg) 4 "_law_runs" _ (g__law_runs (gloOf2 K mg exs inss fls)) := ⟨_, _, PySem.W.mg_of X G a__law_runs, k__law_runs, b__law_runs, ok__law_runs (P := l.prog) (w := w) (base := base) T B__law_length B__law_mixed B__law_take F__law_runs⟩
    have B_is_row : FnB l.prog w K mg base (clOf mg) 1 "is_row" _ (g_is_row (gloOf2 K mg exs inss fls)) := ⟨_, _, PySem.W.mg_of X G a_is_row, k_is_row, b_is_row, ok_is_row (P := l.prog) (w := w) (base := base) T  F_is_row⟩
    have B_BadString : XcB l.prog w K mg base (clOf mg) 1 "BadString" _ (g_BadString (gloOf2 K mg exs inss fls)) := ⟨_, _, _, m_BadString, clOf_of _ _ m_BadString, T_BadString, i_BadString, t_BadString, b_BadString, ok_BadString (P := l.prog) (w := w) (base := base) T  F_BadString⟩
    have B_is_integer : FnB l.prog w K mg base (clOf mg) 1 "is_integer" _ (g_is_integer (gloOf2 K mg exs inss fls)) := ⟨_, _, PySem.W.mg_of X G a_is_integer, k_is_integer, b_is_integer, ok_is_integer (P := l.prog) (w := w) (base := base) T  F_is_integer⟩
    have B_is_whole : FnB l.prog w K mg base (clOf mg) 2 "is_whole" _ (g_is_whole (gloOf2 K mg exs inss fls)) := ⟨_, _, PySem.W.mg_of X G a_is_whole, k_is_whole, b_is_whole, ok_is_whole (P := l.prog) (w := w) (base := base) T B_is_integer F_is_whole⟩
    have B_run_fault : FnB l.prog w K mg base (clOf mg) 3 "run_fault" _ (g_run_fault (gloOf2 K mg exs inss fls)) := ⟨_, _, PySem.W.mg_of X G a_run_fault, k_run_fault, b_run_fault, ok_run_fault (P := l.prog) (w := w) (base := base) T B_is_row B_is_whole F_run_fault⟩
    have B_check_runs : FnB l.prog w K mg base (clOf mg) 4 "check_runs" _ (g_check_runs (gloOf2 K mg exs inss fls)) := ⟨_, _, PySem.W.mg_of X G a_check_runs, k_check_runs, b_check_runs, ok_check_runs (P := l.prog) (w := w) (base := base) T B_is_row B_run_fault B_BadString F_check_runs⟩
    have B_count_beads : FnB l.prog w K mg base (clOf mg) 1 "count_beads" _ (g_count_beads (gloOf2 K mg exs inss fls)) := ⟨_, _, PySem.W.mg_of X G a_count_beads, k_count_beads, b_count_beads, ok_count_beads (P := l.prog) (w := w) (base := base) T  F_count_beads⟩
    have B_String : IcB l.prog w K mg base (clOf mg) 5 "String" _ (g_String (gloOf2 K mg exs inss fls)) := ⟨_, _, _, m_String, clOf_of _ _ m_String, ⟨y_String, i_String, t_String, k_String⟩, b_String, ok_String (P := l.prog) (w := w) (base := base) T B_check_runs B_count_beads F_String⟩
    have B_String_runs : PpB l.prog w K mg base (clOf mg) 1 "String" "runs" _ (g_String_runs (gloOf2 K mg exs inss fls)) := ⟨_, _, _, _, clOf_of _ _ m_String, T_String.cls, ⟨pa_String_runs, pg_String_runs, pt_String_runs, pr_String_runs⟩, b_String_runs, ok_String_runs (P := l.prog) (w := w) (base := base) T  F_String_runs⟩
    have B__law_told : GvB l.prog w K mg base (clOf mg) 8 "_law_told" "_law_call" (g__law_told (gloOf2 K mg exs inss fls)) := ⟨_, _, _, _, K04.d__law_told (gloOf2 K mg exs inss fls), PySem.W.mg_of X G a__law_told, k__law_told, b__law_told, F__law_told, sc__law_told, rfl, by first | exact Or.inl rfl | exact Or.inr (Or.inl rfl) | exact Or.inr (Or.inr rfl), fun _ _ _ => rfl, fun z call cdv A outer s H E hr hgd hact => ok__law_told (P := l.prog) (w := w) (base := base) T B_String_runs z call cdv A outer s H E (hr.mono (by decide)) hgd hact⟩
    have B_String_turned : MeB l.prog w K mg base (clOf mg) 7 "String" "turned" _ (g_String_turned (gloOf2 K mg exs inss fls)) := ⟨_, _, _, clOf_of _ _ m_String, T_String.cls, ⟨ma_String_turned, mf_String_turned, mk_String_turned⟩, b_String_turned, ok_String_turned (P := l.prog) (w := w) (base := base) T B_String F_String_turned⟩
    have B_join_runs : FnB l.prog w K mg base (clOf mg) 1 "join_runs" _ (g_join_runs (gloOf2 K mg exs inss fls)) := ⟨_, _, PySem.W.mg_of X G a_join_runs, k_join_runs, b_join_runs, ok_join_runs (P := l.prog) (w := w) (base := base) T  F_join_runs⟩
    have B_String_joined : MeB l.prog w K mg base (clOf mg) 7 "String" "joined" _ (g_String_joined (gloOf2 K mg exs inss fls)) := ⟨_, _, _, clOf_of _ _ m_String, T_String.cls, ⟨ma_String_joined, mf_String_joined, mk_String_joined⟩, b_String_joined, ok_String_joined (P := l.prog) (w := w) (base := base) T B_join_runs B_String F_String_joined⟩
    have B__law_is_whole : FnB l.prog w K mg base (clOf mg) 1 "_law_is_whole" _ (g__law_is_whole (gloOf2 K mg exs inss fls)) := ⟨_, _, PySem.W.mg_of X G a__law_is_whole, k__law_is_whole, b__law_is_whole, ok__law_is_whole (P := l.prog) (w := w) (base := base) T  F__law_is_whole⟩
    have B__law_run_word : FnB l.prog w K mg base (clOf mg) 2 "_law_run_word" _ (g__law_run_word (gloOf2 K mg exs inss fls)) := ⟨_, _, PySem.W.mg_of X G a__law_run_word, k__law_run_word, b__law_run_word, ok__law_run_word (P := l.prog) (w := w) (base := base) T B__law_is_whole F__law_run_word⟩
    have B__law_runs_error : FnB l.prog w K mg base (clOf mg) 3 "_law_runs_error" _ (g__law_runs_error (gloOf2 K mg exs inss fls)) := ⟨_, _, PySem.W.mg_of X G a__law_runs_error, k__law_runs_error, b__law_runs_error, ok__law_runs_error (P := l.prog) (w := w) (base := base) T B__law_run_word F__law_runs_error⟩
    have B__law_made : FnB l.prog w K mg base (clOf mg) 4 "_law_made" _ (g__law_made (gloOf2 K mg exs inss fls)) := ⟨_, _, PySem.W.mg_of X G a__law_made, k__law_made, b__law_made, ok__law_made (P := l.prog) (w := w) (base := base) T B__law_runs_error F__law_made⟩
    have B__law_both : FnB l.prog w K mg base (clOf mg) 5 "_law_both" _ (g__law_both (gloOf2 K mg exs inss fls)) := ⟨_, _, PySem.W.mg_of X G a__law_both, k__law_both, b__law_both, ok__law_both (P := l.prog) (w := w) (base := base) T B__law_made F__law_both⟩
    have B__law_odd : FnB l.prog w K mg base (clOf mg) 3 "_law_odd" _ (g__law_odd (gloOf2 K mg exs inss fls)) := ⟨_, _, PySem.W.mg_of X G a__law_odd, k__law_odd, b__law_odd, ok__law_odd (P := l.prog) (w := w) (base := base) T B__law_one F__law_odd⟩
    have B__law_bent_run : FnB l.prog w K mg base (clOf mg) 4 "_law_bent_run" _ (g__law_bent_run (gloOf2 K mg exs inss fls)) := ⟨_, _, PySem.W.mg_of X G a__law_bent_run, k__law_bent_run, b__law_bent_run, ok__law_bent_run (P := l.prog) (w := w) (base := base) T B__law_odd B__law_one B__law_take F__law_bent_run⟩
    have B_NoRun : XcB l.prog w K mg base (clOf mg) 1 "NoRun" _ (g_NoRun (gloOf2 K mg exs inss fls)) := ⟨_, _, _, m_NoRun, clOf_of _ _ m_NoRun, T_NoRun, i_NoRun, t_NoRun, b_NoRun, ok_NoRun (P := l.prog) (w := w) (base := base) T  F_NoRun⟩
    have B_String_with_run : MeB l.prog w K mg base (clOf mg) 7 "String" "with_run" _ (g_String_with_run (gloOf2 K mg exs inss fls)) := ⟨_, _, _, clOf_of _ _ m_String, T_String.cls, ⟨ma_String_with_run, mf_String_with_run, mk_String_with_run⟩, b_String_with_run, ok_String_with_run (P := l.prog) (w := w) (base := base) T B_is_whole B_NoRun B_String F_String_with_run⟩
    have B__law_with : FnB l.prog w K mg base (clOf mg) 5 "_law_with" _ (g__law_with (gloOf2 K mg exs inss fls)) := ⟨_, _, PySem.W.mg_of X G a__law_with, k__law_with, b__law_with, ok__law_with (P := l.prog) (w := w) (base := base) T B__law_is_whole B__law_made F__law_with⟩
    exact ok_law (P := l.prog) (w := w) (base := base) T B__law_bent_run B__law_both B__law_deck B__law_length B__law_odd B__law_one B__law_runs B__law_take B__law_with B_String B_String_runs B_String_joined B_String_turned B_String_with_run B__law_told F_law TB
  have hI : ∀ t k b, (t, k, b) ∈ isiT → (gloOf2 K mg exs inss fls).isi t k = some b := fun t k b hm => isi_tbl2 hM isi_ hm
  have hE : ∀ t k b, (t, k, b) ∈ exmT → (gloOf2 K mg exs inss fls).exm t k = some b := fun t k b hm => exm_tbl hM exm_ hm
  have R := g4_of hI hE
  refine ⟨c_law, p_law, lamQ, d_law, clOf mg, g_law (gloOf2 K mg exs inss fls) p_law, ht_law, np_law, PySem.W.codeHd_of_K X ch_law, fun s u => ?_, fun ns hn => law_ok R p_law ns hn, hlaw⟩
  obtain ⟨oc, od, kV, doc, pm, an, ct, osl, rfl, lk, hcd⟩ := F_law.ex
  exact .of_eq rfl
theorem walk {l : PySem.W.OpenLaw} {q : Program} {loose : List Str} {XP : (Str → Option Value) → Heap → Prop} {YP : World → Heap → Prop} {d : DefRec} {K : Params → PySem.W.Frag} (hn : l.most = some 63) (hdf : d.params.defaults = [])
    (hY : ∀ (w : World) (h : Heap), YP w h → (K w.params).In h)
    (F : ∀ (w : World) (mg : Str → Option Value) (fa : Addr) (h : Heap), YP w h → (K w.params).In h → h.Ns mainGlobals mg → mg d.name = some (.ref fa) →
      noLists (K w.params) = true ∧ ∃ (c p : Addr) (lq : Str) (fd : FuncData) (cl : ClsA) (g : List D → Store → Out D), h.get? p = some { cls := .none, data := .fields #[] } ∧ (K w.params).lookup p = none ∧ PySem.W.CodeHd h c p ∧ (∀ (s : Shared) (u : Value), BindsTo s fd ⟨[u], []⟩ [("_law_script", u)]) ∧ (∀ ns : List Int, ns.length ≤ 63 → ∃ M, g [.ob 0] [.frl (ns.map D.int), .tab p lq] = .ok (.bl true) M) ∧
        ∀ base : Heap, (K w.params).In base → base.Ns mainGlobals mg → LamX.TabB base mg c p → FnG l.prog w (K w.params) mg base cl 10 fa fd ["_law_script"] g) :
    PySem.W.WalkO q loose XP YP l.row.toRowW d [] (fun f vs => PySem.call f vs) :=
  walk_ofGT (n := 63) (k := 10) (x := "_law_script") hn (by decide) hdf ⟨rfl, by decide, by decide⟩ hY F
end K04
open PySem PySem.W PyProof.Rows in
set_option maxRecDepth 100000 in
set_option maxHeartbeats 0 in
theorem PySem.Challenge.cw_beadshares_k04_strings_of_strings_holds : PySem.Challenge.rw_beadshares_k04_strings_of_strings.Holds := by
  w_on; o_law; k_head; (case hw => w_witness2)
  k_fill
  refine K04.walk (l := PySem.Challenge.rw_beadshares_k04_strings_of_strings) rfl rfl (fun w h Y => PySem.W.km_in_of Y) ?F
  case F =>
    intro w mg fa h Y KX G hmg
    refine ⟨by kernel_rfl, ?_⟩
    refine' K04.all_mk KX G hmg ?a_ShareError ?l_ShareError ?e_ShareError ?a_BadString ?l_BadString ?e_BadString ?n_BadString_number ?n_BadString_word ?i_BadString ?t_BadString ?f_BadString_ ?a_NoRun ?l_NoRun ?e_NoRun ?n_NoRun_number ?i_NoRun ?t_NoRun ?f_NoRun_ ?a_String ?s_String ?n_String_own_runs ?n_String_own_length ?n_String_own_totals ?n_String_own_kinds ?y_String ?i_String ?t_String ?k_String ?f_String_ ?pa_String_runs ?pg_String_runs ?pt_String_runs ?pr_String_runs ?f_String_runs_ ?ma_String_turned ?mf_String_turned ?mk_String_turned ?f_String_turned_ ?ma_String_joined ?mf_String_joined ?mk_String_joined ?f_String_joined_ ?ma_String_with_run ?mf_String_with_run ?mk_String_with_run ?f_String_with_run_ ?a__law_deck ?k__law_deck ?f__law_deck_ ?a__law_take ?k__law_take ?f__law_take_ ?a__law_one ?k__law_one ?f__law_one_ ?a__law_mixed ?k__law_mixed ?f__law_mixed_ ?a__law_length ?k__law_length ?f__law_length_ ?a__law_runs ?k__law_runs ?f__law_runs_ ?a_is_row ?k_is_row ?f_is_row_ ?a_is_integer ?k_is_integer ?f_is_integer_ ?a_is_whole ?k_is_whole ?f_is_whole_ ?a_run_fault ?k_run_fault ?f_run_fault_ ?a_check_runs ?k_check_runs ?f_check_runs_ ?a_count_beads ?k_count_beads ?f_count_beads_ ?a__law_told ?k__law_told ?f__law_told_ ?a_join_runs ?k_join_runs ?f_join_runs_ ?a__law_is_whole ?k__law_is_whole ?f__law_is_whole_ ?a__law_run_word ?k__law_run_word ?f__law_run_word_ ?a__law_runs_error ?k__law_runs_error ?f__law_runs_error_ ?a__law_made ?k__law_made ?f__law_made_ ?a__law_both ?k__law_both ?f__law_both_ ?a__law_odd ?k__law_odd ?f__law_odd_ ?a__law_bent_run ?k__law_bent_run ?f__law_bent_run_ ?a__law_with ?k__law_with ?f__law_with_ ?a_law ?k_law ?f_law_ ?tb_law ?np_law ?ch_law ?ht_law ?v_MAX_KINDS_ ?v_MAX_LENGTH_ ?v_MAX_RUNS_ ?z_abs ?z_bool ?z_enumerate ?z_int ?z_isinstance ?z_len ?z_list ?z_max ?z_min ?z_range ?z_repr ?z_str ?z_sum ?z_tuple ?isi_ ?exm_
    (case a_ShareError => k_is)
    (case l_ShareError => exact ⟨_, _, _, _, _, _, _, _, _, _, _, _, _, _, by k_is⟩)
    (case e_ShareError => kernel_rfl)
    (case a_BadString => k_is)
    (case l_BadString => exact ⟨_, _, _, _, _, _, _, _, _, _, _, _, _, _, by k_is⟩)
    (case e_BadString => kernel_rfl)
    (case n_BadString_number => k_is)
    (case n_BadString_word => k_is)
    (case i_BadString => k_is)
    (case t_BadString => k_is)
    (case f_BadString_ => exact ⟨_, L2.fun_mk (by k_is) (by k_is) (by k_is)⟩)
    (case a_NoRun => k_is)
    (case l_NoRun => exact ⟨_, _, _, _, _, _, _, _, _, _, _, _, _, _, by k_is⟩)
    (case e_NoRun => kernel_rfl)
    (case n_NoRun_number => k_is)
    (case i_NoRun => k_is)
    (case t_NoRun => k_is)
    (case f_NoRun_ => exact ⟨_, L2.fun_mk (by k_is) (by k_is) (by k_is)⟩)
    (case a_String => k_is)
    (case s_String => kernel_rfl)
    (case n_String_own_runs => k_is)
    (case n_String_own_length => k_is)
    (case n_String_own_totals => k_is)
    (case n_String_own_kinds => k_is)
    (case y_String => kernel_rfl)
    (case i_String => k_is)
    (case t_String => kernel_rfl)
    (case k_String => k_is)
    (case f_String_ => exact ⟨_, L2.fun_mk (by k_is) (by k_is) (by k_is)⟩)
    (case pa_String_runs => k_is)
    (case pg_String_runs => k_is)
    (case pt_String_runs => k_is)
    (case pr_String_runs => exact ⟨_, by k_is⟩)
    (case f_String_runs_ => exact ⟨_, L2.fun_mk (by k_is) (by k_is) (by k_is)⟩)
    (case ma_String_turned => k_is)
    (case mf_String_turned => kernel_rfl)
    (case mk_String_turned => k_is)
    (case f_String_turned_ => exact ⟨_, L2.fun_mk (by k_is) (by k_is) (by k_is)⟩)
    (case ma_String_joined => k_is)
    (case mf_String_joined => kernel_rfl)
    (case mk_String_joined => k_is)
    (case f_String_joined_ => exact ⟨_, L2.fun_mk (by k_is) (by k_is) (by k_is)⟩)
    (case ma_String_with_run => k_is)
    (case mf_String_with_run => kernel_rfl)
    (case mk_String_with_run => k_is)
    (case f_String_with_run_ => exact ⟨_, L2.fun_mk (by k_is) (by k_is) (by k_is)⟩)
    (case a__law_deck => k_is)
    (case k__law_deck => k_is)
    (case f__law_deck_ => exact ⟨_, L2.fun_mk (by k_is) (by k_is) (by k_is)⟩)
    (case a__law_take => k_is)
    (case k__law_take => k_is)
    (case f__law_take_ => exact ⟨_, L2.fun_mk (by k_is) (by k_is) (by k_is)⟩)
    (case a__law_one => k_is)
    (case k__law_one => k_is)
    (case f__law_one_ => exact ⟨_, L2.fun_mk (by k_is) (by k_is) (by k_is)⟩)
    (case a__law_mixed => k_is)
    (case k__law_mixed => k_is)
    (case f__law_mixed_ => exact ⟨_, L2.fun_mk (by k_is) (by k_is) (by k_is)⟩)
    (case a__law_length => k_is)
    (case k__law_length => k_is)
    (case f__law_length_ => exact ⟨_, L2.fun_mk (by k_is) (by k_is) (by k_is)⟩)
    (case a__law_runs => k_is)
    (case k__law_runs => k_is)
    (case f__law_runs_ => exact ⟨_, L2.fun_mk (by k_is) (by k_is) (by k_is)⟩)
    (case a_is_row => k_is)
    (case k_is_row => k_is)
    (case f_is_row_ => exact ⟨_, L2.fun_mk (by k_is) (by k_is) (by k_is)⟩)
    (case a_is_integer => k_is)
    (case k_is_integer => k_is)
    (case f_is_integer_ => exact ⟨_, L2.fun_mk (by k_is) (by k_is) (by k_is)⟩)
    (case a_is_whole => k_is)
    (case k_is_whole => k_is)
    (case f_is_whole_ => exact ⟨_, L2.fun_mk (by k_is) (by k_is) (by k_is)⟩)
    (case a_run_fault => k_is)
    (case k_run_fault => k_is)
    (case f_run_fault_ => exact ⟨_, L2.fun_mk (by k_is) (by k_is) (by k_is)⟩)
    (case a_check_runs => k_is)
    (case k_check_runs => k_is)
    (case f_check_runs_ => exact ⟨_, L2.fun_mk (by k_is) (by k_is) (by k_is)⟩)
    (case a_count_beads => k_is)
    (case k_count_beads => k_is)
    (case f_count_beads_ => exact ⟨_, L2.fun_mk (by k_is) (by k_is) (by k_is)⟩)
    (case a__law_told => k_is)
    (case k__law_told => k_is)
    (case f__law_told_ => exact ⟨_, L2.fun_mk (by k_is) (by k_is) (by k_is)⟩)
    (case a_join_runs => k_is)
    (case k_join_runs => k_is)
    (case f_join_runs_ => exact ⟨_, L2.fun_mk (by k_is) (by k_is) (by k_is)⟩)
    (case a__law_is_whole => k_is)
    (case k__law_is_whole => k_is)
    (case f__law_is_whole_ => exact ⟨_, L2.fun_mk (by k_is) (by k_is) (by k_is)⟩)
    (case a__law_run_word => k_is)
    (case k__law_run_word => k_is)
    (case f__law_run_word_ => exact ⟨_, L2.fun_mk (by k_is) (by k_is) (by k_is)⟩)
    (case a__law_runs_error => k_is)
    (case k__law_runs_error => k_is)
    (case f__law_runs_error_ => exact ⟨_, L2.fun_mk (by k_is) (by k_is) (by k_is)⟩)
    (case a__law_made => k_is)
    (case k__law_made => k_is)
    (case f__law_made_ => exact ⟨_, L2.fun_mk (by k_is) (by k_is) (by k_is)⟩)
    (case a__law_both => k_is)
    (case k__law_both => k_is)
    (case f__law_both_ => exact ⟨_, L2.fun_mk (by k_is) (by k_is) (by k_is)⟩)
    (case a__law_odd => k_is)
    (case k__law_odd => k_is)
    (case f__law_odd_ => exact ⟨_, L2.fun_mk (by k_is) (by k_is) (by k_is)⟩)
    (case a__law_bent_run => k_is)
    (case k__law_bent_run => k_is)
    (case f__law_bent_run_ => exact ⟨_, L2.fun_mk (by k_is) (by k_is) (by k_is)⟩)
    (case a__law_with => k_is)
    (case k__law_with => k_is)
    (case f__law_with_ => exact ⟨_, L2.fun_mk (by k_is) (by k_is) (by k_is)⟩)
    (case a_law => k_is)
    (case k_law => k_is)
    (case f_law_ => exact ⟨_, RI.funC_mk (by k_is) (by k_is)⟩)
    (case tb_law => exact ⟨_, _, _, _, by k_is, by first | rfl | k_is⟩)
    (case np_law => kernel_rfl)
    (case ch_law => kernel_rfl)
    (case ht_law => exact PySem.W.km_tabs_of Y _ (by first | exact List.Mem.head _ | exact List.Mem.tail _ (List.Mem.head _)))
    (case v_MAX_KINDS_ => exact ⟨_, by k_is⟩)
    (case v_MAX_LENGTH_ => exact ⟨_, by k_is⟩)
    (case v_MAX_RUNS_ => exact ⟨_, by k_is⟩)
    (case z_abs => k_is)
    (case z_bool => k_is)
    (case z_enumerate => k_is)
    (case z_int => k_is)
    (case z_isinstance => k_is)
    (case z_len => k_is)
    (case z_list => k_is)
    (case z_max => k_is)
    (case z_min => k_is)
    (case z_range => k_is)
    (case z_repr => k_is)
    (case z_str => k_is)
    (case z_sum => k_is)
    (case z_tuple => k_is)
    (case isi_ => kernel_rfl)
    (case exm_ => kernel_rfl)


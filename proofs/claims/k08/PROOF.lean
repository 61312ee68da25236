import PyProof.Rows.All
import Wide.All
import OpenK.AllK
import Wide.FinOn
import HandS.ForMost
import HandS.Exc
import HandS.Wide
import HandS.TupAny
import HandS.TupMul
import HandS.TupLe
import HandS.Conv
import HandS.IsInst
import HandS.Flow
import HandS.Zip0
import HandS.Zip
import HandS.Walk
import PyProof.ReprRoads
import HandS.ExcOwn
import HandS.ExcInit
import HandS.ExcField
import HandS.ExcIs
import HandS.WordsExc
import HandS.Strs
import HandS.Deep
import KE.KExcIs
import KE.SortData
import HandS.TryOnly
import HandS.SetFor
import HandS.TupSets
import HandS.SortKw
import HandS.Text
import KE.DatumOrd
import HandS.DictComp
import HandS.Lambda
import HandS.EndTab
import HandS.Style
import HandS.ExcIs
import KE.KMinBuiltin
import PySem.Challenge.RW_ordercodes_k08_first_and_last_codes
set_option Elab.async false
set_option linter.all false
set_option maxRecDepth 100000
section
set_option autoImplicit false
/-! a layer of plain data over HandS: values as trees, mutable things as places of a store -/
namespace FL
open PySem PySem.Spec PyProof.Rows L2

inductive W where
  | non
  | bl (b : Bool)
  | int (i : Int)
  | str (x : Str)
  | tup (ws : List W)
  | lst (ws : List W)
  | dic (ks : List Key) (ws : List W)
  | scr (ns : List Int)
  | loc (n : Nat)
  | ty (n : String)
  | tpf (ws : List W)
  | rng (lo hi : Int)
  | cod (q : Str)

inductive Cell where
  | lst (ws : List W)
  | dic (ks : List Key) (ws : List W)
  | dct (ks : List (List Key)) (ws : List W)
  | tab (P : Addr) (q : Str)

abbrev Store := List (Option Cell)
structure Cfg where
  ρ : List Addr
  S : Store
  H : Hp

def Live (γ : List Addr) (C : Cfg) (a : Addr) : Prop := a ∈ γ ∨ ∃ (n : Nat) (c : Cell), C.ρ[n]? = some a ∧ C.S[n]? = some (some c)

def ScrAt (K : PySem.W.Frag) (H : Hp) (a : Addr) (xs : List V) : Prop :=
  (∃ o, H a = some (.frz o (.lst xs))) ∨
    ∃ (o : Obj) (its : Array Value) (n : Nat), K.lookup a = some o ∧ o.cls = .type "list" ∧ o.dict = none ∧ o.data = .seq its n ∧ its.size ≤ sizeLine ∧ Vals xs its.toList
theorem ScrAt.sq {K : PySem.W.Frag} {H : Hp} {a : Addr} {xs : List V} (h : ScrAt K H a xs) : SqL K H a xs := by
  rcases h with ⟨o, h⟩ | h
  · exact .inl (.inr ⟨o, h⟩)
  · exact .inr h

/-- a tuple of this run -/
def SqH (C : Cfg) (a : Addr) (xs : List V) : Prop := C.H a = some (.tup xs)
/-- .. known to have no dict of its own -/
def SqF (C : Cfg) (a : Addr) (xs : List V) : Prop := ∃ o : Obj, o.cls = .type "tuple" ∧ o.dict = none ∧ C.H a = some (.frz o (.tup xs))
theorem SqF.sq {K : PySem.W.Frag} {C : Cfg} {a : Addr} {xs : List V} (h : SqF C a xs) : SqT K C.H a xs := by
  obtain ⟨o, _, _, h⟩ := h
  exact .inl (.inr ⟨o, h⟩)
instance {K : PySem.W.Frag} {C : Cfg} {a : Addr} {xs : List V} : Coe (SqH C a xs) (SqT K C.H a xs) := ⟨fun h => SqT.of h⟩
mutual
inductive RV (K : PySem.W.Frag) (γ : List Addr) (C : Cfg) : V → W → Prop
  | non : RV K γ C .non .non
  | bl (b : Bool) : RV K γ C (.bl b) (.bl b)
  | int (i : Int) : RV K γ C (.int i) (.int i)
  | str (x : Str) : RV K γ C (.str x) (.str x)
  | tup {a : Addr} {xs : List V} {ws : List W} : SqH C a xs → RVs K γ C xs ws → RV K γ C (.ref a) (.tup ws)
  | lst {a : Addr} {xs : List V} {ws : List W} : C.H a = some (.lst xs) → ¬ Live γ C a → RVs K γ C xs ws → RV K γ C (.ref a) (.lst ws)
  | dic {a : Addr} {kvs : List (Key × V)} {xs : List V} {ks : List Key} {ws : List W} : C.H a = some (.dK kvs) → kvs.map Prod.fst = ks → kvs.map Prod.snd = xs → ¬ Live γ C a → RVs K γ C xs ws → RV K γ C (.ref a) (.dic ks ws)
  | scr {a : Addr} {ns : List Int} : ScrAt K C.H a (ns.map V.int) → RV K γ C (.ref a) (.scr ns)
  | loc {n : Nat} {a : Addr} : C.ρ[n]? = some a → RV K γ C (.ref a) (.loc n)
  | ty (n : String) : RV K γ C (.ty n) (.ty n)
  | tpf {a : Addr} {xs : List V} {ws : List W} : SqF C a xs → RVs K γ C xs ws → RV K γ C (.ref a) (.tpf ws)
  | rng {a : Addr} {lo hi : Int} : C.H a = some (.rng lo hi) → ¬ Live γ C a → RV K γ C (.ref a) (.rng lo hi)
  | cod {a : Addr} {q : Str} : C.H a = some (LamX.CodeO a q) → ¬ Live γ C a → RV K γ C (.ref a) (.cod q)
inductive RVs (K : PySem.W.Frag) (γ : List Addr) (C : Cfg) : List V → List W → Prop
  | nil : RVs K γ C [] []
  | cons {v : V} {w : W} {vs : List V} {ws : List W} : RV K γ C v w → RVs K γ C vs ws → RVs K γ C (v :: vs) (w :: ws)
end

def CellAt (K : PySem.W.Frag) (γ : List Addr) (C : Cfg) (a : Addr) : Cell → Prop
  | .lst ws => ∃ xs, C.H a = some (.lst xs) ∧ RVs K γ C xs ws
  | .dic ks ws => ∃ kvs, C.H a = some (.dK kvs) ∧ kvs.map Prod.fst = ks ∧ RVs K γ C (kvs.map Prod.snd) ws
  | .dct ks ws => ∃ kvs, C.H a = some (.dT kvs) ∧ kvs.map Prod.fst = ks ∧ RVs K γ C (kvs.map Prod.snd) ws
  | .tab P q => a = P ∧ ∃ ps : Array Value, C.H a = some (.tbl ps) ∧ TriplesOk ps.toList ∧ ∀ (pos : Pos) (cv : Value), codeAmong pos ps.toList = some cv → ∃ c, cv = .ref c ∧ RV K γ C (.ref c) (.cod q)

structure Sim (K : PySem.W.Frag) (γ : List Addr) (C : Cfg) : Prop where
  len : C.ρ.length = C.S.length
  nd : C.ρ.Nodup
  gn : γ.Nodup
  gd : ∀ a ∈ γ, a ∉ C.ρ ∧ C.H a ≠ none
  there : ∀ a ∈ C.ρ, C.H a ≠ none
  cell : ∀ (n : Nat) (a : Addr) (c : Cell), C.ρ[n]? = some a → C.S[n]? = some (some c) → CellAt K γ C a c

structure Step (γ : List Addr) (C : Cfg) (γ' : List Addr) (C' : Cfg) : Prop where
  pre : ∃ l, C'.ρ = C.ρ ++ l
  tups : ∀ a xs, C.H a = some (.tup xs) → C'.H a = some (.tup xs)
  frzs : ∀ a o u, C.H a = some (.frz o u) → C'.H a = some (.frz o u)
  keep : ∀ a o, C.H a = some o → (a ∈ γ ∨ ¬ Live γ C a) → C'.H a = some o
  nl : ∀ a, C.H a ≠ none → ¬ Live γ C a → ¬ Live γ' C' a
  there : ∀ a, C.H a ≠ none → C'.H a ≠ none
  gs : ∀ a ∈ γ, a ∈ γ'

theorem ne_none {α : Type} {o : Option α} {x : α} (h : o = some x) : o ≠ none := by rw [h]; exact nofun
theorem get_pre {α : Type} {l m : List α} {n : Nat} {a : α} (h : l[n]? = some a) : (l ++ m)[n]? = some a := by
  have q := (List.getElem?_eq_some_iff.mp h).1
  rw [List.getElem?_append_left q]; exact h

section
variable {K : PySem.W.Frag} {γ γ' γ'' : List Addr} {C C' C'' : Cfg}
theorem Step.refl (γ : List Addr) (C : Cfg) : Step γ C γ C := ⟨⟨[], by simp⟩, fun _ _ h => h, fun _ _ _ h => h, fun _ _ h _ => h, fun _ _ h => h, fun _ h => h, fun _ h => h⟩
theorem Step.trans (s : Step γ C γ' C') (t : Step γ' C' γ'' C'') : Step γ C γ'' C'' where
  pre := by
    obtain ⟨l, h⟩ := s.pre
    obtain ⟨m, h'⟩ := t.pre
    exact ⟨l ++ m, by rw [h', h, List.append_assoc]⟩
  tups := fun a xs h => t.tups a xs (s.tups a xs h)
  frzs := fun a o u h => t.frzs a o u (s.frzs a o u h)
  keep := fun a o h hl => by
    have h1 := s.keep a o h hl
    refine t.keep a o h1 ?_
    rcases hl with hl | hl
    · exact .inl (s.gs a hl)
    · exact .inr (s.nl a (ne_none h) hl)
  nl := fun a h hl => t.nl a (s.there a h) (s.nl a h hl)
  there := fun a h => t.there a (s.there a h)
  gs := fun a h => t.gs a (s.gs a h)
theorem Step.loc (s : Step γ C γ' C') {n : Nat} {a : Addr} (h : C.ρ[n]? = some a) : C'.ρ[n]? = some a := by
  obtain ⟨l, e⟩ := s.pre
  rw [e]; exact get_pre h
theorem Step.sqh {γ γ' : List Addr} {C C' : Cfg} (s : Step γ C γ' C') {a : Addr} {xs : List V} (h : SqH C a xs) : SqH C' a xs := s.tups a xs h
theorem Step.sqf {γ γ' : List Addr} {C C' : Cfg} (s : Step γ C γ' C') {a : Addr} {xs : List V} (h : SqF C a xs) : SqF C' a xs := by
  obtain ⟨o, h1, h2, h3⟩ := h
  exact ⟨o, h1, h2, s.frzs _ _ _ h3⟩
theorem Step.sqt (s : Step γ C γ' C') {a : Addr} {xs : List V} (h : SqT K C.H a xs) : SqT K C'.H a xs := by
  rcases h with (h | ⟨o, h⟩) | h
  · exact .inl (.inl (s.tups _ _ h))
  · exact .inl (.inr ⟨o, s.frzs _ _ _ h⟩)
  · exact .inr h
theorem Step.scr (s : Step γ C γ' C') {a : Addr} {xs : List V} (h : ScrAt K C.H a xs) : ScrAt K C'.H a xs := by
  rcases h with ⟨o, h⟩ | h
  · exact .inl ⟨o, s.frzs _ _ _ h⟩
  · exact .inr h
mutual
theorem RV.step (s : Step γ C γ' C') : ∀ {v : V} {w : W}, RV K γ C v w → RV K γ' C' v w
  | _, _, .non => .non
  | _, _, .bl b => .bl b
  | _, _, .int i => .int i
  | _, _, .str x => .str x
  | _, _, .tup h r => .tup (s.sqh h) (RVs.step s r)
  | _, _, .lst h nl r => .lst (s.keep _ _ h (.inr nl)) (s.nl _ (ne_none h) nl) (RVs.step s r)
  | _, _, .dic h e1 e2 nl r => .dic (s.keep _ _ h (.inr nl)) e1 e2 (s.nl _ (ne_none h) nl) (RVs.step s r)
  | _, _, .scr h => .scr (s.scr h)
  | _, _, .loc h => .loc (s.loc h)
  | _, _, .rng h nl => .rng (s.keep _ _ h (.inr nl)) (s.nl _ (ne_none h) nl)
  | _, _, .cod h nl => .cod (s.keep _ _ h (.inr nl)) (s.nl _ (ne_none h) nl)
  | _, _, .ty n => .ty n
  | _, _, .tpf h r => .tpf (s.sqf h) (RVs.step s r)
theorem RVs.step (s : Step γ C γ' C') : ∀ {vs : List V} {ws : List W}, RVs K γ C vs ws → RVs K γ' C' vs ws
  | _, _, .nil => .nil
  | _, _, .cons h r => .cons (RV.step s h) (RVs.step s r)
end
theorem RVs.length : ∀ {vs : List V} {ws : List W}, RVs K γ C vs ws → vs.length = ws.length
  | _, _, .nil => rfl
  | _, _, .cons _ r => by simp [RVs.length r]
theorem RVs.append : ∀ {vs vs' : List V} {ws ws' : List W}, RVs K γ C vs ws → RVs K γ C vs' ws' → RVs K γ C (vs ++ vs') (ws ++ ws')
  | _, _, _, _, .nil, q => q
  | _, _, _, _, .cons h r, q => .cons h (RVs.append r q)
theorem RVs.get : ∀ {vs : List V} {ws : List W} {i : Nat} {w : W}, RVs K γ C vs ws → ws[i]? = some w → ∃ v, vs[i]? = some v ∧ RV K γ C v w
  | _, _, _, _, .nil, e => by simp at e
  | _, _, 0, _, .cons h r, e => by simp at e; subst e; exact ⟨_, rfl, h⟩
  | _, _, i + 1, _, .cons h r, e => by
    obtain ⟨v, h1, h2⟩ := RVs.get (i := i) r (by simpa using e)
    exact ⟨v, by simpa using h1, h2⟩
theorem RVs.getV : ∀ {vs : List V} {ws : List W} {i : Nat} {v : V}, RVs K γ C vs ws → vs[i]? = some v → ∃ w, ws[i]? = some w ∧ RV K γ C v w
  | _, _, _, _, .nil, e => by simp at e
  | _, _, 0, _, .cons h r, e => by simp at e; subst e; exact ⟨_, rfl, h⟩
  | _, _, i + 1, _, .cons h r, e => by
    obtain ⟨v, h1, h2⟩ := RVs.getV (i := i) r (by simpa using e)
    exact ⟨v, by simpa using h1, h2⟩
theorem RVs.drop : ∀ {vs : List V} {ws : List W} (n : Nat), RVs K γ C vs ws → RVs K γ C (vs.drop n) (ws.drop n)
  | _, _, 0, h => h
  | _, _, n + 1, .nil => .nil
  | _, _, n + 1, .cons _ r => RVs.drop n r
theorem RVs.take : ∀ {vs : List V} {ws : List W} (n : Nat), RVs K γ C vs ws → RVs K γ C (vs.take n) (ws.take n)
  | _, _, 0, h => .nil
  | _, _, n + 1, .nil => .nil
  | _, _, n + 1, .cons h r => .cons h (RVs.take n r)
theorem RVs.set {v : V} {w : W} (q : RV K γ C v w) : ∀ {vs : List V} {ws : List W} (n : Nat), RVs K γ C vs ws → RVs K γ C (vs.set n v) (ws.set n w)
  | _, _, _, .nil => .nil
  | _, _, 0, .cons h r => .cons q r
  | _, _, n + 1, .cons h r => .cons h (RVs.set q n r)
theorem RVs.eraseIdx : ∀ {vs : List V} {ws : List W} (n : Nat), RVs K γ C vs ws → RVs K γ C (vs.eraseIdx n) (ws.eraseIdx n)
  | _, _, _, .nil => .nil
  | _, _, 0, .cons h r => r
  | _, _, n + 1, .cons h r => .cons h (RVs.eraseIdx n r)
theorem RVs.dropLast : ∀ {vs : List V} {ws : List W}, RVs K γ C vs ws → RVs K γ C vs.dropLast ws.dropLast
  | _, _, .nil => .nil
  | _, _, .cons h .nil => .nil
  | _, _, .cons h (.cons h' r) => .cons h (RVs.dropLast (.cons h' r))
theorem RVs.reverse : ∀ {vs : List V} {ws : List W}, RVs K γ C vs ws → RVs K γ C vs.reverse ws.reverse
  | _, _, .nil => .nil
  | _, _, .cons h r => by
    rw [List.reverse_cons, List.reverse_cons]
    exact (RVs.reverse r).append (.cons h .nil)
theorem RVs.rep {vs : List V} {ws : List W} (h : RVs K γ C vs ws) : ∀ n : Nat, RVs K γ C (List.replicate n vs).flatten (List.replicate n ws).flatten
  | 0 => .nil
  | n + 1 => by
    rw [List.replicate_succ, List.replicate_succ, List.flatten_cons, List.flatten_cons]
    exact h.append (RVs.rep h n)
theorem RVs.ints : ∀ {vs : List V} {ns : List Int}, RVs K γ C vs (ns.map W.int) → vs = ns.map V.int
  | _, [], .nil => rfl
  | _, n :: ns, h => by
    cases h with
    | cons h r =>
      cases h
      rw [List.map_cons, RVs.ints r]
theorem RVs.of_ints : ∀ (ns : List Int), RVs K γ C (ns.map V.int) (ns.map W.int)
  | [] => .nil
  | n :: ns => .cons (.int n) (RVs.of_ints ns)
theorem RVs.bls : ∀ {vs : List V} {ns : List Bool}, RVs K γ C vs (ns.map W.bl) → vs = ns.map V.bl
  | _, [], .nil => rfl
  | _, n :: ns, h => by
    cases h with
    | cons h r =>
      cases h
      rw [List.map_cons, RVs.bls r]

/-! slots -/
abbrev EnvD := List (Option W)
def RSt (K : PySem.W.Frag) (γ : List Addr) (C : Cfg) (σ : L2.St) (τ : EnvD) : Prop := σ.length = τ.length ∧ ∀ (i : Nat) (w : W), τ[i]? = some (some w) → ∃ v, σ[i]? = some (some v) ∧ RV K γ C v w
theorem RSt.step {σ : L2.St} {τ : EnvD} (s : Step γ C γ' C') (h : RSt K γ C σ τ) : RSt K γ' C' σ τ := ⟨h.1, fun i w e => let ⟨v, e', r⟩ := h.2 i w e; ⟨v, e', r.step s⟩⟩
theorem RSt.set {σ : L2.St} {τ : EnvD} {i : Nat} {v : V} {w : W} (h : RSt K γ C σ τ) (r : RV K γ C v w) : RSt K γ C (σ.set i (some v)) (τ.set i (some w)) := by
  refine ⟨by rw [List.length_set, List.length_set]; exact h.1, fun j w' e => ?_⟩
  by_cases hj : i = j
  · subst hj
    have hl : i < τ.length := by
      have := (List.getElem?_eq_some_iff.mp e).1
      rw [List.length_set] at this; exact this
    rw [List.getElem?_set_self hl] at e
    cases e
    exact ⟨v, by rw [List.getElem?_set_self (by rw [h.1]; exact hl)], r⟩
  · rw [List.getElem?_set_ne hj] at e
    obtain ⟨v', e', r'⟩ := h.2 j w' e
    exact ⟨v', by rw [List.getElem?_set_ne hj]; exact e', r'⟩

/-! changes of the heap -/
def Cfg.put (C : Cfg) (p : Addr) (o : HO) : Cfg := ⟨C.ρ, C.S, upd C.H p o⟩
theorem Step.new {p : Addr} {o : HO} (h : C.H p = none) : Step γ C γ (C.put p o) where
  pre := ⟨[], by simp [Cfg.put]⟩
  tups := fun a xs q => (upd_ne (ne_of_none q h)).trans q
  frzs := fun a ob u q => (upd_ne (ne_of_none q h)).trans q
  keep := fun a ob q _ => (upd_ne (ne_of_none q h)).trans q
  nl := fun a _ q => q
  there := fun a q => by
    show upd C.H p o a ≠ none
    unfold upd
    split
    · exact nofun
    · exact q
  gs := fun _ q => q
theorem CellAt.step {a : Addr} {c : Cell} (s : Step γ C γ' C') (e : C'.H a = C.H a) (h : CellAt K γ C a c) : CellAt K γ' C' a c := by
  cases c with
  | lst ws => obtain ⟨xs, h1, h2⟩ := h; exact ⟨xs, e.trans h1, h2.step s⟩
  | dic ks ws => obtain ⟨xs, h1, h2, h3⟩ := h; exact ⟨xs, e.trans h1, h2, h3.step s⟩
  | dct ks ws => obtain ⟨xs, h1, h2, h3⟩ := h; exact ⟨xs, e.trans h1, h2, h3.step s⟩
  | tab P q => obtain ⟨h0, ps, h1, h2, h3⟩ := h; exact ⟨h0, ps, e.trans h1, h2, fun pos cv hc => let ⟨c, e1, r⟩ := h3 pos cv hc; ⟨c, e1, r.step s⟩⟩
theorem Sim.new {p : Addr} {o : HO} (s : Sim K γ C) (h : C.H p = none) : Sim K γ (C.put p o) where
  len := s.len
  nd := s.nd
  gn := s.gn
  gd := fun a ha => ⟨(s.gd a ha).1, (Step.new (γ := γ) h).there a (s.gd a ha).2⟩
  there := fun a ha => (Step.new (γ := γ) h).there a (s.there a ha)
  cell := fun n a c e1 e2 => by
    refine (s.cell n a c e1 e2).step (Step.new h) (upd_ne ?_)
    intro z
    exact s.there a (List.mem_of_getElem? e1) (z ▸ h)
/-- a new thing at p, held back -/
theorem Sim.ghost {p : Addr} {o : HO} (s : Sim K γ C) (h : C.H p = none) : Sim K (p :: γ) (C.put p o) ∧ Step γ C (p :: γ) (C.put p o) := by
  have st : Step γ C (p :: γ) (C.put p o) := by
    have q := Step.new (γ := γ) (o := o) h
    refine ⟨q.pre, q.tups, q.frzs, q.keep, fun a ha hl => ?_, q.there, fun a ha => List.mem_cons_of_mem _ ha⟩
    rintro (hm | hm)
    · rcases List.mem_cons.mp hm with e | e
      · subst e; exact ha h
      · exact hl (.inl e)
    · exact hl (.inr hm)
  refine ⟨⟨s.len, s.nd, List.nodup_cons.mpr ⟨fun z => (s.gd p z).2 h, s.gn⟩, fun a ha => ?_, fun a ha => st.there a (s.there a ha), fun n a c e1 e2 => ?_⟩, st⟩
  · rcases List.mem_cons.mp ha with e | e
    · subst e
      exact ⟨fun z => s.there a z h, ne_none upd_same⟩
    · exact ⟨(s.gd a e).1, st.there a (s.gd a e).2⟩
  · refine (s.cell n a c e1 e2).step st (upd_ne ?_)
    intro z
    exact s.there a (List.mem_of_getElem? e1) (z ▸ h)
theorem Step.drop {p : Addr} {γ0 : List Addr} {C0 : Cfg} (s : Sim K (p :: γ) C) (st : Step γ0 C0 (p :: γ) C) (hg : ∀ a ∈ γ0, a ∈ γ) : Step γ0 C0 γ C :=
  ⟨st.pre, st.tups, st.frzs, st.keep, fun a ha hl hm => st.nl a ha hl (hm.elim (fun z => .inl (List.mem_cons_of_mem _ z)) .inr), st.there, hg⟩
mutual
theorem RV.drop {p : Addr} : ∀ {v : V} {w : W}, RV K (p :: γ) C v w → RV K γ C v w
  | _, _, .non => .non
  | _, _, .bl b => .bl b
  | _, _, .int i => .int i
  | _, _, .str x => .str x
  | _, _, .tup h r => .tup h (RVs.drop1 r)
  | _, _, .lst h nl r => .lst h (fun z => nl (z.elim (fun q => .inl (List.mem_cons_of_mem _ q)) .inr)) (RVs.drop1 r)
  | _, _, .dic h e1 e2 nl r => .dic h e1 e2 (fun z => nl (z.elim (fun q => .inl (List.mem_cons_of_mem _ q)) .inr)) (RVs.drop1 r)
  | _, _, .scr h => .scr h
  | _, _, .loc h => .loc h
  | _, _, .rng h nl => .rng h (fun z => nl (z.elim (fun q => .inl (List.mem_cons_of_mem _ q)) .inr))
  | _, _, .cod h nl => .cod h (fun z => nl (z.elim (fun q => .inl (List.mem_cons_of_mem _ q)) .inr))
  | _, _, .ty n => .ty n
  | _, _, .tpf h r => .tpf h (RVs.drop1 r)
theorem RVs.drop1 {p : Addr} : ∀ {vs : List V} {ws : List W}, RVs K (p :: γ) C vs ws → RVs K γ C vs ws
  | _, _, .nil => .nil
  | _, _, .cons h r => .cons (RV.drop h) (RVs.drop1 r)
end
theorem CellAt.drop {p a : Addr} {c : Cell} (h : CellAt K (p :: γ) C a c) : CellAt K γ C a c := by
  cases c with
  | lst ws => obtain ⟨xs, h1, h2⟩ := h; exact ⟨xs, h1, h2.drop1⟩
  | dic ks ws => obtain ⟨xs, h1, h2, h3⟩ := h; exact ⟨xs, h1, h2, h3.drop1⟩
  | dct ks ws => obtain ⟨xs, h1, h2, h3⟩ := h; exact ⟨xs, h1, h2, h3.drop1⟩
  | tab P q => obtain ⟨h0, ps, h1, h2, h3⟩ := h; exact ⟨h0, ps, h1, h2, fun pos cv hc => let ⟨c, e1, r⟩ := h3 pos cv hc; ⟨c, e1, r.drop⟩⟩
theorem Sim.drop {p : Addr} (s : Sim K (p :: γ) C) : Sim K γ C :=
  ⟨s.len, s.nd, (List.nodup_cons.mp s.gn).2, fun a ha => s.gd a (List.mem_cons_of_mem _ ha), s.there, fun n a c e1 e2 => (s.cell n a c e1 e2).drop⟩
theorem Sim.nlive {p : Addr} (s : Sim K (p :: γ) C) : ¬ Live γ C p := by
  rintro (h | ⟨n, c, h, _⟩)
  · exact (List.nodup_cons.mp s.gn).1 h
  · exact (s.gd p List.mem_cons_self).1 (List.mem_of_getElem? h)
/-- the thing held back becomes a place of the store -/
def Cfg.add (C : Cfg) (p : Addr) (c : Cell) : Cfg := ⟨C.ρ ++ [p], C.S ++ [some c], C.H⟩
theorem live_add {p a : Addr} {c : Cell} (s : Sim K (p :: γ) C) (h : Live γ (C.add p c) a) : Live (p :: γ) C a := by
  rcases h with h | ⟨n, c', h1, h2⟩
  · exact .inl (List.mem_cons_of_mem _ h)
  · have h1' : (C.ρ ++ [p])[n]? = some a := h1
    have h2' : (C.S ++ [some c])[n]? = some (some c') := h2
    by_cases hn : n < C.ρ.length
    · rw [List.getElem?_append_left hn] at h1'
      rw [List.getElem?_append_left (by rw [← s.len]; exact hn)] at h2'
      exact .inr ⟨n, c', h1', h2'⟩
    · rw [List.getElem?_append_right (Nat.le_of_not_lt hn)] at h1'
      have : a = p := by
        have := List.mem_of_getElem? h1'
        simpa using this
      subst this
      exact .inl List.mem_cons_self
theorem Step.add {p : Addr} {c : Cell} (s : Sim K (p :: γ) C) : ∀ {γ0 : List Addr} {C0 : Cfg}, Step γ0 C0 (p :: γ) C → (∀ a ∈ γ0, a ∈ γ) → Step γ0 C0 γ (C.add p c) := fun st hg =>
  ⟨by obtain ⟨l, e⟩ := st.pre; exact ⟨l ++ [p], by show C.ρ ++ [p] = _; rw [e, List.append_assoc]⟩, st.tups, st.frzs, st.keep, fun a ha hl hm => st.nl a ha hl (live_add s hm), st.there, hg⟩
mutual
theorem RV.add {p : Addr} {c : Cell} (s : Sim K (p :: γ) C) : ∀ {v : V} {w : W}, RV K (p :: γ) C v w → RV K γ (C.add p c) v w
  | _, _, .non => .non
  | _, _, .bl b => .bl b
  | _, _, .int i => .int i
  | _, _, .str x => .str x
  | _, _, .tup h r => .tup h (RVs.add s r)
  | _, _, .lst h nl r => .lst h (fun z => nl (live_add s z)) (RVs.add s r)
  | _, _, .dic h e1 e2 nl r => .dic h e1 e2 (fun z => nl (live_add s z)) (RVs.add s r)
  | _, _, .scr h => .scr h
  | _, _, .loc h => .loc (get_pre h)
  | _, _, .rng h nl => .rng h (fun z => nl (live_add s z))
  | _, _, .cod h nl => .cod h (fun z => nl (live_add s z))
  | _, _, .ty n => .ty n
  | _, _, .tpf h r => .tpf h (RVs.add s r)
theorem RVs.add {p : Addr} {c : Cell} (s : Sim K (p :: γ) C) : ∀ {vs : List V} {ws : List W}, RVs K (p :: γ) C vs ws → RVs K γ (C.add p c) vs ws
  | _, _, .nil => .nil
  | _, _, .cons h r => .cons (RV.add s h) (RVs.add s r)
end
theorem CellAt.add {p a : Addr} {c d : Cell} (s : Sim K (p :: γ) C) (h : CellAt K (p :: γ) C a c) : CellAt K γ (C.add p d) a c := by
  cases c with
  | lst ws => obtain ⟨xs, h1, h2⟩ := h; exact ⟨xs, h1, h2.add s⟩
  | dic ks ws => obtain ⟨xs, h1, h2, h3⟩ := h; exact ⟨xs, h1, h2, h3.add s⟩
  | dct ks ws => obtain ⟨xs, h1, h2, h3⟩ := h; exact ⟨xs, h1, h2, h3.add s⟩
  | tab P q => obtain ⟨h0, ps, h1, h2, h3⟩ := h; exact ⟨h0, ps, h1, h2, fun pos cv hc => let ⟨c, e1, r⟩ := h3 pos cv hc; ⟨c, e1, r.add s⟩⟩
theorem Sim.add {p : Addr} {c : Cell} (s : Sim K (p :: γ) C) (hc : CellAt K (p :: γ) C p c) : Sim K γ (C.add p c) where
  len := by show (C.ρ ++ [p]).length = (C.S ++ [some c]).length; rw [List.length_append, List.length_append, s.len]; rfl
  nd := by
    refine List.nodup_append.mpr ⟨s.nd, by simp, fun a ha b hb => ?_⟩
    have : b = p := by simpa using hb
    subst this
    intro e
    subst e
    exact (s.gd a List.mem_cons_self).1 ha
  gn := (List.nodup_cons.mp s.gn).2
  gd := fun a ha => by
    have q := s.gd a (List.mem_cons_of_mem _ ha)
    refine ⟨fun z => ?_, q.2⟩
    rcases List.mem_append.mp z with z | z
    · exact q.1 z
    · have : a = p := by simpa using z
      subst this
      exact (List.nodup_cons.mp s.gn).1 ha
  there := fun a ha => by
    rcases List.mem_append.mp ha with z | z
    · exact s.there a z
    · have : a = p := by simpa using z
      subst this
      exact (s.gd a List.mem_cons_self).2
  cell := fun n a c' e1 e2 => by
    have e1' : (C.ρ ++ [p])[n]? = some a := e1
    have e2' : (C.S ++ [some c])[n]? = some (some c') := e2
    by_cases hn : n < C.ρ.length
    · rw [List.getElem?_append_left hn] at e1'
      rw [List.getElem?_append_left (by rw [← s.len]; exact hn)] at e2'
      exact (s.cell n a c' e1' e2').add s
    · rw [List.getElem?_append_right (Nat.le_of_not_lt hn)] at e1'
      rw [List.getElem?_append_right (by rw [← s.len]; exact Nat.le_of_not_lt hn)] at e2'
      have ha : a = p := by simpa using List.mem_of_getElem? e1'
      have hc' : c' = c := by simpa using List.mem_of_getElem? e2'
      subst ha; subst hc'
      exact hc.add s
/-- the thing held back is changed -/
theorem live_put {p a : Addr} {o : HO} (h : Live γ (C.put p o) a) : Live γ C a := h
mutual
theorem RV.gput {p : Addr} {o : HO} (s : Sim K (p :: γ) C) (hp : ∃ u, C.H p = some u ∧ (∀ xs, u ≠ .tup xs) ∧ ∀ o z, u ≠ .frz o z) : ∀ {v : V} {w : W}, RV K (p :: γ) C v w → RV K (p :: γ) (C.put p o) v w
  | _, _, .non => .non
  | _, _, .bl b => .bl b
  | _, _, .int i => .int i
  | _, _, .str x => .str x
  | _, _, .tup h r => .tup (by
      obtain ⟨u, hu, h1, h2⟩ := hp
      exact (upd_ne (ne_of h hu fun e => h1 _ e.symm)).trans h) (RVs.gput s hp r)
  | _, _, .lst h nl r => .lst (Eq.trans (upd_ne (fun e => nl (.inl (by rw [e]; exact List.mem_cons_self)))) h) nl (RVs.gput s hp r)
  | _, _, .dic h e1 e2 nl r => .dic (Eq.trans (upd_ne (fun e => nl (.inl (by rw [e]; exact List.mem_cons_self)))) h) e1 e2 nl (RVs.gput s hp r)
  | _, _, .scr h => .scr (by
      obtain ⟨u, hu, h1, h2⟩ := hp
      rcases h with ⟨ob, h⟩ | h
      · exact .inl ⟨ob, (upd_ne (ne_of h hu fun e => h2 _ _ e.symm)).trans h⟩
      · exact .inr h)
  | _, _, .loc h => .loc h
  | _, _, .rng h nl => .rng (Eq.trans (upd_ne (fun e => nl (.inl (by rw [e]; exact List.mem_cons_self)))) h) nl
  | _, _, .cod h nl => .cod (Eq.trans (upd_ne (fun e => nl (.inl (by rw [e]; exact List.mem_cons_self)))) h) nl
  | _, _, .ty n => .ty n
  | _, _, .tpf h r => .tpf (by
      obtain ⟨u, hu, h1, h2⟩ := hp
      obtain ⟨ob, q1, q2, q3⟩ := h
      exact ⟨ob, q1, q2, (upd_ne (ne_of q3 hu fun e => h2 _ _ e.symm)).trans q3⟩) (RVs.gput s hp r)
theorem RVs.gput {p : Addr} {o : HO} (s : Sim K (p :: γ) C) (hp : ∃ u, C.H p = some u ∧ (∀ xs, u ≠ .tup xs) ∧ ∀ o z, u ≠ .frz o z) : ∀ {vs : List V} {ws : List W}, RVs K (p :: γ) C vs ws → RVs K (p :: γ) (C.put p o) vs ws
  | _, _, .nil => .nil
  | _, _, .cons h r => .cons (RV.gput s hp h) (RVs.gput s hp r)
end
theorem Sim.gput {p : Addr} {o : HO} (s : Sim K (p :: γ) C) (hp : ∃ u, C.H p = some u ∧ (∀ xs, u ≠ .tup xs) ∧ ∀ o z, u ≠ .frz o z) : Sim K (p :: γ) (C.put p o) := by
  have th : ∀ a, C.H a ≠ none → (C.put p o).H a ≠ none := fun a q => by
    show upd C.H p o a ≠ none
    unfold upd
    split
    · exact nofun
    · exact q
  refine ⟨s.len, s.nd, s.gn, fun a ha => ⟨(s.gd a ha).1, th a (s.gd a ha).2⟩, fun a ha => th a (s.there a ha), fun n a c e1 e2 => ?_⟩
  have ne : (C.put p o).H a = C.H a := upd_ne fun z => (s.gd p List.mem_cons_self).1 (z ▸ List.mem_of_getElem? e1)
  have h := s.cell n a c e1 e2
  cases c with
  | lst ws => obtain ⟨xs, h1, h2⟩ := h; exact ⟨xs, ne.trans h1, h2.gput s hp⟩
  | dic ks ws => obtain ⟨xs, h1, h2, h3⟩ := h; exact ⟨xs, ne.trans h1, h2, h3.gput s hp⟩
  | dct ks ws => obtain ⟨xs, h1, h2, h3⟩ := h; exact ⟨xs, ne.trans h1, h2, h3.gput s hp⟩
  | tab P q => obtain ⟨h0, ps, h1, h2, h3⟩ := h; exact ⟨h0, ps, ne.trans h1, h2, fun pos cv hc => let ⟨c, e1, r⟩ := h3 pos cv hc; ⟨c, e1, r.gput s hp⟩⟩
theorem Step.gput {p : Addr} {o : HO} {γ0 : List Addr} {C0 : Cfg} (st : Step γ0 C0 (p :: γ) C) (h0 : C0.H p = none) : Step γ0 C0 (p :: γ) (C.put p o) :=
  ⟨st.pre, fun a xs h => (upd_ne (ne_of_none h h0)).trans (st.tups a xs h), fun a ob u h => (upd_ne (ne_of_none h h0)).trans (st.frzs a ob u h), fun a ob h hl => (upd_ne (ne_of_none h h0)).trans (st.keep a ob h hl), st.nl, fun a h => by
    show upd C.H p o a ≠ none
    unfold upd
    split
    · exact nofun
    · exact st.there a h, st.gs⟩
/-- a place of the store is changed -/
def Cfg.wr (C : Cfg) (n : Nat) (p : Addr) (o : HO) (c : Cell) : Cfg := ⟨C.ρ, C.S.set n (some c), upd C.H p o⟩
theorem live_wr {n : Nat} {p a : Addr} {o : HO} {c : Cell} (hn : C.ρ[n]? = some p) (hc : ∃ c', C.S[n]? = some (some c')) (h : Live γ (C.wr n p o c) a) : Live γ C a := by
  rcases h with h | ⟨m, c', h1, h2⟩
  · exact .inl h
  · have h2' : (C.S.set n (some c))[m]? = some (some c') := h2
    by_cases hm : n = m
    · subst hm
      obtain ⟨d, hd⟩ := hc
      exact .inr ⟨n, d, h1, hd⟩
    · rw [List.getElem?_set_ne hm] at h2'
      exact .inr ⟨m, c', h1, h2'⟩
theorem Step.wr {n : Nat} {p : Addr} {o u : HO} {c : Cell} (s : Sim K γ C) (hn : C.ρ[n]? = some p) (hc : ∃ c', C.S[n]? = some (some c')) (hu : C.H p = some u) (h1 : ∀ xs, u ≠ .tup xs) (h2 : ∀ o z, u ≠ .frz o z) : Step γ C γ (C.wr n p o c) where
  pre := ⟨[], by simp [Cfg.wr]⟩
  tups := fun a xs h => (upd_ne (ne_of h hu fun e => h1 _ e.symm)).trans h
  frzs := fun a ob z h => (upd_ne (ne_of h hu fun e => h2 _ _ e.symm)).trans h
  keep := fun a ob h hl => by
    refine (upd_ne fun e => ?_).trans h
    subst e
    rcases hl with hl | hl
    · exact (s.gd a hl).1 (List.mem_of_getElem? hn)
    · obtain ⟨d, hd⟩ := hc
      exact hl (.inr ⟨n, d, hn, hd⟩)
  nl := fun a _ hl h => hl (live_wr hn hc h)
  there := fun a q => by
    show upd C.H p o a ≠ none
    unfold upd
    split
    · exact nofun
    · exact q
  gs := fun _ q => q
theorem nodup_at {l : List Addr} (nd : l.Nodup) {i j : Nat} {a : Addr} (h1 : l[i]? = some a) (h2 : l[j]? = some a) : i = j := by
  obtain ⟨q1, e1⟩ := List.getElem?_eq_some_iff.mp h1
  obtain ⟨q2, e2⟩ := List.getElem?_eq_some_iff.mp h2
  exact (List.getElem_inj nd).mp (e1.trans e2.symm)
theorem Sim.wr {n : Nat} {p : Addr} {o u : HO} {c : Cell} (s : Sim K γ C) (hn : C.ρ[n]? = some p) (hc : ∃ c', C.S[n]? = some (some c')) (hu : C.H p = some u) (h1 : ∀ xs, u ≠ .tup xs) (h2 : ∀ o z, u ≠ .frz o z)
    (new : CellAt K γ (C.wr n p o c) p c) : Sim K γ (C.wr n p o c) := by
  have st := Step.wr (o := o) (c := c) s hn hc hu h1 h2
  refine ⟨by show C.ρ.length = (C.S.set n (some c)).length; rw [List.length_set]; exact s.len, s.nd, s.gn, fun a ha => ⟨(s.gd a ha).1, st.there a (s.gd a ha).2⟩, fun a ha => st.there a (s.there a ha), fun m a c' e1 e2 => ?_⟩
  have e2' : (C.S.set n (some c))[m]? = some (some c') := e2
  by_cases hm : n = m
  · subst hm
    have hl : n < C.S.length := by
      obtain ⟨d, hd⟩ := hc
      exact (List.getElem?_eq_some_iff.mp hd).1
    rw [List.getElem?_set_self hl] at e2'
    cases e2'
    have e1' : C.ρ[n]? = some a := e1
    rw [hn] at e1'
    cases e1'
    exact new
  · rw [List.getElem?_set_ne hm] at e2'
    exact (s.cell m a c' e1 e2').step st (upd_ne fun z => hm (nodup_at s.nd hn (z ▸ e1)))
/-- a place of the store is given up: what stood there is a tree from now on -/
def Cfg.die (C : Cfg) (n : Nat) : Cfg := ⟨C.ρ, C.S.set n none, C.H⟩
theorem live_die {n : Nat} {a : Addr} (h : Live γ (C.die n) a) : Live γ C a := by
  rcases h with h | ⟨m, c', h1, h2⟩
  · exact .inl h
  · have h2' : (C.S.set n none)[m]? = some (some c') := h2
    by_cases hm : n = m
    · subst hm
      have hl : n < C.S.length := by
        have := (List.getElem?_eq_some_iff.mp h2').1
        rw [List.length_set] at this; exact this
      rw [List.getElem?_set_self hl] at h2'
      cases h2'
    · rw [List.getElem?_set_ne hm] at h2'
      exact .inr ⟨m, c', h1, h2'⟩
theorem Step.die {n : Nat} : Step γ C γ (C.die n) :=
  ⟨⟨[], by simp [Cfg.die]⟩, fun _ _ h => h, fun _ _ _ h => h, fun _ _ h _ => h, fun a _ hl h => hl (live_die h), fun _ h => h, fun _ h => h⟩
theorem Sim.die {n : Nat} (s : Sim K γ C) : Sim K γ (C.die n) := by
  refine ⟨by show C.ρ.length = (C.S.set n none).length; rw [List.length_set]; exact s.len, s.nd, s.gn, s.gd, s.there, fun m a c' e1 e2 => ?_⟩
  have e2' : (C.S.set n none)[m]? = some (some c') := e2
  by_cases hm : n = m
  · subst hm
    have hl : n < C.S.length := by
      have := (List.getElem?_eq_some_iff.mp e2').1
      rw [List.length_set] at this; exact this
    rw [List.getElem?_set_self hl] at e2'
    cases e2'
  · rw [List.getElem?_set_ne hm] at e2'
    exact (s.cell m a c' e1 e2').step Step.die rfl
theorem die_nl {n : Nat} {p : Addr} (s : Sim K γ C) (hn : C.ρ[n]? = some p) : ¬ Live γ (C.die n) p := by
  rintro (h | ⟨m, c', h1, h2⟩)
  · exact (s.gd p h).1 (List.mem_of_getElem? hn)
  · have h2' : (C.S.set n none)[m]? = some (some c') := h2
    have := nodup_at s.nd hn h1
    subst this
    have hl : n < C.S.length := by
      have := (List.getElem?_eq_some_iff.mp h2').1
      rw [List.length_set] at this; exact this
    rw [List.getElem?_set_self hl] at h2'
    cases h2'
end
end FL
end
section
set_option autoImplicit false
namespace FL
open PySem PySem.Spec PyProof.Rows L2
/-! ### readings over data -/
abbrev WK := W → Store → Prop
abbrev TD := EnvD → Store → WK → Prop
abbrev TTD := EnvD → Store → (Bool → Store → Prop) → Prop
abbrev TAD := EnvD → Store → (List W → Store → Prop) → Prop
structure DEnds where
  nx : EnvD → Store → Prop
  rt : WK
  bk : EnvD → Store → Prop := fun _ _ => False
  ct : EnvD → Store → Prop := fun _ _ => False
abbrev TSD := DEnds → EnvD → Store → Prop

/-- what is wanted of data, as what is wanted of values -/
def KE (K : PySem.W.Frag) (γ : List Addr) (C : Cfg) (Qd : WK) (Q : VK) : Prop := ∀ C' v w, Qd w C'.S → Sim K γ C' → Step γ C γ C' → RV K γ C' v w → Q v C'.H
def KB (K : PySem.W.Frag) (γ : List Addr) (C : Cfg) (Qd : Bool → Store → Prop) (Q : Bool → Hp → Prop) : Prop := ∀ C' b, Qd b C'.S → Sim K γ C' → Step γ C γ C' → Q b C'.H
def KA (K : PySem.W.Frag) (γ : List Addr) (C : Cfg) (Qd : List W → Store → Prop) (Q : List V → Hp → Prop) : Prop := ∀ C' vs ws, Qd ws C'.S → Sim K γ C' → Step γ C γ C' → RVs K γ C' vs ws → Q vs C'.H
/-- a new list at p, held back -/
def KF (K : PySem.W.Frag) (γ : List Addr) (C : Cfg) (Qd : List W → Store → Prop) (Q : VK) : Prop := ∀ C' p xs ws, Qd ws C'.S → Sim K (p :: γ) C' → Step γ C (p :: γ) C' → C.H p = none → C'.H p = some (.lst xs) → RVs K (p :: γ) C' xs ws → Q (.ref p) C'.H
structure KS (K : PySem.W.Frag) (γ : List Addr) (C : Cfg) (Dd : DEnds) (D : Ends) : Prop where
  nx : ∀ C' σ τ, Dd.nx τ C'.S → Sim K γ C' → Step γ C γ C' → RSt K γ C' σ τ → D.nx σ C'.H
  rt : ∀ C' v w, Dd.rt w C'.S → Sim K γ C' → Step γ C γ C' → RV K γ C' v w → D.rt v C'.H
  bk : ∀ C' σ τ, Dd.bk τ C'.S → Sim K γ C' → Step γ C γ C' → RSt K γ C' σ τ → D.bk σ C'.H
  ct : ∀ C' σ τ, Dd.ct τ C'.S → Sim K γ C' → Step γ C γ C' → RSt K γ C' σ τ → D.ct σ C'.H

structure PD (X : Cx) (e : Expr) (t : TD) : Prop where
  ex : ∃ tH, PE X e tH ∧ ∀ γ C σ τ Qd Q, Sim X.K γ C → RSt X.K γ C σ τ → t τ C.S Qd → KE X.K γ C Qd Q → tH σ C.H Q
structure PDF (X : Cx) (e : Expr) (t : TAD) : Prop where
  ex : ∃ tH, PE X e tH ∧ ∀ γ C σ τ Qd Q, Sim X.K γ C → RSt X.K γ C σ τ → t τ C.S Qd → KF X.K γ C Qd Q → tH σ C.H Q
structure PTD (X : Cx) (e : Expr) (t : TTD) : Prop where
  ex : ∃ tH, PT X e tH ∧ ∀ γ C σ τ Qd Q, Sim X.K γ C → RSt X.K γ C σ τ → t τ C.S Qd → KB X.K γ C Qd Q → tH σ C.H Q
structure PWD (X : Cx) (e : Expr) (t : TTD) : Prop where
  ex : ∃ tH, PW X e tH ∧ ∀ γ C σ τ Qd Q, Sim X.K γ C → RSt X.K γ C σ τ → t τ C.S Qd → KB X.K γ C Qd Q → tH σ C.H Q
structure PAD (X : Cx) (es : List Expr) (t : TAD) : Prop where
  ex : ∃ tH, PA X es tH ∧ ∀ γ C σ τ Qd Q, Sim X.K γ C → RSt X.K γ C σ τ → t τ C.S Qd → KA X.K γ C Qd Q → tH σ C.H Q
structure PSD (X : Cx) (st : Stmt) (t : TSD) : Prop where
  ex : ∃ tH, PS X st tH ∧ ∀ γ C σ τ Dd D, Sim X.K γ C → RSt X.K γ C σ τ → t Dd τ C.S → KS X.K γ C Dd D → tH D σ C.H
structure PSSD (X : Cx) (st : List Stmt) (t : TSD) : Prop where
  ex : ∃ tH, PSs X st tH ∧ ∀ γ C σ τ Dd D, Sim X.K γ C → RSt X.K γ C σ τ → t Dd τ C.S → KS X.K γ C Dd D → tH D σ C.H

section
variable {K : PySem.W.Frag} {γ : List Addr} {C C' : Cfg}
theorem KE.step {Qd : WK} {Q : VK} (k : KE K γ C Qd Q) (s : Step γ C γ C') : KE K γ C' Qd Q := fun C2 v w h a b r => k C2 v w h a (s.trans b) r
theorem KB.step {Qd : Bool → Store → Prop} {Q : Bool → Hp → Prop} (k : KB K γ C Qd Q) (s : Step γ C γ C') : KB K γ C' Qd Q := fun C2 b h a c => k C2 b h a (s.trans c)
theorem KA.step {Qd : List W → Store → Prop} {Q : List V → Hp → Prop} (k : KA K γ C Qd Q) (s : Step γ C γ C') : KA K γ C' Qd Q := fun C2 v w h a b r => k C2 v w h a (s.trans b) r
theorem KF.step {Qd : List W → Store → Prop} {Q : VK} (k : KF K γ C Qd Q) (s : Step γ C γ C') : KF K γ C' Qd Q := fun C2 p xs ws h a b hp e r => k C2 p xs ws h a (s.trans b) (by
  cases q : C.H p with
  | none => rfl
  | some o => exact absurd hp (s.there p (ne_none q))) e r
theorem KS.step {Dd : DEnds} {D : Ends} (k : KS K γ C Dd D) (s : Step γ C γ C') : KS K γ C' Dd D :=
  ⟨fun C2 σ τ h a b r => k.nx C2 σ τ h a (s.trans b) r, fun C2 σ τ h a b r => k.rt C2 σ τ h a (s.trans b) r, fun C2 σ τ h a b r => k.bk C2 σ τ h a (s.trans b) r, fun C2 σ τ h a b r => k.ct C2 σ τ h a (s.trans b) r⟩
end

/-! ### simple expressions -/
section
variable {X : Cx}
def dVar (i : Nat) : TD := fun τ S Q => match τ[i]? with
  | some (some w) => Q w S
  | _ => False
theorem pd_var (i : Nat) {x : Str} {pos : Pos} (hN : X.N[i]? = some x := by rfl) (hv : Vis X.env.scope x := by first | exact Or.inl rfl | exact Or.inr (Or.inl rfl) | exact Or.inr (Or.inr rfl)) (hd : (x == ("__debug__" : Str)) = false := by decide)
    (hcd : (x == ("__classdict__" : Str)) = false := by decide) : PD X (.Name x pos) (dVar i) := by
  refine ⟨_, pe_var hN hv hd hcd, fun γ C σ τ Qd Q hs hst h k => ?_⟩
  unfold dVar at h
  split at h
  · rename_i w e
    obtain ⟨v, e', r⟩ := hst.2 i w e
    exact ⟨v, e', k C v w h hs (.refl _ _) r⟩
  · exact h.elim
def dC (w : W) : TD := fun _ S Q => Q w S
theorem pd_int {i j pos} : PD X (.Constant (.int i) j pos) (dC (.int i)) := ⟨_, pe_int, fun γ C σ τ Qd Q hs hst h k => k C _ _ h hs (.refl _ _) (.int i)⟩
theorem pd_bl {b j pos} : PD X (.Constant (.bool b) j pos) (dC (.bl b)) := ⟨_, pe_bl, fun γ C σ τ Qd Q hs hst h k => k C _ _ h hs (.refl _ _) (.bl b)⟩
theorem pd_non {j pos} : PD X (.Constant .none j pos) (dC .non) := ⟨_, pe_non, fun γ C σ τ Qd Q hs hst h k => k C _ _ h hs (.refl _ _) .non⟩
theorem pd_str {x j pos} : PD X (.Constant (.str x) j pos) (dC (.str x)) := ⟨_, pe_str, fun γ C σ τ Qd Q hs hst h k => k C _ _ h hs (.refl _ _) (.str x)⟩
/-- a module's number -/
theorem pd_globI {x : Str} {i : Int} {u : Value} {pos : Pos} (hg : Gl X x) (hm : X.mg x = some u) (r : RelV (.int i) u) (hd : (x == ("__debug__" : Str)) = false := by decide) : PD X (.Name x pos) (dC (.int i)) :=
  ⟨_, pe_glob hg hm r hd, fun γ C σ τ Qd Q hs hst h k => k C _ _ h hs (.refl _ _) (.int i)⟩

/-! ### operators -/
abbrev R2D := W → W → Store → WK → Prop
structure OpD (X : Cx) (f : Value → Value → Sem Value) (rd : R2D) : Prop where
  ex : ∃ r, OpR X f r ∧ ∀ γ C x y w1 w2 Qd Q, Sim X.K γ C → RV X.K γ C x w1 → RV X.K γ C y w2 → rd w1 w2 C.S Qd → KE X.K γ C Qd Q → r x y C.H Q
theorem OpD.or {f : Value → Value → Sem Value} {r1 r2 : R2D} (h1 : OpD X f r1) (h2 : OpD X f r2) : OpD X f (fun x y S Q => r1 x y S Q ∨ r2 x y S Q) := by
  obtain ⟨a1, o1, k1⟩ := h1.ex
  obtain ⟨a2, o2, k2⟩ := h2.ex
  exact ⟨_, o1.or o2, fun γ C x y w1 w2 Qd Q hs rx ry h k => h.elim (fun q => .inl (k1 γ C x y w1 w2 Qd Q hs rx ry q k)) fun q => .inr (k2 γ C x y w1 w2 Qd Q hs rx ry q k)⟩
def dOp (r : R2D) (ta tb : TD) : TD := fun τ S Q => ta τ S fun x S1 => tb τ S1 fun y S2 => r x y S2 Q
variable {a b c : Expr} {ta tb tc : TD} {pos : Pos}
theorem pd_op {op : Operator} {rd : R2D} (ho : OpD X (binaryOp op) rd) (ha : PD X a ta) (hb : PD X b tb) : PD X (.BinOp a op b pos) (dOp rd ta tb) := by
  obtain ⟨r, hr, kr⟩ := ho.ex
  obtain ⟨tA, pa, ka⟩ := ha.ex
  obtain ⟨tB, pb, kb⟩ := hb.ex
  refine ⟨_, pe_op hr pa pb, fun γ C σ τ Qd Q hs hst h k => ?_⟩
  exact ka γ C σ τ _ _ hs hst h fun C1 v1 w1 h1 s1 st1 r1 => kb γ C1 σ τ _ _ s1 (hst.step st1) h1 fun C2 v2 w2 h2 s2 st2 r2 => kr γ C2 v1 v2 w1 w2 _ _ s2 (r1.step st2) r2 h2 (k.step (st1.trans st2))
theorem pd_cmp {op : CmpOp} {rd : R2D} (ho : OpD X (compareOp op) rd) (ha : PD X a ta) (hb : PD X b tb) (hm : behindInMarks op b = false) : PD X (.Compare a [op] [b] pos) (dOp rd ta tb) := by
  obtain ⟨r, hr, kr⟩ := ho.ex
  obtain ⟨tA, pa, ka⟩ := ha.ex
  obtain ⟨tB, pb, kb⟩ := hb.ex
  refine ⟨_, pe_cmpR hr pa pb hm, fun γ C σ τ Qd Q hs hst h k => ?_⟩
  exact ka γ C σ τ _ _ hs hst h fun C1 v1 w1 h1 s1 st1 r1 => kb γ C1 σ τ _ _ s1 (hst.step st1) h1 fun C2 v2 w2 h2 s2 st2 r2 => kr γ C2 v1 v2 w1 w2 _ _ s2 (r1.step st2) r2 h2 (k.step (st1.trans st2))
/-- a value that is True or False, as a test -/
def dTest (t : TD) : TTD := fun τ S Q => t τ S fun w S1 => match w with
  | .bl b => Q b S1
  | _ => False
theorem ptd_cmp {op : CmpOp} {rd : R2D} (ho : OpD X (compareOp op) rd) (ha : PD X a ta) (hb : PD X b tb) (hm : behindInMarks op b = false) : PTD X (.Compare a [op] [b] pos) (dTest (dOp rd ta tb)) := by
  obtain ⟨r, hr, kr⟩ := ho.ex
  obtain ⟨tA, pa, ka⟩ := ha.ex
  obtain ⟨tB, pb, kb⟩ := hb.ex
  refine ⟨_, pt_cmpR hr pa pb hm, fun γ C σ τ Qd Q hs hst h k => ?_⟩
  refine ka γ C σ τ _ _ hs hst h fun C1 v1 w1 h1 s1 st1 r1 => kb γ C1 σ τ _ _ s1 (hst.step st1) h1 fun C2 v2 w2 h2 s2 st2 r2 => kr γ C2 v1 v2 w1 w2 _ _ s2 (r1.step st2) r2 h2 fun C3 v w h3 s3 st3 r3 => ?_
  cases r3 <;> first | exact False.elim h3 | exact ⟨_, rfl, k C3 _ h3 s3 ((st1.trans st2).trans st3)⟩
theorem ptd_val {e : Expr} {t : TD} (h : PD X e t) (he : ∀ whole, isTrue e X.env whole = (do let v ← whole; standAt e.pos; holding [v] (truthy v)) := by intro _; rfl) : PTD X e (dTest t) := by
  obtain ⟨tA, pa, ka⟩ := h.ex
  refine ⟨_, pt_val pa he, fun γ C σ τ Qd Q hs hst h k => ?_⟩
  refine ka γ C σ τ _ _ hs hst h fun C3 v w h3 s3 st3 r3 => ?_
  cases r3 <;> first | exact False.elim h3 | exact ⟨_, rfl, k C3 _ h3 s3 st3⟩
def dNeg : TD → TD := fun ta τ S Q => ta τ S fun x S1 => match x with
  | .int i => Q (.int (-i)) S1
  | _ => False
theorem pd_neg (ha : PD X a ta) : PD X (.UnaryOp .USub a pos) (dNeg ta) := by
  obtain ⟨tA, pa, ka⟩ := ha.ex
  refine ⟨_, pe_un un_neg pa, fun γ C σ τ Qd Q hs hst h k => ?_⟩
  refine ka γ C σ τ _ _ hs hst h fun C3 v w h3 s3 st3 r3 => ?_
  cases r3 <;> first | exact False.elim h3 | exact ⟨_, rfl, k C3 _ _ h3 s3 st3 (.int _)⟩

/-- operators on two ints -/
def rdI (c : Int → Int → Prop) (g : Int → Int → W) : R2D := fun x y S Q => match x, y with
  | .int i, .int j => c i j ∧ Q (g i j) S
  | _, _ => False
theorem opd_I {f : Value → Value → Sem Value} {c : Int → Int → Prop} {g : Int → Int → V} {g' : Int → Int → W} (h : OpR X f (rI c g)) (hg : ∀ γ C i j, RV X.K γ C (g i j) (g' i j)) : OpD X f (rdI c g') := by
  refine ⟨_, h, fun γ C x y w1 w2 Qd Q hs rx ry h k => ?_⟩
  cases rx <;> cases ry <;> first | exact False.elim h | exact ⟨_, _, rfl, rfl, h.1, k C _ _ h.2 hs (.refl _ _) (hg _ _ _ _)⟩
theorem opd_I0 {f : Value → Value → Sem Value} {g : Int → Int → V} {g' : Int → Int → W} (h : OpR X f (rI0 g)) (hg : ∀ γ C i j, RV X.K γ C (g i j) (g' i j)) : OpD X f (rdI (fun _ _ => True) g') := by
  refine ⟨_, h, fun γ C x y w1 w2 Qd Q hs rx ry h k => ?_⟩
  cases rx <;> cases ry <;> first | exact False.elim h | exact ⟨_, _, rfl, rfl, k C _ _ h.2 hs (.refl _ _) (hg _ _ _ _)⟩
theorem opd_addI : OpD X (binaryOp .Add) (rdI (fun _ _ => True) fun i j => .int (i + j)) := opd_I0 op_add fun _ _ _ _ => .int _
theorem opd_sub : OpD X (binaryOp .Sub) (rdI (fun _ _ => True) fun i j => .int (i - j)) := opd_I0 op_sub fun _ _ _ _ => .int _
theorem opd_mulI : OpD X (binaryOp .Mult) (rdI CMul fun i j => .int (i * j)) := opd_I op_mul fun _ _ _ _ => .int _
theorem opd_mulW : OpD X (binaryOp .Mult) (rdI CMulW fun i j => .int (i * j)) := opd_I op_mulW fun _ _ _ _ => .int _
theorem opd_mod : OpD X (binaryOp .Mod) (rdI (fun _ j => 0 < j) fun i j => .int (i % j)) := opd_I op_mod fun _ _ _ _ => .int _
theorem opd_fdiv : OpD X (binaryOp .FloorDiv) (rdI CDivW fun i j => .int (i / j)) := opd_I op_fdivW fun _ _ _ _ => .int _
theorem opd_pow : OpD X (binaryOp .Pow) (rdI CPow fun i j => .int (i ^ j.toNat)) := opd_I op_pow fun _ _ _ _ => .int _
theorem opd_ltI : OpD X (compareOp .Lt) (rdI (fun _ _ => True) fun i j => .bl (decide (i < j))) := opd_I0 op_lt fun _ _ _ _ => .bl _
theorem opd_leI : OpD X (compareOp .LtE) (rdI (fun _ _ => True) fun i j => .bl (decide (i ≤ j))) := opd_I0 op_le fun _ _ _ _ => .bl _
theorem opd_gtI : OpD X (compareOp .Gt) (rdI (fun _ _ => True) fun i j => .bl (decide (j < i))) := opd_I0 op_gt fun _ _ _ _ => .bl _
theorem opd_geI : OpD X (compareOp .GtE) (rdI (fun _ _ => True) fun i j => .bl (decide (j ≤ i))) := opd_I0 op_ge fun _ _ _ _ => .bl _
/-- is None -/
def isNon : W → Bool
  | .non => true
  | _ => false
theorem RV.isNon {K : PySem.W.Frag} {γ : List Addr} {C : Cfg} {x : V} {w : W} (r : RV K γ C x w) : decide (x = .non) = isNon w := by
  cases r <;> rfl
theorem opd_isN : OpD X (compareOp .Is) (fun x y S Q => isNon y = true ∧ Q (.bl (isNon x)) S) := by
  refine ⟨_, op_isN, fun γ C x y w1 w2 Qd Q hs rx ry h k => ⟨?_, ?_⟩⟩
  · cases ry <;> first | rfl | cases h.1
  · rw [rx.isNon]; exact k C _ _ h.2 hs (.refl _ _) (.bl _)
theorem opd_notN : OpD X (compareOp .IsNot) (fun x y S Q => isNon y = true ∧ Q (.bl (!isNon x)) S) := by
  refine ⟨_, op_notN, fun γ C x y w1 w2 Qd Q hs rx ry h k => ⟨?_, ?_⟩⟩
  · cases ry <;> first | rfl | cases h.1
  · rw [rx.isNon]; exact k C _ _ h.2 hs (.refl _ _) (.bl _)

/-! ### and, or, not, if -/
variable {tA tB' : TTD} {rest : List Expr}
def dAnd (t u : TTD) : TTD := fun τ S Q => t τ S fun c S1 => if c = true then u τ S1 Q else Q false S1
def dOr (t u : TTD) : TTD := fun τ S Q => t τ S fun c S1 => if c = true then Q true S1 else u τ S1 Q
def dNot (t : TTD) : TTD := fun τ S Q => t τ S fun c S1 => Q (!c) S1
theorem PWD.pt (h : PWD X a tA) : PTD X a tA := by
  obtain ⟨t, p, k⟩ := h.ex
  exact ⟨t, p.pt, k⟩
theorem pwd_and1 (ha : PTD X a tA) : PWD X (.BoolOp .And [a] pos) tA := by
  obtain ⟨t, p, k⟩ := ha.ex
  exact ⟨t, pw_and1 p, k⟩
theorem pwd_or1 (ha : PTD X a tA) : PWD X (.BoolOp .Or [a] pos) tA := by
  obtain ⟨t, p, k⟩ := ha.ex
  exact ⟨t, pw_or1 p, k⟩
theorem pwd_and (ha : PTD X a tA) (hb : PWD X (.BoolOp .And (b :: rest) pos) tB') : PWD X (.BoolOp .And (a :: b :: rest) pos) (dAnd tA tB') := by
  obtain ⟨t, p, kt⟩ := ha.ex
  obtain ⟨u, q, ku⟩ := hb.ex
  refine ⟨_, pw_and p q, fun γ C σ τ Qd Q hs hst h k => ?_⟩
  refine kt γ C σ τ _ _ hs hst h fun C1 b h1 s1 st1 => ?_
  cases b with
  | true => exact (if_pos rfl).mpr (ku γ C1 σ τ _ _ s1 (hst.step st1) ((if_pos rfl).mp h1) (k.step st1))
  | false => exact (if_neg Bool.false_ne_true).mpr (k C1 _ ((if_neg Bool.false_ne_true).mp h1) s1 st1)
theorem pwd_or (ha : PTD X a tA) (hb : PWD X (.BoolOp .Or (b :: rest) pos) tB') : PWD X (.BoolOp .Or (a :: b :: rest) pos) (dOr tA tB') := by
  obtain ⟨t, p, kt⟩ := ha.ex
  obtain ⟨u, q, ku⟩ := hb.ex
  refine ⟨_, pw_or p q, fun γ C σ τ Qd Q hs hst h k => ?_⟩
  refine kt γ C σ τ _ _ hs hst h fun C1 b h1 s1 st1 => ?_
  cases b with
  | true => exact (if_pos rfl).mpr (k C1 _ ((if_pos rfl).mp h1) s1 st1)
  | false => exact (if_neg Bool.false_ne_true).mpr (ku γ C1 σ τ _ _ s1 (hst.step st1) ((if_neg Bool.false_ne_true).mp h1) (k.step st1))
theorem ptd_not (ha : PTD X a tA) : PTD X (.UnaryOp .Not a pos) (dNot tA) := by
  obtain ⟨t, p, kt⟩ := ha.ex
  exact ⟨_, pt_not p, fun γ C σ τ Qd Q hs hst h k => kt γ C σ τ _ _ hs hst h fun C1 b h1 s1 st1 => k C1 _ h1 s1 st1⟩
/-- as values: all but the last True or False -/
def dAndV (ta tb : TD) : TD := fun τ S Q => ta τ S fun x S1 => match x with
  | .bl c => if c = true then tb τ S1 Q else Q (.bl false) S1
  | _ => False
def dOrV (ta tb : TD) : TD := fun τ S Q => ta τ S fun x S1 => match x with
  | .bl c => if c = true then Q (.bl true) S1 else tb τ S1 Q
  | _ => False
def dNotV (ta : TD) : TD := fun τ S Q => ta τ S fun x S1 => match x with
  | .bl c => Q (.bl (!c)) S1
  | _ => False
theorem pd_one {op} {t : TD} (h : PD X a t) : PD X (.BoolOp op [a] pos) t := by
  obtain ⟨t, p, k⟩ := h.ex
  exact ⟨t, pe_one p, k⟩
theorem pd_and (ha : PD X a ta) (hb : PD X (.BoolOp .And (b :: rest) pos) tb) : PD X (.BoolOp .And (a :: b :: rest) pos) (dAndV ta tb) := by
  obtain ⟨t, p, kt⟩ := ha.ex
  obtain ⟨u, q, ku⟩ := hb.ex
  refine ⟨_, pe_and p q, fun γ C σ τ Qd Q hs hst h k => ?_⟩
  refine kt γ C σ τ _ _ hs hst h fun C1 v w h1 s1 st1 r1 => ?_
  cases r1 <;> first | exact False.elim h1 | skip
  rename_i b
  refine ⟨b, rfl, ?_⟩
  cases b with
  | true => exact (if_pos rfl).mpr (ku γ C1 σ τ _ _ s1 (hst.step st1) ((if_pos rfl).mp h1) (k.step st1))
  | false => exact (if_neg Bool.false_ne_true).mpr (k C1 _ _ ((if_neg Bool.false_ne_true).mp h1) s1 st1 (.bl _))
theorem pd_or (ha : PD X a ta) (hb : PD X (.BoolOp .Or (b :: rest) pos) tb) : PD X (.BoolOp .Or (a :: b :: rest) pos) (dOrV ta tb) := by
  obtain ⟨t, p, kt⟩ := ha.ex
  obtain ⟨u, q, ku⟩ := hb.ex
  refine ⟨_, pe_or p q, fun γ C σ τ Qd Q hs hst h k => ?_⟩
  refine kt γ C σ τ _ _ hs hst h fun C1 v w h1 s1 st1 r1 => ?_
  cases r1 <;> first | exact False.elim h1 | skip
  rename_i b
  refine ⟨b, rfl, ?_⟩
  cases b with
  | true => exact (if_pos rfl).mpr (k C1 _ _ ((if_pos rfl).mp h1) s1 st1 (.bl _))
  | false => exact (if_neg Bool.false_ne_true).mpr (ku γ C1 σ τ _ _ s1 (hst.step st1) ((if_neg Bool.false_ne_true).mp h1) (k.step st1))
theorem pd_not (ha : PD X a ta) : PD X (.UnaryOp .Not a pos) (dNotV ta) := by
  obtain ⟨t, p, kt⟩ := ha.ex
  refine ⟨_, pe_not p, fun γ C σ τ Qd Q hs hst h k => ?_⟩
  refine kt γ C σ τ _ _ hs hst h fun C1 v w h1 s1 st1 r1 => ?_
  cases r1 <;> first | exact False.elim h1 | exact ⟨_, rfl, k C1 _ _ h1 s1 st1 (.bl _)⟩
def dIf (t : TTD) (ta tb : TD) : TD := fun τ S Q => t τ S fun c S1 => if c = true then ta τ S1 Q else tb τ S1 Q
theorem pd_ifExp (hc : PTD X c tA) (ha : PD X a ta) (hb : PD X b tb) : PD X (.IfExp c a b pos) (dIf tA ta tb) := by
  obtain ⟨t, p, kt⟩ := hc.ex
  obtain ⟨u, q, ku⟩ := ha.ex
  obtain ⟨z, y, kz⟩ := hb.ex
  refine ⟨_, pe_ifExp p q y, fun γ C σ τ Qd Q hs hst h k => ?_⟩
  refine kt γ C σ τ _ _ hs hst h fun C1 b h1 s1 st1 => ?_
  cases b with
  | true => exact (if_pos rfl).mpr (ku γ C1 σ τ _ _ s1 (hst.step st1) ((if_pos rfl).mp h1) (k.step st1))
  | false => exact (if_neg Bool.false_ne_true).mpr (kz γ C1 σ τ _ _ s1 (hst.step st1) ((if_neg Bool.false_ne_true).mp h1) (k.step st1))

/-! ### argument lists, tuples, lists -/
variable {e : Expr} {es : List Expr} {te : TD} {t : TAD}
def dNil : TAD := fun _ S Q => Q [] S
def dCons (ta : TD) (tr : TAD) : TAD := fun τ S Q => ta τ S fun x S1 => tr τ S1 fun xs S2 => Q (x :: xs) S2
theorem pad_nil : PAD X [] dNil := ⟨_, pa_nil, fun γ C σ τ Qd Q hs hst h k => k C _ _ h hs (.refl _ _) .nil⟩
theorem pad_cons (ha : PD X e te) (hr : PAD X es t) (hs : starEach (e :: es) X.env = (false, eval e X.env) :: starEach es X.env := by rfl) : PAD X (e :: es) (dCons te t) := by
  obtain ⟨u, p, ku⟩ := ha.ex
  obtain ⟨z, q, kz⟩ := hr.ex
  refine ⟨_, pa_cons p q hs, fun γ C σ τ Qd Q hs hst h k => ?_⟩
  exact ku γ C σ τ _ _ hs hst h fun C1 v w h1 s1 st1 r1 => kz γ C1 σ τ _ _ s1 (hst.step st1) h1 fun C2 vs ws h2 s2 st2 r2 => k C2 _ _ h2 s2 (st1.trans st2) (.cons (r1.step st2) r2)
def dTup (t : TAD) : TD := fun τ S Q => t τ S fun ws S1 => ws.length ≤ sizeLine ∧ Q (.tup ws) S1
theorem pd_tup {x1} (h : PAD X es t) : PD X (.Tuple es x1 pos) (dTup t) := by
  obtain ⟨u, p, ku⟩ := h.ex
  refine ⟨_, pe_tup p, fun γ C σ τ Qd Q hs hst h k => ?_⟩
  refine ku γ C σ τ _ _ hs hst h fun C1 vs ws h1 s1 st1 r1 => ⟨by rw [r1.length]; exact h1.1, fun q hq => ?_⟩
  have st : Step γ C1 γ (C1.put q (.tup vs)) := Step.new hq
  exact k (C1.put q (.tup vs)) _ _ h1.2 (s1.new hq) (st1.trans st) (.tup (show SqH _ _ _ from upd_same) (r1.step st))
def dLst (t : TAD) : TAD := fun τ S Q => t τ S fun ws S1 => ws.length ≤ sizeLine ∧ Q ws S1
theorem pdf_lst (h : PAD X es t) : PDF X (.List es pos) (dLst t) := by
  obtain ⟨u, p, ku⟩ := h.ex
  refine ⟨_, pe_lst p, fun γ C σ τ Qd Q hs hst h k => ?_⟩
  refine ku γ C σ τ _ _ hs hst h fun C1 vs ws h1 s1 st1 r1 => ⟨by rw [r1.length]; exact h1.1, fun q hq => ?_⟩
  obtain ⟨g1, g2⟩ := s1.ghost (o := .lst vs) hq
  refine k (C1.put q (.lst vs)) q vs ws h1.2 g1 (st1.trans g2) ?_ upd_same (r1.step g2)
  cases z : C.H q with
  | none => rfl
  | some o => exact absurd hq (st1.there q (ne_none z))
/-- a new list as a tree; as a place of the store -/
def dTree (t : TAD) : TD := fun τ S Q => t τ S fun ws S1 => Q (.lst ws) S1
theorem pd_tree (h : PDF X e t) : PD X e (dTree t) := by
  obtain ⟨u, p, ku⟩ := h.ex
  refine ⟨_, p, fun γ C σ τ Qd Q hs hst h k => ?_⟩
  exact ku γ C σ τ _ _ hs hst h fun C1 q xs ws h1 s1 st1 hq e1 r1 => k C1 _ _ h1 s1.drop (st1.drop s1 fun _ z => z) (.lst e1 s1.nlive r1.drop1)
def dCell (t : TAD) : TD := fun τ S Q => t τ S fun ws S1 => Q (.loc S1.length) (S1 ++ [some (.lst ws)])
theorem pd_cell (h : PDF X e t) : PD X e (dCell t) := by
  obtain ⟨u, p, ku⟩ := h.ex
  refine ⟨_, p, fun γ C σ τ Qd Q hs hst h k => ?_⟩
  refine ku γ C σ τ _ _ hs hst h fun C1 q xs ws h1 s1 st1 hq e1 r1 => k (C1.add q (.lst ws)) _ _ h1 (s1.add ⟨xs, e1, r1⟩) (st1.add s1 fun _ z => z) (.loc ?_)
  show (C1.ρ ++ [q])[C1.S.length]? = some q
  rw [← s1.len]; simp
end
end FL
end
section
set_option autoImplicit false
namespace FL
open PySem PySem.Spec PyProof.Rows L2
/-! ### sequences -/
/-- the items of a list -/
def lsOf (S : Store) : W → Option (List W)
  | .lst ws => some ws
  | .loc n => match S[n]? with
    | some (some (.lst ws)) => some ws
    | _ => none
  | _ => none
/-- .. also of one that is only read -/
def llOf (S : Store) : W → Option (List W)
  | .scr ns => some (ns.map W.int)
  | .lst ws => some ws
  | .loc n => lsOf S (.loc n)
  | _ => none
/-- the items of a list or tuple -/
def sqOf (S : Store) : W → Option (List W)
  | .tup ws => some ws
  | .tpf ws => some ws
  | .scr ns => some (ns.map W.int)
  | .lst ws => some ws
  | .loc n => lsOf S (.loc n)
  | _ => none
section
variable {K : PySem.W.Frag} {γ γ' : List Addr} {C C' : Cfg}
theorem lsOf_at (s : Sim K γ C) {v : V} {w : W} {ws : List W} (r : RV K γ C v w) (h : lsOf C.S w = some ws) : ∃ a xs, v = .ref a ∧ C.H a = some (.lst xs) ∧ RVs K γ C xs ws := by
  cases r <;> first | (cases h; done) | skip
  · cases h
    rename_i a xs h1 h2 h3
    exact ⟨a, xs, rfl, h1, h3⟩
  · rename_i n a h1
    have h' : (match C.S[n]? with | some (some (.lst ws)) => some ws | _ => none) = some ws := h
    split at h'
    · rename_i us e
      cases h'
      obtain ⟨xs, h2, h3⟩ := s.cell n a _ h1 e
      exact ⟨a, xs, rfl, h2, h3⟩
    · cases h'
theorem llOf_at (s : Sim K γ C) {v : V} {w : W} {ws : List W} (r : RV K γ C v w) (h : llOf C.S w = some ws) : ∃ a xs, v = .ref a ∧ SqL K C.H a xs ∧ RVs K γ C xs ws := by
  cases w with
  | scr ns =>
    cases h
    cases r with
    | scr h1 => exact ⟨_, _, rfl, h1.sq, RVs.of_ints ns⟩
  | lst us =>
    obtain ⟨a, xs, h1, h2, h3⟩ := lsOf_at s r h
    exact ⟨a, xs, h1, SqL.of h2, h3⟩
  | loc n =>
    obtain ⟨a, xs, h1, h2, h3⟩ := lsOf_at s r h
    exact ⟨a, xs, h1, SqL.of h2, h3⟩
  | _ => cases h
theorem sqOf_at (s : Sim K γ C) {v : V} {w : W} {ws : List W} (r : RV K γ C v w) (h : sqOf C.S w = some ws) : ∃ a xs, v = .ref a ∧ (SqL K C.H a xs ∨ (SqT K C.H a xs ∧ (SqH C a xs ∨ ∃ us, w = .tpf us))) ∧ RVs K γ C xs ws := by
  cases w with
  | tup us =>
    cases h
    cases r with
    | tup h1 h2 => exact ⟨_, _, rfl, .inr ⟨SqT.of h1, .inl h1⟩, h2⟩
  | tpf us =>
    cases h
    cases r with
    | tpf h1 h2 => exact ⟨_, _, rfl, .inr ⟨h1.sq, .inr ⟨_, rfl⟩⟩, h2⟩
  | scr ns =>
    obtain ⟨a, xs, h1, h2, h3⟩ := llOf_at s r h
    exact ⟨a, xs, h1, .inl h2, h3⟩
  | lst us =>
    obtain ⟨a, xs, h1, h2, h3⟩ := llOf_at s r h
    exact ⟨a, xs, h1, .inl h2, h3⟩
  | loc n =>
    obtain ⟨a, xs, h1, h2, h3⟩ := llOf_at s r h
    exact ⟨a, xs, h1, .inl h2, h3⟩
  | _ => cases h
theorem newTup {Qd : WK} {Q : VK} (k : KE K γ C Qd Q) (s : Sim K γ C) {xs : List V} {ws : List W} (r : RVs K γ C xs ws) (h : Qd (.tup ws) C.S) : ∀ p, C.H p = none → Q (.ref p) (upd C.H p (.tup xs)) := fun p hp => by
  have st : Step γ C γ (C.put p (.tup xs)) := Step.new hp
  exact k (C.put p (.tup xs)) _ _ h (s.new hp) st (.tup (show SqH _ _ _ from upd_same) (r.step st))
theorem newLst {Qd : WK} {Q : VK} (k : KE K γ C Qd Q) (s : Sim K γ C) {xs : List V} {ws : List W} (r : RVs K γ C xs ws) (h : Qd (.lst ws) C.S) : ∀ p, C.H p = none → Q (.ref p) (upd C.H p (.lst xs)) := fun p hp => by
  obtain ⟨g1, g2⟩ := s.ghost (o := .lst xs) hp
  exact k (C.put p (.lst xs)) _ _ h g1.drop (g2.drop g1 fun _ z => z) (.lst upd_same g1.nlive (r.step g2).drop1)
theorem newF {Qd : List W → Store → Prop} {Q : VK} (k : KF K γ C Qd Q) (s : Sim K γ C) {xs : List V} {ws : List W} (r : RVs K γ C xs ws) (h : Qd ws C.S) : ∀ p, C.H p = none → Q (.ref p) (upd C.H p (.lst xs)) := fun p hp => by
  obtain ⟨g1, g2⟩ := s.ghost (o := .lst xs) hp
  exact k (C.put p (.lst xs)) p xs ws h g1 g2 hp upd_same (r.step g2)
end
section
variable {X : Cx}
def rdCatT : R2D := fun x y S Q => match x, y with
  | .tup a, .tup b => a.length + b.length ≤ sizeLine ∧ Q (.tup (a ++ b)) S
  | _, _ => False
theorem opd_catT : OpD X (binaryOp .Add) rdCatT := by
  refine ⟨_, op_catA, fun γ C x y w1 w2 Qd Q hs rx ry h k => ?_⟩
  cases rx <;> cases ry <;> first | exact False.elim h | skip
  rename_i a xs us h1 r1 b ys vs h2 r2
  have e1 := r1.length
  have e2 := r2.length
  refine ⟨a, b, xs, ys, rfl, rfl, h1, h2, by rw [e1, e2]; exact h.1, fun e => ?_, fun _ e => ?_, fun _ _ => newTup k hs (r1.append r2) h.2⟩
  · subst e
    cases r1
    exact k C _ _ h.2 hs (.refl _ _) (.tup h2 r2)
  · subst e
    cases r2
    have q := h.2
    rw [List.append_nil] at q
    exact k C _ _ q hs (.refl _ _) (.tup h1 r1)
def rdCatS : R2D := fun x y S Q => match x, y with
  | .str a, .str b => a.length + b.length ≤ sizeLine ∧ Q (.str (a ++ b)) S
  | _, _ => False
theorem opd_catS : OpD X (binaryOp .Add) rdCatS := by
  refine ⟨_, op_add_str, fun γ C x y w1 w2 Qd Q hs rx ry h k => ?_⟩
  cases rx <;> cases ry <;> first | exact False.elim h | exact ⟨_, _, rfl, rfl, h.1, k C _ _ h.2 hs (.refl _ _) (.str _)⟩
def rdCatL : R2D := fun x y S Q => match lsOf S x, lsOf S y with
  | some a, some b => a.length + b.length ≤ sizeLine ∧ Q (.lst (a ++ b)) S
  | _, _ => False
theorem opd_catL : OpD X (binaryOp .Add) rdCatL := by
  refine ⟨_, op_cat, fun γ C x y w1 w2 Qd Q hs rx ry h k => ?_⟩
  unfold rdCatL at h
  split at h
  · rename_i us vs e1 e2
    obtain ⟨a, xs, rfl, h1, r1⟩ := lsOf_at hs rx e1
    obtain ⟨b, ys, rfl, h2, r2⟩ := lsOf_at hs ry e2
    exact ⟨a, b, xs, ys, rfl, rfl, h1, h2, by rw [r1.length, r2.length]; exact h.1, newLst k hs (r1.append r2) h.2⟩
  · exact h.elim
/-- + of two ints, tuples, texts, lists -/
def rdAdd : R2D := fun x y S Q => match x, y with
  | .int i, .int j => Q (.int (i + j)) S
  | .tup a, .tup b => a.length + b.length ≤ sizeLine ∧ Q (.tup (a ++ b)) S
  | .str a, .str b => a.length + b.length ≤ sizeLine ∧ Q (.str (a ++ b)) S
  | .lst _, _ => rdCatL x y S Q
  | .loc _, _ => rdCatL x y S Q
  | _, _ => False
theorem opd_add : OpD X (binaryOp .Add) rdAdd := by
  obtain ⟨r, o, k⟩ := (opd_addI.or (opd_catT.or (opd_catS.or (opd_catL (X := X))))).ex
  refine ⟨r, o, fun γ C x y w1 w2 Qd Q hs rx ry h kk => k γ C x y w1 w2 Qd Q hs rx ry ?_ kk⟩
  unfold rdAdd at h
  split at h
  · exact .inl ⟨trivial, h⟩
  · exact .inr (.inl h)
  · exact .inr (.inr (.inl h))
  · exact .inr (.inr (.inr h))
  · exact .inr (.inr (.inr h))
  · exact h.elim
variable {a b c : Expr} {ta tb tc : TD} {pos : Pos}
/-- a new list: + of two lists, held back -/
def dCatF (ta tb : TD) : TAD := fun τ S Q => ta τ S fun x S1 => tb τ S1 fun y S2 => match lsOf S2 x, lsOf S2 y with
  | some a, some b => a.length + b.length ≤ sizeLine ∧ Q (a ++ b) S2
  | _, _ => False
theorem pdf_cat (ha : PD X a ta) (hb : PD X b tb) : PDF X (.BinOp a .Add b pos) (dCatF ta tb) := by
  obtain ⟨tA, pa, ka⟩ := ha.ex
  obtain ⟨tB, pb, kb⟩ := hb.ex
  refine ⟨_, pe_op op_cat pa pb, fun γ C σ τ Qd Q hs hst h k => ?_⟩
  refine ka γ C σ τ _ _ hs hst h fun C1 v1 w1 h1 s1 st1 r1 => kb γ C1 σ τ _ _ s1 (hst.step st1) h1 fun C2 v2 w2 h2 s2 st2 r2 => ?_
  have r1' := r1.step st2
  split at h2
  · rename_i us vs e1 e2
    obtain ⟨p, xs, rfl, p1, q1⟩ := lsOf_at s2 r1' e1
    obtain ⟨p', ys, rfl, p2, q2⟩ := lsOf_at s2 r2 e2
    exact ⟨p, p', xs, ys, rfl, rfl, p1, p2, by rw [q1.length, q2.length]; exact h2.1, newF (k.step (st1.trans st2)) s2 (q1.append q2) h2.2⟩
  · exact h2.elim

/-! ### indexes, slices, length -/
def rdIx : R2D := fun x y S Q => match sqOf S x, y with
  | some ws, .int i => (match atI ws i with
    | some w => Q w S
    | none => False)
  | _, _ => False
theorem RVs.atI {K : PySem.W.Frag} {γ : List Addr} {C : Cfg} {xs : List V} {ws : List W} {i : Int} {w : W} (r : RVs K γ C xs ws) (h : atI ws i = some w) : ∃ v, L2.atI xs i = some v ∧ RV K γ C v w := by
  unfold L2.atI at h ⊢
  rw [← r.length] at h
  cases e : ixN xs.length i with
  | none => rw [e] at h; cases h
  | some j =>
    rw [e] at h
    exact r.get h
theorem pd_ix (ha : PD X a ta) (hb : PD X b tb) (hs : PlainIx b) : PD X (.Subscript a b pos) (dOp rdIx ta tb) := by
  obtain ⟨tA, pa, ka⟩ := ha.ex
  obtain ⟨tB, pb, kb⟩ := hb.ex
  refine ⟨_, pe_ix (ix_list.or ix_tup) pa pb hs, fun γ C σ τ Qd Q hs hst h k => ?_⟩
  refine ka γ C σ τ _ _ hs hst h fun C1 v1 w1 h1 s1 st1 r1 => kb γ C1 σ τ _ _ s1 (hst.step st1) h1 fun C2 v2 w2 h2 s2 st2 r2 => ?_
  have r1' := r1.step st2
  unfold rdIx at h2
  split at h2
  · rename_i us e1
    split at h2
    · rename_i w e
      obtain ⟨p, xs, rfl, p1, q1⟩ := sqOf_at s2 r1' e1
      cases r2
      obtain ⟨v, e', r'⟩ := q1.atI e
      have q := k C2 v w h2 s2 (st1.trans st2) r'
      exact p1.elim (fun z => .inl ⟨p, xs, _, v, rfl, rfl, z, e', q⟩) fun z => .inr ⟨p, xs, _, v, rfl, rfl, z.1, e', q⟩
    · exact h2.elim
  · exact h2.elim
/-- the parts of a slice -/
abbrev TOD := EnvD → Store → (Option Int → Store → Prop) → Prop
def KP (K : PySem.W.Frag) (γ : List Addr) (C : Cfg) (Qd : Option Int → Store → Prop) (Q : Option Int → Hp → Prop) : Prop := ∀ C' o, Qd o C'.S → Sim K γ C' → Step γ C γ C' → Q o C'.H
structure POD (X : Cx) (e : Option Expr) (t : TOD) : Prop where
  ex : ∃ tH, PO X e tH ∧ ∀ γ C σ τ Qd Q, Sim X.K γ C → RSt X.K γ C σ τ → t τ C.S Qd → KP X.K γ C Qd Q → tH σ C.H Q
def dNoP : TOD := fun _ S Q => Q none S
def dPart (t : TD) : TOD := fun τ S Q => t τ S fun x S1 => match x with
  | .int i => Q (some i) S1
  | _ => False
theorem pod_none : POD X none dNoP := ⟨_, po_none, fun γ C σ τ Qd Q hs hst h k => k C _ h hs (.refl _ _)⟩
theorem pod_some {e : Expr} {te : TD} (h : PD X e te) : POD X (some e) (dPart te) := by
  obtain ⟨tA, pa, ka⟩ := h.ex
  refine ⟨_, po_some pa, fun γ C σ τ Qd Q hs hst h k => ?_⟩
  refine ka γ C σ τ _ _ hs hst h fun C3 v w h3 s3 st3 r3 => ?_
  cases r3 <;> first | exact False.elim h3 | exact ⟨_, rfl, k C3 _ h3 s3 st3⟩
def cutW (xs : List W) (lo hi : Option Int) : List W := (xs.drop (HT.sIx xs.length 0 lo)).take (HT.sIx xs.length xs.length hi - HT.sIx xs.length 0 lo)
theorem RVs.cut {K : PySem.W.Frag} {γ : List Addr} {C : Cfg} {xs : List V} {ws : List W} (r : RVs K γ C xs ws) (lo hi : Option Int) : RVs K γ C (cutV xs lo hi) (cutW ws lo hi) := by
  unfold cutV cutW
  rw [r.length]
  exact (r.drop _).take _
theorem cut_whole {xs : List W} {lo hi : Option Int} (h : HT.sIx xs.length 0 lo = 0 ∧ HT.sIx xs.length xs.length hi = xs.length) : cutW xs lo hi = xs := by
  unfold cutW
  rw [h.1, h.2, List.drop_zero, Nat.sub_zero, List.take_length]
def dSl (te : TD) (tl th : TOD) : TD := fun τ S Q => te τ S fun x S1 => tl τ S1 fun l S2 => th τ S2 fun u S3 => match x with
  | .tup ws => Q (.tup (cutW ws l u)) S3
  | x => (match llOf S3 x with
    | some ws => Q (.lst (cutW ws l u)) S3
    | none => False)
variable {lo hi : Option Expr} {tl th : TOD} {p2 : Pos}
theorem pd_slice (he : PD X a ta) (hl : POD X lo tl) (hu : POD X hi th) : PD X (.Subscript a (.Slice lo hi none p2) pos) (dSl ta tl th) := by
  obtain ⟨tA, pa, ka⟩ := he.ex
  obtain ⟨tB, pb, kb⟩ := hl.ex
  obtain ⟨tC, pc, kc⟩ := hu.ex
  refine ⟨_, pe_slice (sl_list.or sl_tupA) pa pb pc, fun γ C σ τ Qd Q hs hst h k => ?_⟩
  refine ka γ C σ τ _ _ hs hst h fun C1 v1 w1 h1 s1 st1 r1 => kb γ C1 σ τ _ _ s1 (hst.step st1) h1 fun C2 l h2 s2 st2 => kc γ C2 σ τ _ _ s2 (hst.step (st1.trans st2)) h2 fun C3 u h3 s3 st3 => ?_
  have r1' := (r1.step st2).step st3
  have k3 := k.step ((st1.trans st2).trans st3)
  split at h3
  · rename_i ws
    cases r1' with
    | tup p1 q1 =>
      rename_i p xs
      refine .inr ⟨p, xs, rfl, p1, fun e => ?_, fun e => newTup k3 s3 (q1.cut l u) h3⟩
      rw [q1.length] at e
      rw [cut_whole e] at h3
      exact k3 C3 _ _ h3 s3 (.refl _ _) (.tup p1 q1)
  · split at h3
    · rename_i e
      obtain ⟨p, xs, rfl, p1, q1⟩ := llOf_at s3 r1' e
      exact .inl ⟨p, xs, rfl, p1, newLst k3 s3 (q1.cut l u) h3⟩
    · exact h3.elim
def dSlF (te : TD) (tl th : TOD) : TAD := fun τ S Q => te τ S fun x S1 => tl τ S1 fun l S2 => th τ S2 fun u S3 => match llOf S3 x with
    | some ws => Q (cutW ws l u) S3
    | none => False
theorem pdf_slice (he : PD X a ta) (hl : POD X lo tl) (hu : POD X hi th) : PDF X (.Subscript a (.Slice lo hi none p2) pos) (dSlF ta tl th) := by
  obtain ⟨tA, pa, ka⟩ := he.ex
  obtain ⟨tB, pb, kb⟩ := hl.ex
  obtain ⟨tC, pc, kc⟩ := hu.ex
  refine ⟨_, pe_slice sl_list pa pb pc, fun γ C σ τ Qd Q hs hst h k => ?_⟩
  refine ka γ C σ τ _ _ hs hst h fun C1 v1 w1 h1 s1 st1 r1 => kb γ C1 σ τ _ _ s1 (hst.step st1) h1 fun C2 l h2 s2 st2 => kc γ C2 σ τ _ _ s2 (hst.step (st1.trans st2)) h2 fun C3 u h3 s3 st3 => ?_
  have r1' := (r1.step st2).step st3
  have k3 := k.step ((st1.trans st2).trans st3)
  split at h3
  · rename_i e
    obtain ⟨p, xs, rfl, p1, q1⟩ := llOf_at s3 r1' e
    exact ⟨p, xs, rfl, p1, newF k3 s3 (q1.cut l u) h3⟩
  · exact h3.elim

/-! ### calls of built-in things -/
structure CallD (X : Cx) (f : Value) (rd : List W → Store → WK → Prop) : Prop where
  ex : ∃ r, CallR X f r ∧ ∀ γ C vs ws Qd Q, Sim X.K γ C → RVs X.K γ C vs ws → rd ws C.S Qd → KE X.K γ C Qd Q → r vs C.H Q
structure CallF (X : Cx) (f : Value) (rd : List W → Store → (List W → Store → Prop) → Prop) : Prop where
  ex : ∃ r, CallR X f r ∧ ∀ γ C vs ws Qd Q, Sim X.K γ C → RVs X.K γ C vs ws → rd ws C.S Qd → KF X.K γ C Qd Q → r vs C.H Q
theorem CallD.or {f : Value} {r1 r2 : List W → Store → WK → Prop} (h1 : CallD X f r1) (h2 : CallD X f r2) : CallD X f (fun ws S Q => r1 ws S Q ∨ r2 ws S Q) := by
  obtain ⟨a1, o1, k1⟩ := h1.ex
  obtain ⟨a2, o2, k2⟩ := h2.ex
  exact ⟨_, o1.or o2, fun γ C vs ws Qd Q hs r h k => h.elim (fun q => .inl (k1 γ C vs ws Qd Q hs r q k)) fun q => .inr (k2 γ C vs ws Qd Q hs r q k)⟩
def dCB (r : List W → Store → WK → Prop) (t : TAD) : TD := fun τ S Q => t τ S fun ws S1 => r ws S1 Q
def dCF (r : List W → Store → (List W → Store → Prop) → Prop) (t : TAD) : TAD := fun τ S Q => t τ S fun ws S1 => r ws S1 Q
variable {x : Str} {p : Pos} {e : Expr} {es : List Expr} {t : TAD} {id T : String} {r : List W → Store → WK → Prop} {rF : List W → Store → (List W → Store → Prop) → Prop}
theorem pd_callB (hc : CallD X (.builtin id) r) (hg : Gl X x) (hm : X.mg x = none) (hv : bootBuiltins x = some (.builtin id)) (ha : PAD X (e :: es) t) (hn : x ≠ "__name__" := by decide) (hdb : (x == ("__debug__" : Str)) = false := by decide)
    (he : starEach (e :: es) X.env = (false, eval e X.env) :: starEach es X.env := by rfl) (hpl : (backTo pos (starEach es X.env)).any (·.1) = false := by rfl) : PD X (.Call (.Name x p) (e :: es) [] pos) (dCB r t) := by
  obtain ⟨u, o, kr⟩ := hc.ex
  obtain ⟨tA, pa, ka⟩ := ha.ex
  exact ⟨_, pe_callB o hg hm hv pa hn hdb he hpl, fun γ C σ τ Qd Q hs hst h k => ka γ C σ τ _ _ hs hst h fun C1 vs ws h1 s1 st1 r1 => kr γ C1 vs ws _ _ s1 r1 h1 (k.step st1)⟩
theorem pd_callTy (hc : CallD X (.type T) r) (hg : Gl X x) (hm : X.mg x = none) (hv : bootBuiltins x = some (.type T)) (ha : PAD X (e :: es) t) (hn : x ≠ "__name__" := by decide) (hdb : (x == ("__debug__" : Str)) = false := by decide)
    (he : starEach (e :: es) X.env = (false, eval e X.env) :: starEach es X.env := by rfl) (hpl : (backTo pos (starEach es X.env)).any (·.1) = false := by rfl) : PD X (.Call (.Name x p) (e :: es) [] pos) (dCB r t) := by
  obtain ⟨u, o, kr⟩ := hc.ex
  obtain ⟨tA, pa, ka⟩ := ha.ex
  exact ⟨_, pe_callTy o hg hm hv pa hn hdb he hpl, fun γ C σ τ Qd Q hs hst h k => ka γ C σ τ _ _ hs hst h fun C1 vs ws h1 s1 st1 r1 => kr γ C1 vs ws _ _ s1 r1 h1 (k.step st1)⟩
theorem pdf_callTy (hc : CallF X (.type T) rF) (hg : Gl X x) (hm : X.mg x = none) (hv : bootBuiltins x = some (.type T)) (ha : PAD X (e :: es) t) (hn : x ≠ "__name__" := by decide) (hdb : (x == ("__debug__" : Str)) = false := by decide)
    (he : starEach (e :: es) X.env = (false, eval e X.env) :: starEach es X.env := by rfl) (hpl : (backTo pos (starEach es X.env)).any (·.1) = false := by rfl) : PDF X (.Call (.Name x p) (e :: es) [] pos) (dCF rF t) := by
  obtain ⟨u, o, kr⟩ := hc.ex
  obtain ⟨tA, pa, ka⟩ := ha.ex
  exact ⟨_, pe_callTy o hg hm hv pa hn hdb he hpl, fun γ C σ τ Qd Q hs hst h k => ka γ C σ τ _ _ hs hst h fun C1 vs ws h1 s1 st1 r1 => kr γ C1 vs ws _ _ s1 r1 h1 (k.step st1)⟩
theorem pdf_callB (hc : CallF X (.builtin id) rF) (hg : Gl X x) (hm : X.mg x = none) (hv : bootBuiltins x = some (.builtin id)) (ha : PAD X (e :: es) t) (hn : x ≠ "__name__" := by decide) (hdb : (x == ("__debug__" : Str)) = false := by decide)
    (he : starEach (e :: es) X.env = (false, eval e X.env) :: starEach es X.env := by rfl) (hpl : (backTo pos (starEach es X.env)).any (·.1) = false := by rfl) : PDF X (.Call (.Name x p) (e :: es) [] pos) (dCF rF t) := by
  obtain ⟨u, o, kr⟩ := hc.ex
  obtain ⟨tA, pa, ka⟩ := ha.ex
  exact ⟨_, pe_callB o hg hm hv pa hn hdb he hpl, fun γ C σ τ Qd Q hs hst h k => ka γ C σ τ _ _ hs hst h fun C1 vs ws h1 s1 st1 r1 => kr γ C1 vs ws _ _ s1 r1 h1 (k.step st1)⟩
/-- len -/
def lenOf (S : Store) : W → Option Nat
  | .tup ws => some ws.length
  | .tpf ws => some ws.length
  | .scr ns => some ns.length
  | .lst ws => some ws.length
  | .loc n => (lsOf S (.loc n)).map List.length
  | _ => none
def rdLen : List W → Store → WK → Prop := fun ws S Q => match ws with
  | [w] => (match lenOf S w with
    | some n => Q (.int (n : Nat)) S
    | none => False)
  | _ => False
theorem lenOf_sq {S : Store} {w : W} {n : Nat} (h : lenOf S w = some n) : ∃ ws, sqOf S w = some ws ∧ ws.length = n := by
  cases w with
  | tup ws => cases h; exact ⟨_, rfl, rfl⟩
  | tpf ws => cases h; exact ⟨_, rfl, rfl⟩
  | scr ns => cases h; exact ⟨_, rfl, List.length_map ..⟩
  | lst ws => cases h; exact ⟨_, rfl, rfl⟩
  | loc m =>
    obtain ⟨ws, h1, h2⟩ := Option.map_eq_some_iff.mp (show (lsOf S (.loc m)).map List.length = some n from h)
    exact ⟨ws, h1, h2⟩
  | _ => cases h
theorem cd_len : CallD X (.builtin "len") rdLen := by
  refine ⟨_, call_len_seq, fun γ C vs ws Qd Q hs r h k => ?_⟩
  unfold rdLen at h
  split at h
  · rename_i w
    split at h
    · rename_i n e
      cases r with
      | cons r1 r2 =>
        cases r2
        obtain ⟨us, e1, e2⟩ := lenOf_sq e
        obtain ⟨a, xs, rfl, p1, q1⟩ := sqOf_at hs r1 e1
        refine ⟨a, xs, rfl, (p1.imp (fun z => z) fun z => z.1), ?_⟩
        rw [q1.length, e2]
        exact k C _ _ h hs (.refl _ _) (.int _)
    · exact h.elim
  · exact h.elim
def rdAbs : List W → Store → WK → Prop := fun ws S Q => match ws with
  | [.int i] => Q (.int (if i < 0 then -i else i)) S
  | _ => False
theorem cd_abs : CallD X (.builtin "abs") rdAbs := by
  refine ⟨_, call_abs, fun γ C vs ws Qd Q hs r h k => ?_⟩
  unfold rdAbs at h
  split at h
  · cases r with
    | cons r1 r2 => cases r2; cases r1; exact ⟨_, rfl, k C _ _ h hs (.refl _ _) (.int _)⟩
  · exact h.elim
def rdMin2 : List W → Store → WK → Prop := fun ws S Q => match ws with
  | [.int i, .int j] => Q (.int (if j < i then j else i)) S
  | _ => False
theorem cd_min2 (hc : X.calm = true) : CallD X (.builtin "min") rdMin2 := by
  refine ⟨_, call_min2 hc, fun γ C vs ws Qd Q hs r h k => ?_⟩
  unfold rdMin2 at h
  split at h
  · cases r with
    | cons r1 r2 => cases r2 with
      | cons r2 r3 => cases r3; cases r1; cases r2; exact ⟨_, _, rfl, k C _ _ h hs (.refl _ _) (.int _)⟩
  · exact h.elim
def rdMax2 : List W → Store → WK → Prop := fun ws S Q => match ws with
  | [.int i, .int j] => Q (.int (if j > i then j else i)) S
  | _ => False
theorem cd_max2 (hc : X.calm = true) : CallD X (.builtin "max") rdMax2 := by
  refine ⟨_, call_max2 hc, fun γ C vs ws Qd Q hs r h k => ?_⟩
  unfold rdMax2 at h
  split at h
  · cases r with
    | cons r1 r2 => cases r2 with
      | cons r2 r3 => cases r3; cases r1; cases r2; exact ⟨_, _, rfl, k C _ _ h hs (.refl _ _) (.int _)⟩
  · exact h.elim
/-- all, any of a list of True, False; sum of ints -/
def boolsOf : List W → Option (List Bool)
  | [] => some []
  | .bl b :: r => (boolsOf r).map (b :: ·)
  | _ => none
def intsOf : List W → Option (List Int)
  | [] => some []
  | .int b :: r => (intsOf r).map (b :: ·)
  | _ => none
theorem boolsOf_eq : ∀ {ws : List W} {bs : List Bool}, boolsOf ws = some bs → ws = bs.map W.bl
  | [], bs, h => by cases h; rfl
  | w :: r, bs, h => by
    cases w <;> first | (cases h; done) | skip
    obtain ⟨cs, h1, h2⟩ := Option.map_eq_some_iff.mp (show (boolsOf r).map _ = some bs from h)
    rw [← h2, boolsOf_eq h1]; rfl
theorem intsOf_eq : ∀ {ws : List W} {bs : List Int}, intsOf ws = some bs → ws = bs.map W.int
  | [], bs, h => by cases h; rfl
  | w :: r, bs, h => by
    cases w <;> first | (cases h; done) | skip
    obtain ⟨cs, h1, h2⟩ := Option.map_eq_some_iff.mp (show (intsOf r).map _ = some bs from h)
    rw [← h2, intsOf_eq h1]; rfl
theorem boolsOf_map : ∀ bs : List Bool, boolsOf (bs.map W.bl) = some bs
  | [] => rfl
  | b :: r => by show (boolsOf (r.map W.bl)).map _ = _; rw [boolsOf_map r]; rfl
theorem intsOf_map : ∀ bs : List Int, intsOf (bs.map W.int) = some bs
  | [] => rfl
  | b :: r => by show (intsOf (r.map W.int)).map _ = _; rw [intsOf_map r]; rfl
def rdAll : List W → Store → WK → Prop := fun ws S Q => match ws with
  | [w] => (match (llOf S w).bind boolsOf with
    | some bs => Q (.bl (bs.all _root_.id)) S
    | none => False)
  | _ => False
theorem cd_all (hc : X.calm = true) : CallD X (.builtin "all") rdAll := by
  refine ⟨_, cr_all hc, fun γ C vs ws Qd Q hs r h k => ?_⟩
  unfold rdAll at h
  split at h
  · split at h
    · rename_i bs e
      cases r with
      | cons r1 r2 =>
        cases r2
        obtain ⟨us, e1, e2⟩ := Option.bind_eq_some_iff.mp e
        obtain ⟨a, xs, rfl, p1, q1⟩ := llOf_at hs r1 e1
        rw [boolsOf_eq e2] at q1
        rw [q1.bls] at p1
        exact ⟨a, bs, rfl, p1, k C _ _ h hs (.refl _ _) (.bl _)⟩
    · exact h.elim
  · exact h.elim
def rdAny : List W → Store → WK → Prop := fun ws S Q => match ws with
  | [w] => (match (llOf S w).bind boolsOf with
    | some bs => Q (.bl (bs.any _root_.id)) S
    | none => False)
  | _ => False
theorem cd_any (hc : X.calm = true) : CallD X (.builtin "any") rdAny := by
  refine ⟨_, cr_any hc, fun γ C vs ws Qd Q hs r h k => ?_⟩
  unfold rdAny at h
  split at h
  · split at h
    · rename_i bs e
      cases r with
      | cons r1 r2 =>
        cases r2
        obtain ⟨us, e1, e2⟩ := Option.bind_eq_some_iff.mp e
        obtain ⟨a, xs, rfl, p1, q1⟩ := llOf_at hs r1 e1
        rw [boolsOf_eq e2] at q1
        rw [q1.bls] at p1
        exact ⟨a, bs, rfl, p1, k C _ _ h hs (.refl _ _) (.bl _)⟩
    · exact h.elim
  · exact h.elim
def rdSum : List W → Store → WK → Prop := fun ws S Q => match ws with
  | [w] => (match (llOf S w).bind intsOf with
    | some bs => Q (.int bs.sum) S
    | none => False)
  | _ => False
theorem cd_sum (hc : X.calm = true) : CallD X (.builtin "sum") rdSum := by
  refine ⟨_, cr_sum hc, fun γ C vs ws Qd Q hs r h k => ?_⟩
  unfold rdSum at h
  split at h
  · split at h
    · rename_i bs e
      cases r with
      | cons r1 r2 =>
        cases r2
        obtain ⟨us, e1, e2⟩ := Option.bind_eq_some_iff.mp e
        obtain ⟨a, xs, rfl, p1, q1⟩ := llOf_at hs r1 e1
        rw [intsOf_eq e2] at q1
        rw [q1.ints] at p1
        exact ⟨a, bs, rfl, p1, k C _ _ h hs (.refl _ _) (.int _)⟩
    · exact h.elim
  · exact h.elim
/-- list(..), tuple(..) of a list or tuple -/
def rdList : List W → Store → (List W → Store → Prop) → Prop := fun ws S Q => match ws with
  | [w] => (match sqOf S w with
    | some us => Q us S
    | none => False)
  | _ => False
theorem cf_list : CallF X (.type "list") rdList := by
  refine ⟨_, call_list_of, fun γ C vs ws Qd Q hs r h k => ?_⟩
  unfold rdList at h
  split at h
  · split at h
    · rename_i us e
      cases r with
      | cons r1 r2 =>
        cases r2
        obtain ⟨a, xs, rfl, p1, q1⟩ := sqOf_at hs r1 e
        exact ⟨a, xs, rfl, (p1.imp (fun z => z) fun z => z.1), newF k hs q1 h⟩
    · exact h.elim
  · exact h.elim
def rdTuple : List W → Store → WK → Prop := fun ws S Q => match ws with
  | [.tpf _] => False
  | [w] => (match sqOf S w with
    | some us => Q (.tup us) S
    | none => False)
  | _ => False
theorem cd_tuple : CallD X (.type "tuple") rdTuple := by
  refine ⟨_, call_tuple_of, fun γ C vs ws Qd Q hs r h k => ?_⟩
  unfold rdTuple at h
  split at h
  · exact h.elim
  · split at h
    · rename_i w0 hw o0 us e
      cases r with
      | cons r1 r2 =>
        cases r2
        obtain ⟨a, xs, rfl, p1, q1⟩ := sqOf_at hs r1 e
        rcases p1 with p1 | p1
        · exact ⟨a, xs, rfl, .inl ⟨p1, newTup k hs q1 h⟩⟩
        · rcases p1.2 with p2 | ⟨zs, ez⟩
          · exact ⟨a, xs, rfl, .inr ⟨p1.1, k C _ _ h hs (.refl _ _) (.tup p2 q1)⟩⟩
          · exact (hw zs (by rw [ez])).elim
    · exact h.elim
  · exact h.elim
end
end FL
end
section
set_option autoImplicit false
namespace FL
open PySem PySem.Spec PyProof.Rows L2
/-! ### targets -/
structure PGD (X : Cx) (tg : Expr) (is : List Nat) (g : W → EnvD → Option EnvD) : Prop where
  ex : ∃ gH, PG X tg gH ∧ ∀ γ C σ τ v w τ' Q, Sim X.K γ C → RSt X.K γ C σ τ → RV X.K γ C v w → g w τ = some τ' →
    (∀ σ', RSt X.K γ C σ' τ' → σ'.length = σ.length → (∀ j, j ∉ is → σ'[j]? = σ[j]?) → Q σ' C.H) → gH v σ C.H Q
section
variable {X : Cx}
def gdN (i : Nat) : W → EnvD → Option EnvD := fun w τ => some (τ.set i (some w))
theorem pgd_name {i : Nat} {x : Str} {pos : Pos} (hN : X.N.Nodup) (hi : X.N[i]? = some x) (hx : Loc X.env.scope x) (hf : X.fn x = true ∨ X.env.scope.names.lookup x = some .local := by first | exact .inl rfl | exact .inr rfl | assumption) : PGD X (.Name x pos) [i] (gdN i) := by
  refine ⟨_, pg_name hN hi hx hf, fun γ C σ τ v w τ' Q hs hst r e h => ?_⟩
  cases e
  refine h _ (hst.set r) (by rw [List.length_set]) fun j hj => ?_
  rw [List.getElem?_set_ne]
  intro z
  subst z
  exact hj (by simp)
/-- several targets -/
structure PGsD (X : Cx) (ts : List Expr) (is : List Nat) (g : List W → EnvD → Option EnvD) : Prop where
  ex : ∃ gH, PGs X ts gH ∧ ∀ γ C σ τ vs ws τ' Q, Sim X.K γ C → RSt X.K γ C σ τ → RVs X.K γ C vs ws → g ws τ = some τ' →
    (∀ σ', RSt X.K γ C σ' τ' → σ'.length = σ.length → (∀ j, j ∉ is → σ'[j]? = σ[j]?) → Q σ' C.H) → gH vs σ C.H Q
def gdNil : List W → EnvD → Option EnvD := fun ws τ => match ws with
  | [] => some τ
  | _ => none
def gdCons (g : W → EnvD → Option EnvD) (u : List W → EnvD → Option EnvD) : List W → EnvD → Option EnvD := fun ws τ => match ws with
  | w :: r => (g w τ).bind fun τ' => u r τ'
  | [] => none
theorem pgsd_nil : PGsD X [] [] gdNil := by
  refine ⟨_, pgs_nil, fun γ C σ τ vs ws τ' Q hs hst r e h => ?_⟩
  cases r with
  | nil => cases e; exact ⟨rfl, h σ hst rfl fun _ _ => rfl⟩
  | cons _ _ => cases e
theorem pgsd_cons {e : Expr} {es : List Expr} {is js : List Nat} {g : W → EnvD → Option EnvD} {u : List W → EnvD → Option EnvD} (h1 : PGD X e is g) (h2 : PGsD X es js u)
    (ha : (assignEach (e :: es) X.env).map (·.2) = assign e X.env :: (assignEach es X.env).map (·.2) := by rfl) : PGsD X (e :: es) (is ++ js) (gdCons g u) := by
  obtain ⟨gH, pg, kg⟩ := h1.ex
  obtain ⟨uH, pu, ku⟩ := h2.ex
  refine ⟨_, pgs_cons pg pu ha, fun γ C σ τ vs ws τ' Q hs hst r e' h => ?_⟩
  cases r with
  | nil => cases e'
  | @cons v w vs ws r1 r2 =>
    obtain ⟨τ1, e1, e2⟩ := Option.bind_eq_some_iff.mp (show (g w τ).bind (fun τ' => u ws τ') = some τ' from e')
    refine ⟨v, vs, rfl, kg γ C σ τ v w τ1 _ hs hst r1 e1 fun σ1 hst1 hl1 hk1 => ku γ C σ1 τ1 vs ws τ' _ hs hst1 r2 e2 fun σ2 hst2 hl2 hk2 => h σ2 hst2 (hl2.trans hl1) fun j hj => ?_⟩
    exact (hk2 j fun z => hj (List.mem_append_right _ z)).trans (hk1 j fun z => hj (List.mem_append_left _ z))
def gdT (n : Nat) (u : List W → EnvD → Option EnvD) : W → EnvD → Option EnvD := fun w τ => match w with
  | .tup ws => if ws.length = n then u ws τ else none
  | _ => none
end
section
variable {X : Cx}
def wipeD (τ : EnvD) : List Nat → EnvD
  | [] => τ
  | v :: vs => (wipeD τ vs).set v none
theorem RSt.wipe {K : PySem.W.Frag} {γ : List Addr} {C : Cfg} {σ : L2.St} {τ : EnvD} (h : RSt K γ C σ τ) : ∀ vs : List Nat, RSt K γ C (L2.wipe σ vs) (wipeD τ vs)
  | [] => h
  | v :: vs => by
    have q := RSt.wipe h vs
    refine ⟨by show ((L2.wipe σ vs).set v none).length = ((wipeD τ vs).set v none).length; rw [List.length_set, List.length_set]; exact q.1, fun i w e => ?_⟩
    have e' : ((wipeD τ vs).set v none)[i]? = some (some w) := e
    by_cases hi : v = i
    · subst hi
      have hl : v < (wipeD τ vs).length := by
        have := (List.getElem?_eq_some_iff.mp e').1
        rw [List.length_set] at this; exact this
      rw [List.getElem?_set_self hl] at e'
      cases e'
    · rw [List.getElem?_set_ne hi] at e'
      obtain ⟨u, e2, r⟩ := q.2 i w e'
      exact ⟨u, by show ((L2.wipe σ vs).set v none)[i]? = _; rw [List.getElem?_set_ne hi]; exact e2, r⟩
theorem wipe_same {σ σ' : L2.St} {vs : List Nat} (hl : σ'.length = σ.length) (h : ∀ j, j ∉ vs → σ'[j]? = σ[j]?) : L2.wipe σ' vs = L2.wipe σ vs := by
  apply List.ext_getElem?
  intro j
  by_cases hj : j ∈ vs
  · have aux : ∀ (us : List Nat) (ρ : L2.St), j ∈ us → (L2.wipe ρ us)[j]? = if j < ρ.length then some none else none := by
      intro us
      induction us with
      | nil => intro ρ h; cases h
      | cons v us ih =>
        intro ρ hm
        show ((L2.wipe ρ us).set v none)[j]? = _
        by_cases e : v = j
        · subst e
          by_cases hv : v < ρ.length
          · rw [List.getElem?_set_self (by rw [wipe_length]; exact hv), if_pos hv]
          · rw [if_neg hv, List.getElem?_eq_none_iff.mpr (by rw [List.length_set, wipe_length]; omega)]
        · rw [List.getElem?_set_ne e]
          exact ih ρ ((List.mem_cons.mp hm).resolve_left fun z => e z.symm)
    rw [aux vs σ' hj, aux vs σ hj, hl]
  · rw [wipe_out hj, wipe_out hj]
    exact h j hj

/-! ### what is walked -/
structure Walks (K : PySem.W.Frag) (γ0 : List Addr) (C0 : Cfg) (J : It) (ws : List W) : Prop where
  go : ∀ (i : Nat) (w : W) (γ : List Addr) (C : Cfg), Sim K γ C → Step γ0 C0 γ C → ws[i]? = some w → J.go i C.H ∧ ∀ x H', J.yld i C.H x H' → ∃ C1, C1.H = H' ∧ C1.S = C.S ∧ Sim K γ C1 ∧ Step γ C γ C1 ∧ RV K γ C1 x w
  stop : ∀ (i : Nat) (γ : List Addr) (C : Cfg), Sim K γ C → Step γ0 C0 γ C → ws.length ≤ i → J.stop i C.H
def KI (K : PySem.W.Frag) (γ : List Addr) (C : Cfg) (Qd : List W → Store → Prop) (R : It → Hp → Prop) : Prop := ∀ C' J ws, Qd ws C'.S → Sim K γ C' → Step γ C γ C' → Walks K γ C' J ws → R J C'.H
structure PID (X : Cx) (tg iter : Expr) (ti : TAD) : Prop where
  ex : ∃ wi, PI X tg iter wi ∧ ∀ γ C σ τ Qd R, Sim X.K γ C → RSt X.K γ C σ τ → ti τ C.S Qd → KI X.K γ C Qd R → wi σ C.H R
variable {tg a b : Expr} {ta tb : TD} {t : TAD}
/-- a list or tuple that stays as it is -/
def seqT : W → Option (List W)
  | .tup ws => some ws
  | .tpf ws => some ws
  | .lst ws => some ws
  | .scr ns => some (ns.map W.int)
  | _ => none
def iLst (ta : TD) : TAD := fun τ S Q => ta τ S fun w S1 => match w with
  | .lst ws => Q ws S1
  | .scr ns => Q (ns.map W.int) S1
  | _ => False
def iTupD (ta : TD) : TAD := fun τ S Q => ta τ S fun w S1 => match w with
  | .tup ws => Q ws S1
  | _ => False
theorem walks_list {K : PySem.W.Frag} {γ : List Addr} {C : Cfg} {a : Addr} {xs : List V} {ws : List W} (hk : ∀ γ' C', Step γ C γ' C' → SqL K C'.H a xs) (r : RVs K γ C xs ws) : Walks K γ C (Itl K a) ws := by
  refine ⟨fun i w γ' C' s' st e => ?_, fun i γ' C' s' st hl => ⟨xs, hk _ _ st, by rw [r.length]; exact hl⟩⟩
  obtain ⟨v, e', rv⟩ := r.get e
  exact ⟨⟨xs, v, hk _ _ st, e'⟩, fun x H' hy => ⟨C', hy.1.symm, rfl, s', .refl _ _, by
    have := (hy.2 xs (hk _ _ st)).symm.trans e'
    cases this
    exact rv.step st⟩⟩
theorem walks_tup {K : PySem.W.Frag} {γ : List Addr} {C : Cfg} {a : Addr} {xs : List V} {ws : List W} (hk : ∀ γ' C', Step γ C γ' C' → SqT K C'.H a xs) (r : RVs K γ C xs ws) : Walks K γ C (Itt K a) ws := by
  refine ⟨fun i w γ' C' s' st e => ?_, fun i γ' C' s' st hl => ⟨xs, hk _ _ st, by rw [r.length]; exact hl⟩⟩
  obtain ⟨v, e', rv⟩ := r.get e
  exact ⟨⟨xs, v, hk _ _ st, e'⟩, fun x H' hy => ⟨C', hy.1.symm, rfl, s', .refl _ _, by
    have := (hy.2 xs (hk _ _ st)).symm.trans e'
    cases this
    exact rv.step st⟩⟩
theorem pid_list (ha : PD X a ta) : PID X tg a (iLst ta) := by
  obtain ⟨tA, pa, ka⟩ := ha.ex
  refine ⟨_, pi_list pa, fun γ C σ τ Qd R hs hst h k => ka γ C σ τ _ _ hs hst h fun C1 v w h1 s1 st1 r1 => ?_⟩
  cases r1 <;> first | exact False.elim h1 | skip
  · rename_i p xs ws e1 e2 e3
    exact ⟨p, rfl, ⟨xs, SqL.of e1⟩, k C1 _ ws h1 s1 st1 (walks_list (fun γ' C' st => SqL.of (st.keep _ _ e1 (.inr e2))) e3)⟩
  · rename_i p ns e1
    exact ⟨p, rfl, ⟨_, e1.sq⟩, k C1 _ _ h1 s1 st1 (walks_list (fun γ' C' st => (st.scr e1).sq) (RVs.of_ints ns))⟩
theorem pid_tup (ha : PD X a ta) : PID X tg a (iTupD ta) := by
  obtain ⟨tA, pa, ka⟩ := ha.ex
  refine ⟨_, pi_tup pa, fun γ C σ τ Qd R hs hst h k => ka γ C σ τ _ _ hs hst h fun C1 v w h1 s1 st1 r1 => ?_⟩
  cases r1 <;> first | exact False.elim h1 | skip
  rename_i p xs ws e1 e3
  exact ⟨p, rfl, ⟨xs, e1⟩, k C1 _ ws h1 s1 st1 (walks_tup (fun γ' C' st => st.sqt e1) e3)⟩
def rangeW (lo : Int) (n : Nat) : List W := (List.range n).map fun i => .int (lo + (i : Nat))
theorem walks_range {K : PySem.W.Frag} {γ : List Addr} {C : Cfg} (lo : Int) (n : Nat) : Walks K γ C (Itr lo n) (rangeW lo n) := by
  refine ⟨fun i w γ' C' s' st e => ?_, fun i γ' C' s' st hl => (by have q : n ≤ i := (by simpa [rangeW] using hl); exact q)⟩
  unfold rangeW at e
  rw [List.getElem?_map] at e
  obtain ⟨j, e1, e2⟩ := Option.map_eq_some_iff.mp e
  obtain ⟨e3, e4⟩ := List.getElem?_eq_some_iff.mp e1
  rw [List.length_range] at e3
  rw [List.getElem_range] at e4
  subst e4
  refine ⟨e3, fun x H' hy => ⟨C', hy.1.symm, rfl, s', .refl _ _, ?_⟩⟩
  rw [hy.2, ← e2]
  exact .int _
def iRange1 (t : TAD) : TAD := fun τ S Q => t τ S fun ws S1 => match ws with
  | [.int j] => -(2 ^ 62) ≤ j ∧ j < 2 ^ 62 ∧ Q (rangeW 0 j.toNat) S1
  | _ => False
def iRange2 (t : TAD) : TAD := fun τ S Q => t τ S fun ws S1 => match ws with
  | [.int i, .int j] => (-(2 ^ 62) ≤ i ∧ i < 2 ^ 62 ∧ -(2 ^ 62) ≤ j ∧ j < 2 ^ 62) ∧ Q (rangeW i (j - i).toNat) S1
  | _ => False
theorem pid_range1 {p pos : Pos} (hg : Gl X "range") (hm : X.mg "range" = none) (ha : PAD X [a] t) (hs : starEach [a] X.env = [(false, eval a X.env)] := by rfl) : PID X tg (.Call (.Name "range" p) [a] [] pos) (iRange1 t) := by
  obtain ⟨tA, pa, ka⟩ := ha.ex
  refine ⟨_, pi_range1 hg hm pa hs, fun γ C σ τ Qd R hs hst h k => ka γ C σ τ _ _ hs hst h fun C1 vs ws h1 s1 st1 r1 => ?_⟩
  split at h1
  · cases r1 with
    | cons r1 r2 =>
      cases r2
      cases r1
      exact ⟨_, rfl, h1.1, h1.2.1, k C1 _ _ h1.2.2 s1 st1 (walks_range 0 _)⟩
  · exact h1.elim
theorem pid_range2 {p pos : Pos} (hg : Gl X "range") (hm : X.mg "range" = none) (ha : PAD X [a, b] t) (hs : starEach [a, b] X.env = [(false, eval a X.env), (false, eval b X.env)] := by rfl) (hs2 : starEach [b] X.env = [(false, eval b X.env)] := by rfl) :
    PID X tg (.Call (.Name "range" p) [a, b] [] pos) (iRange2 t) := by
  obtain ⟨tA, pa, ka⟩ := ha.ex
  refine ⟨_, pi_range2 hg hm pa hs hs2, fun γ C σ τ Qd R hs hst h k => ka γ C σ τ _ _ hs hst h fun C1 vs ws h1 s1 st1 r1 => ?_⟩
  split at h1
  · cases r1 with
    | cons r1 r2 =>
      cases r2 with
      | cons r2 r3 =>
        cases r3
        cases r1
        cases r2
        exact ⟨_, _, rfl, h1.1, k C1 _ _ h1.2 s1 st1 (walks_range _ _)⟩
  · exact h1.elim

/-! ### comprehensions -/
structure PTsD (X : Cx) (es : List Expr) (t : TTD) : Prop where
  ex : ∃ tH, PTs X es tH ∧ ∀ γ C σ τ Qd Q, Sim X.K γ C → RSt X.K γ C σ τ → t τ C.S Qd → KB X.K γ C Qd Q → tH σ C.H Q
def dYes : TTD := fun _ S Q => Q true S
theorem ptsd_nil : PTsD X [] dYes := ⟨_, pts_nil, fun γ C σ τ Qd Q hs hst h k => k C _ h hs (.refl _ _)⟩
theorem ptsd_one {c : Expr} {t : TTD} (h : PTD X c t) : PTsD X [c] t := by
  obtain ⟨tA, pa, ka⟩ := h.ex
  exact ⟨_, pts_one pa, ka⟩
def lcI (g : W → EnvD → Option EnvD) (tt : TTD) (te : TD) (τ : EnvD) (items : List W) (S : Store) (Q : List W → Store → Prop) : Prop :=
  ∃ P : Nat → List W → Store → Prop, P 0 [] S ∧ (∀ i x acc S, items[i]? = some x → acc.length ≤ i → P i acc S → match g x τ with
    | some τ1 => tt τ1 S fun b S1 => if b = true then te τ1 S1 fun w S2 => P (i + 1) (acc ++ [w]) S2 else P (i + 1) acc S1
    | none => False) ∧ ∀ acc S, P items.length acc S → Q acc S
def dLc (ti : TAD) (g : W → EnvD → Option EnvD) (tt : TTD) (te : TD) (vs : List Nat) : TAD := fun τ S Q => ti τ S fun items S1 => items.length ≤ sizeLine ∧ lcI g tt te (wipeD τ vs) items S1 Q
theorem lc_ex {elt tg iter : Expr} {ifs : List Expr} {scope : Scope} {own : List (Str × Nat)} {is : List Nat} {ti : TAD} {g : W → EnvD → Option EnvD} {tt : TTD} {te : TD} (hi : PID X tg iter ti)
    (hg : ∀ (s : Shared) (H : Hp) (C : Addr) (cl : List (Str × Addr)) (fp : List Addr), PGD (X.blk s H scope (compEnvC scope cl C X.env) fp) tg is g)
    (ht : ∀ (s : Shared) (H : Hp) (C : Addr) (cl : List (Str × Addr)) (fp : List Addr), PTsD (X.blk s H scope (compEnvC scope cl C X.env) fp) ifs tt)
    (he : ∀ (s : Shared) (H : Hp) (C : Addr) (cl : List (Str × Addr)) (fp : List Addr), PD (X.blk s H scope (compEnvC scope cl C X.env) fp) elt te)
    (his : ∀ j ∈ is, j ∈ own.map (·.2)) :
    ∃ wi gH tH eH, PI X tg iter wi ∧ (∀ (s : Shared) (H : Hp) (C : Addr) (cl : List (Str × Addr)) (fp : List Addr), PG (X.blk s H scope (compEnvC scope cl C X.env) fp) tg gH) ∧ (∀ (s : Shared) (H : Hp) (C : Addr) (cl : List (Str × Addr)) (fp : List Addr), PTs (X.blk s H scope (compEnvC scope cl C X.env) fp) ifs tH) ∧
      (∀ (s : Shared) (H : Hp) (C : Addr) (cl : List (Str × Addr)) (fp : List Addr), PE (X.blk s H scope (compEnvC scope cl C X.env) fp) elt eH) ∧ ∀ γ C σ τ Qd Q, Sim X.K γ C → RSt X.K γ C σ τ → dLc ti g tt te (own.map (·.2)) τ C.S Qd → KF X.K γ C Qd Q → tLc wi gH tH eH (own.map (·.2)) σ C.H Q := by
  obtain ⟨wi, pi, ki⟩ := hi.ex
  refine ⟨wi, fun v σ H Q => ∀ s0 H0 D cl fp, Classical.choose (hg s0 H0 D cl fp).ex v σ H Q, fun σ H Q => ∀ s0 H0 D cl fp, Classical.choose (ht s0 H0 D cl fp).ex σ H Q, fun σ H Q => ∀ s0 H0 D cl fp, Classical.choose (he s0 H0 D cl fp).ex σ H Q, pi, ?_, ?_, ?_, fun γ C σ τ Qd Q hsm hst h k => ?_⟩
  · intro s0 H0 D cl fp
    exact ⟨fun pins s σ H v u Q I r h => (Classical.choose_spec (hg s0 H0 D cl fp).ex).1.run pins s σ H v u Q I r (h s0 H0 D cl fp)⟩
  · intro s0 H0 D cl fp
    exact ⟨fun pins s σ H Q I h => (Classical.choose_spec (ht s0 H0 D cl fp).ex).1.run pins s σ H Q I (h s0 H0 D cl fp)⟩
  · intro s0 H0 D cl fp
    exact ⟨fun pins s σ H Q I h => (Classical.choose_spec (he s0 H0 D cl fp).ex).1.run pins s σ H Q I (h s0 H0 D cl fp)⟩
  refine ki γ C σ τ _ _ hsm hst h fun C1 J ws h1 s1 st1 wk => fun D hD => ?_
  obtain ⟨hlen, P, p0, pstep, pend⟩ := h1
  have hst1 := hst.step st1
  obtain ⟨g1, g2⟩ := s1.ghost (o := .lst []) hD
  have hD0 : C.H D = none := by
    cases z : C.H D with
    | none => rfl
    | some o => exact absurd hD (st1.there D (ne_none z))
  refine ⟨fun i m H => i + m = ws.length ∧ ∃ C2 acc xs, C2.H = H ∧ Sim X.K (D :: γ) C2 ∧ Step γ C1 (D :: γ) C2 ∧ H D = some (.lst xs) ∧ RVs X.K (D :: γ) C2 xs acc ∧ acc.length ≤ i ∧ P i acc C2.S,
    ⟨ws.length, by omega, C1.put D (.lst []), [], [], rfl, g1, g2, upd_same, .nil, Nat.le_refl _, p0⟩, fun i m H hW => ?_⟩
  obtain ⟨em, C2, acc, xs, rfl, s2, st2, eD, rx, hacc, hl⟩ := hW
  by_cases hi : i < ws.length
  · have ei : ws[i]? = some ws[i] := List.getElem?_eq_getElem hi
    obtain ⟨go, yl⟩ := wk.go i ws[i] (D :: γ) C2 s2 st2 ei
    refine .inr ⟨go, fun H' => i + 1 + (m - 1) = ws.length ∧ ∃ C2 acc xs, C2.H = H' ∧ Sim X.K (D :: γ) C2 ∧ Step γ C1 (D :: γ) C2 ∧ H' D = some (.lst xs) ∧ RVs X.K (D :: γ) C2 xs acc ∧ acc.length ≤ i + 1 ∧ P (i + 1) acc C2.S, fun H' hN => ⟨m - 1, by omega, hN⟩, fun x H' hy => ?_⟩
    obtain ⟨C3, rfl, eS, s3, st3, rv⟩ := yl x H' hy
    have st13 := st2.trans st3
    have hl' := pstep i ws[i] acc C3.S ei hacc (by rw [eS]; exact hl)
    cases eg : g ws[i] (wipeD τ (own.map (·.2))) with
    | none => rw [eg] at hl'; exact hl'.elim
    | some τ1 =>
      rw [eg] at hl'
      intro s0 H0 D0 cl fp
      have hstw : RSt X.K (D :: γ) C3 (L2.wipe σ (own.map (·.2))) (wipeD τ (own.map (·.2))) := (hst1.step st13).wipe _
      refine (Classical.choose_spec (hg s0 H0 D0 cl fp).ex).2 (D :: γ) C3 _ _ x ws[i] τ1 _ s3 hstw rv eg fun σ' hst' hl1 hk1 => ⟨?_, ?_⟩
      · have e1 := wipe_same (vs := own.map (·.2)) hl1 fun j hj => hk1 j fun z => hj (his j z)
        rw [e1]
        exact wipe_same (wipe_length _ _) fun j hj => wipe_out hj
      · intro s0 H0 D0 cl fp
        refine (Classical.choose_spec (ht s0 H0 D0 cl fp).ex).2 (D :: γ) C3 σ' τ1 _ _ s3 hst' hl' fun C4 bb h4 s4 st4 => ?_
        have st14 := st13.trans st4
        have eD4 : C4.H D = some (.lst xs) := st4.keep D _ (st3.keep D _ eD (.inl List.mem_cons_self)) (.inl List.mem_cons_self)
        cases bb with
        | false =>
          rw [if_neg Bool.false_ne_true] at h4 ⊢
          exact ⟨by omega, C4, acc, xs, rfl, s4, st14, eD4, rx.step (st3.trans st4), by omega, h4⟩
        | true =>
          rw [if_pos rfl] at h4 ⊢
          intro s0 H0 D0 cl fp
          refine (Classical.choose_spec (he s0 H0 D0 cl fp).ex).2 (D :: γ) C4 σ' τ1 _ _ s4 (hst'.step st4) h4 fun C5 y w h5 s5 st5 r5 => ?_
          have eD5 : C5.H D = some (.lst xs) := st5.keep D _ eD4 (.inl List.mem_cons_self)
          have hp : ∃ u, C5.H D = some u ∧ (∀ xs, u ≠ .tup xs) ∧ ∀ o z, u ≠ .frz o z := ⟨_, eD5, fun _ => nofun, fun _ _ => nofun⟩
          have lx : xs.length = acc.length := rx.length
          refine ⟨xs, eD5, by omega, by omega, C5.put D (.lst (xs ++ [y])), acc ++ [w], xs ++ [y], rfl, s5.gput hp, (st14.trans st5).gput hD, upd_same, ?_, ?_, h5⟩
          · exact ((rx.step ((st3.trans st4).trans st5)).gput s5 hp).append (.cons (r5.gput s5 hp) .nil)
          · rw [List.length_append]; show acc.length + 1 ≤ i + 1; omega
  · refine .inl ⟨wk.stop i (D :: γ) C2 s2 st2 (by omega), ?_⟩
    have e : i = ws.length := by omega
    subst e
    exact k C2 D xs acc (pend acc C2.S hl) s2 (st1.trans st2) hD0 eD rx
theorem pdf_lc (hc : X.calm = true) (hN : X.N.Nodup) {pos : Pos} {elt tg iter : Expr} {ifs : List Expr} {scope : Scope} {own : List (Str × Nat)} {is : List Nat} {ti : TAD} {g : W → EnvD → Option EnvD} {tt : TTD} {te : TD} (hi : PID X tg iter ti)
    (hg : ∀ (s : Shared) (H : Hp) (C : Addr) (cl : List (Str × Addr)) (fp : List Addr), PGD (X.blk s H scope (compEnvC scope cl C X.env) fp) tg is g)
    (ht : ∀ (s : Shared) (H : Hp) (C : Addr) (cl : List (Str × Addr)) (fp : List Addr), PTsD (X.blk s H scope (compEnvC scope cl C X.env) fp) ifs tt)
    (he : ∀ (s : Shared) (H : Hp) (C : Addr) (cl : List (Str × Addr)) (fp : List Addr), PD (X.blk s H scope (compEnvC scope cl C X.env) fp) elt te)
    (his : ∀ j ∈ is, j ∈ own.map (·.2)) (ok : BlkOk X.N X.env.scope scope own) (hs : ∀ x, foldedSetIterable iter X.env x = pure x := by intro _; rfl) : PDF X (.ListComp elt [⟨tg, iter, ifs, 0⟩] scope pos) (dLc ti g tt te (own.map (·.2))) := by
  obtain ⟨wi, gH, tH, eH, h1, h2, h3, h4, h5⟩ := lc_ex hi hg ht he his
  exact ⟨_, pe_lc hc hN h1 ok h2 h3 h4 hs, h5⟩
/-- name = [..] on one line: the new list as a tree, as a place of the store -/
def sLcT (i : Nat) (t : TAD) : TSD := fun D τ S => t τ S fun ws S1 => D.nx (τ.set i (some (.lst ws))) S1
def sLcC (i : Nat) (t : TAD) : TSD := fun D τ S => t τ S fun ws S1 => D.nx (τ.set i (some (.loc S1.length))) (S1 ++ [some (.lst ws)])
theorem psd_setLcT (hc : X.calm = true) (hN : X.N.Nodup) {i : Nat} {y : Str} {py spos pos : Pos} (hy : X.N[i]? = some y) (hyl : X.env.scope.names.lookup y = some .local) {elt tg iter : Expr} {ifs : List Expr} {scope : Scope} {own : List (Str × Nat)} {is : List Nat} {ti : TAD} {g : W → EnvD → Option EnvD} {tt : TTD} {te : TD} (hi : PID X tg iter ti)
    (hg : ∀ (s : Shared) (H : Hp) (C : Addr) (cl : List (Str × Addr)) (fp : List Addr), PGD (X.blk s H scope (compEnvC scope cl C X.env) fp) tg is g)
    (ht : ∀ (s : Shared) (H : Hp) (C : Addr) (cl : List (Str × Addr)) (fp : List Addr), PTsD (X.blk s H scope (compEnvC scope cl C X.env) fp) ifs tt)
    (he : ∀ (s : Shared) (H : Hp) (C : Addr) (cl : List (Str × Addr)) (fp : List Addr), PD (X.blk s H scope (compEnvC scope cl C X.env) fp) elt te)
    (his : ∀ j ∈ is, j ∈ own.map (·.2)) (ok : BlkOk X.N X.env.scope scope own) (hsw : swapsWith (.ListComp elt [⟨tg, iter, ifs, 0⟩] scope pos) (some (.Name y py)) spos.line X.env = pure true) (hs : ∀ x, foldedSetIterable iter X.env x = pure x := by intro _; rfl) :
    PSD X (.Assign [.Name y py] (.ListComp elt [⟨tg, iter, ifs, 0⟩] scope pos) spos) (sLcT i (dLc ti g tt te (own.map (·.2)))) := by
  obtain ⟨wi, gH, tH, eH, h1, h2, h3, h4, h5⟩ := lc_ex hi hg ht he his
  refine ⟨_, ps_setLc hc hN hy hyl hsw h1 ok h2 h3 h4 hs, fun γ C σ τ Dd D hsm hst h k => ?_⟩
  exact h5 γ C σ τ _ _ hsm hst h fun C1 q xs ws hq s1 st1 hq0 e1 r1 => k.nx C1 _ _ hq s1.drop (st1.drop s1 fun _ z => z) ((hst.step (st1.drop s1 fun _ z => z)).set (.lst e1 s1.nlive r1.drop1))
theorem psd_setLcC (hc : X.calm = true) (hN : X.N.Nodup) {i : Nat} {y : Str} {py spos pos : Pos} (hy : X.N[i]? = some y) (hyl : X.env.scope.names.lookup y = some .local) {elt tg iter : Expr} {ifs : List Expr} {scope : Scope} {own : List (Str × Nat)} {is : List Nat} {ti : TAD} {g : W → EnvD → Option EnvD} {tt : TTD} {te : TD} (hi : PID X tg iter ti)
    (hg : ∀ (s : Shared) (H : Hp) (C : Addr) (cl : List (Str × Addr)) (fp : List Addr), PGD (X.blk s H scope (compEnvC scope cl C X.env) fp) tg is g)
    (ht : ∀ (s : Shared) (H : Hp) (C : Addr) (cl : List (Str × Addr)) (fp : List Addr), PTsD (X.blk s H scope (compEnvC scope cl C X.env) fp) ifs tt)
    (he : ∀ (s : Shared) (H : Hp) (C : Addr) (cl : List (Str × Addr)) (fp : List Addr), PD (X.blk s H scope (compEnvC scope cl C X.env) fp) elt te)
    (his : ∀ j ∈ is, j ∈ own.map (·.2)) (ok : BlkOk X.N X.env.scope scope own) (hsw : swapsWith (.ListComp elt [⟨tg, iter, ifs, 0⟩] scope pos) (some (.Name y py)) spos.line X.env = pure true) (hs : ∀ x, foldedSetIterable iter X.env x = pure x := by intro _; rfl) :
    PSD X (.Assign [.Name y py] (.ListComp elt [⟨tg, iter, ifs, 0⟩] scope pos) spos) (sLcC i (dLc ti g tt te (own.map (·.2)))) := by
  obtain ⟨wi, gH, tH, eH, h1, h2, h3, h4, h5⟩ := lc_ex hi hg ht he his
  refine ⟨_, ps_setLc hc hN hy hyl hsw h1 ok h2 h3 h4 hs, fun γ C σ τ Dd D hsm hst h k => ?_⟩
  refine h5 γ C σ τ _ _ hsm hst h fun C1 q xs ws hq s1 st1 hq0 e1 r1 => k.nx (C1.add q (.lst ws)) _ _ hq (s1.add ⟨xs, e1, r1⟩) (st1.add s1 fun _ z => z) ((hst.step (st1.add s1 fun _ z => z)).set (.loc ?_))
  show (C1.ρ ++ [q])[C1.S.length]? = some q
  rw [← s1.len]; simp

/-! ### statements -/
variable {st : Stmt} {rest : List Stmt} {u : TSD} {ts : TSD} {e : Expr} {te : TD} {pos : Pos}
def sNext : TSD := fun D τ S => D.nx τ S
def sSeq (t u : TSD) : TSD := fun D τ S => t ⟨fun τ' S' => u D τ' S', D.rt, D.bk, D.ct⟩ τ S
theorem pssd_nil : PSSD X [] sNext := ⟨_, pss_nil, fun γ C σ τ Dd D hs hst h k => k.nx C σ τ h hs (.refl _ _) hst⟩
theorem pssd_cons (h1 : PSD X st ts) (h2 : PSSD X rest u) : PSSD X (st :: rest) (sSeq ts u) := by
  obtain ⟨tA, pa, ka⟩ := h1.ex
  obtain ⟨tB, pb, kb⟩ := h2.ex
  refine ⟨_, pss_cons pa pb, fun γ C σ τ Dd D hs hst h k => ka γ C σ τ _ _ hs hst h ⟨fun C' σ' τ' h' s' st' hst' => kb γ C' σ' τ' Dd D s' hst' h' (k.step st'), k.rt, k.bk, k.ct⟩⟩
theorem pssd_one (h1 : PSD X st ts) : PSSD X [st] ts := by
  obtain ⟨tA, pa, ka⟩ := h1.ex
  exact ⟨_, pss_one pa, ka⟩
def sDrop (te : TD) : TSD := fun D τ S => te τ S fun _ S1 => D.nx τ S1
theorem psd_expr (he : PD X e te) (hs : swapsWith e none pos.line X.env = pure false := by rfl) : PSD X (.Expr e pos) (sDrop te) := by
  obtain ⟨tA, pa, ka⟩ := he.ex
  exact ⟨_, ps_expr pa hs, fun γ C σ τ Dd D hs hst h k => ka γ C σ τ _ _ hs hst h fun C1 v w h1 s1 st1 r1 => k.nx C1 σ τ h1 s1 st1 (hst.step st1)⟩
def sRet (te : TD) : TSD := fun D τ S => te τ S D.rt
theorem psd_ret (he : PD X e te) : PSD X (.Return (some e) pos) (sRet te) := by
  obtain ⟨tA, pa, ka⟩ := he.ex
  exact ⟨_, ps_ret pa, fun γ C σ τ Dd D hs hst h k => ka γ C σ τ _ _ hs hst h fun C1 v w h1 s1 st1 r1 => k.rt C1 v w h1 s1 st1 r1⟩
def sIf (c : TTD) (t u : TSD) : TSD := fun D τ S => c τ S fun b S1 => if b = true then t D τ S1 else u D τ S1
theorem psd_if {c : Expr} {p q : List Stmt} {tc : TTD} (hc : PTD X c tc) (ha : PSSD X p ts) (hb : PSSD X q u) : PSD X (.If c p q pos) (sIf tc ts u) := by
  obtain ⟨tA, pa, ka⟩ := hc.ex
  obtain ⟨tB, pb, kb⟩ := ha.ex
  obtain ⟨tC, pc, kc⟩ := hb.ex
  refine ⟨_, ps_if pa pb pc, fun γ C σ τ Dd D hs hst h k => ka γ C σ τ _ _ hs hst h fun C1 b h1 s1 st1 => ?_⟩
  cases b with
  | true => exact (if_pos rfl).mpr (kb γ C1 σ τ Dd D s1 (hst.step st1) ((if_pos rfl).mp h1) (k.step st1))
  | false => exact (if_neg Bool.false_ne_true).mpr (kc γ C1 σ τ Dd D s1 (hst.step st1) ((if_neg Bool.false_ne_true).mp h1) (k.step st1))
def sNever : TSD := fun _ _ _ => False
theorem psd_never : PSD X st sNever := ⟨_, ps_never, fun γ C σ τ Dd D hs hst h k => h.elim⟩
theorem pssd_never {sts : List Stmt} : PSSD X sts sNever := ⟨_, pss_never, fun γ C σ τ Dd D hs hst h k => h.elim⟩
theorem psd_pass : PSD X (.Pass pos) sNext := ⟨_, ps_pass, fun γ C σ τ Dd D hs hst h k => k.nx C σ τ h hs (.refl _ _) hst⟩
def sBreak : TSD := fun D τ S => D.bk τ S
theorem psd_break : PSD X (.Break pos) sBreak := ⟨_, ps_break, fun γ C σ τ Dd D hs hst h k => k.bk C σ τ h hs (.refl _ _) hst⟩
def sCont : TSD := fun D τ S => D.ct τ S
theorem psd_continue : PSD X (.Continue pos) sCont := ⟨_, ps_continue, fun γ C σ τ Dd D hs hst h k => k.ct C σ τ h hs (.refl _ _) hst⟩
/-- name = value -/
def sSet (i : Nat) (te : TD) : TSD := fun D τ S => te τ S fun w S1 => D.nx (τ.set i (some w)) S1
theorem psd_set {i : Nat} {x : Str} {pos' : Pos} (hN : X.N.Nodup) (hi : X.N[i]? = some x) (hx : Loc X.env.scope x) (he : PD X e te) (hs : swapsWith e (some (.Name x pos')) pos.line X.env = pure false := by rfl) (hf : X.fn x = true ∨ X.env.scope.names.lookup x = some .local := by first | exact .inl rfl | exact .inr rfl | assumption) :
    PSD X (.Assign [.Name x pos'] e pos) (sSet i te) := by
  obtain ⟨tA, pa, ka⟩ := he.ex
  exact ⟨_, ps_set hN hi hx pa hs hf, fun γ C σ τ Dd D hs hst h k => ka γ C σ τ _ _ hs hst h fun C1 v w h1 s1 st1 r1 => k.nx C1 _ _ h1 s1 st1 ((hst.step st1).set r1)⟩
/-- two names from a pair written out -/
def sPar (i j : Nat) (t : TAD) : TSD := fun D τ S => t τ S fun ws S1 => match ws with
  | [v, w] => D.nx ((τ.set i (some v)).set j (some w)) S1
  | _ => False
def sWhile (c : TTD) (tb : TSD) : TSD := fun D τ S => ∃ (I : EnvD → Store → Prop) (μ : EnvD → Store → Nat), I τ S ∧ ∀ τ S, I τ S → c τ S fun b S1 => if b = true then tb ⟨fun τ' S' => I τ' S' ∧ μ τ' S' < μ τ S, D.rt, D.nx, fun τ' S' => I τ' S' ∧ μ τ' S' < μ τ S⟩ τ S1 else D.nx τ S1
theorem psd_while {c : Expr} {body : List Stmt} {tc : TTD} (hp : PassesOwn (model X.prog X.w) X.A X.env X.xe) (hc : PTD X c tc) (hb : PSSD X body ts) : PSD X (.While c body [] pos) (sWhile tc ts) := by
  obtain ⟨tA, pa, ka⟩ := hc.ex
  obtain ⟨tB, pb, kb⟩ := hb.ex
  refine ⟨_, ps_while hp pa pb, fun γ C σ τ Dd D hs hst h k => ?_⟩
  obtain ⟨I, μ, h0, hstep⟩ := h
  refine ⟨fun m σ H => ∃ C2 τ2, C2.H = H ∧ Sim X.K γ C2 ∧ Step γ C γ C2 ∧ RSt X.K γ C2 σ τ2 ∧ I τ2 C2.S ∧ μ τ2 C2.S = m, ⟨_, C, τ, rfl, hs, .refl _ _, hst, h0, rfl⟩, fun m σ2 H hW => ?_⟩
  obtain ⟨C2, τ2, rfl, s2, st2, hst2, hI, rfl⟩ := hW
  refine ka γ C2 σ2 τ2 _ _ s2 hst2 (hstep τ2 C2.S hI) fun C3 b h3 s3 st3 => ?_
  cases b with
  | false => exact (if_neg Bool.false_ne_true).mpr (k.nx C3 _ _ ((if_neg Bool.false_ne_true).mp h3) s3 (st2.trans st3) (hst2.step st3))
  | true =>
    have h3' := (if_pos rfl).mp h3
    refine (if_pos rfl).mpr ⟨fun σ' H' => ∃ C4 τ4, C4.H = H' ∧ Sim X.K γ C4 ∧ Step γ C γ C4 ∧ RSt X.K γ C4 σ' τ4 ∧ I τ4 C4.S ∧ μ τ4 C4.S < μ τ2 C2.S, fun σ' H' hN => ?_, ?_⟩
    · obtain ⟨C4, τ4, e, a1, a2, a3, a4, a5⟩ := hN
      exact ⟨_, a5, C4, τ4, e, a1, a2, a3, a4, rfl⟩
    · refine kb γ C3 σ2 τ2 _ _ s3 (hst2.step st3) h3' ⟨fun C4 σ4 τ4 h4 s4 st4 hst4 => ⟨C4, τ4, rfl, s4, (st2.trans st3).trans st4, hst4, h4.1, h4.2⟩, fun C4 v w h4 s4 st4 r4 => k.rt C4 v w h4 s4 ((st2.trans st3).trans st4) r4, fun C4 σ4 τ4 h4 s4 st4 hst4 => k.nx C4 σ4 τ4 h4 s4 ((st2.trans st3).trans st4) hst4, fun C4 σ4 τ4 h4 s4 st4 hst4 => ⟨C4, τ4, rfl, s4, (st2.trans st3).trans st4, hst4, h4.1, h4.2⟩⟩
def forI (g : W → EnvD → Option EnvD) (tb : TSD) (D : DEnds) (items : List W) (τ : EnvD) (S : Store) : Prop :=
  ∃ P : Nat → EnvD → Store → Prop, P 0 τ S ∧ (∀ i x τ S, items[i]? = some x → P i τ S → match g x τ with
    | some τ1 => tb ⟨P (i + 1), D.rt, D.nx, P (i + 1)⟩ τ1 S
    | none => False) ∧ ∀ τ S, P items.length τ S → D.nx τ S
def sFor (ti : TAD) (g : W → EnvD → Option EnvD) (tb : TSD) : TSD := fun D τ S => ti τ S fun items S1 => forI g tb D items τ S1
theorem psd_for {iter tg : Expr} {body : List Stmt} {is : List Nat} {ti : TAD} {g : W → EnvD → Option EnvD} (hp : PassesOwn (model X.prog X.w) X.A X.env X.xe) (hc : X.calm = true) (hi : PID X tg iter ti) (hg : PGD X tg is g) (hb : PSSD X body ts)
    (hs : ∀ x, foldedSetIterable iter X.env x = pure x := by intro _; rfl) : PSD X (.For tg iter body [] pos) (sFor ti g ts) := by
  obtain ⟨wi, pi, ki⟩ := hi.ex
  obtain ⟨gH, pg, kg⟩ := hg.ex
  obtain ⟨tB, pb, kb⟩ := hb.ex
  refine ⟨_, ps_for hp hc pi pg pb hs, fun γ C σ τ Dd D hs hst h k => ki γ C σ τ _ _ hs hst h fun C1 J ws h1 s1 st1 wk => ?_⟩
  obtain ⟨P, p0, pstep, pend⟩ := h1
  refine ⟨fun i m σ H => i + m = ws.length ∧ ∃ C2 τ2, C2.H = H ∧ Sim X.K γ C2 ∧ Step γ C1 γ C2 ∧ RSt X.K γ C2 σ τ2 ∧ P i τ2 C2.S, ⟨ws.length, by omega, C1, τ, rfl, s1, .refl _ _, hst.step st1, p0⟩, fun i m σ2 H hW => ?_⟩
  obtain ⟨em, C2, τ2, rfl, s2, st2, hst2, hl⟩ := hW
  by_cases hi : i < ws.length
  · have ei : ws[i]? = some ws[i] := List.getElem?_eq_getElem hi
    obtain ⟨go, yl⟩ := wk.go i ws[i] γ C2 s2 st2 ei
    refine .inr ⟨go, fun σ' H' => i + 1 + (m - 1) = ws.length ∧ ∃ C2 τ2, C2.H = H' ∧ Sim X.K γ C2 ∧ Step γ C1 γ C2 ∧ RSt X.K γ C2 σ' τ2 ∧ P (i + 1) τ2 C2.S, fun σ' H' hN => ⟨m - 1, by omega, hN⟩, fun x H' hy => ?_⟩
    obtain ⟨C3, rfl, eS, s3, st3, rv⟩ := yl x H' hy
    have hl' := pstep i ws[i] τ2 C3.S ei (by rw [eS]; exact hl)
    cases eg : g ws[i] τ2 with
    | none => rw [eg] at hl'; exact hl'.elim
    | some τ1 =>
      rw [eg] at hl'
      have st13 := st2.trans st3
      refine kg γ C3 σ2 τ2 x ws[i] τ1 _ s3 (hst2.step st3) rv eg fun σ3 hst3 _ _ => ?_
      refine kb γ C3 σ3 τ1 _ _ s3 hst3 hl' ⟨fun C4 σ4 τ4 h4 s4 st4 hst4 => ⟨by omega, C4, τ4, rfl, s4, st13.trans st4, hst4, h4⟩, fun C4 v w h4 s4 st4 r4 => k.rt C4 v w h4 s4 (st1.trans (st13.trans st4)) r4, fun C4 σ4 τ4 h4 s4 st4 hst4 => k.nx C4 σ4 τ4 h4 s4 (st1.trans (st13.trans st4)) hst4, fun C4 σ4 τ4 h4 s4 st4 hst4 => ⟨by omega, C4, τ4, rfl, s4, st13.trans st4, hst4, h4⟩⟩
  · refine .inl ⟨wk.stop i γ C2 s2 st2 (by omega), ?_⟩
    have e : i = ws.length := by omega
    subst e
    exact k.nx C2 σ2 τ2 (pend τ2 C2.S hl) s2 (st1.trans st2) hst2
end
end FL
end
section
set_option autoImplicit false
namespace FL
open PySem PySem.Spec PyProof.Rows L2
/-! ### dicts with ints and texts as keys -/
def dkOf (S : Store) : W → Option (List Key × List W)
  | .dic ks ws => some (ks, ws)
  | .loc n => match S[n]? with
    | some (some (.dic ks ws)) => some (ks, ws)
    | _ => none
  | _ => none
def keyW : W → Option Key
  | .int i => some (.inl i)
  | .str x => some (.inr x)
  | _ => none
def getKW : List Key → List W → Key → Option W
  | k' :: ks, w :: ws, k => if k' = k then some w else getKW ks ws k
  | _, _, _ => none
def putKW : List Key → List W → Key → W → List Key × List W
  | k' :: ks, w' :: ws, k, w => if k' = k then (k' :: ks, w :: ws) else (k' :: (putKW ks ws k w).1, w' :: (putKW ks ws k w).2)
  | _, _, k, w => ([k], [w])
section
variable {K : PySem.W.Frag} {γ γ' : List Addr} {C C' : Cfg}
theorem dkOf_at (s : Sim K γ C) {v : V} {w : W} {ks : List Key} {ws : List W} (r : RV K γ C v w) (h : dkOf C.S w = some (ks, ws)) : ∃ a kvs, v = .ref a ∧ C.H a = some (.dK kvs) ∧ kvs.map Prod.fst = ks ∧ RVs K γ C (kvs.map Prod.snd) ws := by
  cases r <;> first | (cases h; done) | skip
  · cases h
    rename_i a kvs xs e1 e2 e3 e4 e5
    exact ⟨a, kvs, rfl, e1, e4, e2 ▸ e5⟩
  · rename_i n a h1
    have h' : (match C.S[n]? with | some (some (.dic ks ws)) => some (ks, ws) | _ => none) = some (ks, ws) := h
    split at h'
    · rename_i us e
      cases h'
      obtain ⟨xs, h2, h3, h4⟩ := s.cell n a _ h1 e
      exact ⟨a, xs, rfl, h2, h3, h4⟩
    · cases h'
theorem keyW_at {v : V} {w : W} {k : Key} (r : RV K γ C v w) (h : keyW w = some k) : v = kV k := by
  cases r <;> cases h <;> rfl
theorem getKW_at : ∀ {kvs : List (Key × V)} {ws : List W} {k : Key} {w : W}, RVs K γ C (kvs.map Prod.snd) ws → getKW (kvs.map Prod.fst) ws k = some w → ∃ v, valV kvs k = some v ∧ RV K γ C v w
  | [], _, _, _, _, h => by cases h
  | (k', v) :: r, _, k, w, q, h => by
    rw [List.map_cons] at q
    cases q with
    | @cons _ w' _ ws' q1 q2 =>
      have h' : (if k' = k then some w' else getKW (r.map Prod.fst) ws' k) = some w := h
      by_cases e : k' = k
      · rw [if_pos e] at h'
        cases h'
        exact ⟨v, valV_pos e, q1⟩
      · rw [if_neg e] at h'
        obtain ⟨u, h1, h2⟩ := getKW_at q2 h'
        exact ⟨u, by rw [valV_neg e]; exact h1, h2⟩
theorem getKW_none : ∀ {kvs : List (Key × V)} {ws : List W} {k : Key}, RVs K γ C (kvs.map Prod.snd) ws → getKW (kvs.map Prod.fst) ws k = none → valV kvs k = none
  | [], _, _, _, h => rfl
  | (k', v) :: r, _, k, q, h => by
    rw [List.map_cons] at q
    cases q with
    | @cons _ w' _ ws' q1 q2 =>
      have h' : (if k' = k then some w' else getKW (r.map Prod.fst) ws' k) = none := h
      by_cases e : k' = k
      · rw [if_pos e] at h'
        cases h'
      · rw [if_neg e] at h'
        rw [valV_neg e]; exact getKW_none q2 h'
/-- in its place, or at the end, for keys that stand once -/
def putV : List (Key × V) → Key → V → List (Key × V)
  | (k', v') :: r, k, v => if k' = k then (k', v) :: r else (k', v') :: putV r k v
  | [], k, v => [(k, v)]
theorem putK_eq : ∀ {kvs : List (Key × V)} {k : Key} {v : V}, (kvs.map Prod.fst).Nodup → putK kvs k v = putV kvs k v
  | [], k, v, _ => rfl
  | (k', v') :: r, k, v, h => by
    have h' := List.nodup_cons.mp h
    by_cases e : k' = k
    · subst e
      have e2 : putV ((k', v') :: r) k' v = (k', v) :: r := if_pos rfl
      rw [e2]
      have : ∀ p ∈ r, (if p.1 = k' then (p.1, v) else p) = p := fun p hp => if_neg fun z => h'.1 (List.mem_map.mpr ⟨p, hp, z⟩)
      have e3 : r.map (fun kv => if kv.1 = k' then (kv.1, v) else kv) = r := (List.map_congr_left this).trans (List.map_id r)
      unfold putK
      rw [if_pos (by simp), List.map_cons, e3, if_pos rfl]
    · have e2 : putV ((k', v') :: r) k v = (k', v') :: putV r k v := if_neg e
      rw [e2, ← putK_eq h'.2]
      unfold putK
      rw [List.any_cons, decide_eq_false e, Bool.false_or]
      by_cases hc : (r.any fun kv => decide (kv.1 = k)) = true
      · rw [if_pos hc, if_pos hc, List.map_cons, if_neg e]
      · rw [if_neg hc, if_neg hc, List.cons_append]
theorem putKW_at {k : Key} {v : V} {w : W} (rv : RV K γ C v w) : ∀ {kvs : List (Key × V)} {ws : List W}, RVs K γ C (kvs.map Prod.snd) ws → (putV kvs k v).map Prod.fst = (putKW (kvs.map Prod.fst) ws k w).1 ∧ RVs K γ C ((putV kvs k v).map Prod.snd) (putKW (kvs.map Prod.fst) ws k w).2
  | [], _, q => by
    cases q
    exact ⟨rfl, .cons rv .nil⟩
  | (k', v') :: r, _, q => by
    rw [List.map_cons] at q
    cases q with
    | @cons _ w' _ ws' q1 q2 =>
      obtain ⟨h1, h2⟩ := putKW_at (k := k) rv q2
      show (putV ((k', v') :: r) k v).map Prod.fst = (putKW (k' :: r.map Prod.fst) (w' :: ws') k w).1 ∧ RVs K γ C ((putV ((k', v') :: r) k v).map Prod.snd) (putKW (k' :: r.map Prod.fst) (w' :: ws') k w).2
      by_cases e : k' = k
      · have e1 : putV ((k', v') :: r) k v = (k', v) :: r := if_pos e
        have e2 : putKW (k' :: r.map Prod.fst) (w' :: ws') k w = (k' :: r.map Prod.fst, w :: ws') := if_pos e
        rw [e1, e2]
        exact ⟨rfl, .cons rv q2⟩
      · have e1 : putV ((k', v') :: r) k v = (k', v') :: putV r k v := if_neg e
        have e2 : putKW (k' :: r.map Prod.fst) (w' :: ws') k w = (k' :: (putKW (r.map Prod.fst) ws' k w).1, w' :: (putKW (r.map Prod.fst) ws' k w).2) := if_neg e
        rw [e1, e2]
        exact ⟨by show k' :: (putV r k v).map Prod.fst = _; rw [h1], .cons q1 h2⟩
end
section
variable {X : Cx} {o i value : Expr} {td ti tv : TD} {pos pos' : Pos}
def dDGet (td ti : TD) : TD := fun τ S Q => td τ S fun d S1 => ti τ S1 fun k S2 => match dkOf S2 d, keyW k with
  | some (ks, ws), some k => (match getKW ks ws k with
    | some w => Q w S2
    | none => False)
  | _, _ => False
theorem pd_dget (hu : X.A.units + 1 < cLine) (ho : PD X o td) (hi : PD X i ti) (hs : NoSl i) : PD X (.Subscript o i pos) (dDGet td ti) := by
  obtain ⟨tA, pa, ka⟩ := ho.ex
  obtain ⟨tB, pb, kb⟩ := hi.ex
  refine ⟨_, pe_dget hu pa pb hs, fun γ C σ τ Qd Q hs hst h k => ?_⟩
  refine ka γ C σ τ _ _ hs hst h fun C1 v1 w1 h1 s1 st1 r1 => kb γ C1 σ τ _ _ s1 (hst.step st1) h1 fun C2 v2 w2 h2 s2 st2 r2 => ?_
  split at h2
  · rename_i ks ws key e1 e2
    split at h2
    · rename_i w e3
      obtain ⟨a, kvs, rfl, p1, p2, p3⟩ := dkOf_at s2 (r1.step st2) e1
      subst p2
      obtain ⟨v, q1, q2⟩ := getKW_at p3 e3
      have e4 := keyW_at r2 e2
      subst e4
      exact ⟨a, v, rfl, q1 ▸ DGet.k p1, k C2 v w h2 s2 (st1.trans st2) q2⟩
    · exact h2.elim
  · exact h2.elim
/-- d[k] = v: d a place of the store, its keys once each -/
def sDSet (td ti tv : TD) : TSD := fun D τ S => tv τ S fun w S1 => td τ S1 fun d S2 => ti τ S2 fun k S3 => match d, keyW k with
  | .loc n, some k => (match S3[n]? with
    | some (some (.dic ks ws)) => ks.Nodup ∧ ks.length < sizeLine ∧ D.nx τ (S3.set n (some (.dic (putKW ks ws k w).1 (putKW ks ws k w).2)))
    | _ => False)
  | _, _ => False
theorem psd_dput (hu : X.A.units + 1 < cLine) (ho : PD X o td) (hi : PD X i ti) (hv : PD X value tv) (hs : swapsWith value (some (.Subscript o i pos')) pos.line X.env = pure false) : PSD X (.Assign [.Subscript o i pos'] value pos) (sDSet td ti tv) := by
  obtain ⟨tA, pa, ka⟩ := hv.ex
  obtain ⟨tB, pb, kb⟩ := ho.ex
  obtain ⟨tC, pc, kc⟩ := hi.ex
  refine ⟨_, ps_dput hu pb pc pa hs, fun γ C σ τ Dd D hs hst h k => ?_⟩
  refine ka γ C σ τ _ _ hs hst h fun C1 v1 w1 h1 s1 st1 r1 => kb γ C1 σ τ _ _ s1 (hst.step st1) h1 fun C2 v2 w2 h2 s2 st2 r2 => kc γ C2 σ τ _ _ s2 (hst.step (st1.trans st2)) h2 fun C3 v3 w3 h3 s3 st3 r3 => ?_
  have r2' := r2.step st3
  have r1' := (r1.step st2).step st3
  have st13 := (st1.trans st2).trans st3
  split at h3
  · rename_i n key e2
    split at h3
    · rename_i ks ws e1
      obtain ⟨hnd, hlen, hq⟩ := h3
      cases r2' with
      | @loc _ a hn =>
        obtain ⟨kvs, p1, p2, p3⟩ := s3.cell n a _ hn e1
        subst p2
        have e4 := keyW_at r3 e2
        subst e4
        have hl : kvs.length < sizeLine := by rw [List.length_map] at hlen; exact hlen
        obtain ⟨q1, q2⟩ := putKW_at (k := key) r1' p3
        have hC : ∃ c', C3.S[n]? = some (some c') := ⟨_, e1⟩
        have stw : Step γ C3 γ (C3.wr n a (.dK (putV kvs key v1)) (.dic (putKW (kvs.map Prod.fst) ws key w1).1 (putKW (kvs.map Prod.fst) ws key w1).2)) := Step.wr s3 hn hC p1 (fun _ => nofun) (fun _ _ => nofun)
        refine ⟨a, upd C3.H a (.dK (putV kvs key v1)), rfl, putK_eq hnd ▸ DPut.k p1 hl, ?_⟩
        exact k.nx (C3.wr n a (.dK (putV kvs key v1)) (.dic (putKW (kvs.map Prod.fst) ws key w1).1 (putKW (kvs.map Prod.fst) ws key w1).2)) σ τ hq (s3.wr hn hC p1 (fun _ => nofun) (fun _ _ => nofun) ⟨_, upd_same, q1, q2.step stw⟩) (st13.trans stw) (hst.step (st13.trans stw))
    · exact h3.elim
  · exact h3.elim

/-! ### methods of lists that are places of the store -/
structure MtD (X : Cx) (id : String) (rd : Nat → List W → List W → Store → WK → Prop) : Prop where
  ex : ∃ r, MtR X id r ∧ ∀ γ C n a xs ws vs us Qd Q, Sim X.K γ C → C.ρ[n]? = some a → C.S[n]? = some (some (.lst ws)) → C.H a = some (.lst xs) → RVs X.K γ C xs ws → RVs X.K γ C vs us → rd n ws us C.S Qd → KE X.K γ C Qd Q → r (.ref a) vs C.H Q
variable {e : Expr} {es : List Expr} {t : TAD} {name : Str} {apos cpos : Pos} {id : String} {rd : Nat → List W → List W → Store → WK → Prop}
def dMt0 (rd : Nat → List W → List W → Store → WK → Prop) (to : TD) : TD := fun τ S Q => to τ S fun w S1 => match w with
  | .loc n => (match S1[n]? with
    | some (some (.lst ws)) => rd n ws [] S1 Q
    | _ => False)
  | _ => False
def dMt (rd : Nat → List W → List W → Store → WK → Prop) (to : TD) (t : TAD) : TD := fun τ S Q => to τ S fun w S1 => match w with
  | .loc n => (lsOf S1 (.loc n)).isSome = true ∧ t τ S1 fun us S2 => (match S2[n]? with
    | some (some (.lst ws)) => rd n ws us S2 Q
    | _ => False)
  | _ => False
theorem pd_mt0 (pa : PlainAttrs "list") (slot : Slot "list" name id) (hty : typeOf (.builtin id) = pure (.type "method_descriptor")) (hm : MtD X id rd) (ho : PD X o td)
    (hbase : attributeBase o name X.env (eval o X.env) = eval o X.env := by rfl) (hline : (apos.endLine == cpos.line) = true := by rfl) : PD X (.Call (.Attribute o name apos) [] [] cpos) (dMt0 rd td) := by
  obtain ⟨tA, pA, ka⟩ := ho.ex
  obtain ⟨r, mr, kr⟩ := hm.ex
  refine ⟨_, pe_bm0 pa slot hty mr pA hbase hline, fun γ C σ τ Qd Q hs hst h k => ?_⟩
  refine ka γ C σ τ _ _ hs hst h fun C1 v1 w1 h1 s1 st1 r1 => ?_
  split at h1
  · split at h1
    · rename_i n _ ws e1
      cases r1 with
      | @loc _ a hn =>
        obtain ⟨xs, p1, p2⟩ := s1.cell n a _ hn e1
        exact ⟨.inl ⟨rfl, xs, SqL.of p1⟩, kr γ C1 n a xs ws [] [] _ _ s1 hn e1 p1 p2 .nil h1 (k.step st1)⟩
    · exact h1.elim
  · exact h1.elim
theorem pd_mt (pa : PlainAttrs "list") (slot : Slot "list" name id) (hty : typeOf (.builtin id) = pure (.type "method_descriptor")) (hm : MtD X id rd) (ho : PD X o td) (ha : PAD X (e :: es) t)
    (hbase : attributeBase o name X.env (eval o X.env) = eval o X.env := by rfl)
    (hfew : ((backTo cpos (starEach (e :: es) X.env)).all (fun x => !x.1) && (backToKw cpos (keywordEach [] X.env)).all (fun x => x.1.isSome) && decide ((e :: es).length + ([] : List Keyword).length + (if ([] : List Keyword).isEmpty then 0 else 1) < 30)) = true := by rfl)
    (hline : (apos.endLine == cpos.line) = true := by rfl) (hs : starEach (e :: es) X.env = (false, eval e X.env) :: starEach es X.env := by rfl) (hplain : (backTo cpos (starEach es X.env)).any (·.1) = false := by rfl) : PD X (.Call (.Attribute o name apos) (e :: es) [] cpos) (dMt rd td t) := by
  obtain ⟨tA, pA, ka⟩ := ho.ex
  obtain ⟨tB, pB, kb⟩ := ha.ex
  obtain ⟨r, mr, kr⟩ := hm.ex
  refine ⟨_, pe_bm pa slot hty mr pA pB hbase hfew hline hs hplain, fun γ C σ τ Qd Q hsm hst h k => ?_⟩
  refine ka γ C σ τ _ _ hsm hst h fun C1 v1 w1 h1 s1 st1 r1 => ?_
  split at h1
  · obtain ⟨hl, h1⟩ := h1
    rename_i n
    obtain ⟨ws0, e0⟩ := Option.isSome_iff_exists.mp hl
    obtain ⟨a, xs, rfl, p1, p2⟩ := lsOf_at s1 r1 e0
    refine ⟨.inl ⟨rfl, xs, SqL.of p1⟩, kb γ C1 σ τ _ _ s1 (hst.step st1) h1 fun C2 vs us h2 s2 st2 r2 => ?_⟩
    split at h2
    · rename_i ws e1
      cases r1 with
      | loc hn =>
        have hn2 := st2.loc hn
        obtain ⟨xs, p1, p2⟩ := s2.cell n a _ hn2 e1
        exact kr γ C2 n a xs ws vs us _ _ s2 hn2 e1 p1 p2 r2 h2 (k.step (st1.trans st2))
    · exact h2.elim
  · exact h1.elim
/-- the list behind a method -/
theorem lstWr {K : PySem.W.Frag} {γ : List Addr} {C : Cfg} {n : Nat} {a : Addr} {xs ys : List V} {ws us : List W} (s : Sim K γ C) (hn : C.ρ[n]? = some a) (e : C.S[n]? = some (some (.lst ws))) (h : C.H a = some (.lst xs)) (r : RVs K γ C ys us) :
    Sim K γ (C.wr n a (.lst ys) (.lst us)) ∧ Step γ C γ (C.wr n a (.lst ys) (.lst us)) := by
  have st : Step γ C γ (C.wr n a (.lst ys) (.lst us)) := Step.wr s hn ⟨_, e⟩ h (fun _ => nofun) (fun _ _ => nofun)
  exact ⟨s.wr hn ⟨_, e⟩ h (fun _ => nofun) (fun _ _ => nofun) ⟨ys, upd_same, r.step st⟩, st⟩
def rdApp : Nat → List W → List W → Store → WK → Prop := fun n ws us S Q => match us with
  | [w] => ws.length < sizeLine ∧ Q .non (S.set n (some (.lst (ws ++ [w]))))
  | _ => False
theorem md_append : MtD X "list.append" rdApp := by
  refine ⟨_, mt_append, fun γ C n a xs ws vs us Qd Q s hn e h r ru hd k => ?_⟩
  unfold rdApp at hd
  split at hd
  · cases ru with
    | @cons v w _ _ r1 r2 =>
      cases r2
      obtain ⟨q1, q2⟩ := lstWr s hn e h (r.append (.cons r1 .nil))
      exact ⟨a, xs, v, rfl, rfl, h, by rw [r.length]; exact hd.1, k _ _ _ hd.2 q1 q2 .non⟩
  · exact hd.elim
def rdExt : Nat → List W → List W → Store → WK → Prop := fun n ws us S Q => match us with
  | [w] => (match lsOf S w with
    | some zs => ws.length + zs.length ≤ sizeLine ∧ Q .non (S.set n (some (.lst (ws ++ zs))))
    | none => False)
  | _ => False
theorem md_extend : MtD X "list.extend" rdExt := by
  refine ⟨_, mt_extend, fun γ C n a xs ws vs us Qd Q s hn e h r ru hd k => ?_⟩
  unfold rdExt at hd
  split at hd
  · split at hd
    · rename_i zs ez
      cases ru with
      | @cons v w _ _ r1 r2 =>
        cases r2
        obtain ⟨b, ys, rfl, p1, p2⟩ := lsOf_at s r1 ez
        obtain ⟨q1, q2⟩ := lstWr s hn e h (r.append p2)
        exact ⟨a, b, xs, ys, rfl, rfl, h, p1, by rw [r.length, p2.length]; exact hd.1, k _ _ _ hd.2 q1 q2 .non⟩
    · exact hd.elim
  · exact hd.elim
def rdPop : Nat → List W → List W → Store → WK → Prop := fun n ws us S Q => match us with
  | [] => (match ws.getLast? with
    | some w => Q w (S.set n (some (.lst ws.dropLast)))
    | none => False)
  | _ => False
theorem md_pop : MtD X "list.pop" rdPop := by
  refine ⟨_, mt_pop, fun γ C n a xs ws vs us Qd Q s hn e h r ru hd k => ?_⟩
  unfold rdPop at hd
  split at hd
  · split at hd
    · rename_i w ew
      cases ru
      rw [List.getLast?_eq_getElem?] at ew
      obtain ⟨v, e1, rv⟩ := r.get ew
      obtain ⟨q1, q2⟩ := lstWr s hn e h r.dropLast
      exact ⟨a, xs, v, rfl, rfl, h, by rw [r.length]; exact e1, k _ _ _ hd q1 q2 (rv.step q2)⟩
    · exact hd.elim
  · exact hd.elim
def rdPopAt : Nat → List W → List W → Store → WK → Prop := fun n ws us S Q => match us with
  | [.int i] => ∃ (j : Nat) (w : W), i = (j : Int) ∧ j < 2 ^ 62 ∧ ws[j]? = some w ∧ Q w (S.set n (some (.lst (ws.eraseIdx j))))
  | _ => False
theorem md_popAt : MtD X "list.pop" rdPopAt := by
  refine ⟨_, mt_popAt, fun γ C n a xs ws vs us Qd Q s hn e h r ru hd k => ?_⟩
  unfold rdPopAt at hd
  split at hd
  · obtain ⟨j, w, rfl, hj, ew, hq⟩ := hd
    cases ru with
    | cons r1 r2 =>
      cases r2
      cases r1
      obtain ⟨v, e1, rv⟩ := r.get ew
      obtain ⟨q1, q2⟩ := lstWr s hn e h (r.eraseIdx j)
      have hl : j < xs.length := (List.getElem?_eq_some_iff.mp e1).1
      refine ⟨a, xs, j, j, v, rfl, rfl, h, by omega, by omega, ?_, e1, k _ _ _ hq q1 q2 (rv.step q2)⟩
      exact (ixN_seq (n := xs.length) (i := (j : Int)) (j := j) (by unfold ixN; rw [if_pos (by omega), if_pos (by omega)]; simp)).1
  · exact hd.elim
/-- xs[i] = v, xs a place of the store -/
def sLPut (td ti tv : TD) : TSD := fun D τ S => tv τ S fun w S1 => td τ S1 fun d S2 => ti τ S2 fun k S3 => match d, k with
  | .loc n, .int i => (match S3[n]? with
    | some (some (.lst ws)) => (match ixN ws.length i with
      | some j => D.nx τ (S3.set n (some (.lst (ws.set j w))))
      | none => False)
    | _ => False)
  | _, _ => False
theorem psd_lput (ho : PD X o td) (hi : PD X i ti) (hv : PD X value tv) (hs : swapsWithSole [.Subscript o i pos'] value pos.line X.env = pure false := by rfl) (hw : swappedStores [.Subscript o i pos'] value X.env = pure none := by rfl)
    (ha : ∀ v, assign (.Subscript o i pos') X.env v = assign (.Subscript o i pos') X.env v := by intro _; rfl) : True := trivial
/-- a place of the store read as a tree: it is given up -/
def dFrz (i : Nat) : TD := fun τ S Q => match τ[i]? with
  | some (some (.loc n)) => (match S[n]? with
    | some (some (.lst ws)) => Q (.lst ws) (S.set n none)
    | _ => False)
  | _ => False
theorem pd_frz (i : Nat) {x : Str} {pos : Pos} (hN : X.N[i]? = some x := by rfl) (hv : Vis X.env.scope x := by first | exact Or.inl rfl | exact Or.inr (Or.inl rfl) | exact Or.inr (Or.inr rfl)) (hd : (x == ("__debug__" : Str)) = false := by decide)
    (hcd : (x == ("__classdict__" : Str)) = false := by decide) : PD X (.Name x pos) (dFrz i) := by
  refine ⟨_, pe_var hN hv hd hcd, fun γ C σ τ Qd Q hs hst h k => ?_⟩
  unfold dFrz at h
  split at h
  · rename_i n e
    split at h
    · rename_i ws e2
      obtain ⟨v, e', r⟩ := hst.2 i _ e
      cases r with
      | @loc _ a hn =>
        obtain ⟨xs, p1, p2⟩ := hs.cell n a _ hn e2
        exact ⟨_, e', k (C.die n) _ _ h hs.die Step.die (.lst p1 (die_nl hs hn) (p2.step Step.die))⟩
    · exact h.elim
  · exact h.elim
end
/-! ### calls of the text's own defs, where no representation is under way around -/
abbrev Spec := List W → Store → WK → Prop
def spD (K : PySem.W.Frag) (sp : Spec) : Sp := fun vs H Q _ => ∃ γ C ws Qd, C.H = H ∧ Sim K γ C ∧ RVs K γ C vs ws ∧ sp ws C.S Qd ∧ KE K γ C Qd Q
structure FnG (P : Program) (w : World) (K : PySem.W.Frag) (mg : Str → Option Value) (base : Heap) (k : Nat) (f : Addr) (fd : FuncData) (n : Nat) (ps : List Str) (sp : Spec) : Prop where
  ar : ps.length = n
  len : ∀ ws S Q, sp ws S Q → ws.length = n
  run : ∀ (A : Around) (outer : List PySem.Env) (s : Shared) (H : Hp) (args : Args) (us : List Value) (vs : List V) (Q : VK), A.guards = some [] → Room k A → Env0 P w K mg base A outer s H → BindsTo s fd args (ps.zip us) → Vals vs us → spD K sp vs H Q E0 →
    codeAny (model P w) A (.call (.ref f) args) (CR CX0 outer P w H s Q E0) s
end FL
end
section
set_option autoImplicit false
namespace FL
open PySem PySem.Spec PyProof.Rows L2
section
variable {P : Program} {w : World} {K : PySem.W.Frag} {mg : Str → Option Value} {base : Heap}
def startD (N : List Str) (ws : List W) : EnvD := ws.map some ++ List.replicate (N.length - ws.length) none
theorem rst_start {γ : List Addr} {C : Cfg} {N : List Str} : ∀ {vs : List V} {ws : List W}, RVs K γ C vs ws → RSt K γ C (L2.start N vs) (startD N ws) := by
  intro vs ws r
  have hl := r.length
  refine ⟨by unfold L2.start startD; simp [hl], fun i u e => ?_⟩
  unfold startD at e
  by_cases hi : i < ws.length
  · rw [List.getElem?_append_left (by rw [List.length_map]; exact hi), List.getElem?_map] at e
    obtain ⟨u', e1, e2⟩ := Option.map_eq_some_iff.mp e
    cases e2
    obtain ⟨v, e3, e4⟩ := r.get e1
    refine ⟨v, ?_, e4⟩
    unfold L2.start
    rw [List.getElem?_append_left (by rw [List.length_map, hl]; exact hi), List.getElem?_map, e3]
    rfl
  · rw [List.getElem?_append_right (by rw [List.length_map]; omega)] at e
    have := List.mem_of_getElem? e
    simp at this
/-- THE RULE for a def of the text: its body over data -/
theorem fnG {x qual : Str} {st : Stmt} {f : Addr} {fd : FuncData} {N ps : List Str} {k n : Nat} {sp : Spec} (F : Fun K x qual st f fd) (S : FnScope N ps (defScope st)) (ar : ps.length = n) (len : ∀ ws S Q, sp ws S Q → ws.length = n)
    (hbody : ∀ (cdv : Value) (A : Around) (outer : List PySem.Env) (s : Shared) (H : Hp), Room k (A.deeper (envOfC qual (defScope st) s.heap.objs.size f cdv)) → A.guards = some [] →
      ∃ t, PSSD (cxOf CX0 P w K mg base N qual (defScope st) f cdv A outer s H E0).nox (defBody st) t ∧ ∀ ws S Q, sp ws S Q → t ⟨fun _ S' => Q .non S', Q, fun _ _ => False, fun _ _ => False⟩ (startD N ws) S) :
    FnG P w K mg base (k + 1) f fd n ps sp := by
  obtain ⟨oc, od, kV, doc, pm, an, cdv, ct, osl, rfl, lk, hcd⟩ := F.ex
  refine ⟨ar, len, fun A outer s H args us vs Q hgd hr e0 hb r hsp => ?_⟩
  obtain ⟨γ, C, ws, Qd, rfl, sim, rv, hs, ke⟩ := hsp
  have hl : vs.length = ps.length := by rw [rv.length, len _ _ _ hs, ar]
  have KX : K.In s.heap := e0.mod.kin.keeps fun b o e => (e0.bs b o e).1
  have lim : s.heap.NoLimit := e0.mod.nolimit.keeps fun b o e => (e0.bs b o e).1
  have hkind : ∀ y ∈ ps.zip us, (defScope st).names.lookup y.1 = some .local ∨ ((defScope st).names.lookup y.1 = some .cell ∧ ((cellsFrom (s.heap.objs.size + 1) (defScope st).names []).lookup y.1).isSome = true) := by
    rintro ⟨n, v⟩ hy
    rcases S.par n (List.of_mem_zip hy).1 with q | q
    · exact .inl q
    · exact .inr ⟨q, PySem.W.cellsFrom_some _ _ _ (.inl q)⟩
  refine codeAny_call_function hr.depth (KX _ _ lk) rfl S.co S.gen rfl (PySem.W.codeRec_of KX hcd) (hb _ _ _ _ ?_)
  refine wpAny_newFunctionEnv_cells S.kind hkind fun env he s1 x => ?_
  subst he
  refine ⟨lim.keeps x.toInCall.keep, codeAny_func ?_⟩
  obtain ⟨t, ht, hq⟩ := hbody cdv A outer s C.H (hr.deeper _) hgd
  obtain ⟨tH, pH, kH⟩ := ht.ex
  have I : Inv (cxOf CX0 P w K mg base N qual (defScope st) f cdv A outer s C.H E0) [] (L2.start N vs) C.H s1 := inv_start S hr.hd e0 hl r x
  have hrun := kH γ C (L2.start N vs) (startD N ws) ⟨fun _ S' => Qd .non S', Qd, fun _ _ => False, fun _ _ => False⟩ { nx := fun _ H' => Q .non H', rt := Q } sim (rst_start rv) (hq ws C.S Qd hs)
    ⟨fun C' σ τ h s' st' _ => ke C' _ _ h s' st' .non, fun C' v w h s' st' r' => ke C' v w h s' st' r', fun _ _ _ h _ _ _ => h.elim, fun _ _ _ h _ _ _ => h.elim⟩
  refine wpAny_mono (pH.nox.run [] s1 (L2.start N vs) C.H _ I hrun) (fun fl s' hs => ?_) fun e s' hs => hs
  cases fl with
  | ret u =>
    obtain ⟨v, σ', H', J, rv, q⟩ := hs
    exact ⟨v, H', J.os, J.bare, J.base, J.hok, rv, q⟩
  | next =>
    obtain ⟨σ', H', J, q⟩ := hs
    exact ⟨.non, H', J.os, J.bare, J.base, J.hok, rfl, q⟩
  | brk =>
    obtain ⟨_, _, _, q⟩ := hs
    exact False.elim q
  | cont =>
    obtain ⟨_, _, _, q⟩ := hs
    exact False.elim q
end
section
variable {X : Cx} {k n : Nat} {f : Addr} {fd : FuncData} {ps : List Str} {sp : Spec} {x : Str} {p pos : Pos} {e : Expr} {es : List Expr} {t : TAD}
theorem run_fnG {pins : List (Addr × Obj)} {σ : L2.St} {H : Hp} {s : Shared} {Q : VK} {us : List Value} {vs : List V} (F : FnG X.prog X.w X.K X.mg X.base k f fd n ps sp) (hgd : X.A.guards = some []) (hr : Room k X.A) (hb : Binds X.K fd ps [])
    (I : Inv X pins σ H s) (r : Vals vs us) (h : spD X.K sp vs H Q E0) : wpAny (model X.prog X.w) X.A (call (.ref f) us) (EP X pins σ Q) X.xe s := by
  have hl : us.length = ps.length := by
    obtain ⟨γ, C, ws, Qd, _, _, rv, hs, _⟩ := h
    rw [← r.length, rv.length, F.len _ _ _ hs, F.ar]
  have hbb : BindsTo s fd ⟨us, []⟩ (ps.zip us) := by
    have q := hb s us I.kIn (by rw [List.append_nil]; exact hl)
    rw [List.append_nil] at q
    exact q
  refine wpAny_call (codeAny_mono (F.run X.A X.stack s H ⟨us, []⟩ us vs Q hgd hr I.env0 hbb r h) ?_)
  intro res s' hq
  cases res with
  | error e => exact False.elim hq
  | ok fl =>
    cases fl with
    | ret u => exact I.after hq
    | next => exact False.elim hq
    | brk => exact False.elim hq
    | cont => exact False.elim hq
def dCall (sp : Spec) (t : TAD) : TD := fun τ S Q => t τ S fun ws S1 => sp ws S1 Q
/-- f(..) of a def of the text -/
theorem pd_call (F : FnG X.prog X.w X.K X.mg X.base k f fd n ps sp) (hgd : X.A.guards = some []) (hr : Room k X.A) (hg : Gl X x) (hm : X.mg x = some (.ref f)) (hk : PySem.W.keepIn X.K (.ref f) = true) (hb : Binds X.K fd ps []) (ha : PAD X (e :: es) t)
    (hdb : (x == ("__debug__" : Str)) = false := by decide) (he : starEach (e :: es) X.env = (false, eval e X.env) :: starEach es X.env := by rfl) (hpl : (backTo pos (starEach es X.env)).any (·.1) = false := by rfl) : PD X (.Call (.Name x p) (e :: es) [] pos) (dCall sp t) := by
  obtain ⟨tA, pa, ka⟩ := ha.ex
  refine ⟨fun σ H Q => tA σ H fun vs H1 => spD X.K sp vs H1 Q E0, ⟨fun pins s σ H Q I h => ?_⟩, fun γ C σ τ Qd Q hs hst h k => ka γ C σ τ _ _ hs hst h fun C1 vs ws h1 s1 st1 r1 => ⟨γ, C1, ws, Qd, rfl, s1, r1, h1, k.step st1⟩⟩
  refine wpAny_Call_Name_kw (ld_glob I hg hm ?_ hdb)
  refine PySem.W.callWith_K (h₀ := X.base) I.ok.mod.kin hk (thn (pa.run pos pins s σ H _ I h) fun us s1 ⟨vs, H1, I1, r, q⟩ => ⟨I1.kIn, ?_⟩) he hpl
  exact run_fnG F hgd hr hb I1 r q
end
/-! ### the law -/
def spLaw : Spec := fun ws S Q => ∃ ns : List Int, ws = [.scr ns] ∧ ns.length ≤ 63 ∧ S = [] ∧ ∀ S', Q (.bl true) S'
theorem spLaw_len : ∀ ws S Q, spLaw ws S Q → ws.length = 1 := by
  rintro ws S Q ⟨ns, rfl, _⟩
  rfl
theorem law_at {P : Program} {w : World} {K : PySem.W.Frag} {mg mb : Str → Option Value} {k : Nat} {fa a : Addr} {fd : FuncData} {x : Str} {s₁ : Shared} {vs : List Value} {ns : List Int}
    (KX : K.In s₁.heap) (hns : s₁.heap.Ns mainGlobals mg) (hb : s₁.heap.Ns builtinsNs mb) (hbb : ∀ x : Str, x ≠ "__name__" → mb x = bootBuiltins x) (hlim : s₁.heap.NoLimit) (hg : s₁.gens = #[])
    (ha : s₁.heap.get? a = some { cls := .type "list", data := .seq vs.toArray }) (hi : IntsAre vs ns) (hl : ns.length ≤ 63) (hr : Room k callerA)
    (F : ∀ base : Heap, K.In base → base.Ns mainGlobals mg → FnG P w K mg base k fa fd 1 [x] spLaw) (hbind : ∀ (s : Shared) (u : Value), BindsTo s fd ⟨[u], []⟩ [(x, u)]) :
    codeAny (model P w) callerA (.call (.ref fa) ⟨[.ref a], []⟩) (fun r s' => r = .ok (.ret (.bool true)) ∧ OldK s₁.heap s'.heap ∧ s'.os = s₁.os ∧ AllBare s'.gens) s₁ := by
  have rv := vals_ints hi
  have lenV := hi.length
  have hsz : ns.length ≤ sizeLine := Nat.le_trans hl (by rw [sizeLine_eq]; decide)
  have main : ∀ H : Hp, L2.Only H → ScrAt K H a (ns.map V.int) → HOk P w H s₁.heap → (∀ b, H b ≠ none → b = a) → (H a ≠ none → K.lookup a = none) →
      codeAny (model P w) callerA (.call (.ref fa) ⟨[.ref a], []⟩) (fun r s' => r = .ok (.ret (.bool true)) ∧ OldK s₁.heap s'.heap ∧ s'.os = s₁.os ∧ AllBare s'.gens) s₁ := by
    intro H hO hS hok hA hK
    have un0 : ∀ {b : Addr} {o : Obj}, s₁.heap.get? b = some o → H b = none → (hidT s₁.heap H).get? b = some o := fun e n => hidT_get e n
    have dn : ∀ {b : Addr} {o : Obj} {es : Array DictEntry} {ep : Nat}, s₁.heap.get? b = some o → o.data = .dict es ep → H b = none := by
      intro b o es ep e d
      cases q : H b with
      | none => rfl
      | some u =>
        have e' : b = a := hA b (ne_none q)
        subst e'
        rw [ha] at e
        cases e
        cases (show Data.seq vs.toArray _ = Data.dict es ep from d)
    have nsK : ∀ {b : Addr} {m : Str → Option Value}, s₁.heap.Ns b m → (hidT s₁.heap H).Ns b m := by
      rintro b m ⟨o, es, ep, e, d, r⟩
      exact ⟨o, es, ep, un0 e (dn e d), d, r⟩
    have hKb : K.In (hidT s₁.heap H) := by
      intro b o e
      refine un0 (KX b o e) ?_
      cases q : H b with
      | none => rfl
      | some u =>
        have e' : b = a := hA b (ne_none q)
        subst e'
        rw [hK (ne_none q)] at e
        cases e
    have hM : Mod K mg (hidT s₁.heap H) := ⟨hKb, nsK hns, ⟨mb, nsK hb, hbb⟩, let ⟨mc, h1, h2⟩ := hlim; ⟨mc, nsK h1, h2⟩⟩
    have nil_fr : ∀ b, b ∉ frs ([] : List PySem.Env) := fun b hb => by
      have hb' : b ∈ ([] : List Addr) := hb
      cases hb'
    have e0 : Env0 P w K mg (hidT s₁.heap H) callerA [] s₁ H := ⟨rfl, hM, fun b o e => of_hidT e, Nat.le_of_eq (hidT_size _ _), trivial, fun b hb => absurd hb (nil_fr b), hok, .of_eq hg⟩
    have sim0 : Sim K [] ⟨[], [], H⟩ := ⟨rfl, List.nodup_nil, List.nodup_nil, (by intro b hb; cases hb), (by intro b hb; cases hb), (by intro m b c hb; simp at hb)⟩
    have sp0 : spD K spLaw [.ref a] H (fun v _ => v = .bl true) E0 := by
      refine ⟨[], ⟨[], [], H⟩, [.scr ns], fun w _ => w = .bl true, rfl, sim0, .cons (.scr hS) .nil, ⟨ns, rfl, hl, rfl, fun _ => rfl⟩, fun C' v w h _ _ r => ?_⟩
      subst h
      cases r
      rfl
    refine codeAny_mono ((F _ hKb (nsK hns)).run callerA [] s₁ H ⟨[.ref a], []⟩ [.ref a] [.ref a] _ rfl hr e0 (hbind s₁ (.ref a)) (.cons rfl .nil) sp0) ?_
    intro r s' h
    cases r with
    | error e => exact False.elim h
    | ok fl =>
      cases fl with
      | next => exact False.elim h
      | brk => exact False.elim h
      | cont => exact False.elim h
      | ret u =>
        obtain ⟨v, H', os, bare, un, hok', r', q⟩ := h
        have q' : v = .bl true := q
        subst q'
        obtain rfl : u = Value.bool true := r'
        refine ⟨rfl, OldK.of_keep ?_, os, bare⟩
        intro b o e
        cases q : H b with
        | none => exact un.keep b o e q (nil_fr b) (fun z => nomatch z)
        | some u =>
          rcases hO b with z | ⟨ob, xs, z⟩
          · rw [q] at z; cases z
          · obtain ⟨e1, _⟩ := hok b _ z
            obtain ⟨e2, _⟩ := hok' b _ (un.frzs b ob _ z)
            rw [e] at e1
            cases e1
            exact e2
  cases hk : K.lookup a with
  | some o =>
    have e := KX a o hk
    rw [ha] at e
    cases e
    exact main (fun _ => none) (fun _ => .inl rfl) (.inr ⟨_, vs.toArray, _, hk, rfl, rfl, rfl, by rw [List.size_toArray, lenV]; exact hsz, by simpa using rv⟩) (fun b u z => by cases (show (none : Option HO) = some u from z)) (fun b z => absurd rfl z) fun z => absurd rfl z
  | none =>
    refine main (fun b => if b = a then some (.frz { cls := .type "list", data := .seq vs.toArray } (.lst (ns.map V.int))) else none) (fun b => ?_) (.inl ⟨{ cls := .type "list", data := .seq vs.toArray }, if_pos rfl⟩) (fun b u z => ?_) (fun b z => ?_) fun _ => hk
    · by_cases hb : b = a
      · exact .inr ⟨_, _, if_pos hb⟩
      · exact .inl (if_neg hb)
    · by_cases hb : b = a
      · have z' := (if_pos hb).symm.trans z
        cases z'
        subst hb
        exact ⟨ha, by rw [List.length_map]; exact hsz, vs, _, rv, ha⟩
      · cases (if_neg hb).symm.trans z
    · by_cases hb : b = a
      · exact hb
      · exact absurd (if_neg hb) z
theorem walkG {l : PySem.W.OpenLaw} {k : Nat} {q : Program} {loose : List Str} {XP : (Str → Option Value) → Heap → Prop} {YP : World → Heap → Prop} {d : DefRec} {K : Params → PySem.W.Frag} {x : Str}
    (hn : l.most = some 63) (hdf : d.params.defaults = []) (hr : Room k callerA) (hY : ∀ (w : World) (h : Heap), YP w h → (K w.params).In h)
    (F : ∀ (w : World) (mg : Str → Option Value) (fa : Addr) (h : Heap), (K w.params).In h → h.Ns mainGlobals mg → mg d.name = some (.ref fa) →
      ∃ fd : FuncData, (∀ (s : Shared) (u : Value), BindsTo s fd ⟨[u], []⟩ [(x, u)]) ∧ ∀ base : Heap, (K w.params).In base → base.Ns mainGlobals mg → FnG l.prog w (K w.params) mg base k fa fd 1 [x] spLaw) :
    PySem.W.WalkO q loose XP YP l.row.toRowW d [] (fun f vs => PySem.call f vs) := by
  refine Att.attach_call hn hdf fun w s₀ s₁ mg mb fa o pm cd doc a vs ns G Y ho hd hcd hmg hobj hints hlen hg => ?_
  obtain ⟨fd, hb, hF⟩ := F w mg fa _ (hY w _ Y) G.T.g hmg
  exact law_at (hY w _ Y) G.T.g G.T.b G.T.builtins G.T.nolimit hg hobj hints hlen hr hF hb
end FL
end
section
set_option autoImplicit false
namespace FL
open PySem PySem.Spec PyProof.Rows L2
/-! ### trees as the library's data -/
def keyP : Key → PyData
  | .inl i => .int i
  | .inr x => .str x
mutual
def toP : W → Option PyData
  | .non => some .none
  | .bl b => some (.bool b)
  | .int i => some (.int i)
  | .str x => some (.str x)
  | .tup ws => (toPs ws).map .tuple
  | .lst ws => (toPs ws).map .list
  | .dic ks ws => (toPs ws).bind fun ds => if ks.length = ds.length then some (.dict ((ks.map keyP).zip ds)) else none
  | .scr ns => some (.list (ns.map .int))
  | .loc _ => none
  | .ty _ => none
  | .tpf _ => none
  | .rng _ _ => none
  | .cod _ => none
def toPs : List W → Option (List PyData)
  | [] => some []
  | w :: r => (toP w).bind fun d => (toPs r).map fun ds => d :: ds
end
/-- .. with a place of the store on top -/
def toPS (S : Store) : W → Option PyData
  | .loc n => match S[n]? with
    | some (some (.lst ws)) => (toPs ws).map .list
    | _ => none
  | w => toP w
mutual
def hasL : PyData → Bool
  | .list _ => true
  | .tuple xs => hasLs xs
  | .dict kvs => hasLk kvs
  | _ => false
def hasLs : List PyData → Bool
  | [] => false
  | x :: xs => hasL x || hasLs xs
def hasLk : List (PyData × PyData) → Bool
  | [] => false
  | (k, v) :: xs => hasL k || hasL v || hasLk xs
end
theorem hasLk_keys : ∀ {ks : List Key} {ds : List PyData}, hasLs ds = true → ks.length = ds.length → hasLk ((ks.map keyP).zip ds) = true
  | [], [], h, _ => by cases h
  | [], _ :: _, _, h => by cases h
  | _ :: _, [], _, h => by cases h
  | k :: ks, d :: ds, h, hl => by
    have h' : hasL d = true ∨ hasLs ds = true := by simpa [hasLs] using h
    show (hasL (keyP k) || hasL d || hasLk ((ks.map keyP).zip ds)) = true
    rcases h' with h' | h'
    · rw [h']; simp
    · rw [hasLk_keys h' (by simpa using hl)]; simp
section
variable {X : Cx} {pins : List (Addr × Obj)} {σ : L2.St} {γ : List Addr} {C : Cfg} {s : Shared}
theorem reads_key {k : Key} {u : Value} (h : keyIs k u = true) : Reads s.heap u (keyP k) [] := by
  rcases keyIs_shape h with ⟨i, t, rfl, rfl⟩ | ⟨x, t, rfl, rfl⟩
  · exact Reads.int i t
  · exact Reads.str x t
theorem reads_keys : ∀ (ks : List Key) (us : List Value), (Paired (fun k u => keyIs k u = true) ks us) → ReadsAll s.heap us (ks.map keyP) []
  | [], _, .nil => .nil
  | k :: ks, _, .cons h r => ReadsAll.cons (as := []) (bs := []) (reads_key h) (reads_keys ks _ r)
theorem dk_pairs {P : Program} {w : World} : ∀ {kvs : List (Key × V)} {vs : List (Key × Value)} {es : List DictEntry}, KV kvs vs → Pairs (mixKind P w) es vs → Paired (fun k u => keyIs k u = true) (kvs.map Prod.fst) (es.map (·.key)) ∧ Vals (kvs.map Prod.snd) (es.map (·.val)) := by
  intro kvs vs es r
  unfold KV at r
  induction r generalizing es with
  | nil => intro h; cases h; exact ⟨.nil, .nil⟩
  | @cons p q ps qs h t ih =>
    intro hp
    cases hp with
    | cons h1 h2 h3 =>
      obtain ⟨a, b⟩ := ih h3
      refine ⟨.cons ?_ a, .cons ?_ b⟩
      · rw [h.1]; exact h1
      · show L2.RelV p.snd (DictEntry.val _); rw [h2]; exact h.2
mutual
theorem RV.reads (I : Inv X pins σ C.H s) : ∀ {v : V} {w : W} {d : PyData} {u : Value}, RV X.K γ C v w → toP w = some d → RelV v u → ∃ as, Reads s.heap u d as ∧ (sysModules ∈ as → hasL d = true)
  | _, _, _, _, .non, e, r => by cases e; cases r; exact ⟨_, .none, fun h => nomatch h⟩
  | _, _, _, _, .bl b, e, r => by cases e; cases r; exact ⟨_, .bool b, fun h => nomatch h⟩
  | _, _, _, _, .int i, e, r => by cases e; obtain ⟨t, rfl⟩ := r; exact ⟨_, .int i t, fun h => nomatch h⟩
  | _, _, _, _, .str x, e, r => by cases e; obtain ⟨t, rfl⟩ := r; exact ⟨_, .str x t, fun h => nomatch h⟩
  | _, _, _, _, .tup (ws := ws) h1 h2, e, r => by
    cases r
    obtain ⟨ds, e1, e2⟩ := Option.map_eq_some_iff.mp (show (toPs ws).map PyData.tuple = some _ from by simpa only [toP] using e)
    subst e2
    obtain ⟨its, rv, ⟨o, ho, hc, n, hd⟩, _⟩ := I.tuple (SqT.of h1)
    obtain ⟨as, hr, hm⟩ := RVs.reads I h2 e1 rv
    exact ⟨_, Reads.tuple ho hc hd hr, fun z => by simp only [hasL]; exact hm z⟩
  | _, _, _, _, .lst (ws := ws) h1 h3 h2, e, r => by
    cases r
    obtain ⟨ds, e1, e2⟩ := Option.map_eq_some_iff.mp (show (toPs ws).map PyData.list = some _ from by simpa only [toP] using e)
    subst e2
    obtain ⟨its, rv, ⟨o, n, ho, hc, _, hd⟩, _⟩ := I.list (SqL.of h1)
    obtain ⟨as, hr, hm⟩ := RVs.reads I h2 e1 rv
    exact ⟨_, Reads.list ho hc hd hr, fun _ => by simp only [hasL]⟩
  | _, _, _, _, .dic (kvs := kvs) (ws := ws) h1 h4 h5 h3 h2, e, r => by
    cases r
    subst h4
    subst h5
    obtain ⟨ds, e1, e2⟩ := Option.bind_eq_some_iff.mp (show (toPs ws).bind (fun ds => if (kvs.map Prod.fst).length = ds.length then some (PyData.dict (((kvs.map Prod.fst).map keyP).zip ds)) else none) = some _ from by simpa only [toP] using e)
    split at e2
    · rename_i hl
      cases e2
      obtain ⟨_, hsys, vs, kv, o, es, ep, ho, ⟨hx1, hx2⟩, hd, _, hes, hnd⟩ := I.hok _ _ h1
      obtain ⟨q1, q2⟩ := dk_pairs kv hes
      obtain ⟨bs, h6, h7⟩ := RVs.reads I h2 e1 q2
      have ek : ((kvs.map Prod.fst).map keyP).length = ds.length := by rw [List.length_map]; exact hl
      refine ⟨_, Reads.dict (as := []) (bs := bs) (kvs := ((kvs.map Prod.fst).map keyP).zip ds) ho hx1 hd ?_ ?_, fun z => ?_⟩
      · rw [List.map_fst_zip (Nat.le_of_eq ek)]; exact reads_keys _ _ q1
      · rw [List.map_snd_zip (Nat.le_of_eq ek.symm)]; exact h6
      · simp only [hasL]
        rcases List.mem_cons.mp (show sysModules ∈ _ :: ([] ++ bs) from z) with z | z
        · subst z
          simp at hsys
        · exact hasLk_keys (h7 z) hl
    · cases e2
  | _, _, _, _, .scr (ns := ns) h1, e, r => by
    cases r
    have e' : PyData.list (ns.map .int) = _ := Option.some.inj (show some (PyData.list (ns.map .int)) = some _ from by simpa only [toP] using e)
    subst e'
    obtain ⟨its, rv, ⟨o, n, ho, hc, _, hd⟩, _⟩ := I.list h1.sq
    have q : ∀ (ms : List Int) (us : List Value), Vals (ms.map V.int) us → ReadsAll s.heap us (ms.map PyData.int) [] := by
      intro ms
      induction ms with
      | nil => intro us h; cases h; exact .nil
      | cons m ms ih =>
        intro us h
        cases h with
        | cons h1 h2 =>
          obtain ⟨t, rfl⟩ := h1
          exact ReadsAll.cons (as := []) (bs := []) (Reads.int m t) (ih _ h2)
    exact ⟨_, Reads.list ho hc hd (q ns its rv), fun _ => by simp only [hasL]⟩
  | _, _, _, _, .loc _, e, _ => by simp only [toP] at e; cases e
  | _, _, _, _, .ty _, e, _ => by simp only [toP] at e; cases e
  | _, _, _, _, .tpf _ _, e, _ => by simp only [toP] at e; cases e
  | _, _, _, _, .rng _ _, e, _ => by simp only [toP] at e; cases e
  | _, _, _, _, .cod _ _, e, _ => by simp only [toP] at e; cases e
theorem RVs.reads (I : Inv X pins σ C.H s) : ∀ {vs : List V} {ws : List W} {ds : List PyData} {us : List Value}, RVs X.K γ C vs ws → toPs ws = some ds → Vals vs us → ∃ as, ReadsAll s.heap us ds as ∧ (sysModules ∈ as → hasLs ds = true)
  | _, _, _, _, .nil, e, r => by
    simp only [toPs] at e
    cases e; cases r
    exact ⟨_, .nil, fun h => nomatch h⟩
  | _, _, _, _, .cons (w := w) (ws := ws) h1 h2, e, r => by
    obtain ⟨d, e1, e2⟩ := Option.bind_eq_some_iff.mp (show (toP w).bind (fun d => (toPs ws).map fun ds => d :: ds) = some _ from by simpa only [toPs] using e)
    obtain ⟨ds, e3, e4⟩ := Option.map_eq_some_iff.mp e2
    subst e4
    cases r with
    | cons r1 r2 =>
      obtain ⟨as, q1, m1⟩ := RV.reads I h1 e1 r1
      obtain ⟨bs, q2, m2⟩ := RVs.reads I h2 e3 r2
      refine ⟨_, .cons q1 q2, fun z => ?_⟩
      simp only [hasLs]
      rcases List.mem_append.mp z with z | z
      · rw [m1 z]; rfl
      · rw [m2 z]; simp
end
end
/-! ### how long a representation is -/
def chk (x : Str) : Prop := ∀ c ∈ x.cps.toList, c < 16 ^ 8
theorem chk_of (s : String) : chk (Str.ofString s) := by
  intro c hc
  rw [Str.ofString_eq_toList] at hc
  obtain ⟨d, _, rfl⟩ := List.mem_map.mp (show c ∈ s.toList.map Char.toNat from by simpa using hc)
  have h : d.toNat < 1114112 := by
    have := d.valid
    unfold UInt32.isValidChar Nat.isValidChar at this
    have e : d.toNat = d.val.toNat := rfl
    rw [e]
    omega
  exact Nat.lt_trans h (by decide)
theorem chk_app {x y : Str} (hx : chk x) (hy : chk y) : chk (x ++ y) := by
  intro c hc
  have hc' : c ∈ (x.cps ++ y.cps).toList := hc
  rw [Array.toList_append] at hc'
  rcases List.mem_append.mp hc' with h | h
  · exact hx c h
  · exact hy c h
theorem chk_join {sep : Str} (hs : chk sep) : ∀ {ts : List Str}, (∀ t ∈ ts, chk t) → chk (Str.join sep ts)
  | [], _ => fun c hc => by simp [Str.join, Str.empty] at hc
  | [x], h => h x (by simp)
  | x :: y :: r, h => chk_app (chk_app (h x (by simp)) hs) (chk_join hs fun t ht => h t (List.mem_cons_of_mem _ ht))
theorem chk_from : ∀ {ts : List Str} {k : Nat} {acc : Str}, chk acc → (∀ t ∈ ts, chk t) → chk (textFrom k acc ts)
  | [], _, _, h, _ => h
  | t :: r, k, acc, h, ht => by
    show chk (textFrom (k + 1) (acc ++ (if k > 0 then ", " else "" : String) ++ t) r)
    exact chk_from (chk_app (chk_app h (chk_of _)) (ht t (by simp))) fun u hu => ht u (List.mem_cons_of_mem _ hu)
theorem chk_reprChar (q c : Nat) (hq : q < 16 ^ 8) (hc : c < 16 ^ 8) : ∀ d ∈ Builtin.Str.reprChar q c, d < 16 ^ 8 := by
  have hd : ∀ d ∈ (Nat.toDigits 16 c).map Char.toNat, d < 16 ^ 8 := by
    intro d h
    obtain ⟨e, _, rfl⟩ := List.mem_map.mp h
    have hh : e.toNat < 1114112 := by
      have := e.valid
      unfold UInt32.isValidChar Nat.isValidChar at this
      have e2 : e.toNat = e.val.toNat := rfl
      rw [e2]
      omega
    exact Nat.lt_trans hh (by decide)
  intro d h
  unfold Builtin.Str.reprChar at h
  dsimp only at h
  repeat' split at h
  all_goals simp only [List.mem_append, List.mem_cons, List.not_mem_nil, or_false, List.mem_replicate] at h
  all_goals first
    | (rcases h with rfl | rfl <;> first | exact hc | decide)
    | (subst h; exact hc)
    | (rcases h with (rfl | rfl) | ⟨_, rfl⟩ | h <;> first | exact hd _ h | decide)
theorem chk_repr {x : Str} (h : chk x) : chk (reprText x) := by
  have hq : reprQuote x < 16 ^ 8 := by
    unfold reprQuote
    split <;> decide
  have fold : ∀ (l : List Nat) (acc : Array Nat), (∀ c ∈ l, c < 16 ^ 8) → (∀ c ∈ acc.toList, c < 16 ^ 8) → ∀ c ∈ (l.foldl (fun out c => out ++ (Builtin.Str.reprChar (reprQuote x) c).toArray) acc).toList, c < 16 ^ 8 := by
    intro l
    induction l with
    | nil => intro acc _ ha; exact ha
    | cons b r ih =>
      intro acc hl ha
      refine ih _ (fun c hc => hl c (List.mem_cons_of_mem _ hc)) fun c hc => ?_
      rw [Array.toList_append] at hc
      rcases List.mem_append.mp hc with hc | hc
      · exact ha c hc
      · exact chk_reprChar _ b hq (hl b (by simp)) c (by simpa using hc)
  intro c hc
  have hc' : c ∈ ((x.cps.foldl (fun out c => out ++ (Builtin.Str.reprChar (reprQuote x) c).toArray) #[reprQuote x]).push (reprQuote x)).toList := hc
  rw [Array.toList_push, ← Array.foldl_toList] at hc'
  rcases List.mem_append.mp hc' with hc' | hc'
  · exact fold x.cps.toList #[reprQuote x] h (fun c hc => by simp at hc; rw [hc]; exact hq) c hc'
  · simp at hc'; rw [hc']; exact hq
mutual
def costP : PyData → Nat
  | .none => 4
  | .bool _ => 5
  | .int i => i.natAbs.log2 + 2
  | .str x => 10 * x.length + 2
  | .list xs | .tuple xs => 3 + costPs xs
  | .dict kvs => 3 + costPk kvs
def costPs : List PyData → Nat
  | [] => 0
  | x :: xs => costP x + 2 + costPs xs
def costPk : List (PyData × PyData) → Nat
  | [] => 0
  | (k, v) :: xs => costP k + costP v + 4 + costPk xs
end
mutual
def okP : PyData → Prop
  | .str x => chk x
  | .list xs | .tuple xs => okPs xs
  | .dict kvs => okPk kvs
  | _ => True
def okPs : List PyData → Prop
  | [] => True
  | x :: xs => okP x ∧ okPs xs
def okPk : List (PyData × PyData) → Prop
  | [] => True
  | (k, v) :: xs => okP k ∧ okP v ∧ okPk xs
end
def lens : List Str → Nat
  | [] => 0
  | t :: r => t.length + 2 + lens r
theorem join_le : ∀ ts : List Str, (Str.join ", " ts).length ≤ lens ts
  | [] => Nat.zero_le _
  | [x] => by show x.length ≤ x.length + 2 + 0; omega
  | x :: y :: r => by
    show (x ++ ", " ++ Str.join ", " (y :: r)).length ≤ x.length + 2 + lens (y :: r)
    rw [strLen_append, strLen_append]
    have := join_le (y :: r)
    have e : ((", " : String) : Str).length = 2 := by decide +kernel
    omega
theorem from_le : ∀ (ts : List Str) (k : Nat) (acc : Str), (textFrom k acc ts).length ≤ acc.length + lens ts
  | [], k, acc => by show acc.length ≤ acc.length + 0; omega
  | t :: r, k, acc => by
    have h := from_le r (k + 1) (acc ++ (if k > 0 then ", " else "" : String) ++ t)
    have e : (((if k > 0 then ", " else "" : String)) : Str).length ≤ 2 := by split <;> decide +kernel
    rw [strLen_append, strLen_append] at h
    show (textFrom (k + 1) (acc ++ (if k > 0 then ", " else "" : String) ++ t) r).length ≤ acc.length + (t.length + 2 + lens r)
    omega
mutual
theorem shown_ok : ∀ d : PyData, okP d → chk d.shown ∧ d.shown.length ≤ costP d
  | .none, _ => by simp only [PyData.shown]; exact ⟨chk_of _, by decide +kernel⟩
  | .bool b, _ => by
    simp only [PyData.shown]
    cases b
    · exact ⟨chk_of "False", by decide +kernel⟩
    · exact ⟨chk_of "True", by decide +kernel⟩
  | .int i, _ => by
    simp only [PyData.shown]
    refine ⟨chk_of _, ?_⟩
    have h := int_text_length_le (a := i) (k := i.natAbs.log2 + 1) (by omega) (by omega)
    have e : (Str.ofString (toString i)).length = (toString i).length := by
      rw [Str.ofString_eq_toList]
      show ((toString i).toList.map Char.toNat).toArray.size = _
      rw [List.size_toArray, List.length_map]
      exact String.length_toList
    show (Str.ofString (toString i)).length ≤ costP (.int i)
    rw [e]
    simp only [costP]
    omega
  | .str x, h => by
    simp only [okP] at h
    simp only [PyData.shown, costP]
    exact ⟨chk_repr h, StrLaws.reprText_len x h⟩
  | .list xs, h => by
    simp only [okP] at h
    obtain ⟨h1, h2⟩ := shown_oks xs h
    simp only [PyData.shown, costP]
    refine ⟨chk_app (chk_from (chk_of _) h1) (chk_of _), ?_⟩
    show (textFrom 0 "[" (PyData.shownAll xs) ++ ((("]" : String)) : Str)).length ≤ _
    rw [strLen_append]
    have h3 := from_le (PyData.shownAll xs) 0 "["
    have e1 : ((("[" : String)) : Str).length = 1 := by decide +kernel
    have e2 : ((("]" : String)) : Str).length = 1 := by decide +kernel
    omega
  | .tuple xs, h => by
    simp only [okP] at h
    obtain ⟨h1, h2⟩ := shown_oks xs h
    simp only [PyData.shown, costP]
    unfold tupleText
    refine ⟨chk_app (chk_app (chk_of _) (chk_join (chk_of _) h1)) (chk_of _), ?_⟩
    rw [strLen_append, strLen_append]
    have h3 := join_le (PyData.shownAll xs)
    have e1 : ((("(" : String)) : Str).length = 1 := by decide +kernel
    have e2 : (((if (PyData.shownAll xs).length == 1 then ",)" else ")" : String)) : Str).length ≤ 2 := by split <;> decide +kernel
    omega
  | .dict kvs, h => by
    simp only [okP] at h
    obtain ⟨h1, h2⟩ := shown_okk kvs h
    simp only [PyData.shown, costP]
    unfold dictText
    refine ⟨chk_app (chk_app (chk_of _) (chk_join (chk_of _) h1)) (chk_of _), ?_⟩
    rw [strLen_append, strLen_append]
    have h3 := join_le (PyData.shownKv kvs)
    have e1 : ((("{" : String)) : Str).length = 1 := by decide +kernel
    have e2 : ((("}" : String)) : Str).length = 1 := by decide +kernel
    omega
theorem shown_oks : ∀ ds : List PyData, okPs ds → (∀ t ∈ PyData.shownAll ds, chk t) ∧ lens (PyData.shownAll ds) ≤ costPs ds
  | [], _ => by simp only [PyData.shownAll]; exact ⟨fun t h => (nomatch h), Nat.le_refl _⟩
  | d :: ds, h => by
    simp only [okPs] at h
    obtain ⟨h1, h2⟩ := shown_ok d h.1
    obtain ⟨h3, h4⟩ := shown_oks ds h.2
    simp only [PyData.shownAll, costPs, lens]
    refine ⟨fun t ht => ?_, by omega⟩
    rcases List.mem_cons.mp ht with e | e
    · rw [e]; exact h1
    · exact h3 t e
theorem shown_okk : ∀ ds : List (PyData × PyData), okPk ds → (∀ t ∈ PyData.shownKv ds, chk t) ∧ lens (PyData.shownKv ds) ≤ costPk ds
  | [], _ => by simp only [PyData.shownKv]; exact ⟨fun t h => (nomatch h), Nat.le_refl _⟩
  | (k, v) :: ds, h => by
    simp only [okPk] at h
    obtain ⟨h1, h2⟩ := shown_ok k h.1
    obtain ⟨h3, h4⟩ := shown_ok v h.2.1
    obtain ⟨h5, h6⟩ := shown_okk ds h.2.2
    have e1 : (((": " : String)) : Str).length = 2 := by decide +kernel
    simp only [PyData.shownKv, costPk, lens]
    refine ⟨fun t ht => ?_, by rw [strLen_append, strLen_append]; omega⟩
    rcases List.mem_cons.mp ht with e | e
    · rw [e]; exact chk_app (chk_app h1 (chk_of _)) h3
    · exact h5 t e
end
end FL
end
section
set_option autoImplicit false
namespace FL
open PySem PySem.Spec PyProof.Rows L2
/-! ### measures of trees -/
def chkB (x : Str) : Bool := x.cps.toList.all fun c => decide (c < 16 ^ 8)
theorem chkB_iff {x : Str} : chkB x = true ↔ chk x := by
  unfold chkB chk
  rw [List.all_eq_true]
  exact ⟨fun h c hc => of_decide_eq_true (h c hc), fun h c hc => decide_eq_true (h c hc)⟩
def keyG : Key → Bool
  | .inl i => decide (i.natAbs.log2 < 1920)
  | .inr x => chkB x
def keyC : Key → Nat
  | .inl i => i.natAbs.log2 + 2
  | .inr x => 10 * x.length + 2
mutual
def good : W → Bool
  | .int i => decide (i.natAbs.log2 < 1920)
  | .str x => chkB x
  | .tup ws => goods ws
  | .lst ws => goods ws
  | .dic ks ws => decide (ks.length = ws.length) && ks.all keyG && goods ws
  | .scr _ => false
  | .loc _ => false
  | .ty _ => false
  | .tpf _ => false
  | .rng _ _ => false
  | .cod _ => false
  | _ => true
def goods : List W → Bool
  | [] => true
  | w :: ws => good w && goods ws
end
mutual
def wCost : W → Nat
  | .non => 4
  | .bl _ => 5
  | .int i => i.natAbs.log2 + 2
  | .str x => 10 * x.length + 2
  | .tup ws => 3 + wCosts ws
  | .lst ws => 3 + wCosts ws
  | .dic ks ws => 3 + (ks.map keyC).sum + 4 * ws.length + wCosts ws
  | _ => 0
def wCosts : List W → Nat
  | [] => 0
  | w :: ws => wCost w + 2 + wCosts ws
end
mutual
def wDep : W → Nat
  | .tup ws => wDeps ws + 1
  | .lst ws => wDeps ws + 1
  | .dic _ ws => wDeps ws + 1
  | _ => 0
def wDeps : List W → Nat
  | [] => 0
  | w :: ws => max (wDep w) (wDeps ws)
end
mutual
def hD : W → Bool
  | .tup ws => hDs ws
  | .lst ws => hDs ws
  | .dic _ _ => true
  | _ => false
def hDs : List W → Bool
  | [] => false
  | w :: ws => hD w || hDs ws
end
mutual
def hL : W → Bool
  | .tup ws => hLs ws
  | .lst _ => true
  | .dic _ ws => hLs ws
  | _ => false
def hLs : List W → Bool
  | [] => false
  | w :: ws => hL w || hLs ws
end
structure GoodP (w : W) (d : PyData) : Prop where
  sh : d.showable = true
  ok : okP d
  co : costP d ≤ wCost w
  de : d.depth = wDep w
  di : d.hasDict = hD w
  li : hasL d = hL w
structure GoodPs (w : List W) (d : List PyData) : Prop where
  ln : w.length = d.length
  sh : PyData.showableAll d = true
  ok : okPs d
  co : costPs d ≤ wCosts w
  de : PyData.depthAll d = wDeps w
  di : PyData.hasDictAll d = hDs w
  li : hasLs d = hLs w
theorem dic_ok : ∀ (ks : List Key) (ws : List W) (ds : List PyData), GoodPs ws ds → ks.length = ws.length → ks.all keyG = true →
    PyData.showableKv ((ks.map keyP).zip ds) = true ∧ okPk ((ks.map keyP).zip ds) ∧ costPk ((ks.map keyP).zip ds) ≤ (ks.map keyC).sum + 4 * ws.length + costPs ds ∧ PyData.depthKv ((ks.map keyP).zip ds) = PyData.depthAll ds ∧ hasLk ((ks.map keyP).zip ds) = hasLs ds := by
  intro ks
  induction ks with
  | nil =>
    intro ws ds g hl _
    have e : ws = [] := List.eq_nil_of_length_eq_zero hl.symm
    subst e
    have e2 : ds = [] := List.eq_nil_of_length_eq_zero g.ln.symm
    subst e2
    exact ⟨rfl, trivial, Nat.zero_le _, rfl, rfl⟩
  | cons k ks ih =>
    intro ws ds g hl hk
    cases ws with
    | nil => cases hl
    | cons w ws =>
      cases ds with
      | nil => cases g.ln
      | cons d ds =>
        have hk' : keyG k = true ∧ ks.all keyG = true := by simpa using hk
        have sh : d.showable = true ∧ PyData.showableAll ds = true := by simpa [PyData.showableAll] using g.sh
        have ok : okP d ∧ okPs ds := by simpa only [okPs] using g.ok
        obtain ⟨h1, h2, h3, h4, h5⟩ : PyData.showableKv ((ks.map keyP).zip ds) = true ∧ okPk ((ks.map keyP).zip ds) ∧ costPk ((ks.map keyP).zip ds) ≤ (ks.map keyC).sum + 4 * ws.length + costPs ds ∧ PyData.depthKv ((ks.map keyP).zip ds) = PyData.depthAll ds ∧ hasLk ((ks.map keyP).zip ds) = hasLs ds := by
          have aux : ∀ (ks : List Key) (n : Nat) (ds : List PyData), ks.length = n → n = ds.length → ks.all keyG = true → PyData.showableAll ds = true → okPs ds →
              PyData.showableKv ((ks.map keyP).zip ds) = true ∧ okPk ((ks.map keyP).zip ds) ∧ costPk ((ks.map keyP).zip ds) ≤ (ks.map keyC).sum + 4 * n + costPs ds ∧ PyData.depthKv ((ks.map keyP).zip ds) = PyData.depthAll ds ∧ hasLk ((ks.map keyP).zip ds) = hasLs ds := by
            intro ks
            induction ks with
            | nil =>
              intro n ds e1 e2 _ _ _
              have e : ds = [] := List.eq_nil_of_length_eq_zero (by rw [← e2, ← e1]; rfl)
              subst e
              exact ⟨rfl, trivial, Nat.zero_le _, rfl, rfl⟩
            | cons k ks ih2 =>
              intro n ds e1 e2 hk hs ho
              cases ds with
              | nil => rw [← e1] at e2; cases e2
              | cons d ds =>
                have hk' : keyG k = true ∧ ks.all keyG = true := by simpa using hk
                have hs' : d.showable = true ∧ PyData.showableAll ds = true := by simpa [PyData.showableAll] using hs
                have ho' : okP d ∧ okPs ds := by simpa only [okPs] using ho
                cases n with
                | zero => cases e1
                | succ n =>
                  obtain ⟨q1, q2, q3, q4, q5⟩ := ih2 n ds (by simpa using e1) (by simpa using e2) hk'.2 hs'.2 ho'.2
                  have kk : (keyP k).showable = true ∧ okP (keyP k) ∧ costP (keyP k) = keyC k ∧ (keyP k).depth = 0 ∧ hasL (keyP k) = false := by
                    cases k with
                    | inl i => exact ⟨by simpa [keyP, PyData.showable, keyG] using hk'.1, trivial, rfl, rfl, rfl⟩
                    | inr x => exact ⟨rfl, chkB_iff.mp hk'.1, rfl, rfl, rfl⟩
                  refine ⟨?_, ?_, ?_, ?_, ?_⟩
                  · show ((keyP k).showable && d.showable && PyData.showableKv ((ks.map keyP).zip ds)) = true
                    rw [kk.1, hs'.1, q1]; rfl
                  · exact ⟨kk.2.1, ho'.1, q2⟩
                  · show costP (keyP k) + costP d + 4 + costPk ((ks.map keyP).zip ds) ≤ (keyC k :: ks.map keyC).sum + 4 * (n + 1) + (costP d + 2 + costPs ds)
                    rw [kk.2.2.1, List.sum_cons]; omega
                  · show max (max (keyP k).depth d.depth) (PyData.depthKv ((ks.map keyP).zip ds)) = max d.depth (PyData.depthAll ds)
                    rw [kk.2.2.2.1, q4, Nat.zero_max]
                  · show (hasL (keyP k) || hasL d || hasLk ((ks.map keyP).zip ds)) = (hasL d || hasLs ds)
                    rw [kk.2.2.2.2, q5, Bool.false_or]
          exact aux ks ws.length ds (by simpa using hl) (by simpa using g.ln) hk'.2 sh.2 ok.2
        have kk : (keyP k).showable = true ∧ okP (keyP k) ∧ costP (keyP k) = keyC k ∧ (keyP k).depth = 0 ∧ hasL (keyP k) = false := by
          cases k with
          | inl i => exact ⟨by simpa [keyP, PyData.showable, keyG] using hk'.1, trivial, rfl, rfl, rfl⟩
          | inr x => exact ⟨rfl, chkB_iff.mp hk'.1, rfl, rfl, rfl⟩
        refine ⟨?_, ?_, ?_, ?_, ?_⟩
        · show ((keyP k).showable && d.showable && PyData.showableKv ((ks.map keyP).zip ds)) = true
          rw [kk.1, sh.1, h1]; rfl
        · exact ⟨kk.2.1, ok.1, h2⟩
        · show costP (keyP k) + costP d + 4 + costPk ((ks.map keyP).zip ds) ≤ (keyC k :: ks.map keyC).sum + 4 * (ws.length + 1) + (costP d + 2 + costPs ds)
          rw [kk.2.2.1, List.sum_cons]; omega
        · show max (max (keyP k).depth d.depth) (PyData.depthKv ((ks.map keyP).zip ds)) = max d.depth (PyData.depthAll ds)
          rw [kk.2.2.2.1, h4, Nat.zero_max]
        · show (hasL (keyP k) || hasL d || hasLk ((ks.map keyP).zip ds)) = (hasL d || hasLs ds)
          rw [kk.2.2.2.2, h5, Bool.false_or]
mutual
theorem good_ok : ∀ w : W, good w = true → ∃ d, toP w = some d ∧ GoodP w d
  | .non, _ => ⟨.none, by simp only [toP], rfl, trivial, Nat.le_refl _, rfl, rfl, rfl⟩
  | .bl b, _ => ⟨.bool b, by simp only [toP], rfl, trivial, Nat.le_refl _, rfl, rfl, rfl⟩
  | .int i, h => ⟨.int i, by simp only [toP], by simpa only [PyData.showable, good] using h, trivial, Nat.le_refl _, rfl, rfl, rfl⟩
  | .str x, h => ⟨.str x, by simp only [toP], rfl, chkB_iff.mp (by simpa only [good] using h), Nat.le_refl _, rfl, rfl, rfl⟩
  | .tup ws, h => by
    obtain ⟨ds, e, g⟩ := goods_ok ws (by simpa only [good] using h)
    refine ⟨.tuple ds, by simp only [toP, e]; rfl, by simpa only [PyData.showable] using g.sh, by simpa only [okP] using g.ok, ?_, ?_, ?_, ?_⟩
    · simp only [costP, wCost]; have := g.co; omega
    · simp only [PyData.depth, wDep, g.de]
    · simp only [PyData.hasDict, hD, g.di]
    · simp only [hasL, hL, g.li]
  | .lst ws, h => by
    obtain ⟨ds, e, g⟩ := goods_ok ws (by simpa only [good] using h)
    refine ⟨.list ds, by simp only [toP, e]; rfl, by simpa only [PyData.showable] using g.sh, by simpa only [okP] using g.ok, ?_, ?_, ?_, ?_⟩
    · simp only [costP, wCost]; have := g.co; omega
    · simp only [PyData.depth, wDep, g.de]
    · simp only [PyData.hasDict, hD, g.di]
    · simp only [hasL, hL]
  | .dic ks ws, h => by
    have h' : (ks.length = ws.length ∧ ks.all keyG = true) ∧ goods ws = true := by simpa only [good, Bool.and_eq_true, decide_eq_true_eq] using h
    obtain ⟨ds, e, g⟩ := goods_ok ws h'.2
    obtain ⟨h1, h2, h3, h4, h5⟩ := dic_ok ks ws ds g h'.1.1 h'.1.2
    refine ⟨.dict ((ks.map keyP).zip ds), by simp only [toP, e, Option.bind_some]; rw [if_pos (h'.1.1.trans g.ln)], by simpa only [PyData.showable] using h1, by simpa only [okP] using h2, ?_, ?_, ?_, ?_⟩
    · simp only [costP, wCost]; have := g.co; omega
    · simp only [PyData.depth, wDep, h4, g.de]
    · simp only [PyData.hasDict, hD]
    · simp only [hasL, hL, h5, g.li]
  | .scr _, h => by simp only [good] at h; cases h
  | .loc _, h => by simp only [good] at h; cases h
  | .ty _, h => by simp only [good] at h; cases h
theorem goods_ok : ∀ ws : List W, goods ws = true → ∃ ds, toPs ws = some ds ∧ GoodPs ws ds
  | [], _ => ⟨[], by simp only [toPs], rfl, rfl, trivial, Nat.le_refl _, rfl, rfl, rfl⟩
  | w :: ws, h => by
    have h' : good w = true ∧ goods ws = true := by simpa only [goods, Bool.and_eq_true] using h
    obtain ⟨d, e1, g1⟩ := good_ok w h'.1
    obtain ⟨ds, e2, g2⟩ := goods_ok ws h'.2
    refine ⟨d :: ds, by simp only [toPs, e1, e2]; rfl, ?_, ?_, ?_, ?_, ?_, ?_, ?_⟩
    · simp only [List.length_cons, g2.ln]
    · simp only [PyData.showableAll, g1.sh, g2.sh, Bool.and_self]
    · simp only [okPs]; exact ⟨g1.ok, g2.ok⟩
    · simp only [costPs, wCosts]; have := g1.co; have := g2.co; omega
    · simp only [PyData.depthAll, wDeps, g1.de, g2.de]
    · simp only [PyData.hasDictAll, hDs, g1.di, g2.di]
    · simp only [hasLs, hLs, g1.li, g2.li]
end
/-! ### repr -/
def deloc (S : Store) : W → W
  | .loc n => match S[n]? with
    | some (some (.lst ws)) => .lst ws
    | _ => .loc n
  | w => w
def shw (w : W) : Str := match toP w with
  | some d => d.shown
  | none => Str.empty
structure ReprOk (w : W) : Prop where
  g : good w = true
  c : wCost w ≤ sizeLine
  d : wDep w ≤ 60
  m : (hD w && hL w) = false
def rdRepr : List W → Store → WK → Prop := fun ws S Q => match ws with
  | [w] => ReprOk (deloc S w) ∧ Q (.str (shw (deloc S w))) S
  | _ => False
theorem shw_ok {w : W} (h : good w = true) : chk (shw w) ∧ (shw w).length ≤ wCost w := by
  obtain ⟨d, e, g⟩ := good_ok w h
  unfold shw
  rw [e]
  obtain ⟨h1, h2⟩ := shown_ok d g.ok
  exact ⟨h1, Nat.le_trans h2 g.co⟩
section
variable {X : Cx}
theorem deloc_reads {pins : List (Addr × Obj)} {σ : L2.St} {γ : List Addr} {C : Cfg} {s : Shared} (I : Inv X pins σ C.H s) (sim : Sim X.K γ C) {v : V} {w : W} {d : PyData} {u : Value} (r : RV X.K γ C v w) (e : toP (deloc C.S w) = some d) (ru : L2.RelV v u) :
    ∃ as, Reads s.heap u d as ∧ (sysModules ∈ as → hasL d = true) := by
  by_cases hw : ∃ n, w = .loc n
  · obtain ⟨n, rfl⟩ := hw
    cases r with
    | @loc _ a hn =>
      have e' : toP (match C.S[n]? with | some (some (.lst ws)) => .lst ws | _ => .loc n) = some d := e
      split at e'
      · rename_i ws e1
        obtain ⟨xs, p1, p2⟩ := sim.cell n a _ hn e1
        cases ru
        obtain ⟨ds, e2, e3⟩ := Option.map_eq_some_iff.mp (show (toPs ws).map PyData.list = some d from by simpa only [toP] using e')
        subst e3
        obtain ⟨its, rv, ⟨o, m, ho, hc, _, hd⟩, _⟩ := I.list (SqL.of p1)
        obtain ⟨as, hr, hm⟩ := RVs.reads I p2 e2 rv
        exact ⟨_, Reads.list ho hc hd hr, fun _ => by simp only [hasL]⟩
      · simp only [toP] at e'; cases e'
  · have : deloc C.S w = w := by
      cases w <;> first | rfl | exact absurd ⟨_, rfl⟩ hw
    rw [this] at e
    exact RV.reads I r e ru
theorem cd_repr {k : Nat} (hgd : X.A.guards = some []) (hr : Room k X.A) : CallD X (.builtin "repr") rdRepr := by
  refine ⟨fun vs H Q => ∃ γ C v w, C.H = H ∧ vs = [v] ∧ Sim X.K γ C ∧ RV X.K γ C v w ∧ ReprOk (deloc C.S w) ∧ Q (.str (shw (deloc C.S w))) H, ?_, fun γ C vs ws Qd Q hs r h k => ?_⟩
  · intro pins s σ H vs us Q I rv h
    obtain ⟨γ, C, v, w, rfl, rfl, sim, r, ok, q⟩ := h
    obtain ⟨u, rfl, ru⟩ := vals1 rv
    obtain ⟨d, e, g⟩ := good_ok _ ok.g
    obtain ⟨as, rd, hm⟩ := deloc_reads I sim r e ru
    have hsm : d.hasDict = true → sysModules ∉ as := fun h1 h2 => by
      have q1 := hm h2
      have q2 := ok.m
      rw [← g.di, ← g.li, h1, q1] at q2
      cases q2
    obtain ⟨hc, hlen⟩ := shown_ok d g.ok
    have hsz : d.shown.length ≤ sizeLine := Nat.le_trans hlen (Nat.le_trans g.co ok.c)
    have hu := hr.units
    have hdep : d.depth ≤ 60 := by rw [g.de]; exact ok.d
    have es : shw (deloc C.S w) = d.shown := by unfold shw; rw [e]
    rw [es] at q
    have fin : ∀ (h' : Heap) (t tk : Tok), (∀ b o, s.heap.get? b = some o → h'.get? b = some o) → EP X pins σ Q (.str d.shown t) { s with heap := h', toks := tk } := fun h' t tk hk => ⟨.str d.shown, C.H, I.kept hk, ⟨t, rfl⟩, q⟩
    have sh := g.sh
    cases rd with
    | none =>
      have := fin s.heap s.toks (s.toks + 1) (fun _ _ z => z)
      simp only [PyData.shown] at this
      exact PySem.P.repr_of_none this
    | bool b =>
      have := fin s.heap s.toks (s.toks + 1) (fun _ _ z => z)
      simp only [PyData.shown] at this
      exact PySem.P.repr_of_bool this
    | int i t =>
      have := fin s.heap s.toks (s.toks + 1) (fun _ _ z => z)
      simp only [PyData.shown] at this
      exact PySem.P.repr_of_int (by simpa [PyData.showable] using sh) this
    | str x t =>
      have := fin s.heap s.toks (s.toks + 1) (fun _ _ z => z)
      simp only [PyData.shown] at this hsz
      exact PySem.P.repr_of_str this hsz
    | list h1 h2 h3 h4 => exact PySem.repr_of_reads' (.list h1 h2 h3 h4) sh hsm hgd (by omega) (fun _ _ z => z) (fun h' t tk hk => fin h' t tk hk) hsz
    | tuple h1 h2 h3 h4 => exact PySem.repr_of_reads' (.tuple h1 h2 h3 h4) sh hsm hgd (by omega) (fun _ _ z => z) (fun h' t tk hk => fin h' t tk hk) hsz
    | dict h1 h2 h3 h4 h5 => exact PySem.repr_of_reads' (.dict h1 h2 h3 h4 h5) sh hsm hgd (by omega) (fun _ _ z => z) (fun h' t tk hk => fin h' t tk hk) hsz
  · unfold rdRepr at h
    split at h
    · rename_i w
      cases r with
      | @cons v _ _ _ r1 r2 =>
        cases r2
        exact ⟨γ, C, v, w, rfl, rfl, hs, r1, h.1, k C _ _ h.2 hs (.refl _ _) (.str _)⟩
    · exact h.elim
end
end FL
end
section
set_option autoImplicit false
namespace FL
open PySem PySem.Spec PyProof.Rows L2
/-! ### == of data -/
mutual
def eqW : W → W → Bool
  | .non, b => isNon b
  | .bl a, b => (match b with
    | .bl b => a == b
    | .int j => (if a then 1 else 0) == j
    | _ => false)
  | .int i, b => (match b with
    | .bl b => i == (if b then 1 else 0)
    | .int j => i == j
    | _ => false)
  | .str x, b => (match b with
    | .str y => x == y
    | _ => false)
  | .tup xs, b => (match b with
    | .tup ys => eqWs xs ys
    | _ => false)
  | .lst xs, b => (match b with
    | .lst ys => eqWs xs ys
    | _ => false)
  | _, _ => false
def eqWs : List W → List W → Bool
  | [], ys => ys.isEmpty
  | x :: xs, ys => (match ys with
    | y :: ys => eqW x y && eqWs xs ys
    | [] => false)
end
mutual
def eqG : W → Bool
  | .non => true
  | .bl _ => true
  | .int _ => true
  | .str x => PyData.strOk x
  | .tup ws => eqGs ws
  | .lst ws => eqGs ws
  | _ => false
def eqGs : List W → Bool
  | [] => true
  | w :: ws => eqG w && eqGs ws
end
structure EqP (w : W) (d : PyData) : Prop where
  lay : d.canLay0 = true
  de : d.depth = wDep w
mutual
theorem eqG_ok : ∀ w : W, eqG w = true → ∃ d, toP w = some d ∧ EqP w d
  | .non, _ => ⟨.none, by simp only [toP], rfl, rfl⟩
  | .bl b, _ => ⟨.bool b, by simp only [toP], rfl, rfl⟩
  | .int i, _ => ⟨.int i, by simp only [toP], rfl, rfl⟩
  | .str x, h => ⟨.str x, by simp only [toP], by simpa only [eqG, PyData.canLay0] using h, rfl⟩
  | .tup ws, h => by
    obtain ⟨ds, e, h1, h2⟩ := eqGs_ok ws (by simpa only [eqG] using h)
    exact ⟨.tuple ds, by simp only [toP, e]; rfl, by simpa only [PyData.canLay0] using h1, by simp only [PyData.depth, wDep, h2]⟩
  | .lst ws, h => by
    obtain ⟨ds, e, h1, h2⟩ := eqGs_ok ws (by simpa only [eqG] using h)
    exact ⟨.list ds, by simp only [toP, e]; rfl, by simpa only [PyData.canLay0] using h1, by simp only [PyData.depth, wDep, h2]⟩
  | .dic _ _, h => by simp only [eqG] at h; cases h
  | .scr _, h => by simp only [eqG] at h; cases h
  | .loc _, h => by simp only [eqG] at h; cases h
  | .ty _, h => by simp only [eqG] at h; cases h
theorem eqGs_ok : ∀ ws : List W, eqGs ws = true → ∃ ds, toPs ws = some ds ∧ PyData.canLayAll0 ds = true ∧ PyData.depthAll ds = wDeps ws
  | [], _ => ⟨[], by simp only [toPs], rfl, rfl⟩
  | w :: ws, h => by
    have h' : eqG w = true ∧ eqGs ws = true := by simpa only [eqGs, Bool.and_eq_true] using h
    obtain ⟨d, e1, g1⟩ := eqG_ok w h'.1
    obtain ⟨ds, e2, g2, g3⟩ := eqGs_ok ws h'.2
    exact ⟨d :: ds, by simp only [toPs, e1, e2]; rfl, by simp only [PyData.canLayAll0, g1.lay, g2, Bool.and_self], by simp only [PyData.depthAll, wDeps, g1.de, g3]⟩
end
mutual
theorem eqv_eqW : ∀ (a b : W) (d e : PyData), eqG a = true → eqG b = true → toP a = some d → toP b = some e → PyData.eqv d e = eqW a b
  | .non, b, d, e, ha, hb, h1, h2 => by
    simp only [toP] at h1; cases h1
    cases b <;> simp only [eqG] at hb <;> first | (cases hb; done) | skip
    all_goals simp only [toP] at h2
    all_goals first | (cases h2; simp only [PyData.eqv, eqW, isNon]; done) | (obtain ⟨ds, _, e2⟩ := Option.map_eq_some_iff.mp h2; subst e2; simp only [PyData.eqv, eqW, isNon])
  | .bl c, b, d, e, ha, hb, h1, h2 => by
    simp only [toP] at h1; cases h1
    cases b <;> simp only [eqG] at hb <;> first | (cases hb; done) | skip
    all_goals simp only [toP] at h2
    all_goals first | (cases h2; simp only [PyData.eqv, eqW]; done) | (obtain ⟨ds, _, e2⟩ := Option.map_eq_some_iff.mp h2; subst e2; simp only [PyData.eqv, eqW])
  | .int c, b, d, e, ha, hb, h1, h2 => by
    simp only [toP] at h1; cases h1
    cases b <;> simp only [eqG] at hb <;> first | (cases hb; done) | skip
    all_goals simp only [toP] at h2
    all_goals first | (cases h2; simp only [PyData.eqv, eqW]; done) | (obtain ⟨ds, _, e2⟩ := Option.map_eq_some_iff.mp h2; subst e2; simp only [PyData.eqv, eqW])
  | .str c, b, d, e, ha, hb, h1, h2 => by
    simp only [toP] at h1; cases h1
    cases b <;> simp only [eqG] at hb <;> first | (cases hb; done) | skip
    all_goals simp only [toP] at h2
    all_goals first | (cases h2; simp only [PyData.eqv, eqW]; done) | (obtain ⟨ds, _, e2⟩ := Option.map_eq_some_iff.mp h2; subst e2; simp only [PyData.eqv, eqW])
  | .tup xs, b, d, e, ha, hb, h1, h2 => by
    simp only [toP] at h1
    obtain ⟨ds, e1, e2⟩ := Option.map_eq_some_iff.mp h1
    subst e2
    simp only [eqG] at ha
    cases b <;> simp only [eqG] at hb <;> first | (cases hb; done) | skip
    all_goals simp only [toP] at h2
    all_goals first | (cases h2; simp only [PyData.eqv, eqW]; done) | (obtain ⟨es, e3, e2⟩ := Option.map_eq_some_iff.mp h2; subst e2; simp only [PyData.eqv, eqW]; first | done | exact eqv_eqWs xs _ ds es ha hb e1 e3)
  | .lst xs, b, d, e, ha, hb, h1, h2 => by
    simp only [toP] at h1
    obtain ⟨ds, e1, e2⟩ := Option.map_eq_some_iff.mp h1
    subst e2
    simp only [eqG] at ha
    cases b <;> simp only [eqG] at hb <;> first | (cases hb; done) | skip
    all_goals simp only [toP] at h2
    all_goals first | (cases h2; simp only [PyData.eqv, eqW]; done) | (obtain ⟨es, e3, e2⟩ := Option.map_eq_some_iff.mp h2; subst e2; simp only [PyData.eqv, eqW]; first | done | exact eqv_eqWs xs _ ds es ha hb e1 e3)
  | .dic _ _, _, _, _, ha, _, _, _ => by simp only [eqG] at ha; cases ha
  | .scr _, _, _, _, ha, _, _, _ => by simp only [eqG] at ha; cases ha
  | .loc _, _, _, _, ha, _, _, _ => by simp only [eqG] at ha; cases ha
  | .ty _, _, _, _, ha, _, _, _ => by simp only [eqG] at ha; cases ha
theorem eqv_eqWs : ∀ (a b : List W) (d e : List PyData), eqGs a = true → eqGs b = true → toPs a = some d → toPs b = some e → PyData.eqvAll d e = eqWs a b
  | [], b, d, e, ha, hb, h1, h2 => by
    simp only [toPs] at h1; cases h1
    cases b with
    | nil => simp only [toPs] at h2; cases h2; simp only [PyData.eqvAll, eqWs, List.isEmpty_nil]
    | cons y ys =>
      simp only [toPs] at h2
      obtain ⟨q, _, h3⟩ := Option.bind_eq_some_iff.mp h2
      obtain ⟨qs, _, h4⟩ := Option.map_eq_some_iff.mp h3
      subst h4
      simp only [PyData.eqvAll, eqWs, List.isEmpty_cons]
  | x :: xs, b, d, e, ha, hb, h1, h2 => by
    simp only [toPs] at h1
    obtain ⟨p, k1, h3⟩ := Option.bind_eq_some_iff.mp h1
    obtain ⟨ps, k2, h4⟩ := Option.map_eq_some_iff.mp h3
    subst h4
    have ha' : eqG x = true ∧ eqGs xs = true := by simpa only [eqGs, Bool.and_eq_true] using ha
    cases b with
    | nil => simp only [toPs] at h2; cases h2; simp only [PyData.eqvAll, eqWs]
    | cons y ys =>
      simp only [toPs] at h2
      obtain ⟨q, k3, h5⟩ := Option.bind_eq_some_iff.mp h2
      obtain ⟨qs, k4, h6⟩ := Option.map_eq_some_iff.mp h5
      subst h6
      have hb' : eqG y = true ∧ eqGs ys = true := by simpa only [eqGs, Bool.and_eq_true] using hb
      simp only [PyData.eqvAll, eqWs]
      rw [eqv_eqW x y p q ha'.1 hb'.1 k1 k3, eqv_eqWs xs ys ps qs ha'.2 hb'.2 k2 k4]
end
/-- what is read of a value as data -/
structure DataAt (X : Cx) (C : Cfg) (v : V) (d : PyData) : Prop where
  rd : ∀ (pins : List (Addr × Obj)) (σ : L2.St) (s : Shared) (u : Value), Inv X pins σ C.H s → L2.RelV v u → ∃ as, Reads s.heap u d as
theorem shaped_of {d : PyData} (h1 : d.canLay0 = true) (h2 : d.depth ≤ 60) : SeqAt.shaped d = true := by
  unfold SeqAt.shaped
  rw [h1, decide_eq_true (by omega)]
  rfl
def rdEq : R2D := fun x y S Q => match x, y with
  | .str a, .str b => Q (.bl (decide (a = b))) S
  | x, y => eqG (deloc S x) = true ∧ eqG (deloc S y) = true ∧ wDep (deloc S x) ≤ 60 ∧ wDep (deloc S y) ≤ 60 ∧ Q (.bl (eqW (deloc S x) (deloc S y))) S
def rdNe : R2D := fun x y S Q => rdEq x y S fun w S' => match w with
  | .bl b => Q (.bl (!b)) S'
  | _ => False
section
variable {X : Cx}
theorem opd_eqD (hu : X.A.units + 64 < cLine) : OpD X (compareOp .Eq) (fun x y S Q => eqG (deloc S x) = true ∧ eqG (deloc S y) = true ∧ wDep (deloc S x) ≤ 60 ∧ wDep (deloc S y) ≤ 60 ∧ Q (.bl (eqW (deloc S x) (deloc S y))) S) := by
  refine ⟨fun x y H Q => ∃ γ C a b, C.H = H ∧ Sim X.K γ C ∧ RV X.K γ C x a ∧ RV X.K γ C y b ∧ eqG (deloc C.S a) = true ∧ eqG (deloc C.S b) = true ∧ wDep (deloc C.S a) ≤ 60 ∧ wDep (deloc C.S b) ≤ 60 ∧ Q (.bl (eqW (deloc C.S a) (deloc C.S b))) H, ?_, fun γ C x y w1 w2 Qd Q hs rx ry h k => ⟨γ, C, w1, w2, rfl, hs, rx, ry, h.1, h.2.1, h.2.2.1, h.2.2.2.1, k C _ _ h.2.2.2.2 hs (.refl _ _) (.bl _)⟩⟩
  intro pins s σ H x y v u Q I rx ry h
  obtain ⟨γ, C, a, b, rfl, sim, ra, rb, g1, g2, d1, d2, q⟩ := h
  obtain ⟨p, e1, k1⟩ := eqG_ok _ g1
  obtain ⟨r, e2, k2⟩ := eqG_ok _ g2
  obtain ⟨as, q1, _⟩ := deloc_reads I sim ra e1 rx
  obtain ⟨bs, q2, _⟩ := deloc_reads I sim rb e2 ry
  rw [← eqv_eqW _ _ _ _ g1 g2 e1 e2] at q
  exact SeqAt.compareEq_shaped q1 q2 (shaped_of k1.lay (by rw [k1.de]; exact d1)) (shaped_of k2.lay (by rw [k2.de]; exact d2)) hu ⟨.bl _, C.H, I, rfl, q⟩
theorem opd_neD (hu : X.A.units + 64 < cLine) : OpD X (compareOp .NotEq) (fun x y S Q => eqG (deloc S x) = true ∧ eqG (deloc S y) = true ∧ wDep (deloc S x) ≤ 60 ∧ wDep (deloc S y) ≤ 60 ∧ Q (.bl (!eqW (deloc S x) (deloc S y))) S) := by
  refine ⟨fun x y H Q => ∃ γ C a b, C.H = H ∧ Sim X.K γ C ∧ RV X.K γ C x a ∧ RV X.K γ C y b ∧ eqG (deloc C.S a) = true ∧ eqG (deloc C.S b) = true ∧ wDep (deloc C.S a) ≤ 60 ∧ wDep (deloc C.S b) ≤ 60 ∧ Q (.bl (!eqW (deloc C.S a) (deloc C.S b))) H, ?_, fun γ C x y w1 w2 Qd Q hs rx ry h k => ⟨γ, C, w1, w2, rfl, hs, rx, ry, h.1, h.2.1, h.2.2.1, h.2.2.2.1, k C _ _ h.2.2.2.2 hs (.refl _ _) (.bl _)⟩⟩
  intro pins s σ H x y v u Q I rx ry h
  obtain ⟨γ, C, a, b, rfl, sim, ra, rb, g1, g2, d1, d2, q⟩ := h
  obtain ⟨p, e1, k1⟩ := eqG_ok _ g1
  obtain ⟨r, e2, k2⟩ := eqG_ok _ g2
  obtain ⟨as, q1, _⟩ := deloc_reads I sim ra e1 rx
  obtain ⟨bs, q2, _⟩ := deloc_reads I sim rb e2 ry
  rw [← eqv_eqW _ _ _ _ g1 g2 e1 e2] at q
  exact SeqAt.compareNe_shaped q1 q2 (shaped_of k1.lay (by rw [k1.de]; exact d1)) (shaped_of k2.lay (by rw [k2.de]; exact d2)) hu ⟨.bl _, C.H, I, rfl, q⟩
theorem opd_eqS : OpD X (compareOp .Eq) (fun x y S Q => match x, y with
  | .str a, .str b => Q (.bl (decide (a = b))) S
  | _, _ => False) := by
  refine ⟨_, op_eq, fun γ C x y w1 w2 Qd Q hs rx ry h k => ?_⟩
  cases rx <;> cases ry <;> first | exact False.elim h | skip
  refine ⟨rfl, ?_⟩
  rw [dec_str]
  have := k C _ _ h hs (.refl _ _) (.bl _)
  rw [← Bool.beq_eq_decide_eq] at this
  exact this
theorem opd_neS : OpD X (compareOp .NotEq) (fun x y S Q => match x, y with
  | .str a, .str b => Q (.bl (!decide (a = b))) S
  | _, _ => False) := by
  refine ⟨_, op_ne, fun γ C x y w1 w2 Qd Q hs rx ry h k => ?_⟩
  cases rx <;> cases ry <;> first | exact False.elim h | skip
  refine ⟨rfl, ?_⟩
  rw [dec_str]
  have := k C _ _ h hs (.refl _ _) (.bl _)
  rw [← Bool.beq_eq_decide_eq] at this
  exact this
theorem opd_eq {k : Nat} (hr : Room k X.A) : OpD X (compareOp .Eq) rdEq := by
  obtain ⟨r, o, kk⟩ := (opd_eqS.or (opd_eqD (X := X) hr.units)).ex
  refine ⟨r, o, fun γ C x y w1 w2 Qd Q hs rx ry h k => kk γ C x y w1 w2 Qd Q hs rx ry ?_ k⟩
  unfold rdEq at h
  split at h
  · exact .inl h
  · exact .inr h
theorem opd_ne {k : Nat} (hr : Room k X.A) : OpD X (compareOp .NotEq) rdNe := by
  obtain ⟨r, o, kk⟩ := (opd_neS.or (opd_neD (X := X) hr.units)).ex
  refine ⟨r, o, fun γ C x y w1 w2 Qd Q hs rx ry h k => kk γ C x y w1 w2 Qd Q hs rx ry ?_ k⟩
  unfold rdNe rdEq at h
  split at h
  · exact .inl h
  · exact .inr h
/-! ### isinstance with one built-in class -/
inductive Tg where
  | non | bool | int | str | tuple | list | dict
  deriving DecidableEq
def Tg.nm : Tg → String
  | .non => "NoneType" | .bool => "bool" | .int => "int" | .str => "str" | .tuple => "tuple" | .list => "list" | .dict => "dict"
def tgOf (S : Store) : W → Option Tg
  | .non => some .non
  | .bl _ => some .bool
  | .int _ => some .int
  | .str _ => some .str
  | .tup _ => some .tuple
  | .tpf _ => none
  | .rng _ _ => none
  | .cod _ => none
  | .lst _ => some .list
  | .scr _ => some .list
  | .dic _ _ => some .dict
  | .loc n => match S[n]? with
    | some (some (.lst _)) => some .list
    | some (some (.dic _ _)) => some .dict
    | _ => none
  | .ty _ => none
def isT : Tg → Tg → Bool
  | .bool, .int => true
  | a, b => decide (a = b)
theorem isT_kit (a b : Tg) (h : b ≠ .non) : kitB a.nm b.nm = some (isT a b) := by
  cases b <;> first | exact absurd rfl h | skip
  all_goals cases a <;> decide +kernel
theorem tgOf_at {K : PySem.W.Frag} {γ : List Addr} {C : Cfg} (s : Sim K γ C) {v : V} {w : W} {t : Tg} (r : RV K γ C v w) (h : tgOf C.S w = some t) : TyX K C.H v (.type t.nm) := by
  cases r <;> first | (cases h; done) | skip
  · cases h; exact .base .non
  · cases h; exact .base (.bl _)
  · cases h; exact .base (.int _)
  · cases h; exact .base (.str _)
  · cases h
    rename_i a xs ws e1 e2
    exact .base (.tup e1)
  · cases h
    rename_i a xs ws e1 e2 e3
    exact .base (.lst e1)
  · cases h
    rename_i a kvs xs ks ws e1 e2 e3 e4 e5
    exact .base (.dK (by assumption))
  · cases h
    rename_i a ns e1
    rcases e1 with ⟨o, e1⟩ | ⟨o, its, n, e1, e3, _⟩
    · exact .base (.frz e1)
    · exact .kList e1 e3
  · rename_i n a e1
    have h' : (match C.S[n]? with
      | some (some (.lst _)) => some Tg.list
      | some (some (.dic _ _)) => some Tg.dict
      | _ => none) = some t := h
    split at h'
    · rename_i ws e2
      cases h'
      obtain ⟨xs, p1, _⟩ := s.cell n a _ e1 e2
      exact .base (.lst p1)
    · rename_i ks ws e2
      cases h'
      obtain ⟨xs, p1, _⟩ := s.cell n a _ e1 e2
      exact .base (.dK p1)
    · cases h'
variable {e : Expr} {te : TD} {x y : Str} {p p2 pos : Pos}
def dIsi (T : Tg) (te : TD) : TD := fun τ S Q => te τ S fun w S1 => match tgOf S1 w with
  | some t => Q (.bl (isT t T)) S1
  | none => False
theorem pd_isi (T : Tg) (hT : T ≠ .non) (he : PD X e te) (hg : Gl X x) (hm : X.mg x = none) (hv : bootBuiltins x = some (.builtin "isinstance")) (hg2 : Gl X y) (hm2 : X.mg y = none) (hv2 : bootBuiltins y = some (.type T.nm)) (hn : x ≠ "__name__" := by decide) (hdb : (x == ("__debug__" : Str)) = false := by decide)
    (hn2 : y ≠ "__name__" := by decide) (hdb2 : (y == ("__debug__" : Str)) = false := by decide)
    (h1 : starEach [e, .Name y p2] X.env = (false, eval e X.env) :: starEach [.Name y p2] X.env := by rfl) (h2 : starEach [.Name y p2] X.env = (false, eval (.Name y p2) X.env) :: starEach [] X.env := by rfl) (hpl : (backTo pos (starEach [.Name y p2] X.env)).any (·.1) = false := by rfl) :
    PD X (.Call (.Name x p) [e, .Name y p2] [] pos) (dIsi T te) := by
  obtain ⟨tA, pA, kA⟩ := he.ex
  refine ⟨_, pe_callB call_isi hg hm hv (pa_cons pA (pa_cons (pe_bltn hg2 hm2 hv2 (show L2.RelV (.ty T.nm) (.type T.nm) from rfl) hn2 hdb2) pa_nil h2) h1) hn hdb h1 hpl, fun γ C σ τ Qd Q hs hst h k => ?_⟩
  refine kA γ C σ τ _ _ hs hst h fun C1 v w h1 s1 st1 r1 => ?_
  split at h1
  · rename_i t et
    exact ⟨v, .ty T.nm, _, _, isT t T, rfl, .ty _, tgOf_at s1 r1 et, kit_ty (isT_kit t T hT), k C1 _ _ h1 s1 st1 (.bl _)⟩
  · exact h1.elim
/-! ### chains of comparisons -/
variable {a b c : Expr} {ta tb tc : TD} {op op' : CmpOp} {rd rd' : R2D}
def dChain (r r' : R2D) (ta tb tc : TD) : TD := fun τ S Q => ta τ S fun x S1 => tb τ S1 fun y S2 => r x y S2 fun z S3 => match z with
  | .bl k => if k = true then tc τ S3 fun w S4 => r' y w S4 Q else Q (.bl false) S3
  | _ => False
theorem pd_chain (ho : OpD X (compareOp op) rd) (ho' : OpD X (compareOp op') rd') (ha : PD X a ta) (hb : PD X b tb) (hc : PD X c tc) (hm : lastMarks [op, op'] [b, c] = false := by with_unfolding_all rfl) : PD X (.Compare a [op, op'] [b, c] pos) (dChain rd rd' ta tb tc) := by
  obtain ⟨r, hr, kr⟩ := ho.ex
  obtain ⟨r', hr', kr'⟩ := ho'.ex
  obtain ⟨tA, pa, ka⟩ := ha.ex
  obtain ⟨tB, pb, kb⟩ := hb.ex
  obtain ⟨tC, pc, kc⟩ := hc.ex
  refine ⟨_, pe_chain hr hr' pa pb pc hm, fun γ C σ τ Qd Q hs hst h k => ?_⟩
  refine ka γ C σ τ _ _ hs hst h fun C1 v1 w1 h1 s1 st1 r1 => kb γ C1 σ τ _ _ s1 (hst.step st1) h1 fun C2 v2 w2 h2 s2 st2 r2 => kr γ C2 v1 v2 w1 w2 _ _ s2 (r1.step st2) r2 h2 fun C3 v w h3 s3 st3 r3 => ?_
  have st13 := (st1.trans st2).trans st3
  cases r3 <;> first | exact False.elim h3 | skip
  rename_i bb
  refine ⟨bb, rfl, ?_⟩
  cases bb with
  | true => exact (if_pos rfl).mpr (kc γ C3 σ τ _ _ s3 (hst.step st13) ((if_pos rfl).mp h3) fun C4 v4 w4 h4 s4 st4 r4 => kr' γ C4 v2 v4 w2 w4 _ _ s4 ((r2.step st3).step st4) r4 h4 (k.step (st13.trans st4)))
  | false => exact (if_neg Bool.false_ne_true).mpr (k C3 _ _ ((if_neg Bool.false_ne_true).mp h3) s3 st13 (.bl _))
theorem ptd_chain (ho : OpD X (compareOp op) rd) (ho' : OpD X (compareOp op') rd') (ha : PD X a ta) (hb : PD X b tb) (hc : PD X c tc) (hm : lastMarks [op, op'] [b, c] = false := by with_unfolding_all rfl) : PTD X (.Compare a [op, op'] [b, c] pos) (dTest (dChain rd rd' ta tb tc)) := by
  obtain ⟨r, hr, kr⟩ := ho.ex
  obtain ⟨r', hr', kr'⟩ := ho'.ex
  obtain ⟨tA, pa, ka⟩ := ha.ex
  obtain ⟨tB, pb, kb⟩ := hb.ex
  obtain ⟨tC, pc, kc⟩ := hc.ex
  refine ⟨_, pt_chain hr hr' pa pb pc hm, fun γ C σ τ Qd Q hs hst h k => ?_⟩
  refine ka γ C σ τ _ _ hs hst h fun C1 v1 w1 h1 s1 st1 r1 => kb γ C1 σ τ _ _ s1 (hst.step st1) h1 fun C2 v2 w2 h2 s2 st2 r2 => kr γ C2 v1 v2 w1 w2 _ _ s2 (r1.step st2) r2 h2 fun C3 v w h3 s3 st3 r3 => ?_
  have st13 := (st1.trans st2).trans st3
  cases r3 <;> first | exact False.elim h3 | skip
  rename_i bb
  refine ⟨bb, rfl, ?_⟩
  cases bb with
  | true => exact (if_pos rfl).mpr (kc γ C3 σ τ _ _ s3 (hst.step st13) ((if_pos rfl).mp h3) fun C4 v4 w4 h4 s4 st4 r4 => kr' γ C4 v2 v4 w2 w4 _ _ s4 ((r2.step st3).step st4) r4 h4 fun C5 v5 w5 h5 s5 st5 r5 => by
      cases r5 <;> first | exact False.elim h5 | exact ⟨_, rfl, k C5 _ h5 s5 ((st13.trans st4).trans st5)⟩)
  | false => exact (if_neg Bool.false_ne_true).mpr ⟨_, rfl, k C3 _ ((if_neg Bool.false_ne_true).mp h3) s3 st13⟩
/-! ### a tuple, a list times an int -/
def rdMul : R2D := fun x y S Q => match x, y with
  | .int i, .int j => CMul i j ∧ Q (.int (i * j)) S
  | .tup ws, .int k => ws ≠ [] ∧ 2 ≤ k ∧ k ≤ 1000 ∧ ws.length ≤ 1000 ∧ Q (.tup (List.replicate k.toNat ws).flatten) S
  | .lst ws, .int k => -(2 ^ 63) ≤ k ∧ k < 2 ^ 63 ∧ ws.length * k.toNat ≤ sizeLine ∧ Q (.lst (List.replicate k.toNat ws).flatten) S
  | _, _ => False
theorem opd_repT : OpD X (binaryOp .Mult) (fun x y S Q => match x, y with
  | .tup ws, .int k => ws ≠ [] ∧ 2 ≤ k ∧ k ≤ 1000 ∧ ws.length ≤ 1000 ∧ Q (.tup (List.replicate k.toNat ws).flatten) S
  | _, _ => False) := by
  refine ⟨_, op_repT, fun γ C x y w1 w2 Qd Q hs rx ry h k => ?_⟩
  cases rx <;> cases ry <;> first | exact False.elim h | skip
  rename_i a xs ws h1 r1 i
  refine ⟨a, i, xs, rfl, rfl, h1, ?_, h.2.1, h.2.2.1, by rw [r1.length]; exact h.2.2.2.1, newTup k hs (r1.rep _) h.2.2.2.2⟩
  intro z
  subst z
  cases r1
  exact h.1 rfl
theorem opd_repL : OpD X (binaryOp .Mult) (fun x y S Q => match x, y with
  | .lst ws, .int k => -(2 ^ 63) ≤ k ∧ k < 2 ^ 63 ∧ ws.length * k.toNat ≤ sizeLine ∧ Q (.lst (List.replicate k.toNat ws).flatten) S
  | _, _ => False) := by
  refine ⟨_, op_rep, fun γ C x y w1 w2 Qd Q hs rx ry h k => ?_⟩
  cases rx <;> cases ry <;> first | exact False.elim h | skip
  rename_i a xs ws h1 h2 r1 i
  exact ⟨a, i, xs, rfl, rfl, h1, h.1, h.2.1, by rw [r1.length]; exact h.2.2.1, newLst k hs (r1.rep _) h.2.2.2⟩
theorem opd_mul : OpD X (binaryOp .Mult) rdMul := by
  obtain ⟨r, o, kk⟩ := (opd_mulI.or (opd_repT.or (opd_repL (X := X)))).ex
  refine ⟨r, o, fun γ C x y w1 w2 Qd Q hs rx ry h k => kk γ C x y w1 w2 Qd Q hs rx ry ?_ k⟩
  unfold rdMul at h
  split at h
  · exact .inl h
  · exact .inr (.inl h)
  · exact .inr (.inr h)
  · exact h.elim
/-! ### the order of ints and of tuples of ints -/
def rdLt : R2D := fun x y S Q => match x, y with
  | .int i, .int j => Q (.bl (decide (i < j))) S
  | .tup a, .tup b => (match intsOf a, intsOf b with
    | some ns, some ms => Q (.bl (HT.lexLt ns ms)) S
    | _, _ => False)
  | _, _ => False
theorem opd_lt {k : Nat} (hr : Room k X.A) : OpD X (compareOp .Lt) rdLt := by
  refine ⟨_, op_lt.or (op_ltT hr.units0), fun γ C x y w1 w2 Qd Q hs rx ry h k => ?_⟩
  cases rx <;> cases ry <;> first | exact False.elim h | skip
  · exact .inl ⟨_, _, rfl, rfl, k C _ _ h hs (.refl _ _) (.bl _)⟩
  · rename_i a xs us h1 r1 b ys vs h2 r2
    have h' : (match intsOf us, intsOf vs with
      | some ns, some ms => Qd (.bl (HT.lexLt ns ms)) C.S
      | _, _ => False) := h
    split at h'
    · rename_i ns ms e1 e2
      rw [intsOf_eq e1] at r1
      rw [intsOf_eq e2] at r2
      rw [r1.ints] at h1
      rw [r2.ints] at h2
      exact .inr ⟨a, b, ns, ms, rfl, rfl, h1, h2, k C _ _ h' hs (.refl _ _) (.bl _)⟩
    · exact h'.elim
end
end FL
end
section
set_option autoImplicit false
namespace FL
open PySem PySem.Spec PyProof.Rows L2
/-! ### dicts written out -/
abbrev PairsD := List (TD × TD)
def dPairs : PairsD → EnvD → Store → (List (W × W) → Store → Prop) → Prop
  | [], _, S, Q => Q [] S
  | (tk, tv) :: r, τ, S, Q => tk τ S fun x S1 => tv τ S1 fun y S2 => dPairs r τ S2 fun ps S3 => Q ((x, y) :: ps) S3
def KPs (K : PySem.W.Frag) (γ : List Addr) (C : Cfg) (Qd : List (W × W) → Store → Prop) (Q : List (V × V) → Hp → Prop) : Prop := ∀ C' vs ws, Qd ws C'.S → Sim K γ C' → Step γ C γ C' → RVs K γ C' (vs.map Prod.fst) (ws.map Prod.fst) → RVs K γ C' (vs.map Prod.snd) (ws.map Prod.snd) → Q vs C'.H
structure PPD (X : Cx) (pos : Pos) (keys : List (Option Expr)) (values : List Expr) (t : PairsD) : Prop where
  ex : ∃ trs, PPs X pos keys values trs ∧ ∀ γ C σ τ Qd Q, Sim X.K γ C → RSt X.K γ C σ τ → dPairs t τ C.S Qd → KPs X.K γ C Qd Q → tPairs trs σ C.H Q
section
variable {X : Cx} {pos : Pos}
theorem ppd_nil : PPD X pos [] [] [] := ⟨_, pps_nil, fun γ C σ τ Qd Q hs hst h k => k C [] [] h hs (.refl _ _) .nil .nil⟩
theorem ppd_cons {k v : Expr} {ks : List (Option Expr)} {vs : List Expr} {tk tv : TD} {t : PairsD} (hk : PD X k tk) (hv : PD X v tv) (hr : PPD X pos ks vs t) : PPD X pos (some k :: ks) (v :: vs) ((tk, tv) :: t) := by
  obtain ⟨tA, pA, kA⟩ := hk.ex
  obtain ⟨tB, pB, kB⟩ := hv.ex
  obtain ⟨tC, pC, kC⟩ := hr.ex
  refine ⟨_, pps_cons pA pB pC, fun γ C σ τ Qd Q hs hst h k => ?_⟩
  exact kA γ C σ τ _ _ hs hst h fun C1 v1 w1 h1 s1 st1 r1 => kB γ C1 σ τ _ _ s1 (hst.step st1) h1 fun C2 v2 w2 h2 s2 st2 r2 => kC γ C2 σ τ _ _ s2 (hst.step (st1.trans st2)) h2 fun C3 vs ws h3 s3 st3 r3 r4 =>
    k C3 ((v1, v2) :: vs) ((w1, w2) :: ws) h3 s3 ((st1.trans st2).trans st3) (.cons (r1.step (st2.trans st3)) r3) (.cons (r2.step st3) r4)
def keysOfW : List (W × W) → Option (List Key)
  | [] => some []
  | (k, _) :: r => (keyW k).bind fun k => (keysOfW r).map fun ks => k :: ks
theorem keysOfW_at {K : PySem.W.Frag} {γ : List Addr} {C : Cfg} : ∀ {vs : List (V × V)} {ws : List (W × W)} {ks : List Key}, RVs K γ C (vs.map Prod.fst) (ws.map Prod.fst) → keysOfW ws = some ks → vs.map Prod.fst = ks.map kV
  | [], [], _, _, h => by cases h; rfl
  | [], _ :: _, _, r, _ => by cases r
  | _ :: _, [], _, r, _ => by cases r
  | (v, v2) :: vs, (w, w2) :: ws, ks, r, h => by
    cases r with
    | cons r1 r2 =>
      obtain ⟨k, e1, h2⟩ := Option.bind_eq_some_iff.mp (show (keyW w).bind (fun k => (keysOfW ws).map fun ks => k :: ks) = some ks from h)
      obtain ⟨ks', e2, e3⟩ := Option.map_eq_some_iff.mp h2
      subst e3
      rw [List.map_cons, List.map_cons, keysOfW_at r2 e2]
      exact congrArg (· :: _) (keyW_at r1 e1)
theorem merge_nodup : ∀ (kvs acc : List (Key × V)), ((acc ++ kvs).map Prod.fst).Nodup → mergeK acc kvs = acc ++ kvs
  | [], acc, _ => by show acc = acc ++ []; rw [List.append_nil]
  | (k, v) :: r, acc, h => by
    have hk : (acc.any fun kv => decide (kv.1 = k)) = false := by
      rw [List.any_eq_false]
      intro p hp
      have hp' := List.mem_map_of_mem (f := Prod.fst) hp
      intro z
      have z' : p.1 = k := of_decide_eq_true z
      rw [List.map_append] at h
      exact (List.nodup_append.mp h).2.2 p.1 hp' k (by simp) z'
    have e : putK acc k v = acc ++ [(k, v)] := by
      unfold putK
      rw [hk]
      rfl
    show mergeK (putK acc k v) r = acc ++ (k, v) :: r
    rw [e, merge_nodup r (acc ++ [(k, v)]) (by rw [List.append_assoc]; exact h), List.append_assoc]
    rfl
def dDisp (t : PairsD) : EnvD → Store → (List Key → List W → Store → Prop) → Prop := fun τ S Q => dPairs t τ S fun ps S1 => match keysOfW ps with
  | some ks => ks.Nodup ∧ ps.length ≤ 15 ∧ Q ks (ps.map Prod.snd) S1
  | none => False
/-- the pieces of a display: a new dict at p, held back -/
theorem disp_at {keys : List (Option Expr)} {values : List Expr} {t : PairsD} (h : PPD X pos keys values t) (hall : keys.all (·.isSome) = true) (hl : keys.length = values.length) (h0 : keys ≠ []) (h15 : keys.length ≤ 15) :
    ∃ tH, PE X (.Dict keys values pos) tH ∧ ∀ γ C σ τ (Qd : List Key → List W → Store → Prop) (Q : VK), Sim X.K γ C → RSt X.K γ C σ τ → dDisp t τ C.S Qd →
      (∀ C' p kvs ks ws, Qd ks ws C'.S → Sim X.K (p :: γ) C' → Step γ C (p :: γ) C' → C'.H p = some (.dK kvs) → kvs.map Prod.fst = ks → RVs X.K (p :: γ) C' (kvs.map Prod.snd) ws → Q (.ref p) C'.H) → tH σ C.H Q := by
  obtain ⟨trs, pp, kp⟩ := h.ex
  refine ⟨_, pe_disp pp hall hl h0 h15, fun γ C σ τ Qd Q hs hst hd k => fun p hp => ?_⟩
  obtain ⟨g1, g2⟩ := hs.ghost (o := .dK []) hp
  refine kp (p :: γ) (C.put p (.dK [])) σ τ _ _ g1 (hst.step g2) hd fun C1 vs ws h1 s1 st1 r1 r2 => ?_
  split at h1
  · rename_i ks ek
    have hp1 : C1.H p = some (.dK []) := st1.keep p _ upd_same (.inl List.mem_cons_self)
    have ev := keysOfW_at r1 ek
    have lv : vs.length = ks.length := by
      have := congrArg List.length ev
      simpa using this
    have lw : vs.length = ws.length := by simpa using r1.length
    refine ⟨hp1, ks.zip (vs.map Prod.snd), ?_, ?_, ?_⟩
    · apply List.ext_getElem?
      intro i
      rw [List.getElem?_map]
      by_cases hi : i < vs.length
      · have e1 : vs[i]? = some vs[i] := List.getElem?_eq_getElem hi
        have e2 : (ks.zip (vs.map Prod.snd))[i]? = some (ks[i]'(by omega), vs[i].2) := by
          rw [List.getElem?_eq_getElem (by simp; omega)]
          simp
        have e3 : (vs.map Prod.fst)[i]? = (ks.map kV)[i]? := by rw [ev]
        rw [List.getElem?_map, List.getElem?_map, e1, List.getElem?_eq_getElem (show i < ks.length by omega)] at e3
        have e4 : vs[i].1 = kV (ks[i]'(by omega)) := by simpa using e3
        rw [e1, e2]
        show some vs[i] = some (kV (ks[i]'(by omega)), vs[i].2)
        rw [← e4]
      · rw [List.getElem?_eq_none_iff.mpr (by omega), List.getElem?_eq_none_iff.mpr (by simp; omega)]
        rfl
    · simp; omega
    · have hfst : (ks.zip (vs.map Prod.snd)).map Prod.fst = ks := List.map_fst_zip (by simp; omega)
      have hsnd : (ks.zip (vs.map Prod.snd)).map Prod.snd = vs.map Prod.snd := List.map_snd_zip (by simp; omega)
      rw [merge_nodup _ [] (by rw [List.nil_append, hfst]; exact h1.1), List.nil_append]
      have hpp : ∃ u, C1.H p = some u ∧ (∀ xs, u ≠ .tup xs) ∧ ∀ o z, u ≠ .frz o z := ⟨_, hp1, fun _ => nofun, fun _ _ => nofun⟩
      refine k (C1.put p (.dK (ks.zip (vs.map Prod.snd)))) p _ ks (ws.map Prod.snd) h1.2.2 (s1.gput hpp) ((g2.trans st1).gput hp) upd_same hfst ?_
      rw [hsnd]
      exact r2.gput s1 hpp
  · exact h1.elim
def dDicT (t : PairsD) : TD := fun τ S Q => dDisp t τ S fun ks ws S1 => Q (.dic ks ws) S1
def dDicC (t : PairsD) : TD := fun τ S Q => dDisp t τ S fun ks ws S1 => Q (.loc S1.length) (S1 ++ [some (.dic ks ws)])
theorem pd_dicT {keys : List (Option Expr)} {values : List Expr} {t : PairsD} (h : PPD X pos keys values t) (hall : keys.all (·.isSome) = true := by rfl) (hl : keys.length = values.length := by rfl) (h0 : keys ≠ [] := by exact List.cons_ne_nil _ _) (h15 : keys.length ≤ 15 := by decide) : PD X (.Dict keys values pos) (dDicT t) := by
  obtain ⟨tH, p, k⟩ := disp_at h hall hl h0 h15
  exact ⟨tH, p, fun γ C σ τ Qd Q hs hst h kk => k γ C σ τ _ Q hs hst h fun C' p kvs ks ws hq s1 st1 e1 e2 r1 => kk C' _ _ hq s1.drop (st1.drop s1 fun _ z => z) (.dic e1 e2 rfl s1.nlive r1.drop1)⟩
theorem pd_dicC {keys : List (Option Expr)} {values : List Expr} {t : PairsD} (h : PPD X pos keys values t) (hall : keys.all (·.isSome) = true := by rfl) (hl : keys.length = values.length := by rfl) (h0 : keys ≠ [] := by exact List.cons_ne_nil _ _) (h15 : keys.length ≤ 15 := by decide) : PD X (.Dict keys values pos) (dDicC t) := by
  obtain ⟨tH, p, k⟩ := disp_at h hall hl h0 h15
  refine ⟨tH, p, fun γ C σ τ Qd Q hs hst h kk => k γ C σ τ _ Q hs hst h fun C' p kvs ks ws hq s1 st1 e1 e2 r1 => kk (C'.add p (.dic ks ws)) _ _ hq (s1.add ⟨kvs, e1, e2, r1⟩) (st1.add s1 fun _ z => z) (.loc ?_)⟩
  show (C'.ρ ++ [p])[C'.S.length]? = some p
  rw [← s1.len]; simp
def dDic0 : TD := fun _ S Q => Q (.dic [] []) S
theorem pd_dic0 : PD X (.Dict [] [] pos) dDic0 := by
  refine ⟨_, pe_dnewK, fun γ C σ τ Qd Q hs hst h k => fun p hp => ?_⟩
  obtain ⟨g1, g2⟩ := hs.ghost (o := .dK []) hp
  exact k (C.put p (.dK [])) _ _ h g1.drop (g2.drop g1 fun _ z => z) (.dic upd_same rfl rfl g1.nlive .nil)
/-! ### a, b = x, y -/
theorem psd_par {i j : Nat} {x y : Str} {a b : Expr} {t : TAD} {px py pt : Pos} {kt k2 pt2} (hc : X.calm = true) (hN : X.N.Nodup) (hi : X.N[i]? = some x) (hj : X.N[j]? = some y) (hij : i ≠ j) (ha : PAD X [a, b] t) (hp : ∀ ta, PA X [a, b] ta → PS X (.Assign [.Tuple [.Name x px, .Name y py] kt pt] (.Tuple [a, b] k2 pt2) pos) (L2.tPar i j ta)) :
    PSD X (.Assign [.Tuple [.Name x px, .Name y py] kt pt] (.Tuple [a, b] k2 pt2) pos) (sPar i j t) := by
  obtain ⟨tA, pA, kA⟩ := ha.ex
  refine ⟨_, hp tA pA, fun γ C σ τ Dd D hs hst h k => kA γ C σ τ _ _ hs hst h fun C1 vs ws h1 s1 st1 r1 => ?_⟩
  split at h1
  · cases r1 with
    | @cons v _ _ _ r1 r2 => cases r2 with
      | @cons w _ _ _ r2 r3 =>
        cases r3
        exact ⟨v, w, rfl, k.nx C1 _ _ h1 s1 st1 (((hst.step st1).set r1).set r2)⟩
  · exact h1.elim
/-! ### x op= e at a name, for ints -/
def sAugI (i : Nat) (f : Int → Int → Int) (te : TD) : TSD := fun D τ S => match τ[i]? with
  | some (some (.int a)) => te τ S fun w S1 => (match w with
    | .int b => D.nx (τ.set i (some (.int (f a b)))) S1
    | _ => False)
  | _ => False
theorem psd_aug {i : Nat} {x : Str} {e : Expr} {te : TD} {op : Operator} {f : Int → Int → Int} {pos' : Pos} (hN : X.N.Nodup) (hi : X.N[i]? = some x) (hx : Loc X.env.scope x) (he : PD X e te) (ho : PIp X op (ipI f)) (hf : X.fn x = true ∨ X.env.scope.names.lookup x = some .local := by first | exact .inl rfl | exact .inr rfl | assumption) :
    PSD X (.AugAssign (.Name x pos') op e pos) (sAugI i f te) := by
  obtain ⟨tA, pA, kA⟩ := he.ex
  refine ⟨_, ps_aug hN hi hx pA ho hf, fun γ C σ τ Dd D hs hst h k => ?_⟩
  unfold sAugI at h
  split at h
  · rename_i a e
    obtain ⟨v, e', r⟩ := hst.2 i _ e
    cases r
    refine ⟨_, e', kA γ C σ τ _ _ hs hst h fun C1 v1 w1 h1 s1 st1 r1 => ?_⟩
    split at h1
    · cases r1
      exact ⟨_, _, rfl, rfl, k.nx C1 _ _ h1 s1 st1 ((hst.step st1).set (.int _))⟩
    · exact h1.elim
  · exact h.elim
end
end FL
end
section
set_option autoImplicit false
namespace FL
open PySem PySem.Spec PyProof.Rows L2
/-! ### a list or a tuple is walked, whichever it is -/
section
variable {X : Cx} {tg l : Expr} {tl : TE}
def iSeqH (K : PySem.W.Frag) (tl : TE) : TI := fun σ H R => tl σ H fun x H1 => ∃ a, x = .ref a ∧ ((∃ xs, SqL K H1 a xs ∧ R (Itl K a) H1) ∨ ∃ xs, SqT K H1 a xs ∧ R (Itt K a) H1)
theorem pi_seq (hl : PE X l tl) : PI X tg l (iSeqH X.K tl) := by
  constructor
  intro pins s σ H R I h
  refine thn (hl.run pins s σ H _ I h) ?_
  rintro v s1 ⟨x, H1, I1, r1, a, rfl, q⟩
  cases r1
  have near : ∀ b ∈ [s1.heap.objs.size], FpOk X pins H1 b := fun b hb => by
    have e : b = s1.heap.objs.size := by simpa using hb
    rw [e]
    exact I1.fpOk (Nat.le_refl _) (I1.hok.fresh (Nat.le_refl _))
  rcases q with ⟨xs, hq, q⟩ | ⟨xs, hq, q⟩
  · obtain ⟨its, rv, p, hz⟩ := I1.list hq
    refine wpAny_pyIter_list p.isList ⟨_, [s1.heap.objs.size], _, _, H1, rfl, ?_, turn_list a _, ⟨_, Heap.get?_push_size _ rfl, rfl, rfl⟩, near, q⟩
    exact I1.kept (t' := s1.toks) fun b o e => Heap.get?_push_of_some _ e
  · obtain ⟨its, rv, p, hz⟩ := I1.tuple hq
    refine wpAny_pyIter_tuple (show s1.heap.IsTuple a its.toArray from p) ⟨_, [s1.heap.objs.size], _, _, H1, rfl, ?_, turn_tuple a _, ⟨_, Heap.get?_push_size _ rfl, rfl, rfl⟩, near, q⟩
    exact I1.kept (t' := s1.toks) fun b o e => Heap.get?_push_of_some _ e
def iSeq (ta : TD) : TAD := fun τ S Q => ta τ S fun w S1 => match seqT w with
  | some ws => Q ws S1
  | none => False
theorem pid_seq {ta : TD} (ha : PD X l ta) : PID X tg l (iSeq ta) := by
  obtain ⟨tA, pa, ka⟩ := ha.ex
  refine ⟨_, pi_seq pa, fun γ C σ τ Qd R hs hst h k => ka γ C σ τ _ _ hs hst h fun C1 v w h1 s1 st1 r1 => ?_⟩
  cases r1 <;> first | exact False.elim h1 | skip
  · rename_i p xs ws e1 e3
    exact ⟨p, rfl, .inr ⟨xs, e1, k C1 _ ws h1 s1 st1 (walks_tup (fun γ' C' st => st.sqt e1) e3)⟩⟩
  · rename_i p xs ws e1 e2 e3
    exact ⟨p, rfl, .inl ⟨xs, SqL.of e1, k C1 _ ws h1 s1 st1 (walks_list (fun γ' C' st => SqL.of (st.keep _ _ e1 (.inr e2))) e3)⟩⟩
  · rename_i p ns e1
    exact ⟨p, rfl, .inl ⟨_, e1.sq, k C1 _ _ h1 s1 st1 (walks_list (fun γ' C' st => (st.scr e1).sq) (RVs.of_ints ns))⟩⟩
  · rename_i p xs ws e1 e3
    exact ⟨p, rfl, .inr ⟨xs, e1.sq, k C1 _ ws h1 s1 st1 (walks_tup (fun γ' C' st => st.sqt e1.sq) e3)⟩⟩
end
section
variable {X : Cx}
/-! ### list(range(..)) -/
theorem pdf_listRg1 {a : Expr} {ta : TD} {p p2 pos pos2 : Pos} (hc : X.calm = true) (hg : Gl X "list") (hm : X.mg "list" = none) (hg2 : Gl X "range") (hm2 : X.mg "range" = none) (ha : PD X a ta)
    (na : starEach [a] X.env = (false, eval a X.env) :: starEach [] X.env := by rfl) (nb : starEach [.Call (.Name "range" p2) [a] [] pos2] X.env = (false, eval (.Call (.Name "range" p2) [a] [] pos2) X.env) :: starEach [] X.env := by rfl) :
    PDF X (.Call (.Name "list" p) [.Call (.Name "range" p2) [a] [] pos2] [] pos) (fun τ S Q => ta τ S fun w S1 => match w with
      | .int n => n ≤ 16777216 ∧ -(2 ^ 62) ≤ n ∧ Q (rangeW 0 n.toNat) S1
      | _ => False) := by
  obtain ⟨tA, pA, kA⟩ := ha.ex
  refine ⟨_, pe_listRg hc hg hm (prg_1 hg2 hm2 pA na) nb, fun γ C σ τ Qd Q hs hst h k => ?_⟩
  refine kA γ C σ τ _ _ hs hst h fun C1 v w h1 s1 st1 r1 => ?_
  cases r1 <;> first | exact False.elim h1 | skip
  rename_i n
  refine ⟨n, rfl, ?_, ?_⟩
  · unfold RgOk
    omega
  · have e : rgV 0 n = (rangeW 0 n.toNat).map fun w => match w with | .int i => V.int i | _ => V.non := by
      unfold rgV rangeW
      rw [List.map_map]
      congr 1
      · simp
    have r : RVs X.K γ C1 (rgV 0 n) (rangeW 0 n.toNat) := by
      rw [e]
      unfold rangeW
      rw [List.map_map]
      induction (List.range n.toNat) with
      | nil => exact .nil
      | cons j js ih => exact .cons (.int _) ih
    exact newF (k.step st1) s1 r h1.2.2
end
end FL
namespace FL
open PySem PySem.Spec PyProof.Rows L2
theorem pgd_tup {X : Cx} {es : List Expr} {k : Nat} {tpos : Pos} {is : List Nat} {u : List W → EnvD → Option EnvD} (hc : X.calm = true) (h : PGsD X es is u) (hp : ∀ t, PGs X es t → PG X (.Tuple es k tpos) (gTup X.K es.length t) := by exact fun t h => pg_tup rfl h) : PGD X (.Tuple es k tpos) is (gdT es.length u) := by
  obtain ⟨gH, pg, kg⟩ := h.ex
  refine ⟨_, hp gH pg, fun γ C σ τ v w τ' Q hs hst r e hq => ?_⟩
  cases r <;> first | (cases e; done) | skip
  rename_i a xs ws h1 h2
  have e' : (if ws.length = es.length then u ws τ else none) = some τ' := e
  split at e'
  · rename_i hl
    exact ⟨a, xs, rfl, h1, by rw [h2.length]; exact hl, kg γ C σ τ xs ws τ' Q hs hst h2 e' hq⟩
  · cases e'
end FL
end
section
set_option autoImplicit false
namespace FL
open PySem PySem.Spec PyProof.Rows L2
/-! ### kinds, lengths and items of what is known -/
section
variable {S : Store} {ws : List W} {ns : List Int} {n : Nat}
theorem tg_non : tgOf S .non = some .non := rfl
theorem tg_bl {b : Bool} : tgOf S (.bl b) = some .bool := rfl
theorem tg_int {i : Int} : tgOf S (.int i) = some .int := rfl
theorem tg_str {x : Str} : tgOf S (.str x) = some .str := rfl
theorem tg_tup : tgOf S (.tup ws) = some .tuple := rfl
theorem tg_lst : tgOf S (.lst ws) = some .list := rfl
theorem tg_dic {ks : List Key} : tgOf S (.dic ks ws) = some .dict := rfl
theorem ln_tup : lenOf S (.tup ws) = some ws.length := rfl
theorem ln_tpf : lenOf S (.tpf ws) = some ws.length := rfl
theorem sq_tpf : sqOf S (.tpf ws) = some ws := rfl
theorem st_tpf : seqT (.tpf ws) = some ws := rfl
theorem ln_lst : lenOf S (.lst ws) = some ws.length := rfl
theorem ln_scr : lenOf S (.scr ns) = some ns.length := rfl
theorem ls_lst : lsOf S (.lst ws) = some ws := rfl
theorem ll_lst : llOf S (.lst ws) = some ws := rfl
theorem ll_scr : llOf S (.scr ns) = some (ns.map W.int) := rfl
theorem sq_tup : sqOf S (.tup ws) = some ws := rfl
theorem sq_lst : sqOf S (.lst ws) = some ws := rfl
theorem sq_scr : sqOf S (.scr ns) = some (ns.map W.int) := rfl
theorem st_tup : seqT (.tup ws) = some ws := rfl
theorem st_lst : seqT (.lst ws) = some ws := rfl
theorem st_scr : seqT (.scr ns) = some (ns.map W.int) := rfl
theorem ls_loc (h : S[n]? = some (some (.lst ws))) : lsOf S (.loc n) = some ws := by
  show (match S[n]? with | some (some (.lst ws)) => some ws | _ => none) = some ws
  rw [h]
theorem ll_loc (h : S[n]? = some (some (.lst ws))) : llOf S (.loc n) = some ws := ls_loc h
theorem sq_loc (h : S[n]? = some (some (.lst ws))) : sqOf S (.loc n) = some ws := ls_loc h
theorem ln_loc (h : S[n]? = some (some (.lst ws))) : lenOf S (.loc n) = some ws.length := by show (lsOf S (.loc n)).map List.length = _; rw [ls_loc h]; rfl
theorem dk_loc {ks : List Key} (h : S[n]? = some (some (.dic ks ws))) : dkOf S (.loc n) = some (ks, ws) := by
  show (match S[n]? with | some (some (.dic ks ws)) => some (ks, ws) | _ => none) = some (ks, ws)
  rw [h]
theorem dk_dic {ks : List Key} : dkOf S (.dic ks ws) = some (ks, ws) := rfl
theorem sq_eq_of {w : W} {us : List W} (h : sqOf S w = some us) : lenOf S w = some us.length := by
  cases w with
  | loc m => exact (show (lsOf S (.loc m)).map List.length = some us.length from by rw [show lsOf S (.loc m) = some us from h]; rfl)
  | scr ns => cases h; exact congrArg some (List.length_map ..).symm
  | tup _ => cases h; rfl
  | tpf _ => cases h; rfl
  | lst _ => cases h; rfl
  | _ => cases h
end
theorem atI_of {α : Type} {xs : List α} {i : Int} (h0 : 0 ≤ i) (h1 : i < xs.length) : ∃ x, L2.atI xs i = some x ∧ x ∈ xs ∧ xs[i.toNat]? = some x := by
  have hl : i.toNat < xs.length := by omega
  refine ⟨xs[i.toNat], ?_, List.getElem_mem hl, List.getElem?_eq_getElem hl⟩
  unfold L2.atI ixN
  rw [if_pos h0, if_pos h1]
  exact List.getElem?_eq_getElem hl
theorem cut_take (xs : List W) (k : Nat) : cutW xs none (some (k : Int)) = xs.take k := by
  unfold cutW
  rw [HT.sIx_none, HT.sIx_nat, List.drop_zero, Nat.sub_zero]
  by_cases h : k ≤ xs.length
  · rw [Nat.min_eq_left h]
  · rw [Nat.min_eq_right (by omega), List.take_length, List.take_of_length_le (by omega)]
theorem cut_drop (xs : List W) (k : Nat) : cutW xs (some (k : Int)) none = xs.drop k := by
  unfold cutW
  rw [HT.sIx_none, HT.sIx_nat]
  by_cases h : k ≤ xs.length
  · rw [Nat.min_eq_left h, List.take_of_length_le (by rw [List.length_drop]; omega)]
  · rw [Nat.min_eq_right (by omega), Nat.sub_self, List.take_zero, List.drop_of_length_le (by omega)]
theorem cut_take_i (xs : List W) {i : Int} (h : 0 ≤ i) : cutW xs none (some i) = xs.take i.toNat := by
  obtain ⟨k, rfl⟩ := Int.eq_ofNat_of_zero_le h
  rw [cut_take]; rfl
theorem cut_drop_i (xs : List W) {i : Int} (h : 0 ≤ i) : cutW xs (some i) none = xs.drop i.toNat := by
  obtain ⟨k, rfl⟩ := Int.eq_ofNat_of_zero_le h
  rw [cut_drop]; rfl
/-! ### the deck of a law -/
def Ch (d : Nat) (S S' : Store) : Prop := S.length ≤ S'.length ∧ ∀ i, i ≠ d → i < S.length → S'[i]? = S[i]?
theorem Ch.refl (d : Nat) (S : Store) : Ch d S S := ⟨Nat.le_refl _, fun _ _ _ => rfl⟩
theorem Ch.trans {d : Nat} {S S1 S2 : Store} (a : Ch d S S1) (b : Ch d S1 S2) : Ch d S S2 := ⟨Nat.le_trans a.1 b.1, fun i h1 h2 => (b.2 i h1 (Nat.lt_of_lt_of_le h2 a.1)).trans (a.2 i h1 h2)⟩
abbrev deckKs : List Key := [.inr "cells", .inr "turn", .inr "great"]
def DeckAt (S : Store) (d : Nat) (N : Int) : Prop := ∃ (ns : List Int) (t g : Int), S[d]? = some (some (.dic deckKs [.lst (ns.map W.int), .int t, .int g])) ∧ 0 < ns.length ∧ ns.length ≤ 100 ∧ 0 ≤ t ∧ t ≤ N ∧ 0 ≤ g
theorem DeckAt.mono {S : Store} {d : Nat} {N M : Int} (h : DeckAt S d N) (hm : N ≤ M) : DeckAt S d M := by
  obtain ⟨ns, t, g, h1, h2, h3, h4, h5, h6⟩ := h
  exact ⟨ns, t, g, h1, h2, h3, h4, by omega, h6⟩
theorem DeckAt.lt {S : Store} {d : Nat} {N : Int} (h : DeckAt S d N) : d < S.length := by
  obtain ⟨ns, t, g, h1, _⟩ := h
  exact (List.getElem?_eq_some_iff.mp h1).1
theorem set_at {S : Store} {d : Nat} {c : Option Cell} (h : d < S.length) : (S.set d c)[d]? = some c := List.getElem?_set_self h
theorem ch_set {S : Store} {d : Nat} {c : Option Cell} : Ch d S (S.set d c) := ⟨by rw [List.length_set]; exact Nat.le_refl _, fun i h1 _ => List.getElem?_set_ne (Ne.symm h1)⟩
section
variable {a b c w : W}
theorem gk_cells : getKW deckKs [a, b, c] (.inr (Str.ofString "cells")) = some a := if_pos rfl
theorem gk_turn : getKW deckKs [a, b, c] (.inr (Str.ofString "turn")) = some b := by
  show (if _ then _ else (if _ then _ else _)) = _
  rw [if_neg (by decide +kernel), if_pos rfl]
theorem gk_great : getKW deckKs [a, b, c] (.inr (Str.ofString "great")) = some c := by
  show (if _ then _ else (if _ then _ else (if _ then _ else _))) = _
  rw [if_neg (by decide +kernel), if_neg (by decide +kernel), if_pos rfl]
theorem pk_turn : putKW deckKs [a, b, c] (.inr (Str.ofString "turn")) w = (deckKs, [a, w, c]) := by
  have n1 : ¬ ((.inr (Str.ofString "cells") : Key) = .inr (Str.ofString "turn")) := by decide +kernel
  simp only [putKW, deckKs, if_neg n1, if_true]
theorem pk_great : putKW deckKs [a, b, c] (.inr (Str.ofString "great")) w = (deckKs, [a, b, w]) := by
  have n1 : ¬ ((.inr (Str.ofString "cells") : Key) = .inr (Str.ofString "great")) := by decide +kernel
  have n2 : ¬ ((.inr (Str.ofString "turn") : Key) = .inr (Str.ofString "great")) := by decide +kernel
  simp only [putKW, deckKs, if_neg n1, if_neg n2, if_true]
theorem deck_nd : deckKs.Nodup = True := eq_true (by decide +kernel)
theorem deck_ln : (deckKs.length < sizeLine) = True := eq_true (by rw [sizeLine_eq]; decide)
theorem dk_set {S : Store} {d : Nat} {ks : List Key} {ws : List W} (h : d < S.length) : dkOf (S.set d (some (.dic ks ws))) (.loc d) = some (ks, ws) := dk_loc (set_at h)
end
def sp_law_deck : Spec := fun ws S Q => ∃ ns : List Int, ws = [.scr ns] ∧ ns.length ≤ 63 ∧ S = [] ∧ ∀ S', DeckAt S' 0 0 → S'.length = 1 → Q (.loc 0) S'
theorem sp_law_deck_len : ∀ ws S Q, sp_law_deck ws S Q → ws.length = 1 := by rintro _ _ _ ⟨ns, rfl, _⟩; rfl
def sp_law_take : Spec := fun ws S Q => ∃ (d : Nat) (many N : Int), ws = [.loc d, .int many] ∧ 0 < many ∧ many.natAbs.log2 < 9000 ∧ DeckAt S d N ∧ N ≤ 1000000000 ∧ ∀ n S', 0 ≤ n → n < many → DeckAt S' d (N + 1) → Ch d S S' → Q (.int n) S'
theorem sp_law_take_len : ∀ ws S Q, sp_law_take ws S Q → ws.length = 2 := by rintro _ _ _ ⟨d, m, N, rfl, _⟩; rfl
def sp_law_one : Spec := fun ws S Q => ∃ (d : Nat) (it : W) (us : List W) (N : Int), ws = [.loc d, it] ∧ sqOf S it = some us ∧ (∀ n, it ≠ .loc n) ∧ 0 < us.length ∧ us.length ≤ 1000000 ∧ DeckAt S d N ∧ N ≤ 1000000000 ∧ ∀ w S', w ∈ us → DeckAt S' d (N + 1) → Ch d S S' → Q w S'
theorem sp_law_one_len : ∀ ws S Q, sp_law_one ws S Q → ws.length = 2 := by rintro _ _ _ ⟨d, m, N, _, rfl, _⟩; rfl
def isWhole (w : W) (lo hi : Int) : Bool := match w with
  | .int i => decide (lo ≤ i ∧ i ≤ hi)
  | _ => false
def sp_is_whole : Spec := fun ws S Q => ∃ (w : W) (lo hi : Int), ws = [w, .int lo, .int hi] ∧ (tgOf S w).isSome = true ∧ Q (.bl (isWhole w lo hi)) S
theorem sp_is_whole_len : ∀ ws S Q, sp_is_whole ws S Q → ws.length = 3 := by rintro _ _ _ ⟨d, m, N, rfl, _⟩; rfl
def areWhole (w : W) (lo hi : Int) : Bool := match w with
  | .tup ws => ws.all fun x => isWhole x lo hi
  | _ => false
/-- a value of some known kind, throughout a tuple's items -/
def Knd (S : Store) (w : W) : Prop := (tgOf S w).isSome = true ∧ ∀ ws, w = .tup ws → ws.length ≤ 1000000 ∧ ∀ x ∈ ws, (tgOf S x).isSome = true
def sp_are_whole : Spec := fun ws S Q => ∃ (w : W) (lo hi : Int), ws = [w, .int lo, .int hi] ∧ Knd S w ∧ Q (.bl (areWhole w lo hi)) S
theorem sp_are_whole_len : ∀ ws S Q, sp_are_whole ws S Q → ws.length = 3 := by rintro _ _ _ ⟨d, m, N, rfl, _⟩; rfl
theorem sz_le {n : Nat} (h : n ≤ 1000000) : n ≤ sizeLine := by rw [sizeLine_eq]; omega
/-- a comprehension without tests whose element changes nothing -/
theorem lcI_pure {g : W → EnvD → Option EnvD} {te : TD} {τ : EnvD} {S : Store} {Q : List W → Store → Prop} {xs : List W} (f : W → W) (h : ∀ x ∈ xs, ∃ τ1, g x τ = some τ1 ∧ ∀ R : WK, R (f x) S → te τ1 S R) (hq : Q (xs.map f) S) : lcI g dYes te τ xs S Q := by
  refine ⟨fun i acc S' => S' = S ∧ acc = (xs.take i).map f, ⟨rfl, rfl⟩, fun i x acc S' e _ hp => ?_, fun acc S' hp => ?_⟩
  · obtain ⟨rfl, rfl⟩ := hp
    obtain ⟨τ1, e1, h1⟩ := h x (List.mem_of_getElem? e)
    rw [e1]
    simp only [dYes, if_true]
    refine h1 _ ⟨rfl, ?_⟩
    rw [List.take_add_one, e, List.map_append]
    rfl
  · obtain ⟨rfl, rfl⟩ := hp
    rw [List.take_length]
    exact hq
/-- a comprehension without tests, by a word of the turn, the items so far and the store -/
theorem lcI_inv {g : W → EnvD → Option EnvD} {te : TD} {τ : EnvD} {S : Store} {Q : List W → Store → Prop} {xs : List W} (P : Nat → List W → Store → Prop) (h0 : P 0 [] S)
    (h : ∀ i x acc S, xs[i]? = some x → P i acc S → ∃ τ1, g x τ = some τ1 ∧ te τ1 S fun w S' => P (i + 1) (acc ++ [w]) S') (hq : ∀ acc S', P xs.length acc S' → Q acc S') : lcI g dYes te τ xs S Q := by
  refine ⟨P, h0, fun i x acc S' e _ hp => ?_, hq⟩
  obtain ⟨τ1, e1, h1⟩ := h i x acc S' e hp
  rw [e1]
  simp only [dYes, if_true]
  exact h1
theorem forI_inv {g : W → EnvD → Option EnvD} {tb : TSD} {D : DEnds} {τ : EnvD} {S : Store} {xs : List W} (P : Nat → EnvD → Store → Prop) (h0 : P 0 τ S)
    (h : ∀ i x τ S, xs[i]? = some x → P i τ S → ∃ τ1, g x τ = some τ1 ∧ tb ⟨P (i + 1), D.rt, D.nx, P (i + 1)⟩ τ1 S) (hq : ∀ τ S', P xs.length τ S' → D.nx τ S') : forI g tb D xs τ S := by
  refine ⟨P, h0, fun i x τ S' e hp => ?_, hq⟩
  obtain ⟨τ1, e1, h1⟩ := h i x τ S' e hp
  rw [e1]
  exact h1
end FL
end
section
set_option autoImplicit false
namespace FL
open PySem PySem.Spec PyProof.Rows L2
/-! ### words -/
theorem goods_mem : ∀ {ws : List W}, goods ws = true → ∀ w ∈ ws, good w = true
  | [], _, _, h => nomatch h
  | x :: xs, h, w, hw => by
    have h' : good x = true ∧ goods xs = true := by simpa only [goods, Bool.and_eq_true] using h
    rcases List.mem_cons.mp hw with rfl | hw
    · exact h'.1
    · exact goods_mem h'.2 w hw
theorem goods_of : ∀ {ws : List W}, (∀ w ∈ ws, good w = true) → goods ws = true
  | [], _ => rfl
  | x :: xs, h => by
    simp only [goods, Bool.and_eq_true]
    exact ⟨h x (by simp), goods_of fun w hw => h w (List.mem_cons_of_mem _ hw)⟩
theorem goods_app {a b : List W} : goods (a ++ b) = (goods a && goods b) := by
  induction a with
  | nil => rfl
  | cons x xs ih => simp only [List.cons_append, goods, ih, Bool.and_assoc]
theorem hDs_app {a b : List W} : hDs (a ++ b) = (hDs a || hDs b) := by
  induction a with
  | nil => rfl
  | cons x xs ih => simp only [List.cons_append, hDs, ih, Bool.or_assoc]
theorem hLs_app {a b : List W} : hLs (a ++ b) = (hLs a || hLs b) := by
  induction a with
  | nil => rfl
  | cons x xs ih => simp only [List.cons_append, hLs, ih, Bool.or_assoc]
theorem wCosts_app {a b : List W} : wCosts (a ++ b) = wCosts a + wCosts b := by
  induction a with
  | nil => simp only [List.nil_append, wCosts, Nat.zero_add]
  | cons x xs ih => simp only [List.cons_append, wCosts, ih]; omega
theorem wDeps_app {a b : List W} : wDeps (a ++ b) = max (wDeps a) (wDeps b) := by
  induction a with
  | nil => simp only [List.nil_append, wDeps, Nat.zero_max]
  | cons x xs ih => simp only [List.cons_append, wDeps, ih, Nat.max_assoc]
theorem good_tg {w : W} (h : good w = true) (S : Store) : (tgOf S w).isSome = true := by
  cases w <;> first | rfl | (simp only [good] at h; cases h)
theorem good_knd {w : W} (h : good w = true) (hl : ∀ ws, w = .tup ws → ws.length ≤ 1000000) (S : Store) : Knd S w := by
  refine ⟨good_tg h S, fun ws e => ⟨hl ws e, fun x hx => ?_⟩⟩
  subst e
  exact good_tg (goods_mem (by simpa only [good] using h) x hx) S
/-- small data: what may be handed to any function here, and shown -/
structure Sml (n : Nat) (w : W) : Prop where
  g : good w = true
  c : wCost w ≤ n
  d : wDep w ≤ 20
  m : (hD w && hL w) = false
theorem costs_len : ∀ ws : List W, 2 * ws.length ≤ wCosts ws
  | [] => Nat.zero_le _
  | x :: xs => by have := costs_len xs; simp only [wCosts, List.length_cons]; omega
theorem Sml.len {n : Nat} {ws : List W} (h : Sml n (.tup ws)) : 2 * ws.length ≤ n := by
  have := costs_len ws
  have := h.c
  simp only [wCost] at this
  omega
theorem Sml.knd {n : Nat} {w : W} (h : Sml n w) (hn : n ≤ 1000000) (S : Store) : Knd S w := good_knd h.g (fun ws e => by subst e; have := h.len; omega) S
theorem Sml.rep {n : Nat} {w : W} (h : Sml n w) (hn : n ≤ 1000000) (S : Store) : ReprOk (deloc S w) ∧ deloc S w = w := by
  have e : deloc S w = w := by
    have := h.g
    cases w <;> first | rfl | (simp only [good] at this; cases this)
  rw [e]
  exact ⟨⟨h.g, Nat.le_trans h.c (sz_le hn), by have := h.d; omega, h.m⟩, rfl⟩
theorem Sml.mono {n m : Nat} {w : W} (h : Sml n w) (hm : n ≤ m) : Sml m w := ⟨h.g, Nat.le_trans h.c hm, h.d, h.m⟩
def iw (ns : List Int) : List W := ns.map W.int
def small (ns : List Int) : Prop := ∀ n ∈ ns, n.natAbs < 1000000
theorem int_c {i : Int} (h : i.natAbs < 1000000) : good (.int i) = true ∧ wCost (.int i) ≤ 22 := by
  have hl : i.natAbs.log2 < 20 := by
    by_cases hz : i.natAbs = 0
    · rw [hz]; decide
    · exact (Nat.log2_lt hz).mpr (by omega)
  simp only [good, wCost]
  exact ⟨decide_eq_true (by omega), by omega⟩
theorem iw_ok : ∀ {ns : List Int}, small ns → goods (iw ns) = true ∧ wCosts (iw ns) ≤ 24 * ns.length ∧ wDeps (iw ns) = 0 ∧ hDs (iw ns) = false ∧ hLs (iw ns) = false
  | [], _ => ⟨rfl, Nat.le_refl _, rfl, rfl, rfl⟩
  | n :: ns, h => by
    obtain ⟨h1, h2, h3, h4, h5⟩ := iw_ok (ns := ns) fun m hm => h m (List.mem_cons_of_mem _ hm)
    obtain ⟨c1, c2⟩ := int_c (h n (by simp))
    show goods (.int n :: iw ns) = true ∧ wCosts (.int n :: iw ns) ≤ 24 * (ns.length + 1) ∧ wDeps (.int n :: iw ns) = 0 ∧ hDs (.int n :: iw ns) = false ∧ hLs (.int n :: iw ns) = false
    simp only [goods, wCosts, wDeps, hDs, hLs, h1, h3, h4, h5, c1]
    exact ⟨rfl, by omega, rfl, rfl, rfl⟩
theorem Sml.ofI {ns : List Int} (h : small ns) : Sml (24 * ns.length + 3) (.tup (iw ns)) := by
  obtain ⟨h1, h2, h3, h4, h5⟩ := iw_ok h
  exact ⟨by simpa only [good] using h1, by simp only [wCost]; omega, by simp only [wDep, h3]; omega, by simp only [hD, h4]; rfl⟩
/-- an item put into a word -/
theorem Sml.bent {n : Nat} {a b : List Int} {w : W} (ha : small a) (hb : small b) (hw : Sml n w) (hd : wDep w ≤ 10) : Sml (24 * a.length + 24 * b.length + n + 5) (.tup (iw a ++ [w] ++ iw b)) := by
  obtain ⟨h1, h2, h3, h4, h5⟩ := iw_ok ha
  obtain ⟨k1, k2, k3, k4, k5⟩ := iw_ok hb
  have e1 := hw.g
  have e2 := hw.c
  have e3 := hw.m
  refine ⟨?_, ?_, ?_, ?_⟩
  · simp only [good, goods_app, h1, k1, goods, e1, Bool.and_self]
  · simp only [wCost, wCosts_app, wCosts]; omega
  · simp only [wDep, wDeps_app, wDeps, h3, k3]; omega
  · simp only [hD, hL, hDs_app, hLs_app, h4, k4, h5, k5, hDs, hLs, Bool.false_or, Bool.or_false]; exact e3
theorem rangeW_length (lo : Int) (n : Nat) : (rangeW lo n).length = n := by unfold rangeW; rw [List.length_map, List.length_range]
theorem rangeW_at {lo : Int} {n i : Nat} {x : W} (h : (rangeW lo n)[i]? = some x) : i < n ∧ x = .int (lo + (i : Nat)) := by
  unfold rangeW at h
  rw [List.getElem?_map] at h
  obtain ⟨j, e1, e2⟩ := Option.map_eq_some_iff.mp h
  obtain ⟨e3, e4⟩ := List.getElem?_eq_some_iff.mp e1
  rw [List.length_range] at e3
  rw [List.getElem_range] at e4
  subst e4
  exact ⟨e3, e2.symm⟩
/-- draws in a row -/
theorem draws {τ : EnvD} {i j p d : Nat} {many N : Int} {n : Nat} {S : Store} {Q : List W → Store → Prop} (hi : τ[i]? = some (some (.loc d))) (hj : τ[j]? = some (some (.int many))) (hp : p ≠ i) (hp2 : p ≠ j) (h0 : 0 < many) (h1 : many.natAbs.log2 < 9000) (hd : DeckAt S d N) (hN : N + n ≤ 1000000000)
    (hq : ∀ ks S', ks.length = n → (∀ k ∈ ks, 0 ≤ k ∧ k < many) → DeckAt S' d (N + n) → Ch d S S' → Q (iw ks) S') : lcI (gdN p) dYes (dCall sp_law_take (dCons (dVar i) (dCons (dVar j) dNil))) τ (rangeW 0 n) S Q := by
  refine lcI_inv (fun m acc S' => ∃ ks : List Int, acc = iw ks ∧ ks.length = m ∧ (∀ k ∈ ks, 0 ≤ k ∧ k < many) ∧ DeckAt S' d (N + m) ∧ Ch d S S') ⟨[], rfl, rfl, fun _ h => (nomatch h), by simpa using hd, Ch.refl _ _⟩ ?_ ?_
  · rintro m x acc S' e ⟨ks, rfl, hl, hb, hd', hc⟩
    obtain ⟨hm, rfl⟩ := rangeW_at e
    refine ⟨_, rfl, ?_⟩
    have hi' : (τ.set p (some (W.int (0 + (m : Int)))))[i]? = some (some (.loc d)) := by rw [List.getElem?_set_ne hp]; exact hi
    have hj' : (τ.set p (some (W.int (0 + (m : Int)))))[j]? = some (some (.int many)) := by rw [List.getElem?_set_ne hp2]; exact hj
    simp only [dCall, dCons, dVar, dNil, hi', hj']
    refine ⟨d, many, _, rfl, h0, h1, hd', by omega, fun a S2 a0 a1 hd2 hc2 => ⟨ks ++ [a], ?_, by rw [List.length_append, hl]; rfl, fun k hk => ?_, ?_, hc.trans hc2⟩⟩
    · unfold iw; rw [List.map_append]; rfl
    · rcases List.mem_append.mp hk with h | h
      · exact hb k h
      · have : k = a := by simpa using h
        subst this; exact ⟨a0, a1⟩
    · have e2 : N + (m : Int) + 1 = N + ((m + 1 : Nat) : Int) := by omega
      rw [e2] at hd2; exact hd2
  · rintro acc S' ⟨ks, rfl, hl, hb, hd', hc⟩
    rw [rangeW_length] at hl hd'
    exact hq ks S' hl hb hd' hc
/-- is_word -/
def isWordW (sg : Int) (w : W) : Bool := match w with
  | .tup ws => decide (ws.length ≤ 16) && ws.all fun x => isWhole x 0 (sg - 1)
  | _ => false
def sp_is_word : Spec := fun ws S Q => ∃ (sg : Int) (w : W), ws = [.int sg, w] ∧ Knd S w ∧ Q (.bl (isWordW sg w)) S
theorem sp_is_word_len : ∀ ws S Q, sp_is_word ws S Q → ws.length = 2 := by rintro _ _ _ ⟨d, m, rfl, _⟩; rfl
abbrev sp_law_is_word := sp_is_word
abbrev sp_law_is_word_len := sp_is_word_len
abbrev sp_law_is_whole := sp_is_whole
abbrev sp_law_is_whole_len := sp_is_whole_len
theorem eqWs_iw : ∀ ns ms : List Int, eqWs (iw ns) (iw ms) = decide (ns = ms)
  | [], [] => rfl
  | [], _ :: _ => rfl
  | _ :: _, [] => rfl
  | n :: ns, m :: ms => by
    show (eqW (.int n) (.int m) && eqWs (iw ns) (iw ms)) = _
    rw [eqWs_iw ns ms]
    simp only [eqW, List.cons.injEq, Bool.decide_and, Bool.beq_eq_decide_eq]
theorem eqGs_iw : ∀ ns : List Int, eqGs (iw ns) = true
  | [] => rfl
  | n :: ns => by show (eqG (.int n) && eqGs (iw ns)) = true; rw [eqGs_iw ns]; rfl
theorem deps_iw : ∀ ns : List Int, wDeps (iw ns) = 0
  | [] => rfl
  | n :: ns => by show max (wDep (.int n)) (wDeps (iw ns)) = 0; rw [deps_iw ns]; rfl
def sp_is_start : Spec := fun ws S Q => ∃ ns ms : List Int, ws = [.tup (iw ns), .tup (iw ms)] ∧ ns.length ≤ 1000000 ∧ ms.length ≤ 1000000 ∧ Q (.bl (decide (ms.take ns.length = ns))) S
theorem sp_is_start_len : ∀ ws S Q, sp_is_start ws S Q → ws.length = 2 := by rintro _ _ _ ⟨d, m, rfl, _⟩; rfl
abbrev sp_law_starts := sp_is_start
abbrev sp_law_starts_len := sp_is_start_len
theorem rdEq_tup {a b : List W} {S : Store} {Q : WK} (h1 : eqGs a = true) (h2 : eqGs b = true) (h3 : wDeps a ≤ 40) (h4 : wDeps b ≤ 40) (h : Q (.bl (eqWs a b)) S) : rdEq (.tup a) (.tup b) S Q := by
  refine ⟨by simpa only [deloc, eqG] using h1, by simpa only [deloc, eqG] using h2, by simp only [deloc, wDep]; omega, by simp only [deloc, wDep]; omega, ?_⟩
  simpa only [deloc, eqW] using h
theorem rdEq_lst {a b : List W} {S : Store} {Q : WK} (h1 : eqGs a = true) (h2 : eqGs b = true) (h3 : wDeps a ≤ 40) (h4 : wDeps b ≤ 40) (h : Q (.bl (eqWs a b)) S) : rdEq (.lst a) (.lst b) S Q := by
  refine ⟨by simpa only [deloc, eqG] using h1, by simpa only [deloc, eqG] using h2, by simp only [deloc, wDep]; omega, by simp only [deloc, wDep]; omega, ?_⟩
  simpa only [deloc, eqW] using h
theorem rdEq_str {a b : Str} {S : Store} {Q : WK} (h : Q (.bl (decide (a = b))) S) : rdEq (.str a) (.str b) S Q := h
theorem rdEq_int {a b : Int} {S : Store} {Q : WK} (h : Q (.bl (decide (a = b))) S) : rdEq (.int a) (.int b) S Q := by
  refine ⟨rfl, rfl, by show (0 : Nat) ≤ 60; decide, by show (0 : Nat) ≤ 60; decide, ?_⟩
  show Q (.bl (a == b)) S
  rw [Bool.beq_eq_decide_eq]; exact h
theorem rdNe_str {a b : Str} {S : Store} {Q : WK} (h : Q (.bl (!decide (a = b))) S) : rdNe (.str a) (.str b) S Q := h
/-- odd values -/
def oddB (w : W) : Bool := good w && decide (wCost w ≤ 400) && decide (wDep w ≤ 5) && !(hD w && hL w)
theorem oddB_sml {w : W} (h : oddB w = true) : Sml 400 w ∧ wDep w ≤ 5 := by
  unfold oddB at h
  simp only [Bool.and_eq_true, decide_eq_true_eq, Bool.not_eq_true'] at h
  exact ⟨⟨h.1.1.1, h.1.1.2, by omega, h.2⟩, h.1.2⟩
def sp_law_odd : Spec := fun ws S Q => ∃ (d : Nat) (N : Int), ws = [.loc d] ∧ DeckAt S d N ∧ N ≤ 1000000000 ∧ ∀ w S', oddB w = true → DeckAt S' d (N + 1) → Ch d S S' → Q w S'
theorem sp_law_odd_len : ∀ ws S Q, sp_law_odd ws S Q → ws.length = 1 := by rintro _ _ _ ⟨d, m, rfl, _⟩; rfl
theorem oddI {i : Int} (h : i.natAbs < 1000000) : oddB (.int i) = true := by
  obtain ⟨h1, h2⟩ := int_c h
  have h3 : wCost (.int i) ≤ 400 := by omega
  unfold oddB
  rw [h1, decide_eq_true h3]
  rfl
theorem cut_iw (ks : List Int) {k : Int} (h : 0 ≤ k) : cutW (iw ks) none (some k) = iw (ks.take k.toNat) := by
  rw [cut_take_i _ h]; unfold iw; rw [List.map_take]
theorem cut_iw2 (ks : List Int) {k : Int} (h : 0 ≤ k) : cutW (iw ks) (some k) none = iw (ks.drop k.toNat) := by
  rw [cut_drop_i _ h]; unfold iw; rw [List.map_drop]
theorem iw_len (ks : List Int) : (iw ks).length = ks.length := List.length_map ..
theorem small_take {ks : List Int} (h : small ks) (n : Nat) : small (ks.take n) := fun x hx => h x (List.mem_of_mem_take hx)
theorem small_drop {ks : List Int} (h : small ks) (n : Nat) : small (ks.drop n) := fun x hx => h x (List.mem_of_mem_drop hx)
theorem repB {b : Bool} {S : Store} : ReprOk (deloc S (.bl b)) ∧ deloc S (.bl b) = .bl b := ⟨⟨rfl, by show 5 ≤ sizeLine; rw [sizeLine_eq]; decide, by show 0 ≤ 60; decide, rfl⟩, rfl⟩
theorem Sml.tup1 {n : Nat} {w : W} (h : Sml n w) (hd : wDep w ≤ 10) : Sml (n + 5) (.tup [w]) := by
  have := Sml.bent (a := []) (b := []) (fun _ h => nomatch h) (fun _ h => nomatch h) h hd
  exact this.mono (by simp)
theorem Sml.lstI {ns : List Int} (h : small ns) : Sml (24 * ns.length + 3) (.lst (iw ns)) := by
  obtain ⟨h1, h2, h3, h4, h5⟩ := iw_ok h
  exact ⟨by simpa only [good] using h1, by simp only [wCost]; omega, by simp only [wDep, h3]; omega, by simp only [hD, h4]; rfl⟩
theorem log2_small {i : Int} (h : i.natAbs < 1000000) : i.natAbs.log2 < 9000 := by
  by_cases hz : i.natAbs = 0
  · rw [hz]; decide
  · have : i.natAbs.log2 < 20 := (Nat.log2_lt hz).mpr (by omega)
    omega
/-- a list of two answers and a text, shown -/
theorem rep3 {a b : Bool} {x : Str} {S : Store} (hx : chk x) (hl : x.length ≤ 100000) : ReprOk (deloc S (.lst [.bl a, .bl b, .str x])) ∧ deloc S (.lst [.bl a, .bl b, .str x]) = .lst [.bl a, .bl b, .str x] := by
  refine ⟨⟨?_, ?_, ?_, ?_⟩, rfl⟩
  · simp only [deloc, good, goods, chkB_iff.mpr hx, Bool.and_self]
  · simp only [deloc, wCost, wCosts]; rw [sizeLine_eq]; omega
  · simp only [deloc, wDep, wDeps]; decide
  · simp only [deloc, hD, hL, hDs, hLs]; rfl
end FL
end
section
set_option autoImplicit false
namespace FL
open PySem PySem.Spec PyProof.Rows L2
/-! ### enumerate over a tuple -/
theorem draws_tuple {prog : Program} {w : World} {A : Around} (hh : A.handled = none) (it l : Addr) (hne : l ≠ it) (items : Array Value) :
    Draws prog w A it [it, l] items.size (fun i v => items[i]? = some v) (fun i h => h.IsTupleIter it l i ∧ h.IsTuple l items) where
  live := fun _ _ st => let ⟨o, ho, _⟩ := st.1; ⟨o, ho⟩
  frame := fun _ _ _ st hk => ⟨st.1.at fun o e => hk it (by simp) o e, let ⟨o, ho, r⟩ := st.2; ⟨o, hk l (by simp) o ho, r⟩⟩
  item := fun i s Q E hi st hQ => by
    refine RZ.nextOf_tuple_item st.1 st.2 (x := items[i]) (by simp [hi]) fun h' hit' hs' => ?_
    exact hQ _ h' s.toks (by simp [hi]) ⟨hit', let ⟨o, ho, r⟩ := st.2; ⟨o, hs'.extBut l o hne ho, r⟩⟩ hs'
  done := fun s Q E st hE => RZ.nextOf_tuple_end hh st.1 st.2 (by simp) hE
open AutoSeq1 (wpAny_loadPart') in
theorem meets_enumerate_newT (l : Addr) (items : Array Value) (n : Nat) (dct : Option Addr) (sl : Array (Option Value)) :
    Meets (Builtin.«enumerate.__new__» ⟨[.type "enumerate", .ref l], []⟩) (fun _ R s => s.heap.get? l = some { cls := .type "tuple", dict := dct, data := .seq items n, slots := sl } ∧
      R (.ok (.ret (.ref (s.heap.push { cls := .type "tuple_iterator", data := .fields #[.ref l, .int 0 0] }).objs.size)))
        { s with heap := (s.heap.push { cls := .type "tuple_iterator", data := .fields #[.ref l, .int 0 0] }).push { cls := .type "enumerate", data := .fields #[.none, .bool false, .ref s.heap.objs.size, rawInt 0, .none, .none] } }) :=
  .of_wp fun prog w A R s h => by
    obtain ⟨hp, g, d, tk, os⟩ := s; obtain ⟨hl, h⟩ := h
    have hsub := sub_enumerate
    have hL : Heap.IsTuple (Shared.heap ⟨hp, g, d, tk, os⟩) l items := ⟨_, hl, rfl, n, rfl⟩
    wp_walk using wpAny_loadPart' hl
    refine wpAny_stack_any fun st => wpAny_pure ?_
    split
    · rename_i c _ _ _ _ _
      cases (c == Value.type "enumerate")
      · wp_walk using wpAny_loadPart' hl, wpAny_pyIter_tuple hL
        exact ⟨_, rfl, h⟩
      · wp_walk using wpAny_loadPart' hl, wpAny_pyIter_tuple hL
        exact ⟨_, rfl, h⟩
    · wp_walk using wpAny_loadPart' hl, wpAny_pyIter_tuple hL
      exact ⟨_, rfl, h⟩
section
variable {prog : Program} {w : World} {A : Around} {E : Value → Shared → Prop} {s : Shared}
theorem call_enumerate_tuple {l : Addr} {items : Array Value} {Q : Value → Shared → Prop} (hL : s.heap.IsTuple l items)
    (h : ∀ h', IsEnum h' (s.heap.objs.size + 1) s.heap.objs.size 0 .none → h'.IsTupleIter s.heap.objs.size l 0 → h'.objs.size = s.heap.objs.size + 2 →
      (∀ b o, s.heap.get? b = some o → h'.get? b = some o) → Q (.ref (s.heap.objs.size + 1)) { s with heap := h' }) :
    wpAny (model prog w) A (call (.type "enumerate") [.ref l]) Q E s := by
  obtain ⟨⟨c, dct, dt, sl⟩, hl, hc, n, hd⟩ := hL
  replace hc : c = .type "tuple" := hc
  replace hd : dt = .seq items n := hd
  subst hc hd
  refine callType_new F.called_enumerate (by decide) (F.typeCall_enumerate_1 _) (F.newCall_enumerate_1 _) (fun obj => F.args_object_init_2 obj _) F.entry_enumerate_new
    (meets_enumerate_newT l items n dct sl) ⟨hl, ?_⟩
  have hz : (s.heap.push { cls := .type "tuple_iterator", data := .fields #[.ref l, .int 0 0] }).objs.size = s.heap.objs.size + 1 := Heap.size_push ..
  show _ ∧ _
  rw [hz]
  have he : IsEnum ((s.heap.push { cls := .type "tuple_iterator", data := .fields #[.ref l, .int 0 0] }).push
      { cls := .type "enumerate", data := .fields #[.none, .bool false, .ref s.heap.objs.size, rawInt 0, .none, .none] }) (s.heap.objs.size + 1) s.heap.objs.size 0 .none := by
    have := Heap.get?_push_size (s.heap.push { cls := .type "tuple_iterator", data := .fields #[.ref l, .int 0 0] })
      (o := { cls := .type "enumerate", data := .fields #[.none, .bool false, .ref s.heap.objs.size, rawInt 0, .none, .none] }) rfl
    rw [hz] at this; exact this
  refine ⟨⟨_, he, rfl⟩, h _ he ⟨_, Heap.get?_push_of_some _ (Heap.get?_push_size _ rfl), rfl, rfl⟩ (by rw [Heap.size_push, hz]) fun b o x => Heap.get?_push_of_some _ (Heap.get?_push_of_some _ x)⟩
end
/-- the tuple at a, each item in a new pair -/
def Itet (K : PySem.W.Frag) (a : Addr) : It :=
  ⟨fun i H => ∃ (xs : List V) (x : V), SqT K H a xs ∧ xs[i]? = some x, fun i H v H' => ∃ T x, v = .ref T ∧ H T = none ∧ H' = upd H T (.tup [.int (i : Nat), x]) ∧ ∀ xs, SqT K H a xs → xs[i]? = some x, fun i H => ∃ xs : List V, SqT K H a xs ∧ xs.length ≤ i⟩
theorem turn_enumT {P : Program} {w : World} {K : PySem.W.Frag} {elts : List Expr} {kk : Nat} {tpos : Pos} (a e it : Addr) (hea : e ≠ a) (hai : a ≠ it) :
    Turn P w K (.Tuple elts kk tpos) (Itet K a) [e, it] e (fun i h => (∃ old, IsEnum h e it ((i : Nat) : Int) old) ∧ h.IsTupleIter it a i ∧ e ≠ it) where
  mem := by simp
  obj := fun i h st b hb => by
    obtain ⟨⟨old, he⟩, ⟨o, ho, hc, hd⟩, _⟩ := st
    have e' : b = e ∨ b = it := by simpa using hb
    rcases e' with z | z
    · rw [z]; exact ⟨_, he, fun v q => nomatch q⟩
    · rw [z]; exact ⟨o, ho, fun v q => by rw [hd] at q; cases q⟩
  keep := fun i h h' st k => let ⟨⟨old, he⟩, hi, hne⟩ := st; ⟨⟨old, k e (by simp) _ he⟩, hi.at fun o q => k it (by simp) o q, hne⟩
  item := by
    intro X hP hw hK hc i pins s σ H E I hf st hg
    subst hP hw hK
    obtain ⟨⟨old, he⟩, hit, hne⟩ := st
    obtain ⟨xs, x, hq, hx⟩ := hg
    obtain ⟨its, rv, p, hz⟩ := I.tuple hq
    obtain ⟨u, hu, ru⟩ := rv.get hx
    have hel : e < s.heap.objs.size := Heap.lt_size he
    have hil : it < s.heap.objs.size := by obtain ⟨_, q, _⟩ := hit; exact Heap.lt_size q
    have pT : s.heap.IsTuple a its.toArray := p
    have D := draws_tuple (prog := X.prog) (w := X.w) (A := X.A.in1) (I.ok.hd hc) it a hai its.toArray
    have hu' : its.toArray[i]? = some u := by simpa using hu
    have hlt : i < its.toArray.size := (Array.getElem?_eq_some_iff.mp hu').1
    refine wpAny_pyNext_enum_itemD D he ⟨hit, pT⟩ hlt hne (by simp; exact ⟨hne, hea⟩) fun y h' tk hy ho hit' hT hsz hk => ?_
    have ey : y = u := by have := hy.symm.trans hu'; cases this; rfl
    subst ey
    refine ⟨_, rfl, wpAny_letOwnedTupleGo_enum (s := { s with heap := h', toks := tk + 1 }) ho fun h'' he' sb => ?_⟩
    have hT2 : h''.get? s.heap.objs.size = some { cls := .type "tuple", data := .seq #[.int i tk, y] } := (sb.2 _ (Nat.ne_of_gt hel)).trans hT
    have new : ObjOk X.prog X.w (upd H s.heap.objs.size (.tup [.int (i : Nat), x])) h'' s.heap.objs.size (.tup [.int (i : Nat), x]) :=
      ⟨by show 2 ≤ sizeLine; decide, [.int i tk, y], .cons ⟨_, rfl⟩ (.cons ru .nil), ⟨_, hT2, rfl, _, rfl⟩⟩
    have I1 : Inv X pins σ (upd H s.heap.objs.size (.tup [.int (i : Nat), x])) { s with heap := h'', toks := tk + 1 } :=
      I.turnedNew (ch := [e, it]) (fun b ob hb q => (sb.2 b (fun z => hb (by simp [z]))).trans (hk b ob (fun z => hb (by simp [z])) (fun z => hb (by simp [z])) q)) hf (Nat.le_refl _) new
    refine ⟨.ref s.heap.objs.size, _, I1, rfl, ⟨_, x, rfl, I.hok.fresh (Nat.le_refl _), rfl, fun ys hy => by rw [I.tuple_inj hy hq]; exact hx⟩, ⟨⟨y, ?_⟩, hit'.1.at fun o q => (sb.2 it (Ne.symm hne)).trans q, hne⟩, fun b hb => ?_⟩
    · have e1 : ((i + 1 : Nat) : Int) = (i : Int) + 1 := by omega
      rw [e1]; exact he'
    · have hb' : b < s.heap.objs.size := by
        have e' : b = e ∨ b = it := by simpa using hb
        rcases e' with z | z
        · rw [z]; exact hel
        · rw [z]; exact hil
      rw [upd_ne (Nat.ne_of_lt hb')]
      exact (hf b hb).1
  done := by
    intro X hP hw hK hc i pins s σ H E I hf st hg
    subst hP hw hK
    obtain ⟨⟨old, he⟩, hit, hne⟩ := st
    obtain ⟨xs, hq, hx⟩ := hg
    obtain ⟨its, rv, p, hz⟩ := I.tuple hq
    obtain ⟨f0, f1, f2, f3, f4, f5⟩ := hf it (by simp)
    have hl := rv.length
    have pT : s.heap.IsTuple a its.toArray := p
    have hT : s.TypeIs (.ref e) "enumerate" := ⟨_, he, rfl⟩
    have hend : its.toArray[i]? = none := by simp; omega
    unfold pyNext
    refine wpAny_bind (wpAny_attempt (wpAny_callSpecial?_slot (name := Str.ofString "__next__") hT F.slot_enumerate_next
      (wpAny_call_entry F.slot_enumerate_next hT F.entry_enumerate_next ?_ (F.args_enumerate_next_1 _))))
    show wpAny _ _ (field (.ref e) 2 >>= _) _ _ _
    refine wpAny_bind (wpAny_field he rfl (x := .ref it) rfl ?_)
    refine wpAny_bind (RZ.nextOf_tuple_end (I.ok.hd hc) hit pT hend fun h' x eb hx' => ?_)
    obtain ⟨o, ho, hcl⟩ := hx'
    refine wpAny_bind (wpAny_isInstance (T := "StopIteration") (b := true) ⟨o, ho, hcl⟩ isSubtype_stop ?_)
    exact wpAny_pure ⟨rfl, I.turned (t' := s.toks) (fun b o hb q => eb b o hb q) f0 f1 f3 f4 f5⟩
  self := fun A i s Q E st h => let ⟨⟨_, he⟩, _⟩ := st; wpAny_pyIter_enum he h
end FL
namespace FL
open PySem PySem.Spec PyProof.Rows L2
/-- a list's or a tuple's items, each in a new pair -/
def iEnumH (K : PySem.W.Frag) (tl : TA) : TI := fun σ H R => tl σ H fun vs H1 => ∃ a, vs = [.ref a] ∧ ((∃ xs, SqL K H1 a xs ∧ R (Ite K a) H1) ∨ ∃ xs, SqT K H1 a xs ∧ R (Itet K a) H1)
theorem pi_enumS {X : Cx} {e : Expr} {ta : TA} {p pos tpos : Pos} {elts : List Expr} {kk : Nat} (hg : Gl X "enumerate") (hm : X.mg "enumerate" = none) (ha : PA X [e] ta) (hs : starEach [e] X.env = [(false, eval e X.env)] := by rfl) :
    PI X (.Tuple elts kk tpos) (.Call (.Name "enumerate" p) [e] [] pos) (iEnumH X.K ta) := by
  refine ⟨fun pins s σ H R I h => ?_⟩
  refine Call_ (ld_blt I hg hm boot_enumerate (PyProof.Rows.callWith_type1 (thn (ha.run pos pins s σ H _ I h) fun us s1 ⟨vs, H1, I1, r1, q1⟩ => ?_) hs rfl))
  obtain ⟨a, ex, q⟩ := q1
  subst ex
  cases r1 with
  | cons r rr =>
    cases rr
    cases r
    have near : ∀ b ∈ [s1.heap.objs.size + 1, s1.heap.objs.size], FpOk X pins H1 b := fun b hb => by
      have e' : b = s1.heap.objs.size + 1 ∨ b = s1.heap.objs.size := by simpa using hb
      have hle : s1.heap.objs.size ≤ b := by
        rcases e' with z | z
        · rw [z]; exact Nat.le_add_right _ _
        · rw [z]; exact Nat.le_refl _
      exact I1.fpOk hle (I1.hok.fresh hle)
    rcases q with ⟨xs, hq, q⟩ | ⟨xs, hq, q⟩
    · obtain ⟨its, rv, p', hz⟩ := I1.list hq
      refine call_enumerate_list p'.isList fun h' he hit hsz hk => wpAny_pyIter_enum he ?_
      have I2 : Inv X pins σ H1 { s1 with heap := h' } := I1.kept (t' := s1.toks) hk
      exact ⟨s1.heap.objs.size + 1, [s1.heap.objs.size + 1, s1.heap.objs.size], _, _, H1, rfl, I2, turn_enum a (s1.heap.objs.size + 1) s1.heap.objs.size, ⟨⟨.none, he⟩, hit, Nat.succ_ne_self _⟩, near, q⟩
    · obtain ⟨its, rv, p', hz⟩ := I1.tuple hq
      have pT : s1.heap.IsTuple a its.toArray := p'
      have hlt : a < s1.heap.objs.size := by obtain ⟨_, z, _⟩ := pT; exact Heap.lt_size z
      refine call_enumerate_tuple pT fun h' he hit hsz hk => wpAny_pyIter_enum he ?_
      have I2 : Inv X pins σ H1 { s1 with heap := h' } := I1.kept (t' := s1.toks) hk
      exact ⟨s1.heap.objs.size + 1, [s1.heap.objs.size + 1, s1.heap.objs.size], _, _, H1, rfl, I2, turn_enumT a (s1.heap.objs.size + 1) s1.heap.objs.size (Nat.ne_of_gt (Nat.lt_succ_of_lt hlt)) (Nat.ne_of_lt hlt), ⟨⟨.none, he⟩, hit, Nat.succ_ne_self _⟩, near, q⟩
def enumW : Nat → List W → List W
  | _, [] => []
  | n, w :: ws => .tup [.int (n : Nat), w] :: enumW (n + 1) ws
theorem enumW_len : ∀ (n : Nat) (ws : List W), (enumW n ws).length = ws.length
  | _, [] => rfl
  | n, w :: ws => by show (enumW (n + 1) ws).length + 1 = ws.length + 1; rw [enumW_len]
theorem enumW_at : ∀ (n i : Nat) (ws : List W), (enumW n ws)[i]? = (ws[i]?).map fun w => .tup [.int ((n + i : Nat) : Int), w]
  | _, _, [] => by simp [enumW]
  | n, 0, w :: ws => rfl
  | n, i + 1, w :: ws => by
    show (enumW (n + 1) ws)[i]? = (ws[i]?).map _
    rw [enumW_at, show n + 1 + i = n + (i + 1) by omega]
theorem walks_enum {K : PySem.W.Frag} {γ : List Addr} {C : Cfg} {J : It} {xs : List V} {ws : List W} {G : Cfg → Prop} (hk : ∀ γ' C', Step γ C γ' C' → G C') (r : RVs K γ C xs ws)
    (hgo : ∀ i x C', G C' → xs[i]? = some x → J.go i C'.H) (hy : ∀ i C' v H', G C' → J.yld i C'.H v H' → ∃ T x, v = .ref T ∧ C'.H T = none ∧ H' = upd C'.H T (.tup [.int (i : Nat), x]) ∧ xs[i]? = some x) (hst : ∀ i C', G C' → xs.length ≤ i → J.stop i C'.H) : Walks K γ C J (enumW 0 ws) := by
  refine ⟨fun i w γ' C' s' st e => ?_, fun i γ' C' s' st hl => hst i C' (hk _ _ st) (by rw [r.length]; rw [enumW_len] at hl; exact hl)⟩
  rw [enumW_at, Nat.zero_add] at e
  obtain ⟨w', e1, rfl⟩ := Option.map_eq_some_iff.mp e
  obtain ⟨v, e', rv⟩ := r.get e1
  refine ⟨hgo i v C' (hk _ _ st) e', fun x H' hyy => ?_⟩
  obtain ⟨T, u, rfl, hT, rfl, hu⟩ := hy i C' x H' (hk _ _ st) hyy
  have : u = v := by have := hu.symm.trans e'; cases this; rfl
  subst this
  exact ⟨C'.put T (.tup [.int (i : Nat), u]), rfl, rfl, s'.new hT, Step.new hT, .tup (show SqH _ _ _ from upd_same) (.cons (.int _) (.cons ((rv.step st).step (Step.new hT)) .nil))⟩
def iEnumD (ta : TD) : TAD := fun τ S Q => ta τ S fun w S1 => match seqT w with
  | some ws => Q (enumW 0 ws) S1
  | none => False
theorem pid_enum {X : Cx} {l : Expr} {ta : TD} {p pos tpos : Pos} {elts : List Expr} {kk : Nat} (hg : Gl X "enumerate") (hm : X.mg "enumerate" = none) (ha : PD X l ta) (hs : starEach [l] X.env = (false, eval l X.env) :: starEach [] X.env := by rfl) :
    PID X (.Tuple elts kk tpos) (.Call (.Name "enumerate" p) [l] [] pos) (iEnumD ta) := by
  obtain ⟨tA, pa, ka⟩ := ha.ex
  refine ⟨_, pi_enumS hg hm (pa_cons pa pa_nil hs) hs, fun γ C σ τ Qd R hs hst h k => ka γ C σ τ _ _ hs hst h fun C1 v w h1 s1 st1 r1 => ?_⟩
  cases r1 <;> first | exact False.elim h1 | skip
  · rename_i p xs ws e1 e3
    refine ⟨p, rfl, .inr ⟨xs, e1, k C1 _ _ h1 s1 st1 (walks_enum (G := fun C' => SqT X.K C'.H p xs) (fun γ' C' st => st.sqt e1) e3 (fun i x C' g e => ⟨xs, x, g, e⟩) (fun i C' v H' g y => ?_) fun i C' g e => ⟨xs, g, e⟩)⟩⟩
    obtain ⟨T, x, y1, y2, y3, y4⟩ := y
    exact ⟨T, x, y1, y2, y3, y4 xs g⟩
  · rename_i p xs ws e1 e2 e3
    refine ⟨p, rfl, .inl ⟨xs, SqL.of e1, k C1 _ _ h1 s1 st1 (walks_enum (G := fun C' => SqL X.K C'.H p xs) (fun γ' C' st => SqL.of (st.keep _ _ e1 (.inr e2))) e3 (fun i x C' g e => ⟨xs, x, g, e⟩) (fun i C' v H' g y => ?_) fun i C' g e => ⟨xs, g, e⟩)⟩⟩
    obtain ⟨T, x, y1, y2, y3, y4⟩ := y
    exact ⟨T, x, y1, y2, y3, y4 xs g⟩
  · rename_i p ns e1
    refine ⟨p, rfl, .inl ⟨_, e1.sq, k C1 _ _ h1 s1 st1 (walks_enum (G := fun C' => SqL X.K C'.H p (ns.map V.int)) (fun γ' C' st => (st.scr e1).sq) (RVs.of_ints ns) (fun i x C' g e => ⟨_, x, g, e⟩) (fun i C' v H' g y => ?_) fun i C' g e => ⟨_, g, e⟩)⟩⟩
    obtain ⟨T, x, y1, y2, y3, y4⟩ := y
    exact ⟨T, x, y1, y2, y3, y4 _ g⟩
  · rename_i p xs ws e1 e3
    refine ⟨p, rfl, .inr ⟨xs, e1.sq, k C1 _ _ h1 s1 st1 (walks_enum (G := fun C' => SqT X.K C'.H p xs) (fun γ' C' st => st.sqt e1.sq) e3 (fun i x C' g e => ⟨xs, x, g, e⟩) (fun i C' v H' g y => ?_) fun i C' g e => ⟨xs, g, e⟩)⟩⟩
    obtain ⟨T, x, y1, y2, y3, y4⟩ := y
    exact ⟨T, x, y1, y2, y3, y4 xs g⟩
/-! ### <= of int tuples -/
theorem lexAt_shift (e r : Nat → Bool) (z : Bool) : ∀ k i, Ob.lexAt e r z (i + 1) k = Ob.lexAt (fun j => e (j + 1)) (fun j => r (j + 1)) z i k
  | 0, _ => rfl
  | k + 1, i => by rw [Ob.lexAt_succ, Ob.lexAt_succ, lexAt_shift e r z k (i + 1)]
theorem lexLe_eq : ∀ ns ms : List Int, Ob.lexAt (fun j => decide (ns.getD j 0 = ms.getD j 0)) (fun j => decide (ns.getD j 0 ≤ ms.getD j 0)) (decide (ns.length ≤ ms.length)) 0 (min ns.length ms.length) = !HT.lexLt ms ns
  | [], [] => rfl
  | [], m :: ms => rfl
  | n :: ns, [] => rfl
  | n :: ns, m :: ms => by
    have ih := lexLe_eq ns ms
    have e : min (n :: ns).length (m :: ms).length = min ns.length ms.length + 1 := by simp only [List.length_cons]; omega
    rw [e, Ob.lexAt_succ, HT.lexLt_cons]
    simp only [List.getD_cons_zero]
    by_cases h : n = m
    · subst h
      rw [if_pos (decide_eq_true rfl), if_pos rfl, lexAt_shift]
      have e2 : decide ((n :: ns).length ≤ (n :: ms).length) = decide (ns.length ≤ ms.length) := decide_eq_decide.mpr (by simp)
      rw [e2]
      exact ih
    · rw [if_neg (by simpa using h), if_neg fun z => h z.symm]
      by_cases h2 : n ≤ m
      · rw [decide_eq_true h2, decide_eq_false (by omega)]; rfl
      · rw [decide_eq_false h2, decide_eq_true (by omega)]; rfl
def rdLe : R2D := fun x y S Q => match x, y with
  | .int i, .int j => Q (.bl (decide (i ≤ j))) S
  | .tup a, .tup b => (match intsOf a, intsOf b with
    | some ns, some ms => Q (.bl (!HT.lexLt ms ns)) S
    | _, _ => False)
  | _, _ => False
theorem opd_le {X : Cx} {k : Nat} (hr : Room k X.A) : OpD X (compareOp .LtE) rdLe := by
  refine ⟨_, op_le.or (op_leT hr.units0), fun γ C x y w1 w2 Qd Q hs rx ry h k => ?_⟩
  cases rx <;> cases ry <;> first | exact False.elim h | skip
  · exact .inl ⟨_, _, rfl, rfl, k C _ _ h hs (.refl _ _) (.bl _)⟩
  · rename_i a xs us h1 r1 b ys vs h2 r2
    have h' : (match intsOf us, intsOf vs with
      | some ns, some ms => Qd (.bl (!HT.lexLt ms ns)) C.S
      | _, _ => False) := h
    split at h'
    · rename_i ns ms e1 e2
      rw [intsOf_eq e1] at r1
      rw [intsOf_eq e2] at r2
      rw [r1.ints] at h1
      rw [r2.ints] at h2
      rw [← lexLe_eq] at h'
      exact .inr ⟨a, b, ns, ms, rfl, rfl, h1, h2, k C _ _ h' hs (.refl _ _) (.bl _)⟩
    · exact h'.elim
end FL
end
section
set_option autoImplicit false
namespace FL
open PySem PySem.Spec PyProof.Rows L2
/-! ### t[::-1] of a tuple -/
section
variable {prog : Program} {w : World} {A : Around} {E : Value → Shared → Prop} {s : Shared}
theorem adjust_rev (n : Nat) : Builtin.Slice.sliceAdjust none none (-1) (n : Int) = ((n : Int) - 1, -1) := rfl
theorem places_rev (n : Nat) : Builtin.Slice.slicePlaces ((n : Int) - 1) (-1) (-1) = n := by
  unfold Builtin.Slice.slicePlaces
  have h1 : ¬ ((-1 : Int) > 0) := by omega
  simp only [h1, if_false]
  split
  · rw [show (-(-1) : Int) = 1 by omega, Int.ediv_one]; omega
  · omega
theorem sliceApplied_rev {sl : Addr} {vl vu vs : Value} {n : Nat} {Q : Int × Int × Nat → Shared → Prop} (hs : s.heap.IsSliceOf sl vl vu vs) (pl : IsPart vl none) (pu : IsPart vu none) (ps : IsPart vs (some (-1)))
    (h : Q ((n : Int) - 1, -1, n) s) : wpAny (model prog w) A (Builtin.Slice.sliceApplied (.ref sl) (pure (n : Int))) Q E s := by
  obtain ⟨os, hos, hcs, hds⟩ := id hs
  unfold Builtin.Slice.sliceApplied Builtin.Slice.sliceFields
  refine wpAny_bind (wpAny_bind (wpAny_field hos hds (x := vl) rfl (wpAny_bind (wpAny_field hos hds (x := vu) rfl (wpAny_bind (wpAny_field hos hds (x := vs) rfl (wpAny_pure ?_)))))))
  refine wpAny_bind (HT.slicePart_ ps ?_)
  show wpAny _ _ (if ((-1 : Int) == 0) = true then _ else _) _ _ s
  rw [if_neg (by decide)]
  refine wpAny_bind (HT.slicePart_ pl (wpAny_bind (HT.slicePart_ pu (wpAny_bind (wpAny_pure ?_)))))
  show wpAny _ _ (match Builtin.Slice.sliceAdjust none none (-1) (n : Int) with | (lo, hi) => pure (lo, (-1 : Int), Builtin.Slice.slicePlaces lo hi (-1))) _ _ s
  rw [adjust_rev]
  show wpAny _ _ (pure ((n : Int) - 1, (-1 : Int), Builtin.Slice.slicePlaces ((n : Int) - 1) (-1) (-1))) _ _ s
  rw [places_rev]
  exact wpAny_pure h
theorem pick_rev (xs : Array Value) : ((List.range xs.size).filterMap fun (m : Nat) => xs[((xs.size : Int) - 1 + (m : Int) * (-1)).toNat]?).toArray = xs.toList.reverse.toArray := by
  have e : (fun (m : Nat) => xs[((xs.size : Int) - 1 + (m : Int) * (-1)).toNat]?) = (fun (j : Nat) => xs[j]?) ∘ fun m => xs.size - 1 - m := by
    funext m
    have : ((xs.size : Int) - 1 + (m : Int) * (-1)).toNat = xs.size - 1 - m := by omega
    show _ = xs[xs.size - 1 - m]?
    rw [this]
  rw [e, ← List.filterMap_map, PySem.W.krv_range, List.filterMap_reverse, PySem.W.krv_all]
theorem getItem_tuple_rev {t sl : Addr} {items : Array Value} {vl vu vs : Value} {Q : Value → Shared → Prop} (ht : IsTup s.heap t items) (hs : s.heap.IsSliceOf sl vl vu vs) (pl : IsPart vl none) (pu : IsPart vu none) (ps : IsPart vs (some (-1)))
    (h : Q (.ref s.heap.objs.size) { s with heap := s.heap.push { cls := .type "tuple", data := .seq items.toList.reverse.toArray } })
    (hsz : items.size ≤ sizeLine) : wpAny (model prog w) A (getItem (.ref t) (.ref sl)) Q E s := by
  have htake : sizeOk (.seq items.toList.reverse.toArray) := by
    show items.toList.reverse.toArray.size ≤ sizeLine
    rw [List.size_toArray, List.length_reverse, Array.length_toList]
    exact hsz
  obtain ⟨os, hos, hcs, hds⟩ := id hs
  have hTs : s.TypeIs (.ref sl) "slice" := ⟨os, hos, hcs⟩
  unfold getItem
  try with_reducible refine wpAny_holding ?_
  first | refine wpAny_bind (wpAny_pure ?_) | skip
  refine wpAny_bind (wpAny_sequenceKey ht.typeIs (by decide) ?_)
  refine wpAny_bind (wpAny_callSpecial?_slot (name := Str.ofString "__getitem__") ht.typeIs PyProof.Rows.slot_tuple_getitem
    (wpAny_call_entry PyProof.Rows.slot_tuple_getitem ht.typeIs entry_tuple_getitem ?_ (args_tuple_getitem _ _)))
  show wpAny _ _ (Builtin.Tuple.tupleItemsOf (.ref t) >>= _) _ _ s
  refine wpAny_bind (tupleItemsOf_ ht ?_)
  refine wpAny_bind (wpAny_typeOf hTs ?_)
  rw [if_pos (by decide)]
  refine wpAny_bind (sliceApplied_rev hs pl pu ps ?_)
  have hno : ¬ ((((items.size : Int) - 1) == 0 && (-1 : Int) == 1 && items.size == items.size) = true) := by
    intro q
    rw [Bool.and_eq_true, Bool.and_eq_true] at q
    exact absurd q.1.2 (by decide)
  show wpAny _ _ (if (((items.size : Int) - 1) == 0 && (-1 : Int) == 1 && items.size == items.size) = true then _ else _) _ _ s
  rw [if_neg hno, pick_rev]
  first
    | exact wpAny_bind (m := Builtin.Tuple.tupleExact _) (wpAny_newObj_type (wpAny_pure ⟨_, rfl, wpAny_pure h⟩) htake)
    | exact wpAny_bind (m := Builtin.Tuple.tupleExact _) (wpAny_newObj_type (wpAny_bind (wpAny_pure (wpAny_pure ⟨_, rfl, wpAny_pure h⟩))) htake)
    | exact wpAny_bind (wpAny_bind (m := Builtin.Tuple.tupleExact _) (wpAny_newObj_type (wpAny_pure (wpAny_pure ⟨_, rfl, wpAny_pure h⟩)) htake))
    | exact wpAny_bind (wpAny_bind (m := Builtin.Tuple.tupleExact _) (wpAny_newObj_type (wpAny_pure ⟨_, rfl, wpAny_pure h⟩) htake))
end
section
variable {X : Cx}
def tRevT (K : PySem.W.Frag) (te : TE) : TE := fun σ H Q => te σ H fun x H1 => ∃ a xs, x = .ref a ∧ SqT K H1 a xs ∧ ∀ p, H1 p = none → Q (.ref p) (upd H1 p (.tup xs.reverse))
theorem pe_revT {e : Expr} {te : TE} {k : Nat} {p1 p2 p3 pos : Pos} (he : PE X e te) : PE X (.Subscript e (.Slice none none (some (.UnaryOp .USub (.Constant (.int 1) k p1) p2)) p3) pos) (tRevT X.K te) := by
  refine ⟨fun pins s σ H Q I h => ?_⟩
  refine Subscript_ (thn (he.run pins s σ H _ I h) fun v s1 ⟨x, H1, I1, r1, q1⟩ => ?_)
  obtain ⟨a, xs, ex, hx, q⟩ := q1
  subst ex
  cases r1
  have hst : PO X (some (.UnaryOp .USub (.Constant (.int 1) k p1) p2)) (tPart (tUn (rU fun i => .int (-i)) (tC (.int 1)))) := po_some (pe_un un_neg pe_int)
  refine wpAny_Slice (thn (po_none.run pins s1 σ H1 (fun o H2 => o = none ∧ H2 = H1) I1 ⟨rfl, rfl⟩) fun vl s2 ⟨l, H2, I2, pl, el, e2⟩ => ?_)
  subst el e2
  refine thn (po_none.run pins s2 σ H2 (fun o H3 => o = none ∧ H3 = H2) I2 ⟨rfl, rfl⟩) fun vu s3 ⟨u, H3, I3, pu, eu, e3⟩ => ?_
  subst eu e3
  refine thn (hst.run pins s3 σ H3 (fun o H4 => o = some (-1) ∧ H4 = H3) I3 ⟨1, rfl, -1, rfl, rfl, rfl⟩) fun vs s4 ⟨o, H4, I4, ps, eo, e4⟩ => ?_
  subst eo e4
  have I5 : Inv X pins σ H4 { s4 with heap := s4.heap.push { cls := .type "slice", data := .fields #[vl, vu, vs] } } := I4.kept (t' := s4.toks) fun b ob q => Heap.get?_push_of_some _ q
  obtain ⟨its, r, ht, hz⟩ := I5.tuple hx
  have hlen := r.length
  show wpAny (model X.prog X.w) X.A (subscriptTail e (.Slice none none (some (.UnaryOp .USub (.Constant (.int 1) k p1) p2)) p3) (.ref a) (.ref s4.heap.objs.size)) (EP X pins σ Q) X.xe { s4 with heap := s4.heap.push { cls := .type "slice", data := .fields #[vl, vu, vs] } }
  refine tail_any (ops := [.ref a, .ref s4.heap.objs.size]) ht.typeIs PyProof.Rows.slot_tuple_getitem.lookup ?_ (by with_unfolding_all rfl)
  refine getItem_tuple_rev ht (Heap.IsSliceOf.new _ vl vu vs) pl pu ps ?_ (by rw [List.size_toArray]; omega)
  refine ⟨.ref _, _, I5.laid (t' := s4.toks) (o := .tup xs.reverse) (fun b ob q => Heap.get?_push_of_some _ q) (Nat.le_refl _) ?_, rfl, q _ (I5.hok.fresh (Nat.le_refl _))⟩
  exact ⟨by rw [List.length_reverse]; exact hz, _, r.reverse, IsTup.new _ _⟩
def dRevT (te : TD) : TD := fun τ S Q => te τ S fun x S1 => match x with
  | .tup ws => Q (.tup ws.reverse) S1
  | _ => False
theorem pd_rev {a : Expr} {ta : TD} {k : Nat} {p1 p2 p3 pos : Pos} (he : PD X a ta) : PD X (.Subscript a (.Slice none none (some (.UnaryOp .USub (.Constant (.int 1) k p1) p2)) p3) pos) (dRevT ta) := by
  obtain ⟨tA, pa, ka⟩ := he.ex
  refine ⟨_, pe_revT pa, fun γ C σ τ Qd Q hs hst h k => ka γ C σ τ _ _ hs hst h fun C1 v w h1 s1 st1 r1 => ?_⟩
  cases r1 <;> first | exact False.elim h1 | skip
  rename_i p xs ws e1 e3
  exact ⟨p, xs, rfl, e1, newTup (k.step st1) s1 e3.reverse h1⟩
end
/-! ### () * k -/
theorem tuple_mul0 (l : Addr) (items : Array Value) (n : Nat) (dd : Option Addr) (sl : Array (Option Value)) (x : Int) (u : Tok) (c0 : (decide (x < -(2 ^ 63)) || decide (x ≥ 2 ^ 63)) = false) (c1 : (items.isEmpty || x == 1) = true) :
    Meets (Builtin.«tuple.__mul__» ⟨[.ref l, .int x u], []⟩) (fun _ R s => s.heap.get? l = some { cls := .type "tuple", dict := dd, data := .seq items n, slots := sl } ∧ R (.ok (.ret (Value.ref l))) s) :=
  .of_wp fun prog w A R s h => by
    obtain ⟨hp, g, d, tk, os⟩ := s
    obtain ⟨hl, h⟩ := h
    have f1 := AutoSeq1.idx_int
    wp_walk using AutoSeq1.wpAny_loadPart' hl
    repeat (first
      | (refine wpAny_ite_false (decide_eq_false (by rw [c0]; exact Bool.false_ne_true)) ?_; wp_walk using AutoSeq1.wpAny_loadPart' hl)
      | (refine wpAny_ite_true (decide_eq_true (by rw [c1])) ?_; wp_walk using AutoSeq1.wpAny_loadPart' hl))
    exact ⟨_, rfl, h⟩
section
variable {X : Cx}
def rRepT0 (K : PySem.W.Frag) : R2 := fun x y H Q => ∃ l k xs, x = .ref l ∧ y = .int k ∧ SqT K H l xs ∧ xs = [] ∧ 0 ≤ k ∧ k ≤ 1000 ∧ Q (.ref l) H
theorem op_repT0 : OpR X (binaryOp .Mult) (rRepT0 X.K) := by
  intro pins s σ H x y v u Q I rx ry h
  obtain ⟨l, k, xs, rfl, rfl, hT, rfl, h1, h2, q⟩ := h
  cases rx
  obtain ⟨t, rfl⟩ := ry
  obtain ⟨its, r, ⟨⟨cls, dd, data, sl⟩, ho, hc, n, hd⟩, hs⟩ := I.tuple hT
  simp only at hc hd
  subst hc hd
  have hle : its.length = 0 := r.length.symm
  have hn : its = [] := List.eq_nil_of_length_eq_zero hle
  subst hn
  have c0 : (decide (k < -(2 ^ 63)) || decide (k ≥ 2 ^ 63)) = false := by
    rw [decide_eq_false (by omega), decide_eq_false (by omega)] <;> rfl
  refine wpAny_binaryOp_repeat_ref (T := "tuple") (U := "int") (by decide) ⟨_, ho, rfl⟩ (fun s' => typeIs_int s' k t) noFill_tuple_mul F.fills_int_mul F.slot_int_rmul repeat_tuple F.slot_int_index.lookup
    (call_meets F.slot_int_rmul (typeIs_int s k t) F.entry_int_rmul (F.args_int_rmul_2 _ _) (int_rmul_tuple k t l [].toArray n dd sl)
      ⟨ho, rfl, ⟨_, ho, rfl⟩, call_meets F.slot_tuple_mul ⟨_, ho, rfl⟩ F.entry_tuple_mul (F.args_tuple_mul_2 _ _) (tuple_mul0 l [].toArray n dd sl k t c0 rfl) ⟨ho, ?_⟩⟩)
  exact ⟨.ref l, _, I, rfl, q⟩
theorem opd_repT0 : OpD X (binaryOp .Mult) (fun x y S Q => match x, y with
  | .tup ws, .int k => ws = [] ∧ 0 ≤ k ∧ k ≤ 1000 ∧ Q (.tup []) S
  | _, _ => False) := by
  refine ⟨_, op_repT0, fun γ C x y w1 w2 Qd Q hs rx ry h k => ?_⟩
  cases rx <;> cases ry <;> first | exact False.elim h | skip
  rename_i a xs ws h1 r1 i
  obtain ⟨rfl, h2, h3, h4⟩ := h
  cases r1
  exact ⟨a, i, [], rfl, rfl, h1, rfl, h2, h3, k C _ _ h4 hs (.refl _ _) (.tup h1 .nil)⟩
/-- like rdMul, the empty tuple too -/
def rdMulA : R2D := fun x y S Q => match x, y with
  | .int i, .int j => CMul i j ∧ Q (.int (i * j)) S
  | .tup ws, .int k => 2 ≤ k ∧ k ≤ 1000 ∧ ws.length ≤ 1000 ∧ Q (.tup (List.replicate k.toNat ws).flatten) S
  | .lst ws, .int k => -(2 ^ 63) ≤ k ∧ k < 2 ^ 63 ∧ ws.length * k.toNat ≤ sizeLine ∧ Q (.lst (List.replicate k.toNat ws).flatten) S
  | _, _ => False
theorem flat_rep0 {α : Type} : ∀ n : Nat, (List.replicate n ([] : List α)).flatten = []
  | 0 => rfl
  | n + 1 => by rw [List.replicate_succ, List.flatten_cons, flat_rep0 n]; rfl
theorem opd_mulA : OpD X (binaryOp .Mult) rdMulA := by
  obtain ⟨r, o, kk⟩ := ((opd_mul (X := X)).or opd_repT0).ex
  refine ⟨r, o, fun γ C x y w1 w2 Qd Q hs rx ry h k => kk γ C x y w1 w2 Qd Q hs rx ry ?_ k⟩
  unfold rdMulA at h
  split at h
  · exact .inl h
  · rename_i ws j
    by_cases hw : ws = []
    · subst hw
      obtain ⟨h1, h2, h3, h4⟩ := h
      rw [flat_rep0] at h4
      exact .inr ⟨rfl, by omega, h2, h4⟩
    · exact .inl ⟨hw, h⟩
  · exact .inl h
  · exact h.elim
end
end FL
end
section
set_option autoImplicit false
namespace FL
open PySem PySem.Spec PyProof.Rows L2
/-! ### t != () -/
section
variable {X : Cx}
theorem opd_neE0 {k : Nat} (hr : Room k X.A) : OpD X (compareOp .NotEq) (fun x y S Q => match x, y with
  | .tup us, .tup [] => Q (.bl (!us.isEmpty)) S
  | _, _ => False) := by
  refine ⟨fun x y H Q => ∃ a b xs, x = .ref a ∧ y = .ref b ∧ SqT X.K H a xs ∧ SqT X.K H b [] ∧ Q (.bl (!xs.isEmpty)) H, ?_, fun γ C x y w1 w2 Qd Q hs rx ry h k => ?_⟩
  · intro pins s σ H x y v u Q I rx ry h
    obtain ⟨a, b, xs, rfl, rfl, ha, hb, q⟩ := h
    cases rx
    cases ry
    obtain ⟨its, r1, p1, _⟩ := I.tuple ha
    obtain ⟨its2, r2, p2, _⟩ := I.tuple hb
    cases r2
    have hl : s.heap.IsTuple a its.toArray := p1
    have hl2 : s.heap.IsTuple b ([] : List Value).toArray := p2
    have R := SeqAt.RcNeAt.tuples (A := X.A) (e := fun _ => true) hl hl2 hr.units0 (fun j _ h2 => absurd h2 (Nat.not_lt_zero _))
    refine R X.prog X.w X.xe (EP X pins σ Q) ⟨.bl (!xs.isEmpty), H, I, ?_, q⟩
    have hz := r1.length
    cases its with
    | nil =>
      cases xs with
      | nil => rfl
      | cons _ _ => cases hz
    | cons _ _ =>
      cases xs with
      | nil => cases hz
      | cons _ _ => rfl
  · cases rx <;> cases ry <;> first | exact False.elim h | skip
    rename_i a xs ws e1 r1 b ys us e2 r2
    cases r2 with
    | cons _ _ => exact False.elim h
    | nil =>
      refine ⟨a, b, xs, rfl, rfl, e1, e2, ?_⟩
      have e : xs.isEmpty = ws.isEmpty := by
        cases r1 <;> rfl
      rw [e]
      exact k C _ _ h hs (.refl _ _) (.bl _)
def rdNeE : R2D := fun x y S Q => match x, y with
  | .tup us, .tup [] => Q (.bl (!us.isEmpty)) S
  | _, _ => False
theorem opd_neE {k : Nat} (hr : Room k X.A) : OpD X (compareOp .NotEq) rdNeE := opd_neE0 hr
end
/-! ### repr of a tuple of things that each hold either lists or dicts -/
def Unm (w : W) : Prop := (hD w && hL w) = false
section
variable {X : Cx} {pins : List (Addr × Obj)} {σ : L2.St} {γ : List Addr} {C : Cfg} {s : Shared}
theorem RVs.reprAll (I : L2.Inv X pins σ C.H s) : ∀ {vs : List V} {ws : List W} {ds : List PyData} {us : List Value}, RVs X.K γ C vs ws → toPs ws = some ds → goods ws = true → Vals vs us → (∀ w ∈ ws, Unm w) → wCosts ws ≤ sizeLine →
    ∃ as bs, ReadsAll s.heap us ds as ∧ ReadAtMost s.heap (PyData.depthAll ds) bs ∧ ReprAllK X.prog X.w bs s.heap (PyData.depthAll ds) us (PyData.shownAll ds)
  | _, _, _, _, .nil, e, _, r, _, _ => by
    simp only [toPs] at e
    cases e; cases r
    exact ⟨_, [], .nil, (fun _ h => nomatch h), by simp only [PyData.shownAll]; exact .nil⟩
  | _, _, _, _, .cons (w := w) (ws := ws) h1 h2, e, hg, r, hu, hz => by
    obtain ⟨d, e1, e2⟩ := Option.bind_eq_some_iff.mp (show (toP w).bind (fun d => (toPs ws).map fun ds => d :: ds) = some _ from by simpa only [toPs] using e)
    obtain ⟨ds, e3, e4⟩ := Option.map_eq_some_iff.mp e2
    subst e4
    have hg' : good w = true ∧ goods ws = true := by simpa only [goods, Bool.and_eq_true] using hg
    have hz' : wCost w ≤ sizeLine ∧ wCosts ws ≤ sizeLine := by simp only [wCosts] at hz; omega
    cases r with
    | cons r1 r2 =>
      obtain ⟨as, q1, m1⟩ := RV.reads I h1 e1 r1
      obtain ⟨as2, bs2, q2, b2, k2⟩ := RVs.reprAll I h2 e3 hg'.2 r2 (fun x hx => hu x (List.mem_cons_of_mem _ hx)) hz'.2
      obtain ⟨d', e1', g⟩ := good_ok w hg'.1
      have : d' = d := by rw [e1'] at e1; cases e1; rfl
      subst this
      have hsm : d'.hasDict = true → sysModules ∉ as := fun z1 z2 => by
        have z3 := m1 z2
        have z4 : (hD w && hL w) = false := hu w (List.mem_cons_self ..)
        rw [← g.di, ← g.li, z1, z3] at z4
        cases z4
      obtain ⟨_, hlen⟩ := shown_ok d' g.ok
      obtain ⟨b1, hb1, k1⟩ := ReprK.of_reads (prog := X.prog) (w := X.w) q1 g.sh hsm (Nat.le_trans hlen (Nat.le_trans g.co hz'.1))
      refine ⟨as ++ as2, b1 ++ bs2, .cons q1 q2, ?_, ?_⟩
      · intro b hm
        simp only [PyData.depthAll]
        rcases List.mem_append.mp hm with hm | hm
        · obtain ⟨d3, as3, r3, hd3⟩ := hb1 b hm
          exact ⟨d3, as3, r3, Nat.le_trans hd3 (Nat.le_max_left _ _)⟩
        · obtain ⟨d3, as3, r3, hd3⟩ := b2 b hm
          exact ⟨d3, as3, r3, Nat.le_trans hd3 (Nat.le_max_right _ _)⟩
      · simp only [PyData.depthAll, PyData.shownAll]
        exact .cons ((k1.more fun b hb => List.mem_append_left _ hb).level_le (Nat.le_max_left _ _)) (k2.more_le (fun b hb => List.mem_append_right _ hb) (Nat.le_max_right _ _))
end
/-- what may be shown: like ReprOk, a tuple of unmixed things too -/
def rdReprT : List W → Store → WK → Prop := fun ws S Q => match ws with
  | [w] => (ReprOk (deloc S w) ∨ ∃ us, deloc S w = .tup us ∧ good (.tup us) = true ∧ wCost (.tup us) ≤ sizeLine ∧ wDep (.tup us) ≤ 60 ∧ ∀ x ∈ us, Unm x) ∧ Q (.str (shw (deloc S w))) S
  | _ => False
section
variable {X : Cx}
theorem cd_reprT {k : Nat} (hgd : X.A.guards = some []) (hr : Room k X.A) : CallD X (.builtin "repr") rdReprT := by
  obtain ⟨r0, c0, k0⟩ := (cd_repr (X := X) hgd hr).ex
  refine ⟨fun vs H Q => r0 vs H Q ∨ ∃ γ C v us, C.H = H ∧ vs = [v] ∧ Sim X.K γ C ∧ RV X.K γ C v (.tup us) ∧ good (.tup us) = true ∧ wCost (.tup us) ≤ sizeLine ∧ wDep (.tup us) ≤ 60 ∧ (∀ x ∈ us, Unm x) ∧ Q (.str (shw (.tup us))) H, ?_, fun γ C vs ws Qd Q hs r h k => ?_⟩
  · intro pins s σ H vs us Q I rv h
    rcases h with h | h
    · exact c0 pins s σ H vs us Q I rv h
    obtain ⟨γ, C, v, ws, rfl, rfl, sim, r, hg, hc, hd, hun, q⟩ := h
    obtain ⟨u, rfl, ru⟩ := vals1 rv
    cases r
    rename_i a xs h1 h2
    cases ru
    obtain ⟨d, e, g⟩ := good_ok _ hg
    obtain ⟨ds, e1, e2⟩ := Option.map_eq_some_iff.mp (show (toPs ws).map PyData.tuple = some d from by simpa only [toP] using e)
    subst e2
    obtain ⟨its, rv2, ⟨o, ho, hcl, n, hda⟩, _⟩ := I.tuple (SqT.of h1)
    have hg' : goods ws = true := by simpa only [good] using hg
    have hcs : wCosts ws ≤ sizeLine := by simp only [wCost] at hc; omega
    obtain ⟨as, bs, hrd, hb, hk⟩ := RVs.reprAll I h2 e1 hg' rv2 hun hcs
    obtain ⟨_, hlen⟩ := shown_ok _ g.ok
    have hsz : (PyData.tuple ds).shown.length ≤ sizeLine := Nat.le_trans hlen (Nat.le_trans g.co hc)
    have hz' : (tupleText (PyData.shownAll ds)).length ≤ sizeLine := by simpa only [PyData.shown] using hsz
    have hna : a ∉ bs := not_mem_of_deeper (Reads.tuple ho hcl hda hrd) (by simp only [PyData.depth]; omega) hb
    have hu := hr.units
    have hdep : (PyData.tuple ds).depth ≤ 60 := by rw [g.de]; exact hd
    simp only [PyData.depth] at hdep
    have es : shw (.tup ws) = tupleText (PyData.shownAll ds) := by unfold shw; rw [e]; simp only [PyData.shown]
    rw [es] at q
    exact call_repr_slot (by omega) ⟨o, ho, hcl⟩ F.slot_tuple_repr (call_tuple_reprK ho hcl hda hna (by simpa using hk) hgd (fun b _ => Clear.nil b) (by show X.A.units + 1 + (PyData.depthAll ds + 1) < cLine; omega) (fun _ _ z => z) (fun h' t tk hkk => ⟨_, _, rfl, .str (tupleText (PyData.shownAll ds)), C.H, I.kept hkk, ⟨t, rfl⟩, q⟩) hz')
  · unfold rdReprT at h
    split at h
    · rename_i w
      obtain ⟨h1, h2⟩ := h
      rcases h1 with h1 | ⟨us, e, h1⟩
      · exact .inl (k0 γ C vs [w] Qd Q hs r ⟨h1, h2⟩ k)
      · rw [e] at h2
        have e' : w = .tup us := by
          cases w <;> first | exact e | (unfold deloc at e; dsimp only at e; split at e <;> cases e)
        subst e'
        cases r with
        | cons r1 r2 =>
          cases r2
          exact .inr ⟨γ, C, _, us, rfl, rfl, hs, r1, h1.1, h1.2.1, h1.2.2.1, h1.2.2.2, k C _ _ h2 hs (.refl _ _) (.str _)⟩
    · exact h.elim
end
end FL
end
section
set_option autoImplicit false
namespace FL
open PySem PySem.Spec PyProof.Rows L2
/-! ### a comprehension with two clauses: the new list is a place of the store while it grows, and a tree in the end -/
def lc2I (g : W → EnvD → Option EnvD) (tt : TTD) (ti1 : TAD) (g1 : W → EnvD → Option EnvD) (tt1 : TTD) (te : TD) (vs1 : List Nat) (τ : EnvD) (items : List W) (n : Nat) (S : Store) (Q : WK) : Prop :=
  ∃ P : Nat → Store → Prop, P 0 (S ++ [some (.lst [])]) ∧ (∀ i x S, items[i]? = some x → P i S → match g x τ with
    | some τ1 => tt τ1 S fun b S1 => if b = true then ti1 τ1 S1 fun items1 S2 => ∃ P1 : Nat → Store → Prop, P1 0 S2 ∧ (∀ j y S, items1[j]? = some y → P1 j S → match g1 y (wipeD τ1 vs1) with
        | some τ2 => tt1 τ2 S fun b S3 => if b = true then te τ2 S3 fun w S4 => (match S4[n]? with
            | some (some (.lst acc)) => acc.length < sizeLine ∧ P1 (j + 1) (S4.set n (some (.lst (acc ++ [w]))))
            | _ => False) else P1 (j + 1) S3
        | none => False) ∧ ∀ S, P1 items1.length S → P (i + 1) S else P (i + 1) S1
    | none => False) ∧ ∀ S, P items.length S → match S[n]? with
      | some (some (.lst acc)) => Q (.lst acc) (S.set n none)
      | _ => False
def dLc2 (ti : TAD) (g : W → EnvD → Option EnvD) (tt : TTD) (ti1 : TAD) (g1 : W → EnvD → Option EnvD) (tt1 : TTD) (te : TD) (vs vs1 : List Nat) : TD := fun τ S Q => ti τ S fun items S1 => lc2I g tt ti1 g1 tt1 te vs1 (wipeD τ vs) items S1.length S1 Q
theorem pd_lc2 {X : Cx} (hc : X.calm = true) (hN : X.N.Nodup) {pos : Pos} {elt tg iter tg1 iter1 : Expr} {ifs ifs1 : List Expr} {scope : Scope} {own : List (Str × Nat)} {is is1 vs1 : List Nat} {ti ti1 : TAD} {g g1 : W → EnvD → Option EnvD} {tt tt1 : TTD} {te : TD} (hi : PID X tg iter ti)
    (hg : ∀ (s : Shared) (H : Hp) (C : Addr) (cl : List (Str × Addr)) (fp : List Addr), PGD (X.blk s H scope (compEnvC scope cl C X.env) fp) tg is g)
    (ht : ∀ (s : Shared) (H : Hp) (C : Addr) (cl : List (Str × Addr)) (fp : List Addr), PTsD (X.blk s H scope (compEnvC scope cl C X.env) fp) ifs tt)
    (hi1 : ∀ (s : Shared) (H : Hp) (C : Addr) (cl : List (Str × Addr)) (fp : List Addr), PID (X.blk s H scope (compEnvC scope cl C X.env) fp) tg1 iter1 ti1)
    (hg1 : ∀ (s : Shared) (H : Hp) (C : Addr) (cl : List (Str × Addr)) (fp : List Addr), PGD (X.blk s H scope (compEnvC scope cl C X.env) fp) tg1 is1 g1)
    (ht1 : ∀ (s : Shared) (H : Hp) (C : Addr) (cl : List (Str × Addr)) (fp : List Addr), PTsD (X.blk s H scope (compEnvC scope cl C X.env) fp) ifs1 tt1)
    (he : ∀ (s : Shared) (H : Hp) (C : Addr) (cl : List (Str × Addr)) (fp : List Addr), PD (X.blk s H scope (compEnvC scope cl C X.env) fp) elt te)
    (his : ∀ j ∈ is, j ∈ own.map (·.2)) (hv : ∀ i ∈ vs1, i ∈ own.map (·.2)) (his1 : ∀ j ∈ is1, j ∈ vs1) (ok : BlkOk X.N X.env.scope scope own) (hs : ∀ x, foldedSetIterable iter X.env x = pure x := by intro _; rfl) (hs1 : ∀ env x, foldedSetIterable iter1 env x = pure x := by intro _ _; rfl) :
    PD X (.ListComp elt [⟨tg, iter, ifs, 0⟩, ⟨tg1, iter1, ifs1, 0⟩] scope pos) (dLc2 ti g tt ti1 g1 tt1 te (own.map (·.2)) vs1) := by
  obtain ⟨wi, pi, ki⟩ := hi.ex
  refine ⟨_, pe_lc2 (wi := wi) (g := fun v σ H Q => ∀ s0 H0 D cl fp, Classical.choose (hg s0 H0 D cl fp).ex v σ H Q) (tt := fun σ H Q => ∀ s0 H0 D cl fp, Classical.choose (ht s0 H0 D cl fp).ex σ H Q)
    (wi1 := fun σ H R => ∀ s0 H0 D cl fp, Classical.choose (hi1 s0 H0 D cl fp).ex σ H R) (g1 := fun v σ H Q => ∀ s0 H0 D cl fp, Classical.choose (hg1 s0 H0 D cl fp).ex v σ H Q) (tt1 := fun σ H Q => ∀ s0 H0 D cl fp, Classical.choose (ht1 s0 H0 D cl fp).ex σ H Q)
    (te := fun σ H Q => ∀ s0 H0 D cl fp, Classical.choose (he s0 H0 D cl fp).ex σ H Q) hc hN pi ok hv ?_ ?_ ?_ ?_ ?_ ?_ hs hs1, fun γ C σ τ Qd Q hsm hst h k => ?_⟩
  · intro s0 H0 D cl fp
    exact ⟨fun pins s σ H v u Q I r h => (Classical.choose_spec (hg s0 H0 D cl fp).ex).1.run pins s σ H v u Q I r (h s0 H0 D cl fp)⟩
  · intro s0 H0 D cl fp
    exact ⟨fun pins s σ H Q I h => (Classical.choose_spec (ht s0 H0 D cl fp).ex).1.run pins s σ H Q I (h s0 H0 D cl fp)⟩
  · intro s0 H0 D cl fp
    exact ⟨fun pins s σ H Q I h => (Classical.choose_spec (hi1 s0 H0 D cl fp).ex).1.run pins s σ H Q I (h s0 H0 D cl fp)⟩
  · intro s0 H0 D cl fp
    exact ⟨fun pins s σ H v u Q I r h => (Classical.choose_spec (hg1 s0 H0 D cl fp).ex).1.run pins s σ H v u Q I r (h s0 H0 D cl fp)⟩
  · intro s0 H0 D cl fp
    exact ⟨fun pins s σ H Q I h => (Classical.choose_spec (ht1 s0 H0 D cl fp).ex).1.run pins s σ H Q I (h s0 H0 D cl fp)⟩
  · intro s0 H0 D cl fp
    exact ⟨fun pins s σ H Q I h => (Classical.choose_spec (he s0 H0 D cl fp).ex).1.run pins s σ H Q I (h s0 H0 D cl fp)⟩
  refine ki γ C σ τ _ _ hsm hst h fun C1 J ws h1 s1 st1 wk => fun D hD => ?_
  obtain ⟨P, p0, pstep, pend⟩ := h1
  have hst1 := hst.step st1
  obtain ⟨g1', g2'⟩ := s1.ghost (o := .lst []) hD
  have sa : Sim X.K γ ((C1.put D (.lst [])).add D (.lst [])) := g1'.add ⟨[], upd_same, .nil⟩
  have sta : Step γ C1 γ ((C1.put D (.lst [])).add D (.lst [])) := g2'.add g1' fun _ z => z
  have hn0 : ((C1.put D (.lst [])).add D (.lst [])).ρ[C1.S.length]? = some D := by
    show (C1.ρ ++ [D])[C1.S.length]? = some D
    rw [← s1.len]; simp
  have pre : ∀ {Ca Cb : Cfg} {γa γb : List Addr}, Step γa Ca γb Cb → Ca.ρ[C1.S.length]? = some D → Cb.ρ[C1.S.length]? = some D := fun st e => by
    obtain ⟨l, q⟩ := st.pre
    rw [q]; exact get_pre e
  refine ⟨fun i m H => i + m = ws.length ∧ ∃ C2, C2.H = H ∧ Sim X.K γ C2 ∧ Step γ C1 γ C2 ∧ C2.ρ[C1.S.length]? = some D ∧ P i C2.S, ⟨ws.length, by omega, _, rfl, sa, sta, hn0, p0⟩, fun i m H hW => ?_⟩
  obtain ⟨em, C2, rfl, s2, st2, hn2, hl⟩ := hW
  by_cases hi : i < ws.length
  · have ei : ws[i]? = some ws[i] := List.getElem?_eq_getElem hi
    obtain ⟨go, yl⟩ := wk.go i ws[i] γ C2 s2 st2 ei
    refine .inr ⟨go, fun H' => i + 1 + (m - 1) = ws.length ∧ ∃ C2, C2.H = H' ∧ Sim X.K γ C2 ∧ Step γ C1 γ C2 ∧ C2.ρ[C1.S.length]? = some D ∧ P (i + 1) C2.S, fun H' hN => ⟨m - 1, by omega, hN⟩, fun x H' hy => ?_⟩
    obtain ⟨C3, rfl, eS, s3, st3, rv⟩ := yl x H' hy
    have st13 := st2.trans st3
    have hl' := pstep i ws[i] C3.S ei (by rw [eS]; exact hl)
    cases eg : g ws[i] (wipeD τ (own.map (·.2))) with
    | none => rw [eg] at hl'; exact hl'.elim
    | some τ1 =>
      rw [eg] at hl'
      intro s0 H0 D0 cl fp
      have hstw : RSt X.K γ C3 (L2.wipe σ (own.map (·.2))) (wipeD τ (own.map (·.2))) := (hst1.step st13).wipe _
      refine (Classical.choose_spec (hg s0 H0 D0 cl fp).ex).2 γ C3 _ _ x ws[i] τ1 _ s3 hstw rv eg fun σ' hst' hl1 hk1 => ⟨?_, ?_⟩
      · have e1 := wipe_same (vs := own.map (·.2)) hl1 fun j hj => hk1 j fun z => hj (his j z)
        rw [e1]
        exact wipe_same (wipe_length _ _) fun j hj => wipe_out hj
      · intro s0 H0 D0 cl fp
        refine (Classical.choose_spec (ht s0 H0 D0 cl fp).ex).2 γ C3 σ' τ1 _ _ s3 hst' hl' fun C4 bb h4 s4 st4 => ?_
        have st14 := st13.trans st4
        cases bb with
        | false =>
          rw [if_neg Bool.false_ne_true] at h4 ⊢
          exact ⟨by omega, C4, rfl, s4, st14, pre (st3.trans st4) hn2, h4⟩
        | true =>
          rw [if_pos rfl] at h4 ⊢
          intro s0 H0 D0 cl fp
          refine (Classical.choose_spec (hi1 s0 H0 D0 cl fp).ex).2 γ C4 σ' τ1 _ _ s4 (hst'.step st4) h4 fun C5 J1 ws1 h5 s5 st5 wk1 => ?_
          obtain ⟨P1, q0, qstep, qend⟩ := h5
          have hn5 := pre (st3.trans (st4.trans st5)) hn2
          refine ⟨fun j k2 H => j + k2 = ws1.length ∧ ∃ C6, C6.H = H ∧ Sim X.K γ C6 ∧ Step γ C5 γ C6 ∧ P1 j C6.S, ⟨ws1.length, by omega, C5, rfl, s5, .refl _ _, q0⟩, fun j k2 H hW1 => ?_⟩
          obtain ⟨ek, C6, rfl, s6, st6, hl6⟩ := hW1
          by_cases hj : j < ws1.length
          · have ej : ws1[j]? = some ws1[j] := List.getElem?_eq_getElem hj
            obtain ⟨go1, yl1⟩ := wk1.go j ws1[j] γ C6 s6 st6 ej
            refine .inr ⟨go1, fun H' => j + 1 + (k2 - 1) = ws1.length ∧ ∃ C6, C6.H = H' ∧ Sim X.K γ C6 ∧ Step γ C5 γ C6 ∧ P1 (j + 1) C6.S, fun H' hN => ⟨k2 - 1, by omega, hN⟩, fun x1 H1' hy1 => ?_⟩
            obtain ⟨C7, rfl, eS7, s7, st7, rv7⟩ := yl1 x1 H1' hy1
            have hl7 := qstep j ws1[j] C7.S ej (by rw [eS7]; exact hl6)
            cases eg1 : g1 ws1[j] (wipeD τ1 vs1) with
            | none => rw [eg1] at hl7; exact hl7.elim
            | some τ2 =>
              rw [eg1] at hl7
              intro s0 H0 D0 cl fp
              have hst7 : RSt X.K γ C7 (L2.wipe σ' vs1) (wipeD τ1 vs1) := (hst'.step (st4.trans (st5.trans (st6.trans st7)))).wipe _
              refine (Classical.choose_spec (hg1 s0 H0 D0 cl fp).ex).2 γ C7 _ _ x1 ws1[j] τ2 _ s7 hst7 rv7 eg1 fun σ3 hst3 hl3 hk3 => ⟨?_, ?_⟩
              · have e1 := wipe_same (vs := vs1) hl3 fun a ha => hk3 a fun z => ha (his1 a z)
                rw [e1]
                exact wipe_same (wipe_length _ _) fun a ha => wipe_out ha
              · intro s0 H0 D0 cl fp
                refine (Classical.choose_spec (ht1 s0 H0 D0 cl fp).ex).2 γ C7 σ3 τ2 _ _ s7 hst3 hl7 fun C8 bb h8 s8 st8 => ?_
                cases bb with
                | false =>
                  rw [if_neg Bool.false_ne_true] at h8 ⊢
                  exact ⟨by omega, C8, rfl, s8, st6.trans (st7.trans st8), h8⟩
                | true =>
                  rw [if_pos rfl] at h8 ⊢
                  intro s0 H0 D0 cl fp
                  refine (Classical.choose_spec (he s0 H0 D0 cl fp).ex).2 γ C8 σ3 τ2 _ _ s8 (hst3.step st8) h8 fun C9 y w h9 s9 st9 r9 => ?_
                  have hn9 : C9.ρ[C1.S.length]? = some D := pre (st6.trans (st7.trans (st8.trans st9))) hn5
                  split at h9
                  · rename_i acc e9
                    obtain ⟨xs, e1, r1⟩ := s9.cell _ D _ hn9 e9
                    obtain ⟨w1, w2⟩ := lstWr s9 hn9 e9 e1 (r1.append (.cons r9 .nil))
                    exact ⟨xs, e1, by rw [r1.length]; exact h9.1, by omega, _, rfl, w1, st6.trans (st7.trans (st8.trans (st9.trans w2))), h9.2⟩
                  · exact h9.elim
          · have e : j = ws1.length := by omega
            subst e
            exact .inl ⟨wk1.stop _ γ C6 s6 st6 (Nat.le_refl _), by omega, C6, rfl, s6, st14.trans (st5.trans st6), pre st6 hn5, qend C6.S hl6⟩
  · have e : i = ws.length := by omega
    subst e
    refine .inl ⟨wk.stop _ γ C2 s2 st2 (Nat.le_refl _), ?_⟩
    have he := pend C2.S hl
    split at he
    · rename_i acc e2
      obtain ⟨xs, p1, p2⟩ := s2.cell _ D _ hn2 e2
      exact k (C2.die C1.S.length) _ _ he s2.die ((st1.trans st2).trans Step.die) (.lst p1 (die_nl s2 hn2) (p2.step Step.die))
    · exact he.elim
end FL
end
section
set_option autoImplicit false
namespace FL
open PySem PySem.Spec PyProof.Rows L2
/-! ### dicts with tuples of ints as keys, places of the store -/
section
variable {κ : Type} [DecidableEq κ]
def getG : List κ → List W → κ → Option W
  | k' :: ks, w :: ws, k => if k' = k then some w else getG ks ws k
  | _, _, _ => none
def putG : List κ → List W → κ → W → List κ × List W
  | k' :: ks, w' :: ws, k, w => if k' = k then (k' :: ks, w :: ws) else (k' :: (putG ks ws k w).1, w' :: (putG ks ws k w).2)
  | _, _, k, w => ([k], [w])
def putVG : List (κ × V) → κ → V → List (κ × V)
  | (k', v') :: r, k, v => if k' = k then (k', v) :: r else (k', v') :: putVG r k v
  | [], k, v => [(k, v)]
theorem putK_eqG : ∀ {kvs : List (κ × V)} {k : κ} {v : V}, (kvs.map Prod.fst).Nodup → putK kvs k v = putVG kvs k v
  | [], k, v, _ => rfl
  | (k', v') :: r, k, v, h => by
    have h' := List.nodup_cons.mp h
    by_cases e : k' = k
    · subst e
      have e2 : putVG ((k', v') :: r) k' v = (k', v) :: r := if_pos rfl
      rw [e2]
      have : ∀ p ∈ r, (if p.1 = k' then (p.1, v) else p) = p := fun p hp => if_neg fun z => h'.1 (List.mem_map.mpr ⟨p, hp, z⟩)
      have e3 : r.map (fun kv => if kv.1 = k' then (kv.1, v) else kv) = r := (List.map_congr_left this).trans (List.map_id r)
      unfold putK
      rw [if_pos (by simp), List.map_cons, e3, if_pos rfl]
    · have e2 : putVG ((k', v') :: r) k v = (k', v') :: putVG r k v := if_neg e
      rw [e2, ← putK_eqG h'.2]
      unfold putK
      rw [List.any_cons, decide_eq_false e, Bool.false_or]
      by_cases hc : (r.any fun kv => decide (kv.1 = k)) = true
      · rw [if_pos hc, if_pos hc, List.map_cons, if_neg e]
      · rw [if_neg hc, if_neg hc, List.cons_append]
end
section
variable {K : PySem.W.Frag} {γ γ' : List Addr} {C C' : Cfg} {κ : Type} [DecidableEq κ]
theorem getG_at : ∀ {kvs : List (κ × V)} {ws : List W} {k : κ}, RVs K γ C (kvs.map Prod.snd) ws → (match getG (kvs.map Prod.fst) ws k with
    | some w => ∃ v, valV kvs k = some v ∧ RV K γ C v w
    | none => valV kvs k = none)
  | [], _, _, _ => rfl
  | (k', v) :: r, _, k, q => by
    rw [List.map_cons] at q
    cases q with
    | @cons _ w' _ ws' q1 q2 =>
      have e1 : getG (((k', v) :: r).map Prod.fst) (w' :: ws') k = if k' = k then some w' else getG (r.map Prod.fst) ws' k := rfl
      rw [e1]
      by_cases e : k' = k
      · rw [if_pos e]
        exact ⟨v, valV_pos e, q1⟩
      · rw [if_neg e, valV_neg e]
        exact getG_at q2
theorem putG_at {k : κ} {v : V} {w : W} (rv : RV K γ C v w) : ∀ {kvs : List (κ × V)} {ws : List W}, RVs K γ C (kvs.map Prod.snd) ws → (putVG kvs k v).map Prod.fst = (putG (kvs.map Prod.fst) ws k w).1 ∧ RVs K γ C ((putVG kvs k v).map Prod.snd) (putG (kvs.map Prod.fst) ws k w).2
  | [], _, q => by
    cases q
    exact ⟨rfl, .cons rv .nil⟩
  | (k', v') :: r, _, q => by
    rw [List.map_cons] at q
    cases q with
    | @cons _ w' _ ws' q1 q2 =>
      obtain ⟨h1, h2⟩ := putG_at (k := k) rv q2
      show (putVG ((k', v') :: r) k v).map Prod.fst = (putG (k' :: r.map Prod.fst) (w' :: ws') k w).1 ∧ RVs K γ C ((putVG ((k', v') :: r) k v).map Prod.snd) (putG (k' :: r.map Prod.fst) (w' :: ws') k w).2
      by_cases e : k' = k
      · have e1 : putVG ((k', v') :: r) k v = (k', v) :: r := if_pos e
        have e2 : putG (k' :: r.map Prod.fst) (w' :: ws') k w = (k' :: r.map Prod.fst, w :: ws') := if_pos e
        rw [e1, e2]
        exact ⟨rfl, .cons rv q2⟩
      · have e1 : putVG ((k', v') :: r) k v = (k', v') :: putVG r k v := if_neg e
        have e2 : putG (k' :: r.map Prod.fst) (w' :: ws') k w = (k' :: (putG (r.map Prod.fst) ws' k w).1, w' :: (putG (r.map Prod.fst) ws' k w).2) := if_neg e
        rw [e1, e2]
        exact ⟨by show k' :: (putVG r k v).map Prod.fst = _; rw [h1], .cons q1 h2⟩
end
/-- a tuple of ints as a key -/
def keyT (w : W) : Option (List Int) := match w with
  | .tup us => intsOf us
  | _ => none
def kI (ns : List Int) : List Key := ns.map Sum.inl
theorem keyT_at {K : PySem.W.Frag} {γ : List Addr} {C : Cfg} {v : V} {w : W} {ns : List Int} (r : RV K γ C v w) (h : keyT w = some ns) : ∃ b, v = .ref b ∧ C.H b = some (.tup ((kI ns).map kV)) := by
  cases r <;> first | (cases h; done) | skip
  rename_i a xs ws h1 h2
  rw [intsOf_eq (show intsOf ws = some ns from h)] at h2
  have e : (kI ns).map kV = ns.map V.int := by
    unfold kI
    rw [List.map_map]
    rfl
  have h1' : C.H a = some (.tup xs) := h1
  rw [h2.ints] at h1'
  rw [e]
  exact ⟨a, rfl, h1'⟩
/-- what stands in the store as such a dict -/
def dtOf (S : Store) (w : W) : Option (List (List Key) × List W) := match w with
  | .loc n => (match S[n]? with
    | some (some (.dct ks ws)) => some (ks, ws)
    | _ => none)
  | _ => none
theorem dtOf_at {K : PySem.W.Frag} {γ : List Addr} {C : Cfg} (s : Sim K γ C) {v : V} {w : W} {ks : List (List Key)} {ws : List W} (r : RV K γ C v w) (h : dtOf C.S w = some (ks, ws)) : ∃ a kvs, v = .ref a ∧ C.H a = some (.dT kvs) ∧ kvs.map Prod.fst = ks ∧ RVs K γ C (kvs.map Prod.snd) ws := by
  cases r <;> first | (cases h; done) | skip
  rename_i n a h1
  have h' : (match C.S[n]? with | some (some (.dct ks ws)) => some (ks, ws) | _ => none) = some (ks, ws) := h
  split at h'
  · rename_i us e
    cases h'
    obtain ⟨xs, h2, h3, h4⟩ := s.cell n a _ h1 e
    exact ⟨a, xs, rfl, h2, h3, h4⟩
  · cases h'
section
variable {X : Cx} {o i value : Expr} {td ti tv : TD} {pos pos' : Pos}
/-- {}, to hold such keys -/
def dDic0T : TD := fun _ S Q => Q (.loc S.length) (S ++ [some (.dct [] [])])
theorem pd_dic0T : PD X (.Dict [] [] pos) dDic0T := by
  refine ⟨_, pe_dnewT, fun γ C σ τ Qd Q hs hst h k => fun p hp => ?_⟩
  obtain ⟨g1, g2⟩ := hs.ghost (o := .dT []) hp
  refine k ((C.put p (.dT [])).add p (.dct [] [])) _ _ h (g1.add ⟨[], upd_same, rfl, .nil⟩) (g2.add g1 fun _ z => z) (.loc ?_)
  show (C.ρ ++ [p])[C.S.length]? = some p
  rw [← hs.len]; simp
def dTGet (td ti : TD) : TD := fun τ S Q => td τ S fun d S1 => ti τ S1 fun k S2 => match dtOf S2 d, keyT k with
  | some (ks, ws), some k => (match getG ks ws (kI k) with
    | some w => Q w S2
    | none => False)
  | _, _ => False
theorem pd_tget (hu : X.A.units + 1 < cLine) (ho : PD X o td) (hi : PD X i ti) (hs : NoSl i) : PD X (.Subscript o i pos) (dTGet td ti) := by
  obtain ⟨tA, pa, ka⟩ := ho.ex
  obtain ⟨tB, pb, kb⟩ := hi.ex
  refine ⟨_, pe_dget hu pa pb hs, fun γ C σ τ Qd Q hs hst h k => ?_⟩
  refine ka γ C σ τ _ _ hs hst h fun C1 v1 w1 h1 s1 st1 r1 => kb γ C1 σ τ _ _ s1 (hst.step st1) h1 fun C2 v2 w2 h2 s2 st2 r2 => ?_
  split at h2
  · rename_i ks ws key e1 e2
    split at h2
    · rename_i w e3
      obtain ⟨a, kvs, rfl, p1, p2, p3⟩ := dtOf_at s2 (r1.step st2) e1
      subst p2
      have q := getG_at (k := kI key) p3
      rw [e3] at q
      obtain ⟨v, q1, q2⟩ := q
      obtain ⟨b, rfl, e4⟩ := keyT_at r2 e2
      exact ⟨a, v, rfl, q1 ▸ DGet.t p1 e4, k C2 v w h2 s2 (st1.trans st2) q2⟩
    · exact h2.elim
  · exact h2.elim
/-- d[k] = v -/
def sTSet (td ti tv : TD) : TSD := fun D τ S => tv τ S fun w S1 => td τ S1 fun d S2 => ti τ S2 fun k S3 => match d, keyT k with
  | .loc n, some k => (match S3[n]? with
    | some (some (.dct ks ws)) => ks.Nodup ∧ ks.length < sizeLine ∧ D.nx τ (S3.set n (some (.dct (putG ks ws (kI k) w).1 (putG ks ws (kI k) w).2)))
    | _ => False)
  | _, _ => False
theorem psd_tput (hu : X.A.units + 1 < cLine) (ho : PD X o td) (hi : PD X i ti) (hv : PD X value tv) (hs : swapsWith value (some (.Subscript o i pos')) pos.line X.env = pure false) : PSD X (.Assign [.Subscript o i pos'] value pos) (sTSet td ti tv) := by
  obtain ⟨tA, pa, ka⟩ := hv.ex
  obtain ⟨tB, pb, kb⟩ := ho.ex
  obtain ⟨tC, pc, kc⟩ := hi.ex
  refine ⟨_, ps_dput hu pb pc pa hs, fun γ C σ τ Dd D hs hst h k => ?_⟩
  refine ka γ C σ τ _ _ hs hst h fun C1 v1 w1 h1 s1 st1 r1 => kb γ C1 σ τ _ _ s1 (hst.step st1) h1 fun C2 v2 w2 h2 s2 st2 r2 => kc γ C2 σ τ _ _ s2 (hst.step (st1.trans st2)) h2 fun C3 v3 w3 h3 s3 st3 r3 => ?_
  have r2' := r2.step st3
  have r1' := (r1.step st2).step st3
  have st13 := (st1.trans st2).trans st3
  split at h3
  · rename_i n key e2
    split at h3
    · rename_i ks ws e1
      obtain ⟨hnd, hlen, hq⟩ := h3
      cases r2' with
      | @loc _ a hn =>
        obtain ⟨kvs, p1, p2, p3⟩ := s3.cell n a _ hn e1
        subst p2
        obtain ⟨b, rfl, e4⟩ := keyT_at r3 e2
        have hl : kvs.length < sizeLine := by rw [List.length_map] at hlen; exact hlen
        obtain ⟨q1, q2⟩ := putG_at (k := kI key) r1' p3
        have hC : ∃ c', C3.S[n]? = some (some c') := ⟨_, e1⟩
        have stw : Step γ C3 γ (C3.wr n a (.dT (putVG kvs (kI key) v1)) (.dct (putG (kvs.map Prod.fst) ws (kI key) w1).1 (putG (kvs.map Prod.fst) ws (kI key) w1).2)) := Step.wr s3 hn hC p1 (fun _ => nofun) (fun _ _ => nofun)
        refine ⟨a, upd C3.H a (.dT (putVG kvs (kI key) v1)), rfl, putK_eqG hnd ▸ DPut.t p1 e4 hl, ?_⟩
        exact k.nx (C3.wr n a (.dT (putVG kvs (kI key) v1)) (.dct (putG (kvs.map Prod.fst) ws (kI key) w1).1 (putG (kvs.map Prod.fst) ws (kI key) w1).2)) σ τ hq (s3.wr hn hC p1 (fun _ => nofun) (fun _ _ => nofun) ⟨_, upd_same, q1, q2.step stw⟩) (st13.trans stw) (hst.step (st13.trans stw))
    · exact h3.elim
  · exact h3.elim
/-- k in d, k not in d -/
def rdInT : R2D := fun k d S Q => match dtOf S d, keyT k with
  | some (ks, ws), some k => Q (.bl (getG ks ws (kI k)).isSome) S
  | _, _ => False
def rdNotInT : R2D := fun k d S Q => match dtOf S d, keyT k with
  | some (ks, ws), some k => Q (.bl (!(getG ks ws (kI k)).isSome)) S
  | _, _ => False
theorem op_inT (hu : X.A.units + 1 < cLine) : OpR X (compareOp .In) (fun y x H Q => ∃ a o, x = .ref a ∧ DGet H a y o ∧ Q (.bl o.isSome) H) := by
  intro pins s σ H y x u v Q I ry rx h
  obtain ⟨a, o, rfl, g, q⟩ := h
  cases rx
  exact d_in hu I g ry fun s' I' => ⟨.bl _, H, I', rfl, q⟩
theorem op_notInT (hu : X.A.units + 1 < cLine) : OpR X (compareOp .NotIn) (fun y x H Q => ∃ a o, x = .ref a ∧ DGet H a y o ∧ Q (.bl (!o.isSome)) H) := by
  intro pins s σ H y x u v Q I ry rx h
  obtain ⟨a, o, rfl, g, q⟩ := h
  cases rx
  exact d_notIn hu I g ry fun s' I' => ⟨.bl _, H, I', rfl, q⟩
theorem get_some {K : PySem.W.Frag} {γ : List Addr} {C : Cfg} {kvs : List (List Key × V)} {ws : List W} {k : List Key} (r : RVs K γ C (kvs.map Prod.snd) ws) : (valV kvs k).isSome = (getG (kvs.map Prod.fst) ws k).isSome := by
  have q := getG_at (k := k) r
  split at q
  · rename_i w e
    obtain ⟨v, h1, _⟩ := q
    rw [h1, e]; rfl
  · rename_i e
    rw [q, e]; rfl
theorem opd_inT (hu : X.A.units + 1 < cLine) : OpD X (compareOp .In) rdInT := by
  refine ⟨_, op_inT hu, fun γ C x y w1 w2 Qd Q hs rx ry h k => ?_⟩
  unfold rdInT at h
  split at h
  · rename_i ks ws key e1 e2
    obtain ⟨a, kvs, rfl, p1, p2, p3⟩ := dtOf_at hs ry e1
    subst p2
    obtain ⟨b, rfl, e4⟩ := keyT_at rx e2
    rw [← get_some p3] at h
    exact ⟨a, _, rfl, DGet.t p1 e4, k C _ _ h hs (.refl _ _) (.bl _)⟩
  · exact h.elim
theorem opd_notInT (hu : X.A.units + 1 < cLine) : OpD X (compareOp .NotIn) rdNotInT := by
  refine ⟨_, op_notInT hu, fun γ C x y w1 w2 Qd Q hs rx ry h k => ?_⟩
  unfold rdNotInT at h
  split at h
  · rename_i ks ws key e1 e2
    obtain ⟨a, kvs, rfl, p1, p2, p3⟩ := dtOf_at hs ry e1
    subst p2
    obtain ⟨b, rfl, e4⟩ := keyT_at rx e2
    rw [← get_some p3] at h
    exact ⟨a, _, rfl, DGet.t p1 e4, k C _ _ h hs (.refl _ _) (.bl _)⟩
  · exact h.elim
end
end FL
end
section
set_option autoImplicit false
namespace FL
open PySem PySem.Spec PyProof.Rows L2
/-! ### for .. in a name whose list is a place of the store, which the body leaves as it is -/
section
variable {X : Cx} {tg : Expr} {body : List Stmt} {pos : Pos} {ts : TSD}
def sForC (i : Nat) (g : W → EnvD → Option EnvD) (tb : TSD) : TSD := fun D τ S => match τ[i]? with
  | some (some (.loc n)) => (match S[n]? with
    | some (some (.lst items)) => ∃ P : Nat → EnvD → Store → Prop, P 0 τ S ∧ (∀ j τ S, P j τ S → S[n]? = some (some (Cell.lst items))) ∧ (∀ j x τ S, items[j]? = some x → P j τ S → match g x τ with
        | some τ1 => tb ⟨P (j + 1), D.rt, D.nx, P (j + 1)⟩ τ1 S
        | none => False) ∧ ∀ τ S, P items.length τ S → D.nx τ S
    | _ => False)
  | _ => False
theorem psd_forC {is : List Nat} {g : W → EnvD → Option EnvD} (hp : PassesOwn (model X.prog X.w) X.A X.env X.xe) (hc : X.calm = true) (i : Nat) {x : Str} {pos' : Pos} (hg : PGD X tg is g) (hb : PSSD X body ts) (hN : X.N[i]? = some x := by rfl) (hv : Vis X.env.scope x := by first | exact Or.inl rfl | exact Or.inr (Or.inl rfl) | exact Or.inr (Or.inr rfl)) (hd : (x == ("__debug__" : Str)) = false := by decide)
    (hcd : (x == ("__classdict__" : Str)) = false := by decide) (hs : ∀ z, foldedSetIterable (.Name x pos') X.env z = pure z := by intro _; rfl) : PSD X (.For tg (.Name x pos') body [] pos) (sForC i g ts) := by
  obtain ⟨gH, pg, kg⟩ := hg.ex
  obtain ⟨tB, pb, kb⟩ := hb.ex
  refine ⟨_, ps_for hp hc (pi_list (pe_var hN hv hd hcd)) pg pb hs, fun γ C σ τ Dd D hs hst h k => ?_⟩
  unfold sForC at h
  split at h
  · rename_i n e
    split at h
    · rename_i items e2
      obtain ⟨P, p0, pc, pstep, pend⟩ := h
      obtain ⟨v, e', r⟩ := hst.2 i _ e
      cases r with
      | @loc _ a hn =>
        obtain ⟨xs, p1, p2⟩ := hs.cell n a _ hn e2
        have pre : ∀ {Ca : Cfg} {γa : List Addr}, Step γ C γa Ca → Ca.ρ[n]? = some a := fun st => by
          obtain ⟨l, q⟩ := st.pre
          rw [q]; exact get_pre hn
        refine ⟨_, e', a, rfl, ⟨xs, SqL.of p1⟩, fun j m σ H => j + m = items.length ∧ ∃ C2 τ2, C2.H = H ∧ Sim X.K γ C2 ∧ Step γ C γ C2 ∧ RSt X.K γ C2 σ τ2 ∧ P j τ2 C2.S, ⟨items.length, by omega, C, τ, rfl, hs, .refl _ _, hst, p0⟩, fun j m σ2 H hW => ?_⟩
        obtain ⟨em, C2, τ2, rfl, s2, st2, hst2, hl⟩ := hW
        obtain ⟨ys, q1, q2⟩ := s2.cell n a _ (pre st2) (pc j τ2 C2.S hl)
        by_cases hi : j < items.length
        · have ei : items[j]? = some items[j] := List.getElem?_eq_getElem hi
          obtain ⟨u, eu, ru⟩ := q2.get ei
          refine .inr ⟨⟨ys, u, SqL.of q1, eu⟩, fun σ' H' => j + 1 + (m - 1) = items.length ∧ ∃ C2 τ2, C2.H = H' ∧ Sim X.K γ C2 ∧ Step γ C γ C2 ∧ RSt X.K γ C2 σ' τ2 ∧ P (j + 1) τ2 C2.S, fun σ' H' hN => ⟨m - 1, by omega, hN⟩, fun y H' hy => ?_⟩
          obtain ⟨rfl, hy2⟩ := hy
          have ey : y = u := by
            have := (hy2 ys (SqL.of q1)).symm.trans eu
            cases this; rfl
          subst ey
          have hl' := pstep j items[j] τ2 C2.S ei hl
          cases eg : g items[j] τ2 with
          | none => rw [eg] at hl'; exact hl'.elim
          | some τ1 =>
            rw [eg] at hl'
            refine kg γ C2 σ2 τ2 y items[j] τ1 _ s2 hst2 ru eg fun σ3 hst3 _ _ => ?_
            refine kb γ C2 σ3 τ1 _ _ s2 hst3 hl' ⟨fun C4 σ4 τ4 h4 s4 st4 hst4 => ⟨by omega, C4, τ4, rfl, s4, st2.trans st4, hst4, h4⟩, fun C4 v w h4 s4 st4 r4 => k.rt C4 v w h4 s4 (st2.trans st4) r4, fun C4 σ4 τ4 h4 s4 st4 hst4 => k.nx C4 σ4 τ4 h4 s4 (st2.trans st4) hst4, fun C4 σ4 τ4 h4 s4 st4 hst4 => ⟨by omega, C4, τ4, rfl, s4, st2.trans st4, hst4, h4⟩⟩
        · have ej : j = items.length := by omega
          subst ej
          refine .inl ⟨⟨ys, SqL.of q1, by rw [q2.length]; exact Nat.le_refl _⟩, ?_⟩
          exact k.nx C2 σ2 τ2 (pend τ2 C2.S hl) s2 st2 hst2
    · exact h.elim
  · exact h.elim
end
end FL
end
section
set_option autoImplicit false
namespace FL
open PySem PySem.Spec PyProof.Rows L2
def isNum : W → Bool
  | .int _ => true
  | _ => false
def sp_is_number : Spec := fun ws S Q => ∃ w : W, ws = [w] ∧ (tgOf S w).isSome = true ∧ Q (.bl (isNum w)) S
theorem sp_is_number_len : ∀ ws S Q, sp_is_number ws S Q → ws.length = 1 := by rintro _ _ _ ⟨w, rfl, _⟩; rfl
end FL
end
section
set_option autoImplicit false
namespace FL
open PySem PySem.Spec PyProof.Rows L2
/-! ### errors in the air, over data -/
/-- what the dict of an error holds -/
def ErrAt (K : PySem.W.Frag) (γ : List Addr) (C : Cfg) (d : Option Addr) (fws : List (Str × W)) : Prop := match d with
  | some dd => ∃ fs, C.H dd = some (.xd fs) ∧ ¬ Live γ C dd ∧ fs.map Prod.fst = fws.map Prod.fst ∧ RVs K γ C (fs.map Prod.snd) (fws.map Prod.snd)
  | none => fws = []
abbrev EK := Addr → List (Str × W) → EnvD → Store → Prop
def KX (K : PySem.W.Frag) (γ : List Addr) (C : Cfg) (Ed : EK) (Ex : WX) : Prop := ∀ C' c d fws σ τ, Ed c fws τ C'.S → Sim K γ C' → Step γ C γ C' → ErrAt K γ C' d fws → RSt K γ C' σ τ → Ex (.ref c) d σ C'.H
section
variable {K : PySem.W.Frag} {γ γ' : List Addr} {C C' : Cfg}
theorem ErrAt.step {d : Option Addr} {fws : List (Str × W)} (h : ErrAt K γ C d fws) (s : Step γ C γ C') : ErrAt K γ C' d fws := by
  cases d with
  | none => exact h
  | some dd =>
    obtain ⟨fs, h1, h2, h3, h4⟩ := h
    exact ⟨fs, s.keep _ _ h1 (.inr h2), s.nl _ (ne_none h1) h2, h3, h4.step s⟩
theorem KX.step {Ed : EK} {Ex : WX} (k : KX K γ C Ed Ex) (s : Step γ C γ C') : KX K γ C' Ed Ex := fun C2 c d fws σ τ h a b e r => k C2 c d fws σ τ h a (s.trans b) e r
theorem lk_put {α : Type} (f g : Str) (y : α) (fs : List (Str × α)) : ((f, y) :: fs).lookup g = if g = f then some y else fs.lookup g := by
  by_cases h : g = f
  · subst h; simp [List.lookup]
  · have e : (g == f) = false := beq_false_of_ne h
    simp only [List.lookup, e, if_neg h]
theorem err_look : ∀ {fs : List (Str × V)} {fws : List (Str × W)} {f : Str} {w : W}, fs.map Prod.fst = fws.map Prod.fst → RVs K γ C (fs.map Prod.snd) (fws.map Prod.snd) → fws.lookup f = some w → ∃ v, fs.lookup f = some v ∧ RV K γ C v w
  | [], [], _, _, _, _, h => by cases h
  | [], _ :: _, _, _, h, _, _ => by cases h
  | _ :: _, [], _, _, h, _, _ => by cases h
  | (a, v) :: fs, (b, u) :: fws, f, w, h, r, hl => by
    rw [List.map_cons, List.map_cons] at r
    have h' := List.cons.inj h
    obtain rfl : a = b := h'.1
    cases r with
    | cons r1 r2 =>
      rw [lk_put] at hl
      by_cases e : f = a
      · rw [if_pos e] at hl
        cases hl
        exact ⟨v, by rw [lk_put, if_pos e], r1⟩
      · rw [if_neg e] at hl
        obtain ⟨x, h1, h2⟩ := err_look h'.2 r2 hl
        exact ⟨x, by rw [lk_put, if_neg e]; exact h1, h2⟩
theorem RSt.hide {σ : L2.St} {τ : EnvD} {i : Nat} {x : Option V} (h : RSt K γ C σ τ) : RSt K γ C (σ.set i x) (τ.set i none) := by
  refine ⟨by rw [List.length_set, List.length_set]; exact h.1, fun j w' e => ?_⟩
  by_cases hj : i = j
  · subst hj
    have hl : i < τ.length := by
      have := (List.getElem?_eq_some_iff.mp e).1
      rw [List.length_set] at this; exact this
    rw [List.getElem?_set_self hl] at e
    cases e
  · rw [List.getElem?_set_ne hj] at e
    obtain ⟨v', e', r'⟩ := h.2 j w' e
    exact ⟨v', by rw [List.getElem?_set_ne hj]; exact e', r'⟩
end
/-! ### statements that may raise -/
abbrev TSDX := EK → TSD
structure PSDX (X : Cx) (Ex : WX) (st : Stmt) (t : TSDX) : Prop where
  ex : ∃ tH, PS X st tH ∧ ∀ γ C σ τ Ed Dd D, Sim X.K γ C → RSt X.K γ C σ τ → t Ed Dd τ C.S → KS X.K γ C Dd D → KX X.K γ C Ed Ex → tH D σ C.H
structure PSSDX (X : Cx) (Ex : WX) (st : List Stmt) (t : TSDX) : Prop where
  ex : ∃ tH, PSs X st tH ∧ ∀ γ C σ τ Ed Dd D, Sim X.K γ C → RSt X.K γ C σ τ → t Ed Dd τ C.S → KS X.K γ C Dd D → KX X.K γ C Ed Ex → tH D σ C.H
section
variable {X : Cx} {Ex : WX} {st : Stmt} {rest p q : List Stmt} {t u : TSDX} {td : TSD} {pos : Pos}
theorem psdx (h : PSD X st td) : PSDX X Ex st (fun _ => td) := by
  obtain ⟨tH, p, k⟩ := h.ex
  exact ⟨tH, p, fun γ C σ τ Ed Dd D hs hst h k1 _ => k γ C σ τ Dd D hs hst h k1⟩
theorem pssdx_nil : PSSDX X Ex [] (fun _ => sNext) := ⟨_, pss_nil, fun γ C σ τ Ed Dd D hs hst h k _ => k.nx C σ τ h hs (.refl _ _) hst⟩
theorem pssdx_cons (h1 : PSDX X Ex st t) (h2 : PSSDX X Ex rest u) : PSSDX X Ex (st :: rest) (fun Ed => sSeq (t Ed) (u Ed)) := by
  obtain ⟨tA, pa, ka⟩ := h1.ex
  obtain ⟨tB, pb, kb⟩ := h2.ex
  refine ⟨_, pss_cons pa pb, fun γ C σ τ Ed Dd D hs hst h k kx => ka γ C σ τ Ed _ _ hs hst h ⟨fun C' σ' τ' h' s' st' hst' => kb γ C' σ' τ' Ed Dd D s' hst' h' (k.step st') (kx.step st'), k.rt, k.bk, k.ct⟩ kx⟩
theorem pssdx_one (h1 : PSDX X Ex st t) : PSSDX X Ex [st] t := by
  obtain ⟨tA, pa, ka⟩ := h1.ex
  exact ⟨_, pss_one pa, ka⟩
theorem psdx_if {c : Expr} {tc : TTD} (hc : PTD X c tc) (ha : PSSDX X Ex p t) (hb : PSSDX X Ex q u) : PSDX X Ex (.If c p q pos) (fun Ed => sIf tc (t Ed) (u Ed)) := by
  obtain ⟨tA, pa, ka⟩ := hc.ex
  obtain ⟨tB, pb, kb⟩ := ha.ex
  obtain ⟨tC, pc, kc⟩ := hb.ex
  refine ⟨_, ps_if pa pb pc, fun γ C σ τ Ed Dd D hs hst h k kx => ka γ C σ τ _ _ hs hst h fun C1 b h1 s1 st1 => ?_⟩
  cases b with
  | true => exact (if_pos rfl).mpr (kb γ C1 σ τ Ed Dd D s1 (hst.step st1) ((if_pos rfl).mp h1) (k.step st1) (kx.step st1))
  | false => exact (if_neg Bool.false_ne_true).mpr (kc γ C1 σ τ Ed Dd D s1 (hst.step st1) ((if_neg Bool.false_ne_true).mp h1) (k.step st1) (kx.step st1))
theorem psdx_for {iter tg : Expr} {body : List Stmt} {is : List Nat} {ti : TAD} {g : W → EnvD → Option EnvD} (hp : PassesOwn (model X.prog X.w) X.A X.env X.xe) (hc : X.calm = true) (hi : PID X tg iter ti) (hg : PGD X tg is g) (hb : PSSDX X Ex body t)
    (hs : ∀ x, foldedSetIterable iter X.env x = pure x := by intro _; rfl) : PSDX X Ex (.For tg iter body [] pos) (fun Ed => sFor ti g (t Ed)) := by
  obtain ⟨wi, pi, ki⟩ := hi.ex
  obtain ⟨gH, pg, kg⟩ := hg.ex
  obtain ⟨tB, pb, kb⟩ := hb.ex
  refine ⟨_, ps_for hp hc pi pg pb hs, fun γ C σ τ Ed Dd D hs hst h k kx => ki γ C σ τ _ _ hs hst h fun C1 J ws h1 s1 st1 wk => ?_⟩
  obtain ⟨P, p0, pstep, pend⟩ := h1
  refine ⟨fun i m σ H => i + m = ws.length ∧ ∃ C2 τ2, C2.H = H ∧ Sim X.K γ C2 ∧ Step γ C1 γ C2 ∧ RSt X.K γ C2 σ τ2 ∧ P i τ2 C2.S, ⟨ws.length, by omega, C1, τ, rfl, s1, .refl _ _, hst.step st1, p0⟩, fun i m σ2 H hW => ?_⟩
  obtain ⟨em, C2, τ2, rfl, s2, st2, hst2, hl⟩ := hW
  by_cases hi : i < ws.length
  · have ei : ws[i]? = some ws[i] := List.getElem?_eq_getElem hi
    obtain ⟨go, yl⟩ := wk.go i ws[i] γ C2 s2 st2 ei
    refine .inr ⟨go, fun σ' H' => i + 1 + (m - 1) = ws.length ∧ ∃ C2 τ2, C2.H = H' ∧ Sim X.K γ C2 ∧ Step γ C1 γ C2 ∧ RSt X.K γ C2 σ' τ2 ∧ P (i + 1) τ2 C2.S, fun σ' H' hN => ⟨m - 1, by omega, hN⟩, fun x H' hy => ?_⟩
    obtain ⟨C3, rfl, eS, s3, st3, rv⟩ := yl x H' hy
    have hl' := pstep i ws[i] τ2 C3.S ei (by rw [eS]; exact hl)
    cases eg : g ws[i] τ2 with
    | none => rw [eg] at hl'; exact hl'.elim
    | some τ1 =>
      rw [eg] at hl'
      have st13 := st2.trans st3
      refine kg γ C3 σ2 τ2 x ws[i] τ1 _ s3 (hst2.step st3) rv eg fun σ3 hst3 _ _ => ?_
      refine kb γ C3 σ3 τ1 Ed _ _ s3 hst3 hl' ⟨fun C4 σ4 τ4 h4 s4 st4 hst4 => ⟨by omega, C4, τ4, rfl, s4, st13.trans st4, hst4, h4⟩, fun C4 v w h4 s4 st4 r4 => k.rt C4 v w h4 s4 (st1.trans (st13.trans st4)) r4, fun C4 σ4 τ4 h4 s4 st4 hst4 => k.nx C4 σ4 τ4 h4 s4 (st1.trans (st13.trans st4)) hst4, fun C4 σ4 τ4 h4 s4 st4 hst4 => ⟨by omega, C4, τ4, rfl, s4, st13.trans st4, hst4, h4⟩⟩ (kx.step (st1.trans st13))
  · refine .inl ⟨wk.stop i γ C2 s2 st2 (by omega), ?_⟩
    have e : i = ws.length := by omega
    subst e
    exact k.nx C2 σ2 τ2 (pend τ2 C2.S hl) s2 (st1.trans st2) hst2
end
/-! ### own errors with one field -/
/-- an __init__ that stores its argument -/
def spInit1 (K : PySem.W.Frag) (C : Addr) (f : Str) : Sp := fun vs H Q _ => ∃ (a : Addr) (v : V), vs = [.ref a, v] ∧ H a = some (exo a C none) ∧ ∀ dx, H dx = none → dx ≠ a → Q .non (upd (upd H dx (exd dx [(f, v)])) a (exo a C (some dx)))
/-- what the text says of an error class with a field -/
structure ErrC (K : PySem.W.Frag) (mg : Str → Option Value) (x : Str) (C I : Addr) (fd : FuncData) (ps : List Str) (f : Str) : Prop where
  oex : OexC K C
  xf : XfC K C
  no : PySem.W.findIn K (.ref C) f = some none
  iC : PySem.W.findIn K (.ref C) "__init__" = some (some (.ref I))
  tI : PySem.W.typeIn K (.ref I) = some (.type "function")
  m : mg x = some (.ref C)
  b : Binds K fd ps []
  te : PySem.W.exmOne K (.ref C) (.ref C) = some true
/-- isinstance of such an error -/
structure ErrI (K : PySem.W.Frag) (C : Addr) : Prop where
  hcl : (PySem.W.clsIn K C).isSome = true
  ha : PySem.W.findIn K (.ref C) "__class__" = some (some (.builtin "object.__class__"))
  hn : PySem.W.specialIn K (.builtin "object.__class__") "__get__" = some (some (.builtin "getset_descriptor.__get__"))
  ht : PySem.W.takesIn K (.builtin "object.__class__") = some true
  hm : PySem.W.mroIn K C (.type "object") = some true
section
variable {P : Program} {w : World} {K : PySem.W.Frag} {mg : Str → Option Value} {base : Heap}
theorem init_ok {x q f : Str} {st : Stmt} {C I : Addr} {fd : FuncData} {p1 p2 p3 p4 : Pos} (F : Fun K "__init__" q st I fd) (S : FnScope ["self", f] ["self", f] (defScope st)) (hb : defBody st = [.Assign [.Attribute (.Name "self" p1) f p2] (.Name f p3) p4]) (E : ErrC K mg x C I fd ["self", f] f)
    (hl : (defScope st).names.lookup f = some .local) (hd : (f == ("__debug__" : Str)) = false) (hcd : (f == ("__classdict__" : Str)) = false) (hls : (defScope st).names.lookup ("self" : Str) = some .local) :
    FnOk P w K mg base CX0 1 I fd ["self", f] (spInit1 K C f) := by
  refine Fun.ok F S (fun vs H Q E h => ?_) (fun cdv A outer s H vs Q E' hr h => ⟨_, by rw [hb]; exact pss_one (ps_ost (f := f) (pe_var (i := 0) rfl (.inl hls) (by decide) (by decide)) (pe_var (i := 1) rfl (.inl hl) hd hcd) (by rfl)), ?_⟩)
  · obtain ⟨a, v, rfl, _⟩ := h
    rfl
  · obtain ⟨a, v, rfl, h1, h2⟩ := h
    exact ⟨_, rfl, _, rfl, a, C, rfl, E.oex, E.no, .inl ⟨h1, h2⟩⟩
end
def sRaise1 (C : Addr) (f : Str) (te : TD) : TSDX := fun Ed D τ S => te τ S fun w S1 => Ed C [(f, w)] τ S1
section
variable {X : Cx} {Ex : WX} {x f : Str} {C I : Addr} {fd : FuncData} {e : Expr} {te : TD} {p pos pos2 : Pos}
theorem psdx_raise1 (hc : X.calm = true) (tk : Takes X Ex) (E : ErrC X.K X.mg x C I fd ["self", f] f) (F1 : FnOk X.prog X.w X.K X.mg X.base CX0 1 I fd ["self", f] (spInit1 X.K C f)) (hr : Room 2 X.A) (he : PD X e te) (hg : Gl X x)
    (hdb : (x == ("__debug__" : Str)) = false := by decide) (hse : starEach (e :: []) X.env = (false, eval e X.env) :: starEach [] X.env := by rfl) (hpl : (backTo pos (starEach [] X.env)).any (·.1) = false := by rfl) :
    PSDX X Ex (.Raise (some (.Call (.Name x p) [e] [] pos)) none pos2) (sRaise1 C f te) := by
  obtain ⟨tA, pa, ka⟩ := he.ex
  refine ⟨_, ps_raise hc tk (pmk_oex (ds := []) (dvs := []) E.oex E.iC E.tI F1 hr E.b .nil pass0 hg E.m (pa_cons pa pa_nil hse) hdb hse hpl), fun γ C0 σ τ Ed Dd D hs hst h k kx => ?_⟩
  refine ka γ C0 σ τ _ _ hs hst h fun C1 v w h1 s1 st1 r1 => ⟨by show 1 ≤ 1000; omega, fun a ha => ⟨a, v, rfl, upd_same, fun dx hdx hne => ?_⟩⟩
  have hdx1 : C1.H dx = none := (upd_ne (o := exo a C none) hne).symm.trans hdx
  have eH : upd (del (upd (upd (upd C1.H a (exo a C none)) dx (exd dx [(f, v)])) a (exo a C (some dx))) a) dx (.xd [(f, v)]) = (C1.put dx (.xd [(f, v)])).H := by
    funext b
    show _ = upd C1.H dx (.xd [(f, v)]) b
    by_cases h1 : b = dx
    · subst h1; rw [upd_same, upd_same]
    · rw [upd_ne h1, upd_ne h1]
      by_cases h2 : b = a
      · subst h2; rw [del_same]; exact ha.symm
      · rw [del_ne h2, upd_ne h2, upd_ne h1, upd_ne h2]
  refine ⟨rfl, dx, [(f, v)], upd_same, ?_, hdx1, ?_⟩
  · rw [upd_ne hne]; exact upd_same
  · rw [eH]
    have st2 : Step γ C1 γ (C1.put dx (.xd [(f, v)])) := Step.new hdx1
    have s2 : Sim X.K γ (C1.put dx (.xd [(f, v)])) := s1.new hdx1
    refine kx (C1.put dx (.xd [(f, v)])) C (some dx) [(f, w)] σ τ h1 s2 (st1.trans st2) ⟨[(f, v)], upd_same, ?_, rfl, .cons (r1.step st2) .nil⟩ (hst.step (st1.trans st2))
    rintro (hm | ⟨n, c, hm, _⟩)
    · exact (s1.gd dx hm).2 hdx1
    · exact s1.there dx (List.mem_of_getElem? hm) hdx1
end
end FL
end
section
set_option autoImplicit false
namespace FL
open PySem PySem.Spec PyProof.Rows L2
/-! ### defs that may raise -/
abbrev SpecX := List W → Store → WK → (Addr → List (Str × W) → Store → Prop) → Prop
def spX (K : PySem.W.Frag) (sp : SpecX) : Sp := fun vs H Q E => ∃ γ C ws Qd Ed, C.H = H ∧ Sim K γ C ∧ RVs K γ C vs ws ∧ sp ws C.S Qd Ed ∧ KE K γ C Qd Q ∧ ∀ C' c d fws, Ed c fws C'.S → Sim K γ C' → Step γ C γ C' → ErrAt K γ C' d fws → E (.ref c) d C'.H
structure FnX (P : Program) (w : World) (K : PySem.W.Frag) (mg : Str → Option Value) (base : Heap) (k : Nat) (f : Addr) (fd : FuncData) (n : Nat) (ps : List Str) (sp : SpecX) : Prop where
  ar : ps.length = n
  len : ∀ ws S Q E, sp ws S Q E → ws.length = n
  run : ∀ (A : Around) (outer : List PySem.Env) (s : Shared) (H : Hp) (args : Args) (us : List Value) (vs : List V) (Q : VK) (E : XK), A.guards = some [] → Room k A → Env0 P w K mg base A outer s H → BindsTo s fd args (ps.zip us) → Vals vs us → spX K sp vs H Q E →
    codeAny (model P w) A (.call (.ref f) args) (CR (L2.CX P w) outer P w H s Q E) s
section
variable {P : Program} {w : World} {K : PySem.W.Frag} {mg : Str → Option Value} {base : Heap}
theorem fnX {x qual : Str} {st : Stmt} {f : Addr} {fd : FuncData} {N ps : List Str} {k n : Nat} {sp : SpecX} (F : Fun K x qual st f fd) (S : FnScope N ps (defScope st)) (ar : ps.length = n) (len : ∀ ws S Q E, sp ws S Q E → ws.length = n)
    (hbody : ∀ (cdv : Value) (A : Around) (outer : List PySem.Env) (s : Shared) (H : Hp) (E : XK), Room k (A.deeper (envOfC qual (defScope st) s.heap.objs.size f cdv)) → A.guards = some [] →
      ∃ t, PSSDX (cxOf (L2.CX P w) P w K mg base N qual (defScope st) f cdv A outer s H E) (fun cls d _ H' => E cls d H') (defBody st) t ∧ ∀ ws S Q Ed, sp ws S Q Ed → t (fun c fws _ S' => Ed c fws S') ⟨fun _ S' => Q .non S', Q, fun _ _ => False, fun _ _ => False⟩ (startD N ws) S) :
    FnX P w K mg base (k + 1) f fd n ps sp := by
  obtain ⟨oc, od, kV, doc, pm, an, cdv, ct, osl, rfl, lk, hcd⟩ := F.ex
  refine ⟨ar, len, fun A outer s H args us vs Q E hgd hr e0 hb r hsp => ?_⟩
  obtain ⟨γ, C, ws, Qd, Ed, rfl, sim, rv, hs, ke, kx⟩ := hsp
  have hl : vs.length = ps.length := by rw [rv.length, len _ _ _ _ hs, ar]
  have KX : K.In s.heap := e0.mod.kin.keeps fun b o e => (e0.bs b o e).1
  have lim : s.heap.NoLimit := e0.mod.nolimit.keeps fun b o e => (e0.bs b o e).1
  have hkind : ∀ y ∈ ps.zip us, (defScope st).names.lookup y.1 = some .local ∨ ((defScope st).names.lookup y.1 = some .cell ∧ ((cellsFrom (s.heap.objs.size + 1) (defScope st).names []).lookup y.1).isSome = true) := by
    rintro ⟨n, v⟩ hy
    rcases S.par n (List.of_mem_zip hy).1 with q | q
    · exact .inl q
    · exact .inr ⟨q, PySem.W.cellsFrom_some _ _ _ (.inl q)⟩
  refine codeAny_call_function hr.depth (KX _ _ lk) rfl S.co S.gen rfl (PySem.W.codeRec_of KX hcd) (hb _ _ _ _ ?_)
  refine wpAny_newFunctionEnv_cells S.kind hkind fun env he s1 x => ?_
  subst he
  refine ⟨lim.keeps x.toInCall.keep, codeAny_func ?_⟩
  obtain ⟨t, ht, hq⟩ := hbody cdv A outer s C.H E (hr.deeper _) hgd
  obtain ⟨tH, pH, kH⟩ := ht.ex
  have I : Inv (cxOf (L2.CX P w) P w K mg base N qual (defScope st) f cdv A outer s C.H E) [] (L2.start N vs) C.H s1 := inv_start S hr.hd e0 hl r x
  have hrun := kH γ C (L2.start N vs) (startD N ws) (fun c fws _ S' => Ed c fws S') ⟨fun _ S' => Qd .non S', Qd, fun _ _ => False, fun _ _ => False⟩ { nx := fun _ H' => Q .non H', rt := Q } sim (rst_start rv) (hq ws C.S Qd Ed hs)
    ⟨fun C' σ τ h s' st' _ => ke C' _ _ h s' st' .non, fun C' v w h s' st' r' => ke C' v w h s' st' r', fun _ _ _ h _ _ _ => h.elim, fun _ _ _ h _ _ _ => h.elim⟩ (fun C' c d fws σ τ h s' st' e' _ => kx C' c d fws h s' st' e')
  refine wpAny_mono (pH.run [] s1 (L2.start N vs) C.H _ I hrun) (fun fl s' hs => ?_) fun e s' hs => hs
  cases fl with
  | ret u =>
    obtain ⟨v, σ', H', J, rv, q⟩ := hs
    exact ⟨v, H', J.os, J.bare, J.base, J.hok, rv, q⟩
  | next =>
    obtain ⟨σ', H', J, q⟩ := hs
    exact ⟨.non, H', J.os, J.bare, J.base, J.hok, rfl, q⟩
  | brk =>
    obtain ⟨_, _, _, q⟩ := hs
    exact False.elim q
  | cont =>
    obtain ⟨_, _, _, q⟩ := hs
    exact False.elim q
end
/-! ### expressions that may raise -/
abbrev TDX := EK → TD
structure PDX (X : Cx) (Ex : WX) (e : Expr) (t : TDX) : Prop where
  ex : ∃ tH, PE X e tH ∧ ∀ γ C σ τ Ed Qd Q, Sim X.K γ C → RSt X.K γ C σ τ → t Ed τ C.S Qd → KE X.K γ C Qd Q → KX X.K γ C Ed Ex → tH σ C.H Q
section
variable {X : Cx} {Ex : WX} {k n : Nat} {f : Addr} {fd : FuncData} {ps : List Str} {sp : SpecX} {x : Str} {p pos : Pos} {e : Expr} {es : List Expr} {t : TAD} {tx : TDX}
theorem run_fnX {pins : List (Addr × Obj)} {σ : L2.St} {H : Hp} {s : Shared} {Q : VK} {us : List Value} {vs : List V} (F : FnX X.prog X.w X.K X.mg X.base k f fd n ps sp) (hgd : X.A.guards = some []) (hr : Room k X.A) (hb : Binds X.K fd ps []) (tk : Takes X Ex)
    (I : Inv X pins σ H s) (r : Vals vs us) (h : spX X.K sp vs H Q (WE Ex σ)) : wpAny (model X.prog X.w) X.A (call (.ref f) us) (EP X pins σ Q) X.xe s := by
  have hl : us.length = ps.length := by
    obtain ⟨γ, C, ws, Qd, Ed, _, _, rv, hs, _⟩ := h
    rw [← r.length, rv.length, F.len _ _ _ _ hs, F.ar]
  have hbb : BindsTo s fd ⟨us, []⟩ (ps.zip us) := by
    have q := hb s us I.kIn (by rw [List.append_nil]; exact hl)
    rw [List.append_nil] at q
    exact q
  refine wpAny_call (codeAny_mono (F.run X.A X.stack s H ⟨us, []⟩ us vs Q (WE Ex σ) hgd hr I.env0 hbb r h) ?_)
  intro res s' hq
  cases res with
  | error e => exact passAt tk σ pins H s e s' I hq
  | ok fl =>
    cases fl with
    | ret u => exact I.after hq
    | next => exact False.elim hq
    | brk => exact False.elim hq
    | cont => exact False.elim hq
def dCallX (sp : SpecX) (t : TAD) : TDX := fun Ed τ S Q => t τ S fun ws S1 => sp ws S1 Q fun c fws S2 => Ed c fws τ S2
theorem pdx_call (F : FnX X.prog X.w X.K X.mg X.base k f fd n ps sp) (hgd : X.A.guards = some []) (hr : Room k X.A) (tk : Takes X Ex) (hg : Gl X x) (hm : X.mg x = some (.ref f)) (hk : PySem.W.keepIn X.K (.ref f) = true) (hb : Binds X.K fd ps []) (ha : PAD X (e :: es) t)
    (hdb : (x == ("__debug__" : Str)) = false := by decide) (he : starEach (e :: es) X.env = (false, eval e X.env) :: starEach es X.env := by rfl) (hpl : (backTo pos (starEach es X.env)).any (·.1) = false := by rfl) : PDX X Ex (.Call (.Name x p) (e :: es) [] pos) (dCallX sp t) := by
  obtain ⟨tA, pa, ka⟩ := ha.ex
  refine ⟨fun σ H Q => tA σ H fun vs H1 => spX X.K sp vs H1 Q (WE Ex σ), ⟨fun pins s σ H Q I h => ?_⟩, fun γ C σ τ Ed Qd Q hs hst h k kx => ka γ C σ τ _ _ hs hst h fun C1 vs ws h1 s1 st1 r1 => ⟨γ, C1, ws, Qd, _, rfl, s1, r1, h1, k.step st1, fun C' c d fws h2 s2 st2 e2 => kx C' c d fws σ τ h2 s2 (st1.trans st2) e2 ((hst.step st1).step st2)⟩⟩
  refine wpAny_Call_Name_kw (ld_glob I hg hm ?_ hdb)
  refine PySem.W.callWith_K (h₀ := X.base) I.ok.mod.kin hk (thn (pa.run pos pins s σ H _ I h) fun us s1 ⟨vs, H1, I1, r, q⟩ => ⟨I1.kIn, ?_⟩) he hpl
  exact run_fnX F hgd hr hb tk I1 r q
theorem pdx {td : TD} (h : PD X e td) : PDX X Ex e (fun _ => td) := by
  obtain ⟨tH, p, k⟩ := h.ex
  exact ⟨tH, p, fun γ C σ τ Ed Qd Q hs hst h k1 _ => k γ C σ τ Qd Q hs hst h k1⟩
theorem psdx_ret (he : PDX X Ex e tx) : PSDX X Ex (.Return (some e) pos) (fun Ed => sRet (tx Ed)) := by
  obtain ⟨tA, pa, ka⟩ := he.ex
  exact ⟨_, ps_ret pa, fun γ C σ τ Ed Dd D hs hst h k kx => ka γ C σ τ Ed _ _ hs hst h (fun C1 v w h1 s1 st1 r1 => k.rt C1 v w h1 s1 st1 r1) kx⟩
theorem psdx_set {i : Nat} {y : Str} {pos' : Pos} (hN : X.N.Nodup) (hi : X.N[i]? = some y) (hx : Loc X.env.scope y) (he : PDX X Ex e tx) (hs : swapsWith e (some (.Name y pos')) pos.line X.env = pure false := by rfl) (hf : X.fn y = true ∨ X.env.scope.names.lookup y = some .local := by first | exact .inl rfl | exact .inr rfl | assumption) :
    PSDX X Ex (.Assign [.Name y pos'] e pos) (fun Ed => sSet i (tx Ed)) := by
  obtain ⟨tA, pa, ka⟩ := he.ex
  exact ⟨_, ps_set hN hi hx pa hs hf, fun γ C σ τ Ed Dd D hs hst h k kx => ka γ C σ τ Ed _ _ hs hst h (fun C1 v w h1 s1 st1 r1 => k.nx C1 _ _ h1 s1 st1 ((hst.step st1).set r1)) kx⟩
theorem psdx_expr (he : PDX X Ex e tx) (hs : swapsWith e none pos.line X.env = pure false := by rfl) : PSDX X Ex (.Expr e pos) (fun Ed => sDrop (tx Ed)) := by
  obtain ⟨tA, pa, ka⟩ := he.ex
  exact ⟨_, ps_expr pa hs, fun γ C σ τ Ed Dd D hs hst h k kx => ka γ C σ τ Ed _ _ hs hst h (fun C1 v w h1 s1 st1 r1 => k.nx C1 σ τ h1 s1 st1 (hst.step st1)) kx⟩
end
/-! ### the suite of an except clause: a the error, of the class at E, in slot j; d its dict -/
abbrev FW := List (Str × W)
structure PDE (Y : Cx) (a : Addr) (d : Option Addr) (j : Nat) (e : Expr) (t : FW → TD) : Prop where
  ex : ∃ tH, PE Y e tH ∧ ∀ γ C σ τ fws Qd Q, Sim Y.K γ C → RSt Y.K γ C σ τ → σ[j]? = some (some (.ref a)) → ErrAt Y.K γ C d fws → t fws τ C.S Qd → KE Y.K γ C Qd Q → tH σ C.H Q
structure PADE (Y : Cx) (a : Addr) (d : Option Addr) (j : Nat) (es : List Expr) (t : FW → TAD) : Prop where
  ex : ∃ tH, PA Y es tH ∧ ∀ γ C σ τ fws Qd Q, Sim Y.K γ C → RSt Y.K γ C σ τ → σ[j]? = some (some (.ref a)) → ErrAt Y.K γ C d fws → t fws τ C.S Qd → KA Y.K γ C Qd Q → tH σ C.H Q
structure PSSDE (Y : Cx) (a : Addr) (d : Option Addr) (j : Nat) (st : List Stmt) (t : FW → TSD) : Prop where
  ex : ∃ tH, PSs Y st tH ∧ ∀ γ C σ τ fws Dd D, Sim Y.K γ C → RSt Y.K γ C σ τ → σ[j]? = some (some (.ref a)) → ErrAt Y.K γ C d fws → t fws Dd τ C.S → KS Y.K γ C Dd D → tH D σ C.H
section
variable {Y : Cx} {a : Addr} {d : Option Addr} {j : Nat} {e b c : Expr} {es rest : List Expr} {te tb : FW → TD} {t : FW → TAD} {td : TD} {pos : Pos}
theorem pde (h : PD Y e td) : PDE Y a d j e (fun _ => td) := by
  obtain ⟨tH, p, k⟩ := h.ex
  exact ⟨tH, p, fun γ C σ τ fws Qd Q hs hst _ _ h k1 => k γ C σ τ Qd Q hs hst h k1⟩
theorem pade_nil : PADE Y a d j [] (fun _ => dNil) := ⟨_, pa_nil, fun γ C σ τ fws Qd Q hs hst _ _ h k => k C _ _ h hs (.refl _ _) .nil⟩
theorem pade_cons (ha : PDE Y a d j e te) (hr : PADE Y a d j es t) (hs : starEach (e :: es) Y.env = (false, eval e Y.env) :: starEach es Y.env := by rfl) : PADE Y a d j (e :: es) (fun fws => dCons (te fws) (t fws)) := by
  obtain ⟨u, p, ku⟩ := ha.ex
  obtain ⟨z, q, kz⟩ := hr.ex
  refine ⟨_, pa_cons p q hs, fun γ C σ τ fws Qd Q hs hst hj he h k => ?_⟩
  exact ku γ C σ τ fws _ _ hs hst hj he h fun C1 v w h1 s1 st1 r1 => kz γ C1 σ τ fws _ _ s1 (hst.step st1) hj (he.step st1) h1 fun C2 vs ws h2 s2 st2 r2 => k C2 _ _ h2 s2 (st1.trans st2) (.cons (r1.step st2) r2)
theorem pde_lst (h : PADE Y a d j es t) : PDE Y a d j (.List es pos) (fun fws τ S Q => t fws τ S fun ws S1 => ws.length ≤ sizeLine ∧ Q (.lst ws) S1) := by
  obtain ⟨u, p, ku⟩ := h.ex
  refine ⟨_, pe_lst p, fun γ C σ τ fws Qd Q hs hst hj he h k => ?_⟩
  exact ku γ C σ τ fws _ _ hs hst hj he h fun C1 vs ws h1 s1 st1 r1 => ⟨by rw [r1.length]; exact h1.1, newLst (k.step st1) s1 r1 h1.2⟩
theorem pde_one {op} (h : PDE Y a d j e te) : PDE Y a d j (.BoolOp op [e] pos) te := by
  obtain ⟨t, p, k⟩ := h.ex
  exact ⟨t, pe_one p, k⟩
theorem pde_and (ha : PDE Y a d j e te) (hb : PDE Y a d j (.BoolOp .And (b :: rest) pos) tb) : PDE Y a d j (.BoolOp .And (e :: b :: rest) pos) (fun fws => dAndV (te fws) (tb fws)) := by
  obtain ⟨t, p, kt⟩ := ha.ex
  obtain ⟨u, q, ku⟩ := hb.ex
  refine ⟨_, pe_and p q, fun γ C σ τ fws Qd Q hs hst hj he h k => ?_⟩
  refine kt γ C σ τ fws _ _ hs hst hj he h fun C1 v w h1 s1 st1 r1 => ?_
  cases r1 <;> first | exact False.elim h1 | skip
  rename_i b
  refine ⟨b, rfl, ?_⟩
  cases b with
  | true => exact (if_pos rfl).mpr (ku γ C1 σ τ fws _ _ s1 (hst.step st1) hj (he.step st1) ((if_pos rfl).mp h1) (k.step st1))
  | false => exact (if_neg Bool.false_ne_true).mpr (k C1 _ _ ((if_neg Bool.false_ne_true).mp h1) s1 st1 (.bl _))
theorem pde_not (ha : PDE Y a d j e te) : PDE Y a d j (.UnaryOp .Not e pos) (fun fws => dNotV (te fws)) := by
  obtain ⟨t, p, kt⟩ := ha.ex
  refine ⟨_, pe_not p, fun γ C σ τ fws Qd Q hs hst hj he h k => ?_⟩
  refine kt γ C σ τ fws _ _ hs hst hj he h fun C1 v w h1 s1 st1 r1 => ?_
  cases r1 <;> first | exact False.elim h1 | exact ⟨_, rfl, k C1 _ _ h1 s1 st1 (.bl _)⟩
theorem pssde_set {i : Nat} {x : Str} {pos' : Pos} (hN : Y.N.Nodup) (hi : Y.N[i]? = some x) (hx : Loc Y.env.scope x) (he : PDE Y a d j e te) (hs : swapsWith e (some (.Name x pos')) pos.line Y.env = pure false := by rfl) (hf : Y.fn x = true ∨ Y.env.scope.names.lookup x = some .local := by first | exact .inl rfl | exact .inr rfl | assumption) :
    PSSDE Y a d j [.Assign [.Name x pos'] e pos] (fun fws => sSet i (te fws)) := by
  obtain ⟨tA, pa, ka⟩ := he.ex
  exact ⟨_, pss_one (ps_set hN hi hx pa hs hf), fun γ C σ τ fws Dd D hs hst hj he h k => ka γ C σ τ fws _ _ hs hst hj he h fun C1 v w h1 s1 st1 r1 => k.nx C1 _ _ h1 s1 st1 ((hst.step st1).set r1)⟩
theorem pssde_ret (he : PDE Y a d j e te) : PSSDE Y a d j [.Return (some e) pos] (fun fws => sRet (te fws)) := by
  obtain ⟨tA, pa, ka⟩ := he.ex
  exact ⟨_, pss_one (ps_ret pa), fun γ C σ τ fws Dd D hs hst hj he h k => ka γ C σ τ fws _ _ hs hst hj he h fun C1 v w h1 s1 st1 r1 => k.rt C1 v w h1 s1 st1 r1⟩
end
section
variable {X : Cx} {a E I : Addr} {fd : FuncData} {ps : List Str} {d : Option Addr} {oe : Obj} {pn : List (Addr × Obj)} {j : Nat} {x n f y : Str} {p p2 p3 pos : Pos}
/-- err.f -/
theorem pde_field (T : ErrC X.K X.mg x E I fd ps f) (hz : Zc (.ref E) d oe) (hf : ∃ vs, oe.data = .fields vs) (hN : X.N[j]? = some n := by rfl) (hv : Vis X.env.scope n := by first | exact Or.inl rfl | exact Or.inr (Or.inl rfl) | exact Or.inr (Or.inr rfl)) (hd : (n == ("__debug__" : Str)) = false := by decide) (hcd : (n == ("__classdict__" : Str)) = false := by decide)
    (hb : attributeBase (.Name n p) f X.env (eval (.Name n p) X.env) = eval (.Name n p) X.env := by rfl) :
    PDE (X.suite a ((a, oe) :: pn)) a d j (.Attribute (.Name n p) f pos) (fun fws τ S Q => match fws.lookup f with | some w => Q w S | none => False) := by
  refine ⟨_, pe_xf (C := E) T.xf T.no hz hf (pe_var (i := j) hN hv hd hcd) hb, fun γ C σ τ fws Qd Q hs hst hj he h k => ?_⟩
  refine ⟨_, hj, rfl, rfl, ?_⟩
  split at h
  · rename_i w ew
    cases d with
    | none =>
      have e0 : fws = [] := he
      subst e0; cases ew
    | some dd =>
      obtain ⟨fs, h1, h2, h3, h4⟩ := he
      obtain ⟨v, l, r⟩ := err_look h3 h4 ew
      exact ⟨dd, fs, v, rfl, h1, l, k C v w h hs (.refl _ _) r⟩
  · exact h.elim
/-- isinstance(err, D) -/
theorem call_isX (T : XfC X.K E) (T2 : ErrI X.K E) (hz : Zc (.ref E) d oe) (hf : ∃ vs, oe.data = .fields vs) {dd : Addr} (hd : d = some dd) :
    CallR (X.suite a ((a, oe) :: pn)) (.builtin "isinstance") (fun xs H Q => ∃ (c : V) (cv : Value) (bb : Bool), xs = [.ref a, c] ∧ (∀ u, RelV c u → u = cv) ∧ PySem.W.kitOne X.K (.ref E) cv = some bb ∧ (∃ fs, H dd = some (.xd fs)) ∧ Q (.bl bb) H) := by
  intro pins s σ H xs us Q I r h
  obtain ⟨c, cv, b, rfl, hcv, e, ⟨fs, hfs⟩, q⟩ := h
  cases r with
  | cons rx rr =>
    cases rr with
    | cons rt rr =>
      cases rr
      cases rx
      have ec := hcv _ rt
      subst ec
      subst hd
      obtain ⟨hget, _⟩ := I.pin (a, oe) (List.mem_append.mpr (.inl List.mem_cons_self))
      obtain ⟨vs, hv⟩ := hf
      have hxd : ObjOk X.prog X.w H s.heap dd (.xd fs) := I.hok dd _ hfs
      obtain ⟨mA, hns, _⟩ := hxd
      obtain ⟨od, ho, _⟩ := lookIn_ns hns
      have J : PySem.W.InstAt s.heap a oe E (some od) := ⟨hget, hz.1, by unfold PySem.W.notCls; rw [hv] <;> rfl, by rw [hz.2]; exact ho⟩
      exact PySem.W.kia_one (PySem.W.kitx_exc (od := some od) T2.hcl T.ga T.gg T.exC T2.ha T2.hn T2.ht T2.hm) I.kIn J e (fun z => nomatch z) fun tk => ⟨.bl b, H, I.kept (t' := tk) fun _ _ z => z, rfl, q⟩
end
end FL
end
section
set_option autoImplicit false
namespace FL
open PySem PySem.Spec PyProof.Rows L2
section
variable {X : Cx} {a E I : Addr} {fd : FuncData} {ps : List Str} {d : Option Addr} {oe : Obj} {pn : List (Addr × Obj)} {j : Nat} {x n f y z : Str} {p p2 p3 pos : Pos}
/-- isinstance(err, D): D an own class, or a built-in one -/
theorem pde_isO {D : Value} {cD : V} {bb : Bool} (T : XfC X.K E) (T2 : ErrI X.K E) (hz : Zc (.ref E) d oe) (hf : ∃ vs, oe.data = .fields vs) (hcD : ∀ u, RelV cD u → u = D) (hk : PySem.W.kitOne X.K (.ref E) D = some bb) (hD : PE (X.suite a ((a, oe) :: pn)) (.Name z p3) (tC cD))
    (hg : Gl X "isinstance") (hm : X.mg "isinstance" = none) (hN : X.N[j]? = some n := by rfl) (hv : Vis X.env.scope n := by first | exact Or.inl rfl | exact Or.inr (Or.inl rfl) | exact Or.inr (Or.inr rfl)) (hd : (n == ("__debug__" : Str)) = false := by decide) (hcd : (n == ("__classdict__" : Str)) = false := by decide)
    (h1 : starEach [.Name n p2, .Name z p3] X.env = (false, eval (.Name n p2) X.env) :: starEach [.Name z p3] X.env := by rfl) (h2 : starEach [.Name z p3] X.env = (false, eval (.Name z p3) X.env) :: starEach [] X.env := by rfl) (hpl : (backTo pos (starEach [.Name z p3] X.env)).any (·.1) = false := by rfl) :
    PDE (X.suite a ((a, oe) :: pn)) a d j (.Call (.Name "isinstance" p) [.Name n p2, .Name z p3] [] pos) (fun fws τ S Q => fws ≠ [] ∧ Q (.bl bb) S) := by
  cases d with
  | none =>
    refine ⟨fun _ _ _ => False, ⟨fun _ _ _ _ _ _ h => h.elim⟩, fun γ C σ τ fws Qd Q hs hst hj he h k => ?_⟩
    have e0 : fws = [] := he
    exact h.1 e0
  | some dd =>
    refine ⟨_, pe_callB (call_isX T T2 hz hf rfl) hg hm (by decide +kernel) (pa_cons (pe_var (i := j) hN hv hd hcd) (pa_cons hD pa_nil h2) h1) (by decide) (by decide) h1 hpl, fun γ C σ τ fws Qd Q hs hst hj he h k => ?_⟩
    obtain ⟨fs, e1, e2, e3, e4⟩ := he
    exact ⟨_, hj, cD, D, bb, rfl, hcD, hk, ⟨fs, e1⟩, k C _ _ h.2 hs (.refl _ _) (.bl _)⟩
end
def sTry (E : Addr) (j : Nat) (tb : TSDX) (ts : FW → TSD) : TSD := fun D τ S => tb (fun c fws τ' S' => c = E ∧ j < τ'.length ∧ ts fws ⟨fun τ2 S2 => D.nx (τ2.set j none) S2, D.rt, fun τ2 S2 => D.bk (τ2.set j none) S2, fun τ2 S2 => D.ct (τ2.set j none) S2⟩ (τ'.set j none) S') D τ S
theorem psd_try {X : Cx} {E : Addr} {j : Nat} {x n : Str} {b₀ : Stmt} {body suite : List Stmt} {np pos pos' : Pos} {tb : TSDX} {ts : FW → TSD} (hs : X.stack = X.env :: X.outer) (hf : X.env.frame = some X.env.locals) (hN : X.N.Nodup) (hi : X.N[j]? = some n) (hln : X.env.kindOf n = some .local) (hc : Names X x (.ref E))
    (te : PySem.W.exmOne X.K (.ref E) (.ref E) = some true)
    (hb : ∀ (Ex : WX) (pn : List (Addr × Obj)) (xe : Value → Shared → Prop), Takes (X.tr pn xe) Ex → PassesOwn (model X.prog X.w) X.A X.env xe → PSSDX (X.tr pn xe) Ex body tb)
    (hsu : ∀ (a : Addr) (oe : Obj) (d : Option Addr) (pn : List (Addr × Obj)), Zc (.ref E) d oe → (∃ vs, oe.data = .fields vs) → PSSDE (X.suite a ((a, oe) :: pn)) a d j (b₀ :: suite) ts) :
    PSD X (.Try body [.ExceptHandler (some (.Name x np)) (some n) (b₀ :: suite) pos'] [] [] pos) (sTry E j tb ts) := by
  refine ⟨_, ps_try_as (i := j) (Wout := fun _ _ _ _ => False) (tb := fun Ex D σ H => ∀ pn xe h1 h2, Classical.choose (hb Ex pn xe h1 h2).ex D σ H) (ts := fun a cls d D σ H => cls = .ref E ∧ ∀ oe pn hz hf, Classical.choose (hsu a oe d pn hz hf).ex D σ H) hs hf hN hi hln hc takes0 ?_ ?_, fun γ C σ τ Dd D hsm hst h k => ?_⟩
  · intro Ex pn xe h1 h2
    exact ⟨fun pins s σ H D I h => (Classical.choose_spec (hb Ex pn xe h1 h2).ex).1.run pins s σ H D I (h pn xe h1 h2)⟩
  · intro a oe cls d pn hz hf
    refine ⟨fun pins s σ H D I h => ?_⟩
    obtain ⟨rfl, h⟩ := h
    exact (Classical.choose_spec (hsu a oe d pn hz hf).ex).1.run pins s σ H D I (h oe pn hz hf)
  · intro pn xe h1 h2
    refine (Classical.choose_spec (hb _ pn xe h1 h2).ex).2 γ C σ τ _ Dd D hsm hst h k fun C' c d fws σ' τ' hE s' st' he hst' => ?_
    obtain ⟨rfl, hjl, hts⟩ := hE
    refine ⟨true, te, fun _ a ha => ⟨rfl, fun oe pn hz hf => ?_⟩, fun z => Bool.noConfusion z⟩
    have hl : j < σ'.length := by rw [hst'.1]; exact hjl
    refine (Classical.choose_spec (hsu a oe d pn hz hf).ex).2 γ C' _ _ fws _ _ s' (hst'.hide) (List.getElem?_set_self hl) he hts ?_
    have k' := k.step st'
    exact ⟨fun C2 σ2 τ2 h2 s2 st2 r2 => k'.nx C2 _ _ h2 s2 st2 r2.hide, fun C2 v w h2 s2 st2 r2 => k'.rt C2 v w h2 s2 st2 r2, fun C2 σ2 τ2 h2 s2 st2 r2 => k'.bk C2 _ _ h2 s2 st2 r2.hide, fun C2 σ2 τ2 h2 s2 st2 r2 => k'.ct C2 _ _ h2 s2 st2 r2.hide⟩
end FL
end
section
set_option autoImplicit false
namespace FL
open PySem PySem.Spec PyProof.Rows L2
/-! ### tuples that are known to have no dict: made of a list; in; index -/
section
variable {X : Cx}
theorem call_tupF : CallR X (.type "tuple") (fun xs H Q => ∃ p ys, xs = [.ref p] ∧ SqL X.K H p ys ∧ ∀ l o, H l = none → o.cls = .type "tuple" → o.dict = none → Q (.ref l) (upd H l (.frz o (.tup ys)))) := by
  intro pins s σ H xs us Q I r h
  obtain ⟨p, ys, rfl, hq, q⟩ := h
  obtain ⟨u, rfl, rx⟩ := vals1 r
  cases rx
  obtain ⟨its, rr, pl, hz⟩ := I.list hq
  have hln := rr.length
  refine call_tuple_list pl.isList (fun hh kp => ?_) (by simp only [List.size_toArray] <;> omega)
  have J1 : Inv X pins σ H { s with heap := hh } := I.kept (t' := s.toks) kp
  have J2 : Inv X pins σ (upd H hh.objs.size (.frz { cls := .type "tuple", data := .seq its.toArray } (.tup ys))) { s with heap := hh.push { cls := .type "tuple", data := .seq its.toArray } } := by
    refine J1.laid (t' := s.toks) (fun b o e => Heap.get?_push_of_some _ e) (Nat.le_refl _) ?_
    have e0 : (hh.push { cls := .type "tuple", data := .seq its.toArray }).get? hh.objs.size = some { cls := .type "tuple", data := .seq its.toArray } := Heap.get?_push_size hh rfl
    show ObjOk X.prog X.w _ _ _ (.frz _ (.tup ys))
    exact ⟨e0, hz, its, rr, _, e0, rfl, _, rfl⟩
  exact ⟨.ref hh.objs.size, _, J2, rfl, q _ _ (J1.hok.fresh (Nat.le_refl _)) rfl rfl⟩
def rdTupF : List W → Store → WK → Prop := fun ws S Q => match ws with
  | [w] => (match llOf S w with
    | some us => Q (.tpf us) S
    | none => False)
  | _ => False
theorem cd_tupF : CallD X (.type "tuple") rdTupF := by
  refine ⟨_, call_tupF, fun γ C vs ws Qd Q hs r h k => ?_⟩
  unfold rdTupF at h
  split at h
  · split at h
    · rename_i us e
      cases r with
      | cons r1 r2 =>
        cases r2
        obtain ⟨a, xs, rfl, p1, q1⟩ := llOf_at hs r1 e
        refine ⟨a, xs, rfl, p1, fun l o hl h1 h2 => ?_⟩
        have st : Step γ C γ (C.put l (.frz o (.tup xs))) := Step.new hl
        exact k (C.put l (.frz o (.tup xs))) _ _ h (hs.new hl) st (.tpf ⟨o, h1, h2, upd_same⟩ (q1.step st))
    · exact h.elim
  · exact h.elim
theorem any_eqW {d : PyData} {w : W} (gw : eqG w = true) (ew : toP w = some d) : ∀ (cs : List W) (ds : List PyData), eqGs cs = true → toPs cs = some ds → (ds.any fun y => PyData.eqv y d) = cs.any fun z => eqW z w
  | [], ds, _, e => by
    simp only [toPs] at e
    cases e; rfl
  | c :: cs, ds, g, e => by
    obtain ⟨d1, e1, e2⟩ := Option.bind_eq_some_iff.mp (show (toP c).bind (fun d => (toPs cs).map fun ds => d :: ds) = some _ from by simpa only [toPs] using e)
    obtain ⟨ds', e3, e4⟩ := Option.map_eq_some_iff.mp e2
    subst e4
    have g' : eqG c = true ∧ eqGs cs = true := by simpa only [eqGs, Bool.and_eq_true] using g
    rw [List.any_cons, List.any_cons, any_eqW gw ew cs ds' g'.2 e3, eqv_eqW c w d1 d g'.1 gw e1 ew]
theorem toPs_at {d : PyData} : ∀ {cs : List W} {ds : List PyData} {j : Nat}, toPs cs = some ds → ds[j]? = some d → ∃ c, cs[j]? = some c ∧ toP c = some d
  | [], ds, j, e, h => by
    simp only [toPs] at e
    cases e; simp at h
  | c :: cs, ds, j, e, h => by
    obtain ⟨d1, e1, e2⟩ := Option.bind_eq_some_iff.mp (show (toP c).bind (fun d => (toPs cs).map fun ds => d :: ds) = some _ from by simpa only [toPs] using e)
    obtain ⟨ds', e3, e4⟩ := Option.map_eq_some_iff.mp e2
    subst e4
    cases j with
    | zero =>
      have : d1 = d := by simpa using h
      subst this
      exact ⟨c, rfl, e1⟩
    | succ j => exact toPs_at (j := j) e3 (by simpa using h)
/-- x in t: t such a tuple -/
def rdInC : R2D := fun x y S Q => match y with
  | .tpf cs => eqG (deloc S x) = true ∧ eqGs cs = true ∧ wDep (deloc S x) ≤ 60 ∧ wDeps cs ≤ 50 ∧ Q (.bl (cs.any fun z => eqW z (deloc S x))) S
  | _ => False
theorem opd_inC {k : Nat} (hr : Room k X.A) : OpD X (compareOp .In) rdInC := by
  refine ⟨fun x y H Q => ∃ γ C a cs, C.H = H ∧ Sim X.K γ C ∧ RV X.K γ C x a ∧ RV X.K γ C y (.tpf cs) ∧ eqG (deloc C.S a) = true ∧ eqGs cs = true ∧ wDep (deloc C.S a) ≤ 60 ∧ wDeps cs ≤ 50 ∧ Q (.bl (cs.any fun z => eqW z (deloc C.S a))) H, ?_, fun γ C x y w1 w2 Qd Q hs rx ry h kk => ?_⟩
  · intro pins s σ H x y v u Q I rx ry h
    obtain ⟨γ, C, a, cs, rfl, sim, ra, rb, g1, g2, d1, d2, q⟩ := h
    obtain ⟨p, e1, k1⟩ := eqG_ok _ g1
    obtain ⟨ds, e2, k2, k3⟩ := eqGs_ok _ g2
    obtain ⟨as, q1, _⟩ := deloc_reads I sim ra e1 rx
    have hu := hr.units
    rw [← any_eqW g1 e1 cs ds g2 e2] at q
    cases rb with
    | tpf h1 h2 =>
      cases ry
      obtain ⟨its, rv, ⟨o, ho, hc, n, hd⟩, _⟩ := I.tuple h1.sq
      obtain ⟨bs, hb, _⟩ := RVs.reads I h2 e2 rv
      exact SeqAt.in_tuple_reads (Reads.tuple ho hc hd hb) q1 k2 k1.lay (by have := k1.de; have : min (PyData.depthAll ds) p.depth ≤ 60 := Nat.le_trans (Nat.min_le_right _ _) (by omega); omega) ⟨.bl _, C.H, I, rfl, q⟩
  · unfold rdInC at h
    split at h
    · rename_i cs
      exact ⟨γ, C, w1, cs, rfl, hs, rx, ry, h.1, h.2.1, h.2.2.1, h.2.2.2.1, kk C _ _ h.2.2.2.2 hs (.refl _ _) (.bl _)⟩
    · exact h.elim
/-- t.index(x) -/
def tixR (K : PySem.W.Frag) (p : Addr) (Q : VK) : List V → Hp → Prop := fun vs H => ∃ (γ : List Addr) (C : Cfg) (y : V) (a : W) (cs : List W) (j : Nat) (z : W), vs = [y] ∧ C.H = H ∧ Sim K γ C ∧ RV K γ C y a ∧ RV K γ C (.ref p) (.tpf cs) ∧ eqG (deloc C.S a) = true ∧ eqGs cs = true ∧ wDep (deloc C.S a) ≤ 60 ∧ wDeps cs ≤ 50 ∧
    cs[j]? = some z ∧ eqW z (deloc C.S a) = true ∧ (∀ (m : Nat) (z' : W), m < j → cs[m]? = some z' → eqW z' (deloc C.S a) = false) ∧ Q (.int (j : Nat)) H
theorem mt_tpf {k : Nat} (hr : Room k X.A) : MtR X "tuple.index" (fun x xs H Q => ∃ p, x = .ref p ∧ tixR X.K p Q xs H) := by
  intro pins s σ H x xs v us Q I rx rs h
  obtain ⟨p, rfl, γ, C, y, a, cs, j, z, rfl, rfl, sim, ra, rb, g1, g2, d1, d2, hz, hzj, hno, q⟩ := h
  cases rx
  obtain ⟨u, rfl, ru⟩ := vals1 rs
  obtain ⟨d, e1, k1⟩ := eqG_ok _ g1
  obtain ⟨ds, e2, k2, k3⟩ := eqGs_ok _ g2
  obtain ⟨as, q1, _⟩ := deloc_reads I sim ra e1 ru
  have hu := hr.units
  cases rb with
  | tpf h1 h2 =>
    obtain ⟨its, rv, ⟨⟨cls, dd, dt, sl⟩, ho, hc, n, hd⟩, _⟩ := I.tuple h1.sq
    simp only at hc hd
    subst hc
    subst hd
    obtain ⟨bs, hb, _⟩ := RVs.reads I h2 e2 rv
    have hmap : its.map (SeqAt.readOf s.heap) = ds := SeqAt.readsAll_map ds its bs k2 hb
    have hgs : ∀ (m : Nat) (z' : W), cs[m]? = some z' → eqG z' = true := by
      intro m z' hm
      have key : ∀ {l : List W}, eqGs l = true → ∀ z ∈ l, eqG z = true := by
        intro l
        induction l with
        | nil => intro _ z hz; cases hz
        | cons c l ih =>
          intro g z hz
          have g' : eqG c = true ∧ eqGs l = true := by simpa only [eqGs, Bool.and_eq_true] using g
          rcases List.mem_cons.mp hz with rfl | hz
          · exact g'.1
          · exact ih g'.2 z hz
      exact key g2 z' (List.mem_of_getElem? hm)
    have hlen : its.length = cs.length := by
      have h3 := rv.length
      rw [← h3]
      exact h2.length
    have at_ : ∀ (m : Nat) (hm : m < its.toArray.size), ∃ c, cs[m]? = some c ∧ PyData.eqv (SeqAt.readOf s.heap its.toArray[m]) d = eqW c (deloc C.S a) := by
      intro m hm
      have hml : m < its.length := by simpa using hm
      have e3 : ds[m]? = some (SeqAt.readOf s.heap its[m]) := by rw [← hmap, List.getElem?_map, List.getElem?_eq_getElem hml]; rfl
      obtain ⟨c, e4, e5⟩ := toPs_at e2 e3
      refine ⟨c, e4, ?_⟩
      have e6 := eqv_eqW c _ _ _ (hgs m c e4) g1 e5 e1
      rw [← e6]
      simp
    have hjl : j < its.length := by rw [hlen]; exact (List.getElem?_eq_some_iff.mp hz).1
    have hj : j < its.toArray.size := by simpa using hjl
    refine call_meets PySem.F.slot_tuple_index ⟨_, ho, rfl⟩ PySem.F.entry_tuple_index (PySem.F.args_tuple_index_2 _ _) (TI.tuple_indexAt p its.toArray n dd sl u (fun v => PyData.eqv (SeqAt.readOf s.heap v) d) j hj ?_ ?_)
      ⟨ho, SeqAt.items_eqAt (vs := its.toArray) (show ReadsAll s.heap its.toArray.toList ds bs from hb) q1 k2 k1.lay (by have := k1.de; have : min (PyData.depthAll ds) d.depth ≤ 60 := Nat.le_trans (Nat.min_le_right _ _) (by omega); omega), ?_⟩
    · obtain ⟨c, e4, e5⟩ := at_ j hj
      rw [hz] at e4
      cases e4
      exact e5.trans hzj
    · intro m hm hmj
      obtain ⟨c, e4, e5⟩ := at_ m hm
      exact e5.trans (hno m c hmj e4)
    · exact ⟨.int (j : Nat), C.H, I.tok _, ⟨_, rfl⟩, q⟩
variable {o e : Expr} {td te : TD} {apos cpos : Pos}
def dTix (td te : TD) : TD := fun τ S Q => td τ S fun c S1 => match c with
  | .tpf cs => te τ S1 fun x S2 => eqG (deloc S2 x) = true ∧ eqGs cs = true ∧ wDep (deloc S2 x) ≤ 60 ∧ wDeps cs ≤ 50 ∧ ∃ j z, cs[j]? = some z ∧ eqW z (deloc S2 x) = true ∧ (∀ m z', m < j → cs[m]? = some z' → eqW z' (deloc S2 x) = false) ∧ Q (.int (j : Nat)) S2
  | _ => False
theorem pd_tix {k : Nat} (hr : Room k X.A) (ho : PD X o td) (he : PD X e te)
    (hbase : attributeBase o "index" X.env (eval o X.env) = eval o X.env := by rfl)
    (hfew : ((backTo cpos (starEach [e] X.env)).all (fun x => !x.1) && (backToKw cpos (keywordEach [] X.env)).all (fun x => x.1.isSome) && decide ([e].length + ([] : List Keyword).length + (if ([] : List Keyword).isEmpty then 0 else 1) < 30)) = true := by rfl)
    (hline : (apos.endLine == cpos.line) = true := by rfl) (hs : starEach [e] X.env = (false, eval e X.env) :: starEach [] X.env := by rfl) (hplain : (backTo cpos (starEach [] X.env)).any (·.1) = false := by rfl) : PD X (.Call (.Attribute o "index" apos) [e] [] cpos) (dTix td te) := by
  obtain ⟨tA, pA, ka⟩ := ho.ex
  obtain ⟨tB, pB, kb⟩ := he.ex
  have pargs : PA X [e] _ := pa_cons pB pa_nil hs
  have hm := mt_tpf (X := X) hr
  refine ⟨fun σ H Q => tA σ H fun x H1 => ∃ p o' xs, x = .ref p ∧ H1 p = some (.frz o' (.tup xs)) ∧ o'.dict = none ∧ tB σ H1 fun y H2 => tixR X.K p Q [y] H2, ⟨fun pins s σ H Q I h => ?_⟩, fun γ C σ τ Qd Q hsm hst h kk => ?_⟩
  · refine wpAny_Call_method_late hbase hfew hline rfl (thn (pA.run pins s σ H _ I h) fun v s1 ⟨x, H1, I1, r1, p, o', xs, ex, eH, hdn, q1⟩ => ?_)
    subst ex
    cases r1
    have hok := I1.hok p _ eH
    have hok2 : s1.heap.get? p = some o' ∧ ObjOk X.prog X.w H1 s1.heap p (.tup xs) := hok
    have hob := hok2.1
    obtain ⟨_, its, _, o2, ho2, hc2, _⟩ := hok2.2
    rw [hob] at ho2
    cases ho2
    refine ⟨"tuple", "tuple.index", PySem.F.plainAttrs_tuple, PySem.F.slot_tuple_index, PySem.F.type_tuple_index, ⟨o', hob, hc2⟩, fun a ea => by cases ea; exact ⟨o', hob, hdn⟩, ?_⟩
    have hA := pargs.run cpos pins s1 σ H1 (tixR X.K p Q) I1 q1
    rw [hs] at hA ⊢
    refine Calls.callWith_builtin (by show (false || (backTo cpos (starEach [] X.env)).any (·.1)) = false; rw [hplain] <;> rfl) (Calls.evalArgs_plain ?_)
    exact thn hA fun us s2 ⟨vs, H2, I2, r2, q2⟩ => hm pins s2 σ H2 (.ref p) vs (.ref p) us Q I2 rfl r2 ⟨p, rfl, q2⟩
  · refine ka γ C σ τ _ _ hsm hst h fun C1 v1 w1 h1 s1 st1 r1 => ?_
    cases r1 <;> first | exact False.elim h1 | skip
    rename_i p xs cs e1 e2
    obtain ⟨o', c1, c2, c3⟩ := id e1
    refine ⟨p, o', xs, rfl, c3, c2, kb γ C1 σ τ _ _ s1 (hst.step st1) h1 fun C2 v2 w2 h2 s2 st2 r2 => ?_⟩
    obtain ⟨g1, g2, d1, d2, j, z, hz, hzj, hno, q⟩ := h2
    exact ⟨γ, C2, v2, w2, cs, j, z, rfl, rfl, s2, r2, (RV.tpf e1 e2).step st2, g1, g2, d1, d2, hz, hzj, hno, kk C2 _ _ q s2 (st1.trans st2) (.int _)⟩
end
end FL
end
section
set_option autoImplicit false
namespace FL
open PySem PySem.Spec PyProof.Rows L2
/-! ### sorted: two tuples of ints -/
theorem lt_lex : ∀ xs ys : List Int, decide (xs < ys) = HT.lexLt xs ys
  | [], [] => by decide
  | [], y :: ys => by
    show decide ([] < y :: ys) = true
    exact decide_eq_true (List.nil_lt_cons y ys)
  | x :: xs, [] => by
    show decide (x :: xs < []) = false
    exact decide_eq_false (List.not_lt_nil _)
  | x :: xs, y :: ys => by
    rw [HT.lexLt_cons, ← lt_lex xs ys]
    by_cases h : x = y
    · subst h
      rw [if_pos rfl]
      exact decide_eq_decide.mpr List.cons_lt_cons_self
    · rw [if_neg h]
      refine decide_eq_decide.mpr ?_
      rw [List.cons_lt_cons_iff]
      exact ⟨fun z => z.elim id fun z => absurd z.1 h, .inl⟩
theorem dlt_ints (xs ys : List Int) : PySem.W.dataLt (.tuple (xs.map .int)) (.tuple (ys.map .int)) = HT.lexLt xs ys := by
  rw [PySem.W.dataLt_tuple, ← lt_lex]
  exact PySem.W.dataLt_ints xs ys
theorem ints_of_reads {h : Heap} : ∀ {ns : List Int} {vs : List Value} {as : List Addr}, ReadsAll h vs (ns.map .int) as → IntsAre vs ns
  | [], _, _, r => by
    cases r
    exact .nil
  | n :: ns, _, _, r => by
    rw [List.map_cons] at r
    cases r with
    | cons r1 r2 =>
      cases r1 with
      | int _ t => exact .cons n t (ints_of_reads r2)
section
variable {prog : Program} {w : World} {A : Around} {E : Value → Shared → Prop} {s : Shared}
theorem oneLt_tup {a b : Value} {as bs : List Addr} {ns ms : List Int} {Q : Bool → Shared → Prop} (ra : Reads s.heap a (.tuple (ns.map .int)) as) (rb : Reads s.heap b (.tuple (ms.map .int)) bs) (hu : A.units + 1 < cLine) (hq : Q (HT.lexLt ns ms) s) : wpAny (model prog w) A (PyProof.Rows.oneLt' true a b) Q E s := by
  cases ra with
  | @tuple l o xs n _ _ h1 h2 h3 h4 =>
    cases rb with
    | @tuple l' o' xs' n' _ _ k1 k2 k3 k4 =>
      obtain ⟨cls, dd, dt, sl⟩ := o
      obtain ⟨cls', dd', dt', sl'⟩ := o'
      simp only at h2 h3 k2 k3
      subst h2 h3 k2 k3
      rw [PyProof.Rows.oneLt'_eq]
      simp only [if_true]
      refine wpAny_bind (wpAny_cRoomFor (by omega) ?_)
      · refine wpAny_bind (wpAny_callSpecialIfBound?_slot (T := "tuple") ⟨_, h1, rfl⟩ (show Slot "tuple" "__lt__" "tuple.__lt__" from F.slot_tuple_lt) (call_meets F.slot_tuple_lt ⟨_, h1, rfl⟩ F.entry_tuple_lt (F.args_tuple_lt_2 _ _) (HT.tuple_lt_ints l l' xs xs' n n' dd dd' sl sl' ns ms (ints_of_reads h4) (ints_of_reads k4)) ⟨h1, k1, ?_⟩))
        exact wpAny_truthy_bool hq
theorem first_tup {v : Value} {xs : List PyData} {as : List Addr} {M : Model} {Q : Option Value → Shared → Prop} (r : Reads s.heap v (.tuple xs) as) (h : ∀ f : Option Value, f.isSome = !xs.isEmpty → Q f s) : wpAny M A (firstOfTuple' v) Q E s := by
  cases r with
  | @tuple l o its n _ _ h1 h2 h3 h4 =>
    rw [PySem.W.kas_first_eq]
    refine wpAny_bind (PySem.W.Looks.here (show PySem.W.Looks M s.heap (typeOf (.ref l)) o.cls from (PySem.W.Looks.ld h1).andThen .now) ?_)
    rw [h2, if_neg (by decide)]
    refine wpAny_bind (listItems_at h1 h3 (wpAny_pure (h _ ?_)))
    have hl := PySem.SeqAt.ReadsAll.length _ _ _ h4
    have hs : its.size = xs.length := by simpa using hl
    cases xs with
    | nil =>
      have : its.size = 0 := hs
      rw [Array.getElem?_eq_none (by omega)]
      rfl
    | cons x r =>
      have : its.size = r.length + 1 := hs
      rw [Array.getElem?_eq_getElem (by omega)]
      rfl
open PySem.W in
/-- two tuples of ints: how they are compared when they are sorted -/
theorem sorts_two {v1 v2 : Value} {as1 as2 : List Addr} {n1 n2 : List Int} (r1 : Reads s.heap v1 (.tuple (n1.map .int)) as1) (r2 : Reads s.heap v2 (.tuple (n2.map .int)) as2) (hu : A.units + 2 < cLine) :
    SortsAt prog w A s (dataKind s.heap [.tuple (n1.map .int), .tuple (n2.map .int)]) [v1, v2] := by
  have hal : AllAlike [PyData.tuple (n1.map .int), .tuple (n2.map .int)] := by
    intro d hd d' hd'
    simp only [List.mem_cons, List.not_mem_nil, or_false] at hd hd'
    rcases hd with rfl | rfl <;> rcases hd' with rfl | rfl <;> exact alike_ints _ _
  have dep : ∀ ns : List Int, (PyData.tuple (ns.map .int)).depth = 1 := fun ns => by
    show PyData.depthAll (ns.map .int) + 1 = 1
    rw [depth_ints]
  have each : EachIs (fun v d => ∃ as, Reads s.heap v d as) [v1, v2] [PyData.tuple (n1.map .int), .tuple (n2.map .int)] := .cons ⟨_, r1⟩ (.cons ⟨_, r2⟩ .nil)
  by_cases hne : n1 ≠ [] ∧ n2 ≠ []
  · refine SortsAt.data each hal (.inl fun d hd => ?_) fun d hd => ?_
    · simp only [List.mem_cons, List.not_mem_nil, or_false] at hd
      rcases hd with rfl | rfl
      · cases n1 with
        | nil => exact absurd rfl hne.1
        | cons a as => exact ⟨.int a, as.map .int, rfl⟩
      · cases n2 with
        | nil => exact absurd rfl hne.2
        | cons a as => exact ⟨.int a, as.map .int, rfl⟩
    · simp only [List.mem_cons, List.not_mem_nil, or_false] at hd
      rcases hd with rfl | rfl <;> (rw [dep]; omega)
  · refine ⟨fun v hv => ?_, (if n1 = [] then oneType' else general'), ?_, fun _ E Q hq => ?_⟩
    · obtain ⟨d, hd, as, r⟩ := each.left v hv
      exact ⟨_, dataKind_some hal hd r⟩
    · intro E x y a b Q ha hb hq
      obtain ⟨d, as, hd, ra, rfl⟩ := dataKind_inv ha
      obtain ⟨d', as', hd', rb, rfl⟩ := dataKind_inv hb
      have hq' : Q (dataLt d d') s := hq
      obtain ⟨ns, rfl⟩ : ∃ ns : List Int, d = .tuple (ns.map .int) := by
        simp only [List.mem_cons, List.not_mem_nil, or_false] at hd
        rcases hd with rfl | rfl <;> exact ⟨_, rfl⟩
      obtain ⟨ms, rfl⟩ : ∃ ms : List Int, d' = .tuple (ms.map .int) := by
        simp only [List.mem_cons, List.not_mem_nil, or_false] at hd'
        rcases hd' with rfl | rfl <;> exact ⟨_, rfl⟩
      by_cases h1 : n1 = []
      · rw [if_pos h1]
        show wpAny _ _ (oneLt' true x y) _ _ _
        exact oneLt_tup ra rb (by omega) (by rw [← dlt_ints]; exact hq')
      · rw [if_neg h1]
        show wpAny _ _ (oneLt' false x y) _ _ _
        exact oneLt_alike (fun z => nomatch z) ra rb (alike_ints _ _) (fun z => nomatch z) (by rw [dep, dep]; omega) hq'
    · rw [keyKind'_eq, List.mapM_toArray, map_eq_pure_bind]
      refine wpAny_bind (wpAny_bind ?_)
      rw [List.mapM_cons]
      refine wpAny_bind (first_tup r1 fun f1 e1 => ?_)
      refine wpAny_bind ?_
      rw [List.mapM_cons]
      refine wpAny_bind (first_tup r2 fun f2 e2 => ?_)
      refine wpAny_bind ?_
      rw [List.mapM_nil]
      refine wpAny_pure (wpAny_pure (wpAny_pure (wpAny_pure ?_)))
      have hall : ([f1, f2].toArray.all fun x => x.isSome) = false := by
        cases hx : [f1, f2].toArray.all fun x => x.isSome with
        | false => rfl
        | true =>
          simp only [List.all_toArray, List.all_cons, List.all_nil, Bool.and_true, Bool.and_eq_true] at hx
          rw [e1, e2] at hx
          refine absurd ⟨fun z => ?_, fun z => ?_⟩ hne
          · subst z; simp at hx
          · subst z; simp at hx
      rw [if_neg (by rw [hall]; decide)]
      by_cases h1 : n1 = []
      · rw [if_pos h1] at hq
        have e3 : f1 = none := by
          subst h1
          cases f1 with
          | none => rfl
          | some _ => cases e1
        rw [if_neg (by rw [e3]; simp)]
        rw [oneTypeOnly'_eq, List.mapM_toArray, map_eq_pure_bind]
        have hT : ∀ v ∈ [v1, v2], Looks (model prog w) s.heap (typeOf v) (.type "tuple") := fun v hv => by
          simp only [List.mem_cons, List.not_mem_nil, or_false] at hv
          rcases hv with rfl | rfl
          · exact looks_reads r1
          · exact looks_reads r2
        refine wpAny_bind (wpAny_bind (wpAny_bind (kas_mapM (r := Value.type "tuple") _ (fun v hv Q' hq' => (hT v hv).here hq') (wpAny_pure ?_))))
        have hb : (Value.type "tuple" == Value.type "tuple") = true := beq_self_eq_true _
        refine wpAny_pure (wpAny_pure ?_)
        simpa [hb] using hq
      · rw [if_neg h1] at hq
        have e3 : f1.isSome = true := by
          rw [e1]
          cases n1 with
          | nil => exact absurd rfl h1
          | cons _ _ => rfl
        obtain ⟨x, rfl⟩ := Option.isSome_iff_exists.mp e3
        rw [if_pos (by simp)]
        exact wpAny_pure hq
end
/-! ### sorted, over data -/
section
variable {X : Cx}
theorem reads_iw {ns : List Int} : toPs (iw ns) = some (ns.map .int) := by
  induction ns with
  | nil => simp only [iw, List.map_nil, toPs]
  | cons n ns ih =>
    show toPs (W.int n :: iw ns) = _
    simp only [toPs, toP, ih]
    rfl
theorem merge_two {α : Type} (le : α → α → Bool) (a b : α) : [a, b].mergeSort le = if le a b then [a, b] else [b, a] := by
  simp [List.mergeSort, List.MergeSort.Internal.splitInTwo, List.merge]
def sort2 (a b : List Int) : List (List Int) := if HT.lexLt b a then [b, a] else [a, b]
def rdSort2 : List W → Store → (List W → Store → Prop) → Prop := fun ws S Q => ∃ (w : W) (a b : List Int), ws = [w] ∧ llOf S w = some [.tup (iw a), .tup (iw b)] ∧ Q ((sort2 a b).map fun n => .tup (iw n)) S
open PySem.W in
theorem each_split {β : Type} {K : PySem.W.Frag} {γ : List Addr} {C : Cfg} (f : β → W) : ∀ {out : List Value} {bs : List β}, EachIs (fun v b => ∃ x : V, RelV x v ∧ RV K γ C x (f b)) out bs → ∃ xs, Vals xs out ∧ RVs K γ C xs (bs.map f)
  | _, _, .nil => ⟨[], .nil, .nil⟩
  | _, _, .cons ⟨x, h1, h2⟩ t => by
    obtain ⟨xs, a, b⟩ := each_split f t
    exact ⟨x :: xs, .cons h1 a, .cons h2 b⟩
open PySem.W in
theorem cf_sort2 {k : Nat} (hr : Room k X.A) : CallF X (.builtin "sorted") rdSort2 := by
  refine ⟨fun vs H Q => ∃ γ C w a b, C.H = H ∧ Sim X.K γ C ∧ RVs X.K γ C vs [w] ∧ llOf C.S w = some [.tup (iw a), .tup (iw b)] ∧ ∃ Qd, KF X.K γ C Qd Q ∧ Qd ((sort2 a b).map fun n => .tup (iw n)) C.S, ?_, fun γ C vs ws Qd Q hs r h kk => ?_⟩
  · intro pins s σ H vs us Q I r h
    obtain ⟨γ, C, w, a, b, rfl, sim, rv, hl, Qd, kf, hq⟩ := h
    cases rv with
    | cons rv1 rv2 =>
      cases rv2
      obtain ⟨p, xs, rfl, hsq, rxs⟩ := llOf_at sim rv1 hl
      obtain ⟨u, rfl, ru⟩ := vals1 r
      cases ru
      obtain ⟨its, rits, pl, hz⟩ := I.list hsq
      cases rxs with
      | @cons va _ xs' _ ra rxs2 =>
        cases rxs2 with
        | @cons vb _ xs'' _ rb rxs3 =>
          cases rxs3
          cases rits with
          | @cons _ ua _ us' qa rits2 =>
            cases rits2 with
            | @cons _ ub _ us'' qb rits3 =>
              cases rits3
              have ea : toP (.tup (iw a)) = some (.tuple (a.map .int)) := by simp only [toP, reads_iw]; rfl
              have eb : toP (.tup (iw b)) = some (.tuple (b.map .int)) := by simp only [toP, reads_iw]; rfl
              obtain ⟨as1, r1, _⟩ := RV.reads I ra ea qa
              obtain ⟨as2, r2, _⟩ := RV.reads I rb eb qb
              have old : ∀ b' o, s.heap.get? b' = some o → (sortingHeap (copyHeap s.heap [ua, ub]) (s.heap.objs.size + 1) [ua, ub]).get? b' = some o := fun b' o e => sorting_copy_old e
              have hu := hr.units
              have hun := hr.un
              have e1 : EachIs (fun v n => ∃ x : V, RelV x v ∧ RV X.K γ C x (.tup (iw n))) [ua, ub] [a, b] := .cons ⟨va, qa, ra⟩ (.cons ⟨vb, qb, rb⟩ .nil)
              have r1' : Reads (sortingHeap (copyHeap s.heap [ua, ub]) (s.heap.objs.size + 1) [ua, ub]) ua (.tuple (a.map .int)) as1 := PyProof.Rows.Reads.keeps old r1
              have r2' : Reads (sortingHeap (copyHeap s.heap [ua, ub]) (s.heap.objs.size + 1) [ua, ub]) ub (.tuple (b.map .int)) as2 := PyProof.Rows.Reads.keeps old r2
              have hal : AllAlike ([a, b].map fun n => PyData.tuple (n.map .int)) := by
                intro d hd d' hd'
                obtain ⟨n, _, rfl⟩ := List.mem_map.mp hd
                obtain ⟨m, _, rfl⟩ := List.mem_map.mp hd'
                exact alike_ints _ _
              have e2 := sortVals_data (enc := fun n => PyData.tuple (n.map .int)) (h' := sortingHeap (copyHeap s.heap [ua, ub]) (s.heap.objs.size + 1) [ua, ub]) false e1 (.cons ⟨_, r1'⟩ (.cons ⟨_, r2'⟩ .nil)) hal
              have e3 : [a, b].mergeSort (dataLe false fun n => PyData.tuple (n.map .int)) = sort2 a b := by
                rw [merge_two, dataLe_eq]
                simp only [cond_false, dlt_ints]
                unfold sort2
                cases HT.lexLt b a <;> rfl
              rw [e3] at e2
              obtain ⟨zs, z1, z2⟩ := each_split (fun n => W.tup (iw n)) e2
              refine sorted_vals pl.isList (sorts_two (s := { s with heap := sortingHeap (copyHeap s.heap [ua, ub]) (s.heap.objs.size + 1) [ua, ub] }) (A := X.A.in1.in1) r1' r2' (by show X.A.units + 2 + 2 < cLine; omega)) (by rw [sizeLine_eq]; show 2 ≤ 16777216; decide) ?_
              obtain ⟨ep, he'⟩ := PyProof.Rows.sortedAll_at s.heap [ua, ub] (sortVals (dataKind (sortingHeap (copyHeap s.heap [ua, ub]) (s.heap.objs.size + 1) [ua, ub]) ([a, b].map fun n => PyData.tuple (n.map .int))) false [ua, ub] [ua, ub]).toArray
              have zl : zs.length ≤ sizeLine := by
                rw [z2.length, List.length_map]
                have : (sort2 a b).length = 2 := by unfold sort2; split <;> rfl
                rw [this, sizeLine_eq]; decide
              exact ⟨.ref _, upd C.H (s.heap.objs.size + 1) (.lst zs), I.laid (t' := s.toks) (fun _ _ => PyProof.Rows.sortedAll_old) (Nat.le_succ _) ⟨zl, _, ep, z1, he'⟩, rfl, newF kf sim z2 hq _ (I.hok.fresh (Nat.le_succ _))⟩
  · obtain ⟨w, a, b, rfl, hl, hq⟩ := h
    exact ⟨γ, C, w, a, b, rfl, hs, r, hl, Qd, kk, hq⟩
/-- pairs of a word's length and the word -/
def prW (c : List Int) : W := .tup [.int (c.length : Nat), .tup (iw c)]
def prD (c : List Int) : PyData := .tuple [.int (c.length : Nat), .tuple (c.map .int)]
/-- a shorter word is less -/
def slLt (p q : List Int) : Bool := if p.length = q.length then HT.lexLt p q else decide (p.length < q.length)
theorem slLt_irrefl_eq (p : List Int) : HT.lexLt p p = false := by
  rw [← lt_lex]
  exact decide_eq_false (List.lt_irrefl p)
open PySem.W in
theorem dlt_pr (p q : List Int) : dataLt (prD p) (prD q) = slLt p q := by
  unfold prD slLt
  rw [dataLt_pair (x := .int (p.length : Nat)) (x' := .int (q.length : Nat)) rfl (show alike (.tuple (p.map .int)) (.tuple (q.map .int)) = true from alike_ints p q)]
  have e1 : PyData.eqv (.int (p.length : Nat)) (.int (q.length : Nat)) = decide (p.length = q.length) := by
    show (((p.length : Nat) : Int) == ((q.length : Nat) : Int)) = _
    rw [Bool.beq_eq_decide_eq]
    exact decide_eq_decide.mpr (by omega)
  rw [e1]
  by_cases h : p.length = q.length
  · rw [if_pos (decide_eq_true h), if_pos h, dlt_ints]
    by_cases h2 : p = q
    · subst h2
      rw [slLt_irrefl_eq]
      split <;> rfl
    · rw [if_neg]
      intro z
      have e2 : toP (.tup (iw p)) = some (.tuple (p.map .int)) := by simp only [toP, reads_iw]; rfl
      have e3 : toP (.tup (iw q)) = some (.tuple (q.map .int)) := by simp only [toP, reads_iw]; rfl
      have g1 : eqG (.tup (iw p)) = true := by simp only [eqG]; exact eqGs_iw p
      have g2 : eqG (.tup (iw q)) = true := by simp only [eqG]; exact eqGs_iw q
      rw [eqv_eqW _ _ _ _ g1 g2 e2 e3] at z
      have z' : eqWs (iw p) (iw q) = true := by simpa only [eqW] using z
      rw [eqWs_iw] at z'
      exact h2 (of_decide_eq_true z')
  · rw [if_neg (by rw [decide_eq_false h]; decide), if_neg h, dataLt_int]
    exact decide_eq_decide.mpr (by omega)
theorem slLt_trans {p q r : List Int} (h1 : slLt q p = false) (h2 : slLt r q = false) : slLt r p = false := by
  unfold slLt at *
  by_cases e1 : q.length = p.length
  · rw [if_pos e1] at h1
    by_cases e2 : r.length = q.length
    · rw [if_pos e2] at h2
      rw [if_pos (e2.trans e1)]
      rw [← lt_lex] at *
      have a1 : ¬ q < p := of_decide_eq_false h1
      have a2 : ¬ r < q := of_decide_eq_false h2
      exact decide_eq_false (List.not_lt.mpr (List.le_trans (List.not_lt.mp a1) (List.not_lt.mp a2)))
    · rw [if_neg e2] at h2
      have := of_decide_eq_false h2
      rw [if_neg (by omega)]
      exact decide_eq_false (by omega)
  · rw [if_neg e1] at h1
    have b1 := of_decide_eq_false h1
    by_cases e2 : r.length = q.length
    · rw [if_neg (by omega)]
      exact decide_eq_false (by omega)
    · rw [if_neg e2] at h2
      have := of_decide_eq_false h2
      rw [if_neg (by omega)]
      exact decide_eq_false (by omega)
theorem slLt_total (p q : List Int) : slLt q p = false ∨ slLt p q = false := by
  unfold slLt
  by_cases e : q.length = p.length
  · rw [if_pos e, if_pos e.symm, ← lt_lex, ← lt_lex]
    by_cases h : q < p
    · exact .inr (decide_eq_false (List.lt_asymm h))
    · exact .inl (decide_eq_false h)
  · rw [if_neg e, if_neg fun z => e z.symm]
    by_cases h : q.length < p.length
    · exact .inr (decide_eq_false (by omega))
    · exact .inl (decide_eq_false h)
def rdSortP : List W → Store → (List W → Store → Prop) → Prop := fun ws S Q => ∃ (w : W) (cs : List (List Int)), ws = [w] ∧ llOf S w = some (cs.map prW) ∧ cs.length ≤ 1000000 ∧ ∀ cs' : List (List Int), cs'.Perm cs → cs'.Pairwise (fun p q => slLt q p = false) → Q (cs'.map prW) S
theorem toP_pr (c : List Int) : toP (prW c) = some (prD c) := by
  unfold prW prD
  have e3 : toP (.tup (iw c)) = some (.tuple (c.map .int)) := by simp only [toP, reads_iw]; rfl
  simp only [toP, toPs] at e3 ⊢
  rw [e3]
  rfl
open PySem.W in
theorem each_of {K : PySem.W.Frag} {γ : List Addr} {C : Cfg} (f : List Int → W) : ∀ {cs : List (List Int)} {xs : List V} {out : List Value}, RVs K γ C xs (cs.map f) → Vals xs out → EachIs (fun v b => ∃ x : V, RelV x v ∧ RV K γ C x (f b)) out cs
  | [], _, _, r, q => by
    cases r
    cases q
    exact .nil
  | c :: cs, _, _, r, q => by
    rw [List.map_cons] at r
    cases r with
    | cons r1 r2 =>
      cases q with
      | cons q1 q2 => exact .cons ⟨_, q1, r1⟩ (each_of f r2 q2)
open PySem.W in
theorem cf_sortP {k : Nat} (hr : Room k X.A) : CallF X (.builtin "sorted") rdSortP := by
  refine ⟨fun vs H Q => ∃ γ C w cs, C.H = H ∧ Sim X.K γ C ∧ RVs X.K γ C vs [w] ∧ llOf C.S w = some (cs.map prW) ∧ cs.length ≤ 1000000 ∧ ∃ Qd, KF X.K γ C Qd Q ∧ ∀ cs' : List (List Int), cs'.Perm cs → cs'.Pairwise (fun p q => slLt q p = false) → Qd (cs'.map prW) C.S, ?_, fun γ C vs ws Qd Q hs r h kk => ?_⟩
  · intro pins s σ H vs us Q I r h
    obtain ⟨γ, C, w, cs, rfl, sim, rv, hl, hcl, Qd, kf, hq⟩ := h
    cases rv with
    | cons rv1 rv2 =>
      cases rv2
      obtain ⟨p, xs, rfl, hsq, rxs⟩ := llOf_at sim rv1 hl
      obtain ⟨u, rfl, ru⟩ := vals1 r
      cases ru
      obtain ⟨its, rits, pl, hz⟩ := I.list hsq
      have old : ∀ b' o, s.heap.get? b' = some o → (sortingHeap (copyHeap s.heap its) (s.heap.objs.size + 1) its).get? b' = some o := fun b' o e => sorting_copy_old e
      have hun := hr.un
      have e1 := each_of prW rxs rits
      have er : EachIs (fun v b => ∃ as, Reads s.heap v (prD b) as) its cs := e1.mono fun v b ⟨x, h1, h2⟩ => by
        obtain ⟨as, r1, _⟩ := RV.reads I h2 (toP_pr b) h1
        exact ⟨as, r1⟩
      have hal : AllAlike (cs.map prD) := AllAlike.of fun b b' => by
        unfold prD
        show (alike (.int (b.length : Nat)) (.int (b'.length : Nat)) && alikeAll [.tuple (b.map .int)] [.tuple (b'.map .int)]) = true
        show (true && (alike (.tuple (b.map .int)) (.tuple (b'.map .int)) && true)) = true
        rw [show alike (.tuple (b.map .int)) (.tuple (b'.map .int)) = true from alike_ints _ _]
        rfl
      have hlen : its.length = cs.length := by rw [← rits.length, rxs.length, List.length_map]
      refine sorted_data (enc := prD) (R := fun v b => ∃ x : V, RelV x v ∧ RV X.K γ C x (prW b)) pl.isList e1 er hal (Sortable.tuples fun b => ⟨.int (b.length : Nat), [.tuple (b.map .int)], rfl⟩) (by rw [sizeLine_eq]; omega) (fun b _ => ?_) fun out ho hout => ?_
      · have : (prD b).depth = 2 := by
          unfold prD
          show max 0 (max (PyData.depthAll (b.map .int) + 1) 0) + 1 = 2
          rw [depth_ints]
          rfl
        rw [this]; omega
      · have hle : ∀ p q : List Int, dataLe false prD p q = true ↔ slLt q p = false := fun p q => by
          rw [dataLe_eq]
          simp only [cond_false, dlt_pr, Bool.not_eq_true']
        obtain ⟨zs, z1, z2⟩ := each_split prW hout
        obtain ⟨ep, he'⟩ := PyProof.Rows.sortedAll_at s.heap its out.toArray
        have zl : zs.length ≤ sizeLine := by rw [z2.length, List.length_map, List.length_mergeSort, sizeLine_eq]; omega
        have hpw : (cs.mergeSort (dataLe false prD)).Pairwise fun p q => slLt q p = false := by
          refine (List.pairwise_mergeSort (fun a b c h1 h2 => ?_) (fun a b => ?_) cs).imp fun h => (hle _ _).mp h
          · exact (hle _ _).mpr (slLt_trans ((hle _ _).mp h1) ((hle _ _).mp h2))
          · rw [Bool.or_eq_true]
            exact (slLt_total a b).imp (hle _ _).mpr (hle _ _).mpr
        exact ⟨.ref _, upd C.H (s.heap.objs.size + 1) (.lst zs), I.laid (t' := s.toks) (fun _ _ => PyProof.Rows.sortedAll_old) (Nat.le_succ _) ⟨zl, _, ep, z1, he'⟩, rfl, newF kf sim z2 (hq _ (List.mergeSort_perm ..) hpw) _ (I.hok.fresh (Nat.le_succ _))⟩
  · obtain ⟨w, cs, rfl, hl, hcl, hq⟩ := h
    exact ⟨γ, C, w, cs, rfl, hs, r, hl, hcl, Qd, kk, hq⟩
end
/-! ### two names from a list -/
section
variable {X : Cx}
def gdL (n : Nat) (u : List W → EnvD → Option EnvD) : W → EnvD → Option EnvD := fun w τ => match w with
  | .lst ws => if ws.length = n then u ws τ else none
  | _ => none
theorem pgd_lst {es : List Expr} {k : Nat} {tpos : Pos} {is : List Nat} {u : List W → EnvD → Option EnvD} (hc : X.calm = true) (h : PGsD X es is u) (hp : ∀ t, PGs X es t → PG X (.Tuple es k tpos) (gLst X.K es.length t) := by exact fun _ q => pg_lst rfl q) : PGD X (.Tuple es k tpos) is (gdL es.length u) := by
  obtain ⟨gH, pg, kg⟩ := h.ex
  refine ⟨_, hp _ pg, fun γ C σ τ v w τ' Q hs hst r e hq => ?_⟩
  unfold gdL at e
  split at e
  · rename_i ws
    split at e
    · rename_i hl
      cases r with
      | lst h1 h2 h3 => exact ⟨_, _, rfl, SqL.of h1, by rw [h3.length]; exact hl, kg γ C σ τ _ ws τ' Q hs hst h3 e hq⟩
    · cases e
  · cases e
/-- a, b = e -/
def sAsg (te : TD) (g : W → EnvD → Option EnvD) : TSD := fun D τ S => te τ S fun w S1 => match g w τ with
  | some τ' => D.nx τ' S1
  | none => False
theorem psd_asg {tg e : Expr} {te : TD} {is : List Nat} {g : W → EnvD → Option EnvD} {pos : Pos} (he : PD X e te) (hg : PGD X tg is g) (hs : swapsWithSole [tg] e pos.line X.env = pure false := by rfl) (hw : swappedStores [tg] e X.env = pure none := by rfl) (h1 : (assignEach [tg] X.env).map (·.2) = [assign tg X.env] := by rfl) : PSD X (.Assign [tg] e pos) (sAsg te g) := by
  obtain ⟨tA, pa, ka⟩ := he.ex
  obtain ⟨gH, pg, kg⟩ := hg.ex
  refine ⟨_, ps_asg pa pg hs hw h1, fun γ C σ τ Dd D hsm hst h k => ka γ C σ τ _ _ hsm hst h fun C1 v w h1 s1 st1 r1 => ?_⟩
  split at h1
  · rename_i τ' e1
    exact kg γ C1 σ τ v w τ' _ s1 (hst.step st1) r1 e1 fun σ' hst' _ _ => k.nx C1 _ _ h1 s1 st1 hst'
  · exact h1.elim
end
end FL
end
section
set_option autoImplicit false
namespace FL
open PySem PySem.Spec PyProof.Rows L2
/-! ### min of a list of tuples -/
def Kept (h0 h : Heap) : Prop := ∀ (b : Addr) (o : Obj), h0.get? b = some o → h.get? b = some o
theorem min_loopH {prog : Program} {w : World} {A : Around} {R : Result → Shared → Prop} (hA : A.handled = none) {l I S : Addr} {vs : List Value} {h0 : Heap} {bt : Nat → Nat → Bool}
    (hlI : l ≠ I) (hSI : S ≠ I) (hI0 : h0.get? I = none) (hS0 : h0.get? S = none) (hl : h0.IsList l vs.toArray)
    (hcmp : ∀ (i j : Nat) (vi vj : Value) (s : Shared), vs[i]? = some vi → vs[j]? = some vj → Kept h0 s.heap → SeqAt.RcLt A.in1 s vi vj (bt i j)) :
    ∀ (k j : Nat) (s : Shared) (vb : Value) (c : Nat), vs.length - (j + 1) = k → j + 1 ≤ vs.length → s.heap.IsListIter I l (j + 1) → vs[argBest bt j]? = some vb →
      s.heap.get? S = some { cls := Value.type "list", data := Data.seq #[vb, vb] c } → Kept h0 s.heap →
      (∀ (v : Value) (h' : Heap) (tk : Nat), vs[argBest bt (vs.length - 1)]? = some v → Kept h0 h' → R (Except.ok (Flow.ret v)) { heap := h', gens := s.gens, drawn := s.drawn, toks := tk, os := s.os }) →
      codeAny (model prog w) A (Code.builtin "min.loop" { pos := [Value.ref I, Value.none, Value.ref S] }) R s := by
  have wk : PySem.Walks prog w A.in1 I [I, l] [I] vs.toArray.size (fun i v => vs.toArray[i]? = some v) fun i h => h.IsListIter I l i ∧ h.IsList l vs.toArray := PySem.Walks.list (by simpa using hA) I l hlI vs.toArray
  have kk : ∀ {h h' : Heap}, Kept h0 h → (∀ (b : Addr) (o : Obj), ¬b ∈ [I] → h.get? b = some o → h'.get? b = some o) → Kept h0 h' := by
    intro h h' a b c o e
    refine b c o ?_ (a c o e)
    intro z
    rw [List.mem_singleton] at z
    subst z
    rw [hI0] at e
    cases e
  have ku : ∀ {h : Heap} (_ : Kept h0 h) (f : Obj → Obj), Kept h0 (h.update S f) := by
    intro h a f b o e
    rw [Heap.get?_update_other _ _ ?_]
    · exact a b o e
    · rintro rfl
      rw [hS0] at e
      cases e
  have hlk : ∀ h : Heap, Kept h0 h → h.IsList l vs.toArray := fun h a => by
    obtain ⟨c, hc, h2⟩ := hl
    exact ⟨c, a _ _ hc, h2⟩
  have hSl : S ≠ l := by
    rintro rfl
    obtain ⟨c, hc, h2⟩ := hl
    rw [hS0] at hc
    cases hc
  intro k
  induction k with
  | zero =>
    intro j s vb c hk hj hI hb hS hK hq
    refine codeAny_builtin F.entry_min_loop ?_
    rw [Around.under_plainId F.plain_min_loop]
    refine wpAny_bind (wpAny_seqItems hS rfl ?_)
    have hn : j + 1 = vs.length := by omega
    refine wpAny_bind (wpAny_tryCatch (wk.done _ _ _ ?_ ?_))
    · refine ⟨?_, hlk _ hK⟩
      show s.heap.IsListIter I l vs.toArray.size
      rw [List.size_toArray, ← hn]
      exact hI
    · intro h' tk hh
      have hK' : Kept h0 h' := kk hK hh
      have hS' : h'.get? S = some { cls := Value.type "list", data := Data.seq #[vb, vb] c } := hh S _ (by simpa using hSI) hS
      dsimp only
      refine wpAny_bind (wpAny_updateSeq hS' rfl ?_ (by rw [sizeLine_eq]; show 2 ≤ 16777216; decide) (by rw [sizeLine_eq]; show 0 ≤ 16777216 + 1; decide))
      refine wpAny_bind (wpAny_letGo ?_)
      refine wpAny_pure ?_
      refine hq vb _ tk ?_ (ku hK' _)
      rw [show vs.length - 1 = j by omega]
      exact hb
  | succ k ih =>
    intro j s vb c hk hj hI hb hS hK hq
    refine codeAny_builtin F.entry_min_loop ?_
    rw [Around.under_plainId F.plain_min_loop]
    refine wpAny_bind (wpAny_seqItems hS rfl ?_)
    refine wpAny_bind (wpAny_tryCatch (wk.item (j + 1) _ _ _ (by rw [List.size_toArray]; omega) ⟨hI, hlk _ hK⟩ ?_))
    intro v h' tk hv hI' hh
    have hK' : Kept h0 h' := kk hK hh
    have hS' : h'.get? S = some { cls := Value.type "list", data := Data.seq #[vb, vb] c } := hh S _ (by simpa using hSI) hS
    have hv' : vs[j + 1]? = some v := by simpa using hv
    dsimp only
    refine wpAny_bind (wpAny_pure ?_)
    show wpAny _ _ (_ >>= _) _ _ _
    refine wpAny_bind (wpAny_tryCatch (wpAny_holding ?_))
    refine wpAny_bind (hcmp (j + 1) (argBest bt j) v vb _ hv' hb hK' _ _ _ _ ?_)
    refine wpAny_bind (wpAny_holding (wpAny_truthy_bool ?_))
    refine wpAny_bind (wpAny_letGo ?_)
    refine wpAny_pure ?_
    cases hbt : bt (j + 1) (argBest bt j) with
    | true =>
      rw [if_pos rfl]
      refine wpAny_bind (wpAny_updateSeq hS' rfl ?_ (by rw [sizeLine_eq]; show 2 ≤ 16777216; decide) (by rw [sizeLine_eq]; show 2 ≤ 16777216 + 1; decide))
      refine wpAny_bind (wpAny_letGo ?_)
      refine wpAny_pure ⟨plainId_quiet F.plain_min_loop _, ?_⟩
      refine ih (j + 1) _ v _ (by omega) (by omega) ?_ ?_ (Heap.get?_update_self _ hS' rfl) (ku hK' _) ?_
      · exact (wk.frame (j + 2) h' _ hI' (fun b hb o ho => by
          rw [Heap.get?_update_other _ _ ?_]
          · exact ho
          · rintro rfl
            simp only [List.mem_cons, List.not_mem_nil, or_false] at hb
            rcases hb with rfl | rfl
            · exact hSI rfl
            · exact hSl rfl)).1
      · rw [PySem.argBest.eq_2, hbt]
        exact hv'
      · intro v' h'' tk' e1 e2
        exact hq v' h'' tk' e1 e2
    | false =>
      rw [if_neg (by decide)]
      refine wpAny_bind (wpAny_letGo ?_)
      refine wpAny_pure ⟨plainId_quiet F.plain_min_loop _, ?_⟩
      refine ih (j + 1) _ vb c (by omega) (by omega) hI'.1 ?_ hS' hK' ?_
      · rw [PySem.argBest.eq_2, hbt]
        exact hb
      · intro v' h'' tk' e1 e2
        exact hq v' h'' tk' e1 e2
theorem min_firstH {prog : Program} {w : World} {A : Around} {R : Result → Shared → Prop} (hA : A.handled = none) {l I S : Addr} {vs : List Value} {h0 : Heap} {bt : Nat → Nat → Bool}
    (hlI : l ≠ I) (hSI : S ≠ I) (hI0 : h0.get? I = none) (hS0 : h0.get? S = none) (hl : h0.IsList l vs.toArray)
    (hcmp : ∀ (i j : Nat) (vi vj : Value) (s : Shared), vs[i]? = some vi → vs[j]? = some vj → Kept h0 s.heap → SeqAt.RcLt A.in1 s vi vj (bt i j)) :
    ∀ (s : Shared) (c : Nat), 0 < vs.length → s.heap.IsListIter I l 0 →
      s.heap.get? S = some { cls := Value.type "list", data := Data.seq #[] c } → Kept h0 s.heap →
      (∀ (v : Value) (h' : Heap) (tk : Nat), vs[argBest bt (vs.length - 1)]? = some v → Kept h0 h' → R (Except.ok (Flow.ret v)) { heap := h', gens := s.gens, drawn := s.drawn, toks := tk, os := s.os }) →
      codeAny (model prog w) A (Code.builtin "min.loop" { pos := [Value.ref I, Value.none, Value.ref S] }) R s := by
  have wk : PySem.Walks prog w A.in1 I [I, l] [I] vs.toArray.size (fun i v => vs.toArray[i]? = some v) fun i h => h.IsListIter I l i ∧ h.IsList l vs.toArray := PySem.Walks.list (by simpa using hA) I l hlI vs.toArray
  intro s c hj hI hS hK hq
  have hSl : S ≠ l := by
    rintro rfl
    obtain ⟨c, hc, h2⟩ := hl
    rw [hS0] at hc
    cases hc
  refine codeAny_builtin F.entry_min_loop ?_
  rw [Around.under_plainId F.plain_min_loop]
  refine wpAny_bind (wpAny_seqItems hS rfl ?_)
  refine wpAny_bind (wpAny_tryCatch (wk.item 0 _ _ _ (by rw [List.size_toArray]; omega) ⟨hI, by obtain ⟨c, hc, h2⟩ := hl; exact ⟨c, hK _ _ hc, h2⟩⟩ ?_))
  intro v h' tk hv hI' hh
  have hK' : Kept h0 h' := by
    intro b o e
    refine hh b o ?_ (hK b o e)
    intro z
    rw [List.mem_singleton] at z
    subst z
    rw [hI0] at e
    cases e
  have hS' : h'.get? S = some { cls := Value.type "list", data := Data.seq #[] c } := hh S _ (by simpa using hSI) hS
  have hv' : vs[0]? = some v := by simpa using hv
  dsimp only
  refine wpAny_bind (wpAny_pure ?_)
  show wpAny _ _ (_ >>= _) _ _ _
  refine wpAny_bind (wpAny_updateSeq hS' rfl ?_ (by rw [sizeLine_eq]; show 0 ≤ 16777216; decide) (by rw [sizeLine_eq]; show 2 ≤ 16777216 + 1; decide))
  refine wpAny_pure ⟨plainId_quiet F.plain_min_loop _, ?_⟩
  refine min_loopH hA hlI hSI hI0 hS0 hl hcmp (vs.length - 1) 0 _ v _ (by omega) (by omega) ?_ hv' (Heap.get?_update_self _ hS' rfl) ?_ ?_
  · exact (wk.frame 1 h' _ hI' (fun b hb o ho => by
      rw [Heap.get?_update_other _ _ ?_]
      · exact ho
      · rintro rfl
        simp only [List.mem_cons, List.not_mem_nil, or_false] at hb
        rcases hb with rfl | rfl
        · exact hSI rfl
        · exact hSl rfl)).1
  · intro b o e
    rw [Heap.get?_update_other _ _ ?_]
    · exact hK' b o e
    · rintro rfl
      rw [hS0] at e
      cases e
  · intro v' h'' tk' e1 e2
    exact hq v' h'' tk' e1 e2
theorem min_listH {prog : Program} {w : World} {A : Around} {E : Value → Shared → Prop} {s : Shared} {l : Addr} {vs : List Value} {bt : Nat → Nat → Bool} {Q : Value → Shared → Prop} (hA : A.handled = none) (hl : s.heap.IsList l vs.toArray) (hn : 0 < vs.length)
    (hcmp : ∀ (i j : Nat) (vi vj : Value) (s' : Shared), vs[i]? = some vi → vs[j]? = some vj → Kept s.heap s'.heap → SeqAt.RcLt A.in1 s' vi vj (bt i j))
    (hq : ∀ (v : Value) (h' : Heap) (tk : Nat), vs[argBest bt (vs.length - 1)]? = some v → Kept s.heap h' → Q v { heap := h', gens := s.gens, drawn := s.drawn, toks := tk, os := s.os }) :
    wpAny (model prog w) A (call (Value.builtin "min") [Value.ref l]) Q E s := by
  refine call_function_tree F.kind_min F.plain_min F.entry_min (F.args_min1 _) ?_
  show wpAny _ _ (_ >>= _) _ _ _
  refine wpAny_bind ?_
  refine wpAny_of_eq (a := [none, none]) rfl ?_
  show wpAny _ _ (_ >>= _) _ _ _
  refine wpAny_bind (wpAny_pure ?_)
  show wpAny _ _ (_ >>= _) _ _ _
  refine wpAny_bind (wpAny_pyIter_list hl ?_)
  refine wpAny_bind (wpAny_newList ?_ (by rw [sizeLine_eq]; decide))
  refine wpAny_pure ⟨plainId_quiet F.plain_min_loop _, ?_⟩
  have hls : l < s.heap.objs.size := by
    obtain ⟨o, ho, _⟩ := hl
    exact Heap.lt_size ho
  refine min_firstH (h0 := s.heap) (bt := bt) (vs := vs) hA (Nat.ne_of_lt hls) ?_ ?_ ?_ hl hcmp _ 0 hn ?_ ?_ ?_ ?_
  · rw [Heap.size_push]; exact Nat.succ_ne_self _
  · exact Heap.get?_none_of_le (Nat.le_refl _)
  · exact Heap.get?_none_of_le (by rw [Heap.size_push]; exact Nat.le_succ _)
  · exact ⟨_, Heap.get?_push_of_some _ (Heap.get?_push_size _ rfl), rfl, rfl⟩
  · exact Heap.get?_push_size _ rfl
  · intro b o e
    exact Heap.get?_push_of_some _ (Heap.get?_push_of_some _ e)
  · intro v h' tk e1 e2
    exact hq v h' tk e1 e2
/-! ### min over data: pairs of an int and a tuple of ints -/
theorem argBest_spec {α : Type} (lt : α → α → Bool) (irr : ∀ a, lt a a = false) (tr : ∀ a b c, lt a b = true → lt b c = true → lt a c = true) (f : Nat → α) : ∀ n, argBest (fun i j => lt (f i) (f j)) n ≤ n ∧ ∀ i ≤ n, lt (f i) (f (argBest (fun i j => lt (f i) (f j)) n)) = false
  | 0 => ⟨Nat.le_refl _, fun i hi => by
    obtain rfl : i = 0 := by omega
    exact irr _⟩
  | n + 1 => by
    obtain ⟨h1, h2⟩ := argBest_spec lt irr tr f n
    rw [argBest.eq_2]
    by_cases hb : lt (f (n + 1)) (f (argBest (fun i j => lt (f i) (f j)) n)) = true
    · rw [if_pos hb]
      refine ⟨Nat.le_refl _, fun i hi => ?_⟩
      rcases Nat.lt_or_ge n i with h | h
      · obtain rfl : i = n + 1 := by omega
        exact irr _
      · cases hh : lt (f i) (f (n + 1)) with
        | false => rfl
        | true => rw [← h2 i h, tr _ _ _ hh hb]
    · rw [if_neg hb]
      refine ⟨by omega, fun i hi => ?_⟩
      rcases Nat.lt_or_ge n i with h | h
      · obtain rfl : i = n + 1 := by omega
        simpa using hb
      · exact h2 i h
def prI (p : Int × List Int) : W := .tup [.int p.1, .tup (iw p.2)]
def pdI (p : Int × List Int) : PyData := .tuple [.int p.1, .tuple (p.2.map .int)]
def pLt (p q : Int × List Int) : Bool := if p.1 = q.1 then HT.lexLt p.2 q.2 else decide (p.1 < q.1)
theorem toP_pI (p : Int × List Int) : toP (prI p) = some (pdI p) := by
  unfold prI pdI
  have e3 : toP (.tup (iw p.2)) = some (.tuple (p.2.map .int)) := by simp only [toP, reads_iw]; rfl
  simp only [toP, toPs] at e3 ⊢
  rw [e3]
  rfl
open PySem.W in
theorem dlt_pI (p q : Int × List Int) : dataLt (pdI p) (pdI q) = pLt p q := by
  unfold pdI pLt
  rw [dataLt_pair (x := .int p.1) (x' := .int q.1) rfl (show alike (.tuple (p.2.map .int)) (.tuple (q.2.map .int)) = true from alike_ints p.2 q.2)]
  have e1 : PyData.eqv (.int p.1) (.int q.1) = decide (p.1 = q.1) := by
    show (p.1 == q.1) = _
    rw [Bool.beq_eq_decide_eq]
  rw [e1]
  by_cases h : p.1 = q.1
  · rw [if_pos (decide_eq_true h), if_pos h, dlt_ints]
    by_cases h2 : p.2 = q.2
    · rw [h2, slLt_irrefl_eq]
      split <;> rfl
    · rw [if_neg]
      intro z
      have e2 : toP (.tup (iw p.2)) = some (.tuple (p.2.map .int)) := by simp only [toP, reads_iw]; rfl
      have e3 : toP (.tup (iw q.2)) = some (.tuple (q.2.map .int)) := by simp only [toP, reads_iw]; rfl
      have g1 : eqG (.tup (iw p.2)) = true := by simp only [eqG]; exact eqGs_iw p.2
      have g2 : eqG (.tup (iw q.2)) = true := by simp only [eqG]; exact eqGs_iw q.2
      rw [eqv_eqW _ _ _ _ g1 g2 e2 e3] at z
      have z' : eqWs (iw p.2) (iw q.2) = true := by simpa only [eqW] using z
      rw [eqWs_iw] at z'
      exact h2 (of_decide_eq_true z')
  · rw [if_neg (by rw [decide_eq_false h]; decide), if_neg h, dataLt_int]
theorem pLt_irr (p : Int × List Int) : pLt p p = false := by
  unfold pLt
  rw [if_pos rfl, slLt_irrefl_eq]
theorem pLt_trans (p q r : Int × List Int) (h1 : pLt p q = true) (h2 : pLt q r = true) : pLt p r = true := by
  unfold pLt at *
  by_cases e1 : p.1 = q.1
  · rw [if_pos e1] at h1
    by_cases e2 : q.1 = r.1
    · rw [if_pos e2] at h2
      rw [if_pos (e1.trans e2)]
      rw [← lt_lex] at *
      exact decide_eq_true (List.lt_trans (of_decide_eq_true h1) (of_decide_eq_true h2))
    · rw [if_neg e2] at h2
      have := of_decide_eq_true h2
      rw [if_neg (by omega)]
      exact decide_eq_true (by omega)
  · rw [if_neg e1] at h1
    have b1 := of_decide_eq_true h1
    by_cases e2 : q.1 = r.1
    · rw [if_neg (by omega)]
      exact decide_eq_true (by omega)
    · rw [if_neg e2] at h2
      have := of_decide_eq_true h2
      rw [if_neg (by omega)]
      exact decide_eq_true (by omega)
section
variable {X : Cx}
def rdMinP : List W → Store → WK → Prop := fun ws S Q => ∃ (w : W) (ps : List (Int × List Int)), ws = [w] ∧ llOf S w = some (ps.map prI) ∧ 0 < ps.length ∧ ∀ p : Int × List Int, p ∈ ps → (∀ q : Int × List Int, q ∈ ps → pLt q p = false) → Q (prI p) S
theorem rvs_at {K : PySem.W.Frag} {γ : List Addr} {C : Cfg} : ∀ {xs : List V} {ws : List W} {vs : List Value} {i : Nat} {w : W}, RVs K γ C xs ws → Vals xs vs → ws[i]? = some w → ∃ x u, xs[i]? = some x ∧ vs[i]? = some u ∧ RelV x u ∧ RV K γ C x w
  | [], _, _, i, w, r, q, h => by
    cases r
    cases h
  | x :: xs, _, _, i, w, r, q, h => by
    cases r with
    | cons r1 r2 =>
      cases q with
      | cons q1 q2 =>
        cases i with
        | zero =>
          cases h
          exact ⟨_, _, rfl, rfl, q1, r1⟩
        | succ i =>
          have := rvs_at (i := i) (w := w) r2 q2 h
          exact this
open PySem.W in
theorem cd_minP {k : Nat} (hr : Room k X.A) (hc : X.calm = true) : CallD X (.builtin "min") rdMinP := by
  refine ⟨fun vs H Q => ∃ (γ : List Addr) (C : Cfg) (w : W) (ps : List (Int × List Int)), C.H = H ∧ Sim X.K γ C ∧ RVs X.K γ C vs [w] ∧ llOf C.S w = some (ps.map prI) ∧ 0 < ps.length ∧ ∃ Qd, KE X.K γ C Qd Q ∧ ∀ p : Int × List Int, p ∈ ps → (∀ q : Int × List Int, q ∈ ps → pLt q p = false) → Qd (prI p) C.S, ?_, fun γ C vs ws Qd Q hs r h kk => ?_⟩
  · intro pins s σ H vs us Q I r h
    obtain ⟨γ, C, w, ps, rfl, sim, rv, hl, hcl, Qd, kf, hq⟩ := h
    cases rv with
    | cons rv1 rv2 =>
      cases rv2
      obtain ⟨p, xs, rfl, hsq, rxs⟩ := llOf_at sim rv1 hl
      obtain ⟨u, rfl, ru⟩ := vals1 r
      cases ru
      obtain ⟨its, rits, pl, hz⟩ := I.list hsq
      have hlen : its.length = ps.length := by rw [← rits.length, rxs.length, List.length_map]
      have hun := hr.un
      have hu := hr.units
      have hget : ∀ i : Nat, i < ps.length → (ps.map prI)[i]? = some (prI (ps.getD i (0, []))) := fun i hi => by
        rw [List.getElem?_map, List.getD_eq_getElem?_getD, List.getElem?_eq_getElem hi]
        rfl
      obtain ⟨b1, b2⟩ := argBest_spec pLt pLt_irr pLt_trans (fun i => ps.getD i (0, [])) (its.length - 1)
      refine min_listH (bt := fun i j => pLt (ps.getD i (0, [])) (ps.getD j (0, []))) (I.ok.hd hc) pl.isList (by omega) ?_ ?_
      · intro i j vi vj s' hi hj hk
        have li : i < ps.length := by rw [← hlen]; exact (List.getElem?_eq_some_iff.mp hi).1
        have lj : j < ps.length := by rw [← hlen]; exact (List.getElem?_eq_some_iff.mp hj).1
        obtain ⟨x, u, _, e2, e3, e4⟩ := rvs_at rxs rits (hget i li)
        obtain ⟨y, v, _, f2, f3, f4⟩ := rvs_at rxs rits (hget j lj)
        rw [hi] at e2
        cases e2
        rw [hj] at f2
        cases f2
        obtain ⟨as1, r1, _⟩ := RV.reads I e4 (toP_pI _) e3
        obtain ⟨as2, r2, _⟩ := RV.reads I f4 (toP_pI _) f3
        rw [← dlt_pI]
        have dep : ∀ p : Int × List Int, (pdI p).depth = 2 := fun p => by
          unfold pdI
          show max 0 (max (PyData.depthAll (p.2.map .int) + 1) 0) + 1 = 2
          rw [depth_ints]
          rfl
        refine rcLt_alike _ _ _ _ _ _ _ _ (PyProof.Rows.Reads.keeps hk r1) (PyProof.Rows.Reads.keeps hk r2) ?_ (fun z => nomatch z) ?_
        · unfold pdI
          show (true && (alike (.tuple ((ps.getD i (0, [])).2.map .int)) (.tuple ((ps.getD j (0, [])).2.map .int)) && true)) = true
          rw [show alike (.tuple ((ps.getD i (0, [])).2.map .int)) (.tuple ((ps.getD j (0, [])).2.map .int)) = true from alike_ints _ _]
          rfl
        · rw [dep, dep]
          show X.A.units + 1 + _ < _
          omega
      · intro v h' tk hv hk
        have li : argBest (fun i j => pLt (ps.getD i (0, [])) (ps.getD j (0, []))) (its.length - 1) < ps.length := by omega
        obtain ⟨x, u, _, e2, e3, e4⟩ := rvs_at rxs rits (hget _ li)
        rw [hv] at e2
        cases e2
        refine ⟨x, C.H, I.kept hk, e3, kf C x _ (hq _ ?_ ?_) sim (.refl _ _) e4⟩
        · rw [List.getD_eq_getElem?_getD, List.getElem?_eq_getElem li]
          exact List.getElem_mem _
        · intro q hqm
          obtain ⟨i, hi, rfl⟩ := List.getElem_of_mem hqm
          have := b2 i (by omega)
          rw [List.getD_eq_getElem?_getD (l := ps) (i := i), List.getElem?_eq_getElem hi] at this
          exact this
  · obtain ⟨w, ps, rfl, hl, hcl, hq⟩ := h
    exact ⟨γ, C, w, ps, rfl, hs, r, hl, hcl, Qd, kk, hq⟩
end
end FL
end
section
set_option autoImplicit false
namespace FL
open PySem PySem.Spec PyProof.Rows L2
/-! ### max of ints -/
section
variable {X : Cx}
def rdMaxL : List W → Store → WK → Prop := fun ws S Q => ∃ (w : W) (ns : List Int), ws = [w] ∧ llOf S w = some (ns.map W.int) ∧ 0 < ns.length ∧ ∀ m : Int, m ∈ ns → (∀ y : Int, y ∈ ns → y ≤ m) → Q (.int m) S
theorem cd_maxL (hc : X.calm = true) : CallD X (.builtin "max") rdMaxL := by
  refine ⟨_, cr_max hc, fun γ C vs ws Qd Q hs r h k => ?_⟩
  obtain ⟨w, ns, rfl, hl, h0, hq⟩ := h
  cases r with
  | cons r1 r2 =>
    cases r2
    obtain ⟨a, xs, rfl, p1, q1⟩ := llOf_at hs r1 hl
    rw [q1.ints] at p1
    exact ⟨a, ns, rfl, p1, h0, fun m hm hy => k C _ _ (hq m hm hy) hs (.refl _ _) (.int _)⟩
end
/-! ### sorted: tuples of ints, the first one empty -/
section
variable {prog : Program} {w : World} {A : Around} {E : Value → Shared → Prop} {s : Shared}
open PySem.W in
theorem firsts_tup {M : Model} : ∀ {vs : List Value} {ns : List (List Int)} {Q : List (Option Value) → Shared → Prop}, EachIs (fun v (n : List Int) => ∃ as, Reads s.heap v (.tuple (n.map .int)) as) vs ns → (∀ fs : List (Option Value), Q fs s) → wpAny M A (List.mapM firstOfTuple' vs) Q E s
  | [], [], Q, .nil, h => by
    rw [List.mapM_nil]
    exact wpAny_pure (h _)
  | v :: vs, n :: ns, Q, .cons ⟨as, r⟩ rs, h => by
    rw [List.mapM_cons]
    refine wpAny_bind (first_tup r fun f _ => ?_)
    refine wpAny_bind (firsts_tup rs fun fs => ?_)
    exact wpAny_pure (h _)
open PySem.W in
theorem sorts_nil {v : Value} {vs : List Value} {ns : List (List Int)} (r : EachIs (fun v (n : List Int) => ∃ as, Reads s.heap v (.tuple (n.map .int)) as) (v :: vs) ([] :: ns)) (hu : A.units + 2 < cLine) :
    SortsAt prog w A s (dataKind s.heap (([] :: ns).map fun n => PyData.tuple (n.map .int))) (v :: vs) := by
  have dep : ∀ ns : List Int, (PyData.tuple (ns.map .int)).depth = 1 := fun ns => by
    show PyData.depthAll (ns.map .int) + 1 = 1
    rw [depth_ints]
  have hal : AllAlike (([] :: ns).map fun n => PyData.tuple (n.map .int)) := by
    intro d hd d' hd'
    obtain ⟨n, _, rfl⟩ := List.mem_map.mp hd
    obtain ⟨m, _, rfl⟩ := List.mem_map.mp hd'
    exact alike_ints _ _
  refine ⟨fun v hv => ?_, oneType', ?_, fun _ E Q hq => ?_⟩
  · obtain ⟨n, hn, as, r⟩ := r.left v hv
    exact ⟨_, dataKind_some hal (List.mem_map.mpr ⟨n, hn, rfl⟩) r⟩
  · intro E x y a b Q ha hb hq
    obtain ⟨d, as, hd, ra, rfl⟩ := dataKind_inv ha
    obtain ⟨d', as', hd', rb, rfl⟩ := dataKind_inv hb
    have hq' : Q (dataLt d d') s := hq
    obtain ⟨n, _, rfl⟩ := List.mem_map.mp hd
    obtain ⟨m, _, rfl⟩ := List.mem_map.mp hd'
    show wpAny _ _ (oneLt' true x y) _ _ _
    exact oneLt_tup ra rb (by omega) (by rw [← dlt_ints]; exact hq')
  · rw [keyKind'_eq, List.mapM_toArray, map_eq_pure_bind]
    refine wpAny_bind (wpAny_bind ?_)
    rw [List.mapM_cons]
    cases r with
    | cons r1 rs =>
      obtain ⟨as1, r1⟩ := r1
      refine wpAny_bind (first_tup r1 fun f1 e1 => ?_)
      refine wpAny_bind (firsts_tup rs fun fs => ?_)
      refine wpAny_pure (wpAny_pure ?_)
      obtain rfl : f1 = none := by
        cases f1 with
        | none => rfl
        | some _ => cases e1
      rw [if_neg (by simp), if_neg (by simp)]
      rw [oneTypeOnly'_eq, List.mapM_toArray, map_eq_pure_bind]
      have hT : ∀ u ∈ v :: vs, Looks (model prog w) s.heap (typeOf u) (.type "tuple") := fun u hu => by
        obtain ⟨n, hn, as, r⟩ := EachIs.left (.cons ⟨as1, r1⟩ rs) u hu
        exact looks_reads r
      refine wpAny_bind (wpAny_bind (wpAny_bind (kas_mapM (r := Value.type "tuple") _ (fun v hv Q' hq' => (hT v hv).here hq') (wpAny_pure ?_))))
      have hb : (Value.type "tuple" == Value.type "tuple") = true := beq_self_eq_true _
      have hall : ((List.map (fun x => Value.type "tuple") (v :: vs)).toArray.all fun x => x == Value.type "tuple") = true := by
        rw [List.all_toArray, List.all_map, List.all_eq_true]
        intro x _
        exact hb
      show wpAny _ _ (pure (if ((List.map (fun x => Value.type "tuple") (v :: vs)).toArray.all fun x => x == Value.type "tuple") = true then some (Value.type "tuple") else none)) _ _ _
      rw [if_pos hall]
      exact wpAny_pure (wpAny_pure hq)
end
section
variable {X : Cx}
theorem lexLt_irr (p : List Int) : HT.lexLt p p = false := slLt_irrefl_eq p
def rdSortL : List W → Store → (List W → Store → Prop) → Prop := fun ws S Q => ∃ (w : W) (ns : List (List Int)), ws = [w] ∧ llOf S w = some (([] :: ns).map fun n => .tup (iw n)) ∧ ns.length < 1000000 ∧ ∀ ns' : List (List Int), ns'.Perm ([] :: ns) → ns'.Pairwise (fun p q => HT.lexLt q p = false) → Q (ns'.map fun n => .tup (iw n)) S
open PySem.W in
theorem cf_sortL {k : Nat} (hr : Room k X.A) : CallF X (.builtin "sorted") rdSortL := by
  refine ⟨fun vs H Q => ∃ (γ : List Addr) (C : Cfg) (w : W) (ns : List (List Int)), C.H = H ∧ Sim X.K γ C ∧ RVs X.K γ C vs [w] ∧ llOf C.S w = some (([] :: ns).map fun n => .tup (iw n)) ∧ ns.length < 1000000 ∧ ∃ Qd, KF X.K γ C Qd Q ∧ ∀ ns' : List (List Int), ns'.Perm ([] :: ns) → ns'.Pairwise (fun p q => HT.lexLt q p = false) → Qd (ns'.map fun n => .tup (iw n)) C.S, ?_, fun γ C vs ws Qd Q hs r h kk => ?_⟩
  · intro pins s σ H vs us Q I r h
    obtain ⟨γ, C, w, ns, rfl, sim, rv, hl, hcl, Qd, kf, hq⟩ := h
    cases rv with
    | cons rv1 rv2 =>
      cases rv2
      obtain ⟨p, xs, rfl, hsq, rxs⟩ := llOf_at sim rv1 hl
      obtain ⟨u, rfl, ru⟩ := vals1 r
      cases ru
      obtain ⟨its, rits, pl, hz⟩ := I.list hsq
      have hun := hr.un
      have hu := hr.units
      have e1 := each_of (fun n => W.tup (iw n)) rxs rits
      have old : ∀ b' o, s.heap.get? b' = some o → (sortingHeap (copyHeap s.heap its) (s.heap.objs.size + 1) its).get? b' = some o := fun b' o e => sorting_copy_old e
      have er : EachIs (fun v (n : List Int) => ∃ as, Reads (sortingHeap (copyHeap s.heap its) (s.heap.objs.size + 1) its) v (.tuple (n.map .int)) as) its ([] :: ns) := e1.mono fun v b ⟨x, h1, h2⟩ => by
        obtain ⟨as, r1, _⟩ := RV.reads I h2 (show toP (.tup (iw b)) = some (.tuple (b.map .int)) by simp only [toP, reads_iw]; rfl) h1
        exact ⟨as, PyProof.Rows.Reads.keeps old r1⟩
      have hal : AllAlike (([] :: ns).map fun n => PyData.tuple (n.map .int)) := by
        intro d hd d' hd'
        obtain ⟨n, _, rfl⟩ := List.mem_map.mp hd
        obtain ⟨m, _, rfl⟩ := List.mem_map.mp hd'
        exact alike_ints _ _
      have hlen : its.length = ns.length + 1 := by rw [← rits.length, rxs.length, List.length_map]; rfl
      have e2 := sortVals_data (enc := fun n => PyData.tuple (n.map .int)) (h' := sortingHeap (copyHeap s.heap its) (s.heap.objs.size + 1) its) false e1 er hal
      cases its with
      | nil => cases hlen
      | cons v vs =>
        obtain ⟨zs, z1, z2⟩ := each_split (fun n => W.tup (iw n)) e2
        refine sorted_vals pl.isList (sorts_nil (s := { s with heap := sortingHeap (copyHeap s.heap (v :: vs)) (s.heap.objs.size + 1) (v :: vs) }) (A := X.A.in1.in1) er (by show X.A.units + 2 + 2 < cLine; omega)) (by rw [sizeLine_eq]; simp only [List.length_cons] at hlen ⊢; omega) ?_
        obtain ⟨ep, he'⟩ := PyProof.Rows.sortedAll_at s.heap (v :: vs) (sortVals (dataKind (sortingHeap (copyHeap s.heap (v :: vs)) (s.heap.objs.size + 1) (v :: vs)) (([] :: ns).map fun n => PyData.tuple (n.map .int))) false (v :: vs) (v :: vs)).toArray
        have hle : ∀ p q : List Int, dataLe false (fun n : List Int => PyData.tuple (n.map .int)) p q = true ↔ HT.lexLt q p = false := fun p q => by
          rw [dataLe_eq]
          simp only [cond_false, dlt_ints, Bool.not_eq_true']
        have hpw : (([] :: ns).mergeSort (dataLe false fun n : List Int => PyData.tuple (n.map .int))).Pairwise fun p q => HT.lexLt q p = false := by
          refine (List.pairwise_mergeSort (fun a b c h1 h2 => ?_) (fun a b => ?_) _).imp fun h => (hle _ _).mp h
          · rw [hle, ← lt_lex] at *
            have a1 : ¬ b < a := of_decide_eq_false h1
            have a2 : ¬ c < b := of_decide_eq_false h2
            exact decide_eq_false (List.not_lt.mpr (List.le_trans (List.not_lt.mp a1) (List.not_lt.mp a2)))
          · rw [Bool.or_eq_true, hle, hle, ← lt_lex, ← lt_lex]
            by_cases h : b < a
            · exact .inr (decide_eq_false (List.lt_asymm h))
            · exact .inl (decide_eq_false h)
        have zl : zs.length ≤ sizeLine := by rw [z2.length, List.length_map, List.length_mergeSort, sizeLine_eq]; simp only [List.length_cons]; omega
        exact ⟨.ref _, upd C.H (s.heap.objs.size + 1) (.lst zs), I.laid (t' := s.toks) (fun _ _ => PyProof.Rows.sortedAll_old) (Nat.le_succ _) ⟨zl, _, ep, z1, he'⟩, rfl, newF kf sim z2 (hq _ (List.mergeSort_perm ..) hpw) _ (I.hok.fresh (Nat.le_succ _))⟩
  · obtain ⟨w, ns, rfl, hl, hcl, hq⟩ := h
    exact ⟨γ, C, w, ns, rfl, hs, r, hl, hcl, Qd, kk, hq⟩
end
end FL
end
section
set_option autoImplicit false
namespace FL
open PySem PySem.Spec PyProof.Rows L2
/-! ### zip of two tuples -/
def zipW : List W → List W → List W
  | a :: as, b :: bs => .tup [a, b] :: zipW as bs
  | _, _ => []
theorem zipW_at : ∀ (as bs : List W) (i : Nat) (w : W), (zipW as bs)[i]? = some w → ∃ a b, as[i]? = some a ∧ bs[i]? = some b ∧ w = .tup [a, b]
  | [], _, i, w, h => by cases h
  | _ :: _, [], i, w, h => by cases h
  | a :: as, b :: bs, 0, w, h => by cases h; exact ⟨_, _, rfl, rfl, rfl⟩
  | a :: as, b :: bs, i + 1, w, h => zipW_at as bs i w h
theorem zipW_len : ∀ (as bs : List W), (zipW as bs).length = min as.length bs.length
  | [], bs => by simp [zipW]
  | _ :: _, [] => by simp [zipW]
  | a :: as, b :: bs => by
    show (zipW as bs).length + 1 = min (as.length + 1) (bs.length + 1)
    rw [zipW_len, Nat.succ_min_succ]
def tupT : W → Option (List W)
  | .tup ws => some ws
  | .tpf ws => some ws
  | _ => none
section
variable {X : Cx} {a b c : Expr} {t : TAD}
def iZipD (t : TAD) : TAD := fun τ S Q => t τ S fun ws S1 => ∃ w1 w2 us1 us2, ws = [w1, w2] ∧ tupT w1 = some us1 ∧ tupT w2 = some us2 ∧ Q (zipW us1 us2) S1
theorem tupT_at {K : PySem.W.Frag} {γ : List Addr} {C : Cfg} {v : V} {w : W} {us : List W} (r : RV K γ C v w) (h : tupT w = some us) : ∃ a xs, v = .ref a ∧ (∀ γ' C', Step γ C γ' C' → SqT K C'.H a xs) ∧ RVs K γ C xs us := by
  cases r <;> first | (cases h; done) | skip
  · cases h
    rename_i p xs e1 e3
    exact ⟨p, xs, rfl, fun γ' C' st => st.sqt e1, e3⟩
  · cases h
    rename_i p xs e1 e3
    exact ⟨p, xs, rfl, fun γ' C' st => st.sqt e1.sq, e3⟩
theorem walks_zip {K : PySem.W.Frag} {γ : List Addr} {C : Cfg} {a b : Addr} {xs ys : List V} {us ws : List W} (hx : ∀ γ' C', Step γ C γ' C' → SqT K C'.H a xs) (hy : ∀ γ' C', Step γ C γ' C' → SqT K C'.H b ys) (rx : RVs K γ C xs us) (ry : RVs K γ C ys ws) : Walks K γ C (RZ.ItzT K a b) (zipW us ws) := by
  refine ⟨fun i w γ' C' s' st e => ?_, fun i γ' C' s' st hl => ⟨xs, ys, hx _ _ st, hy _ _ st, ?_⟩⟩
  · obtain ⟨u1, u2, e1, e2, rfl⟩ := zipW_at _ _ _ _ e
    obtain ⟨x, x1, x2⟩ := rx.get e1
    obtain ⟨y, y1, y2⟩ := ry.get e2
    refine ⟨⟨xs, ys, x, y, hx _ _ st, hy _ _ st, x1, y1⟩, fun v H' h => ?_⟩
    obtain ⟨T, p, q, rfl, hT, rfl, h1, h2⟩ := h
    have e3 := (h1 xs (hx _ _ st)).symm.trans x1
    have e4 := (h2 ys (hy _ _ st)).symm.trans y1
    cases e3
    cases e4
    exact ⟨C'.put T (.tup [x, y]), rfl, rfl, s'.new hT, Step.new hT, .tup (show SqH _ _ _ from upd_same) (.cons ((x2.step st).step (Step.new hT)) (.cons ((y2.step st).step (Step.new hT)) .nil))⟩
  · rw [zipW_len] at hl
    rw [rx.length, ry.length]
    omega
theorem pid_zip {p pos tpos : Pos} {elts : List Expr} {kk : Nat} (hg : Gl X "zip") (hm : X.mg "zip" = none) (ha : PAD X [a, b] t) (hs : starEach [a, b] X.env = (false, eval a X.env) :: starEach [b] X.env := by rfl) (hs2 : ((backTo pos (starEach [b] X.env)).any fun x => x.fst) = false := by rfl) :
    PID X (.Tuple elts kk tpos) (.Call (.Name "zip" p) [a, b] [] pos) (iZipD t) := by
  obtain ⟨tA, pa, ka⟩ := ha.ex
  refine ⟨_, RZ.pi_zipA hg hm pa hs hs2, fun γ C σ τ Qd R hs hst h k => ka γ C σ τ _ _ hs hst h fun C1 vs ws h1 s1 st1 r1 => ?_⟩
  obtain ⟨w1, w2, us1, us2, rfl, e1, e2, hq⟩ := h1
  cases r1 with
  | cons r1 r2 =>
    cases r2 with
    | cons r2 r3 =>
      cases r3
      obtain ⟨p1, xs, rfl, x1, x2⟩ := tupT_at r1 e1
      obtain ⟨p2, ys, rfl, y1, y2⟩ := tupT_at r2 e2
      exact ⟨p1, p2, xs, ys, rfl, .inr ⟨x1 _ _ (.refl _ _), y1 _ _ (.refl _ _), k C1 _ _ hq s1 st1 (walks_zip x1 y1 x2 y2)⟩⟩
/-! ### range with a step of -1 -/
def rangeD (hi : Int) (n : Nat) : List W := (List.range n).map fun i => .int (hi - (i : Nat))
def iRangeD (t : TAD) : TAD := fun τ S Q => t τ S fun ws S1 => ∃ (n : Nat), ws = [.int ((n : Nat) - 1), .int (-1), .int (-1)] ∧ n < 1000000 ∧ Q (rangeD ((n : Nat) - 1) n) S1
theorem walks_rangeD {K : PySem.W.Frag} {γ : List Addr} {C : Cfg} (hi : Int) (n : Nat) : Walks K γ C (Itc hi (-1) n) (rangeD hi n) := by
  refine ⟨fun i w γ' C' s' st e => ?_, fun i γ' C' s' st hl => (by have q : n ≤ i := (by simpa [rangeD] using hl); exact q)⟩
  unfold rangeD at e
  rw [List.getElem?_map] at e
  obtain ⟨j, e1, e2⟩ := Option.map_eq_some_iff.mp e
  obtain ⟨e3, e4⟩ := List.getElem?_eq_some_iff.mp e1
  rw [List.length_range] at e3
  rw [List.getElem_range] at e4
  subst e4
  refine ⟨e3, fun x H' hy => ⟨C', hy.1.symm, rfl, s', .refl _ _, ?_⟩⟩
  rw [hy.2, ← e2, show hi + (i : Int) * -1 = hi - (i : Nat) by omega]
  exact .int _
theorem pid_rangeD {tg : Expr} {p pos : Pos} (hg : Gl X "range") (hm : X.mg "range" = none) (ha : PAD X [a, b, c] t) (hs : starEach [a, b, c] X.env = (false, eval a X.env) :: starEach [b, c] X.env := by rfl) (hs2 : ((backTo pos (starEach [b, c] X.env)).any fun x => x.fst) = false := by rfl) :
    PID X tg (.Call (.Name "range" p) [a, b, c] [] pos) (iRangeD t) := by
  obtain ⟨tA, pa, ka⟩ := ha.ex
  refine ⟨_, pi_range3 hg hm pa hs hs2, fun γ C σ τ Qd R hs hst h k => ka γ C σ τ _ _ hs hst h fun C1 vs ws h1 s1 st1 r1 => ?_⟩
  obtain ⟨n, rfl, hn, hq⟩ := h1
  cases r1 with
  | cons r1 r2 =>
    cases r2 with
    | cons r2 r3 =>
      cases r3 with
      | cons r3 r4 =>
        cases r4
        cases r1
        cases r2
        cases r3
        have hz : Builtin.Range.rangeSize ((n : Nat) - 1) (-1) (-1) = (n : Nat) := by
          unfold Builtin.Range.rangeSize
          rw [if_neg (by decide)]
          split
          · rw [show (-(-1) : Int) = 1 from rfl, Int.ediv_one]; omega
          · omega
        refine ⟨_, _, _, n, rfl, ⟨by decide, by decide, ?_, hz⟩, k C1 _ _ hq s1 st1 (walks_rangeD _ _)⟩
        unfold Builtin.Range.small
        rw [hz]
        have f1 : Builtin.Range.rangeFitsLong (((n : Nat) : Int) - 1) = true := by
          unfold Builtin.Range.rangeFitsLong
          rw [Bool.and_eq_true]
          exact ⟨decide_eq_true (by omega), decide_eq_true (by omega)⟩
        have f2 : Builtin.Range.rangeFitsLong ((n : Nat) : Int) = true := by
          unfold Builtin.Range.rangeFitsLong
          rw [Bool.and_eq_true]
          exact ⟨decide_eq_true (by omega), decide_eq_true (by omega)⟩
        rw [f1, f2, if_neg (by decide)]
        simp only [Bool.true_and, Bool.and_eq_true, Bool.or_eq_true]
        exact ⟨by decide, .inr (by decide)⟩
end
end FL
end
section
set_option autoImplicit false
namespace FL
open PySem PySem.Spec PyProof.Rows L2
/-! ### a comprehension with two clauses that changes nothing -/
theorem lc2_pure {g : W → EnvD → Option EnvD} {ti1 : TAD} {g1 : W → EnvD → Option EnvD} {te : TD} {vs1 : List Nat} {τ : EnvD} {xs : List W} {S : Store} {Q : WK} (ys : W → List W) (f : W → W → W)
    (h : ∀ x ∈ xs, ∃ τ1, g x τ = some τ1 ∧ (∀ (acc : List W) (R : List W → Store → Prop), R (ys x) (S ++ [some (.lst acc)]) → ti1 τ1 (S ++ [some (.lst acc)]) R) ∧ ∀ y ∈ ys x, ∃ τ2, g1 y (wipeD τ1 vs1) = some τ2 ∧ ∀ (acc : List W) (R : WK), R (f x y) (S ++ [some (.lst acc)]) → te τ2 (S ++ [some (.lst acc)]) R)
    (hl : (xs.flatMap fun x => (ys x).map (f x)).length ≤ sizeLine) (hq : Q (.lst (xs.flatMap fun x => (ys x).map (f x))) (S ++ [none])) : lc2I g dYes ti1 g1 dYes te vs1 τ xs S.length S Q := by
  have hat : ∀ acc : List W, (S ++ [some (Cell.lst acc)])[S.length]? = some (some (.lst acc)) := fun acc => by simp
  have hset : ∀ (acc : List W) (c : Option Cell), (S ++ [some (Cell.lst acc)]).set S.length c = S ++ [c] := fun acc c => by simp
  refine ⟨fun i S' => S' = S ++ [some (.lst ((xs.take i).flatMap fun x => (ys x).map (f x)))], rfl, fun i x S' e hp => ?_, fun S' hp => ?_⟩
  · subst hp
    obtain ⟨τ1, e1, h1, h2⟩ := h x (List.mem_of_getElem? e)
    rw [e1]
    show ti1 _ _ _
    refine h1 _ _ ?_
    refine ⟨fun j S' => S' = S ++ [some (.lst (((xs.take i).flatMap fun x => (ys x).map (f x)) ++ ((ys x).take j).map (f x)))], by dsimp only; rw [List.take_zero, List.map_nil, List.append_nil], fun j y S' ey hp => ?_, fun S' hp => ?_⟩
    · subst hp
      obtain ⟨τ2, e2, h3⟩ := h2 y (List.mem_of_getElem? ey)
      rw [e2]
      show te _ _ _
      refine h3 _ _ ?_
      rw [hat]
      refine ⟨?_, ?_⟩
      · refine Nat.lt_of_lt_of_le ?_ hl
        have e3 : (xs.flatMap fun x => (ys x).map (f x)).length = ((xs.take i).flatMap fun x => (ys x).map (f x)).length + ((xs.drop i).flatMap fun x => (ys x).map (f x)).length := by
          rw [← List.length_append, ← List.flatMap_append, List.take_append_drop]
        have hi := (List.getElem?_eq_some_iff.mp e).1
        have e4 : xs.drop i = x :: xs.drop (i + 1) := by
          have q := List.drop_eq_getElem_cons hi
          rw [(List.getElem?_eq_some_iff.mp e).2] at q
          exact q
        rw [e3, e4, List.flatMap_cons, List.length_append, List.length_append, List.length_map, List.length_map, List.length_take]
        have := (List.getElem?_eq_some_iff.mp ey).1
        omega
      · dsimp only
        rw [hset, List.take_add_one, ey, List.map_append, List.append_assoc]
        rfl
    · subst hp
      rw [List.take_length, List.take_add_one, e, List.flatMap_append]
      simp
  · subst hp
    rw [hat, hset, List.take_length]
    exact hq
/-! ### range with a step of -1 -/
section
variable {X : Cx} {a b c : Expr} {t : TAD}
def iRangeE (t : TAD) : TAD := fun τ S Q => t τ S fun ws S1 => ∃ hi lo : Int, ws = [.int hi, .int lo, .int (-1)] ∧ -1000000 ≤ hi ∧ hi ≤ 1000000 ∧ -1000000 ≤ lo ∧ lo ≤ 1000000 ∧ Q (rangeD hi (hi - lo).toNat) S1
theorem pid_rangeE {tg : Expr} {p pos : Pos} (hg : Gl X "range") (hm : X.mg "range" = none) (ha : PAD X [a, b, c] t) (hs : starEach [a, b, c] X.env = (false, eval a X.env) :: starEach [b, c] X.env := by rfl) (hs2 : ((backTo pos (starEach [b, c] X.env)).any fun x => x.fst) = false := by rfl) :
    PID X tg (.Call (.Name "range" p) [a, b, c] [] pos) (iRangeE t) := by
  obtain ⟨tA, pa, ka⟩ := ha.ex
  refine ⟨_, pi_range3 hg hm pa hs hs2, fun γ C σ τ Qd R hs hst h k => ka γ C σ τ _ _ hs hst h fun C1 vs ws h1 s1 st1 r1 => ?_⟩
  obtain ⟨hi, lo, rfl, g1, g2, g3, g4, hq⟩ := h1
  cases r1 with
  | cons r1 r2 =>
    cases r2 with
    | cons r2 r3 =>
      cases r3 with
      | cons r3 r4 =>
        cases r4
        cases r1
        cases r2
        cases r3
        have hz : Builtin.Range.rangeSize hi lo (-1) = ((hi - lo).toNat : Nat) := by
          unfold Builtin.Range.rangeSize
          rw [if_neg (by decide)]
          split
          · rw [show (-(-1) : Int) = 1 from rfl, Int.ediv_one]; omega
          · omega
        refine ⟨_, _, _, (hi - lo).toNat, rfl, ⟨by decide, by decide, ?_, hz⟩, k C1 _ _ hq s1 st1 (walks_rangeD _ _)⟩
        unfold Builtin.Range.small
        rw [hz]
        have f1 : ∀ i : Int, -3000000 ≤ i → i ≤ 3000000 → Builtin.Range.rangeFitsLong i = true := fun i h1 h2 => by
          unfold Builtin.Range.rangeFitsLong
          rw [Bool.and_eq_true]
          exact ⟨decide_eq_true (by omega), decide_eq_true (by omega)⟩
        have f2 : Builtin.Range.rangeFitsLong (-1) = true := by decide
        rw [f1 hi (by omega) (by omega), f1 lo (by omega) (by omega), f1 ((hi - lo).toNat : Nat) (by omega) (by omega), f2, if_neg (by decide), f1 (lo + (-1 + 1)) (by omega) (by omega)]
        simp
end
end FL
end
section
set_option autoImplicit false
namespace FL
open PySem PySem.Spec PyProof.Rows L2
/-! ### xs[i] = v on a list of the store -/
section
variable {X : Cx} {o i value : Expr} {td ti tv : TD} {pos pos' : Pos}
theorem psd_lputD (ho : PD X o td) (hi : PD X i ti) (hv : PD X value tv)
    (hg : ∀ to' ti', PE X o to' → PE X i ti' → PG X (.Subscript o i pos') (gSub to' ti' rSetL) := by exact fun _ _ a b => pg_sub a b set_list)
    (hs : swapsWithSole [.Subscript o i pos'] value pos.line X.env = pure false := by rfl) (hw : swappedStores [.Subscript o i pos'] value X.env = pure none := by rfl) (h1 : (assignEach [.Subscript o i pos'] X.env).map (·.2) = [assign (.Subscript o i pos') X.env] := by rfl) :
    PSD X (.Assign [.Subscript o i pos'] value pos) (sLPut td ti tv) := by
  obtain ⟨tA, pa, ka⟩ := hv.ex
  obtain ⟨tB, pb, kb⟩ := ho.ex
  obtain ⟨tC, pc, kc⟩ := hi.ex
  refine ⟨_, ps_asg pa (hg _ _ pb pc) hs hw h1, fun γ C σ τ Dd D hsm hst h k => ?_⟩
  refine ka γ C σ τ _ _ hsm hst h fun C1 v1 w1 h1 s1 st1 r1 => ?_
  refine kb γ C1 σ τ _ _ s1 (hst.step st1) h1 fun C2 v2 w2 h2 s2 st2 r2 => ?_
  refine kc γ C2 σ τ _ _ s2 (hst.step (st1.trans st2)) h2 fun C3 v3 w3 h3 s3 st3 r3 => ?_
  have r2' := r2.step st3
  have r1' := (r1.step st2).step st3
  have st13 := (st1.trans st2).trans st3
  split at h3
  · rename_i n j
    split at h3
    · rename_i ws e1
      split at h3
      · rename_i m em
        cases r2' with
        | @loc _ a hn =>
          cases r3
          obtain ⟨xs, p1, p2⟩ := s3.cell n a _ hn e1
          have hl := p2.length
          obtain ⟨q1, q2⟩ := lstWr s3 hn e1 p1 (p2.set r1' m)
          refine ⟨a, xs, j, m, rfl, rfl, p1, by rw [hl]; exact em, ?_⟩
          exact k.nx (C3.wr n a (.lst (xs.set m v1)) (.lst (ws.set m w1))) σ τ h3 q1 (st13.trans q2) (hst.step (st13.trans q2))
      · exact h3.elim
    · exact h3.elim
  · exact h3.elim
end
/-! ### a list or a tuple as a test -/
section
variable {X : Cx} {e : Expr} {t : TD}
def dTruth (t : TD) : TTD := fun τ S Q => t τ S fun w S1 => ∃ us : List W, sqOf S1 w = some us ∧ Q (!us.isEmpty) S1
theorem ptd_truth (h : PD X e t) (he : ∀ whole, isTrue e X.env whole = (do let v ← whole; standAt e.pos; holding [v] (truthy v)) := by intro _; rfl) : PTD X e (dTruth t) := by
  obtain ⟨tA, pa, ka⟩ := h.ex
  refine ⟨_, pt_truth pa he, fun γ C σ τ Qd Q hs hst h k => ?_⟩
  refine ka γ C σ τ _ _ hs hst h fun C3 v w h3 s3 st3 r3 => ?_
  obtain ⟨us, e1, hq⟩ := h3
  obtain ⟨a, xs, rfl, p1, q1⟩ := sqOf_at s3 r3 e1
  have hl : (!xs.isEmpty) = !us.isEmpty := by
    have := q1.length
    cases xs <;> cases us <;> first | rfl | (simp at this)
  refine ⟨!us.isEmpty, ?_, k C3 _ hq s3 st3⟩
  rcases p1 with p1 | p1
  · exact .inl ⟨xs, p1, hl.symm⟩
  · exact .inr (.inl ⟨xs, p1.1, hl.symm⟩)
end
end FL
end
section
set_option autoImplicit false
namespace FL
open PySem PySem.Spec PyProof.Rows L2
/-! ### a tuple times 0 or 1 -/
theorem tuple_mulZ (l : Addr) (items : Array Value) (n : Nat) (dd : Option Addr) (sl : Array (Option Value)) (x : Int) (u : Tok) (c0 : (decide (x < -(2 ^ 63)) || decide (x ≥ 2 ^ 63)) = false) (c1 : (items.isEmpty || x == 1) = false) (c2 : (decide (x ≤ 0) || items.isEmpty) = true) :
    Meets (Builtin.«tuple.__mul__» ⟨[.ref l, .int x u], []⟩) (fun _ R s => s.heap.get? l = some { cls := .type "tuple", dict := dd, data := .seq items n, slots := sl } ∧ R (.ok (.ret (Value.ref s.heap.objs.size))) { s with heap := s.heap.push { cls := .type "tuple", data := .seq #[] } }) :=
  .of_wp fun prog w A R s h => by
    obtain ⟨hp, g, d, tk, os⟩ := s
    obtain ⟨hl, h⟩ := h
    have f1 := AutoSeq1.idx_int
    wp_walk using AutoSeq1.wpAny_loadPart' hl
    repeat (first
      | (refine wpAny_ite_false (decide_eq_false (by rw [c0]; exact Bool.false_ne_true)) ?_; wp_walk using AutoSeq1.wpAny_loadPart' hl)
      | (refine wpAny_ite_false (decide_eq_false (by rw [c1]; exact Bool.false_ne_true)) ?_; wp_walk using AutoSeq1.wpAny_loadPart' hl)
      | (refine wpAny_ite_true (decide_eq_true (by rw [c2])) ?_; wp_walk using AutoSeq1.wpAny_loadPart' hl))
    exact ⟨_, rfl, h⟩
section
variable {X : Cx}
def rRepT1 (K : PySem.W.Frag) : R2 := fun x y H Q => ∃ l xs, x = .ref l ∧ y = .int 1 ∧ SqT K H l xs ∧ Q (.ref l) H
theorem op_repT1 : OpR X (binaryOp .Mult) (rRepT1 X.K) := by
  intro pins s σ H x y v u Q I rx ry h
  obtain ⟨l, xs, rfl, rfl, hT, q⟩ := h
  cases rx
  obtain ⟨t, rfl⟩ := ry
  obtain ⟨its, r, ⟨⟨cls, dd, data, sl⟩, ho, hc, n, hd⟩, hs⟩ := I.tuple hT
  simp only at hc hd
  subst hc hd
  refine wpAny_binaryOp_repeat_ref (T := "tuple") (U := "int") (by decide) ⟨_, ho, rfl⟩ (fun s' => typeIs_int s' 1 t) noFill_tuple_mul F.fills_int_mul F.slot_int_rmul repeat_tuple F.slot_int_index.lookup
    (call_meets F.slot_int_rmul (typeIs_int s 1 t) F.entry_int_rmul (F.args_int_rmul_2 _ _) (int_rmul_tuple 1 t l its.toArray n dd sl)
      ⟨ho, rfl, ⟨_, ho, rfl⟩, call_meets F.slot_tuple_mul ⟨_, ho, rfl⟩ F.entry_tuple_mul (F.args_tuple_mul_2 _ _) (tuple_mul0 l its.toArray n dd sl 1 t rfl (by simp)) ⟨ho, ?_⟩⟩)
  exact ⟨.ref l, _, I, rfl, q⟩
def rRepTZ (K : PySem.W.Frag) : R2 := fun x y H Q => ∃ l k xs, x = .ref l ∧ y = .int k ∧ SqT K H l xs ∧ xs ≠ [] ∧ -1000 ≤ k ∧ k ≤ 0 ∧ ∀ p, H p = none → Q (.ref p) (upd H p (.tup []))
theorem op_repTZ : OpR X (binaryOp .Mult) (rRepTZ X.K) := by
  intro pins s σ H x y v u Q I rx ry h
  obtain ⟨l, k, xs, rfl, rfl, hT, hne, h1, h2, q⟩ := h
  cases rx
  obtain ⟨t, rfl⟩ := ry
  obtain ⟨its, r, ⟨⟨cls, dd, data, sl⟩, ho, hc, n, hd⟩, hs⟩ := I.tuple hT
  simp only at hc hd
  subst hc hd
  have hn : its ≠ [] := fun z => hne (List.eq_nil_of_length_eq_zero (by rw [r.length, z]; rfl))
  have c0 : (decide (k < -(2 ^ 63)) || decide (k ≥ 2 ^ 63)) = false := by
    rw [decide_eq_false (by omega), decide_eq_false (by omega)] <;> rfl
  have c1 : (its.toArray.isEmpty || k == 1) = false := by
    rw [Bool.or_eq_false_iff]
    refine ⟨?_, ?_⟩
    · cases its with
      | nil => exact absurd rfl hn
      | cons a b => rfl
    · exact beq_eq_false_iff_ne.mpr (by omega)
  have c2 : (decide (k ≤ 0) || its.toArray.isEmpty) = true := by rw [decide_eq_true h2]; rfl
  refine wpAny_binaryOp_repeat_ref (T := "tuple") (U := "int") (by decide) ⟨_, ho, rfl⟩ (fun s' => typeIs_int s' k t) noFill_tuple_mul F.fills_int_mul F.slot_int_rmul repeat_tuple F.slot_int_index.lookup
    (call_meets F.slot_int_rmul (typeIs_int s k t) F.entry_int_rmul (F.args_int_rmul_2 _ _) (int_rmul_tuple k t l its.toArray n dd sl)
      ⟨ho, rfl, ⟨_, ho, rfl⟩, call_meets F.slot_tuple_mul ⟨_, ho, rfl⟩ F.entry_tuple_mul (F.args_tuple_mul_2 _ _) (tuple_mulZ l its.toArray n dd sl k t c0 c1 c2) ⟨ho, ?_⟩⟩)
  exact ⟨.ref s.heap.objs.size, _, I.laid (t' := s.toks) (o := HO.tup []) (fun _ _ e => Heap.get?_push_of_some _ e) (Nat.le_refl _) ⟨Nat.zero_le _, [], .nil, ⟨_, Heap.get?_push_size _ rfl, rfl, _, rfl⟩⟩, rfl, q _ (I.hok.fresh (Nat.le_refl _))⟩
/-- like rdMulA, 0 and 1 times a tuple too -/
def rdMulB : R2D := fun x y S Q => match x, y with
  | .int i, .int j => CMul i j ∧ Q (.int (i * j)) S
  | .tup ws, .int k => 0 ≤ k ∧ k ≤ 1000 ∧ ws.length ≤ 1000 ∧ Q (.tup (List.replicate k.toNat ws).flatten) S
  | .lst ws, .int k => -(2 ^ 63) ≤ k ∧ k < 2 ^ 63 ∧ ws.length * k.toNat ≤ sizeLine ∧ Q (.lst (List.replicate k.toNat ws).flatten) S
  | _, _ => False
theorem opd_repT1 : OpD X (binaryOp .Mult) (fun x y S Q => match x, y with
  | .tup ws, .int k => k = 1 ∧ Q (.tup ws) S
  | _, _ => False) := by
  refine ⟨_, op_repT1, fun γ C x y w1 w2 Qd Q hs rx ry h k => ?_⟩
  cases rx <;> cases ry <;> first | exact False.elim h | skip
  rename_i a xs ws h1 r1 i
  obtain ⟨rfl, h4⟩ := h
  exact ⟨a, xs, rfl, rfl, h1, k C _ _ h4 hs (.refl _ _) (.tup h1 r1)⟩
theorem opd_repTZ : OpD X (binaryOp .Mult) (fun x y S Q => match x, y with
  | .tup ws, .int k => ws ≠ [] ∧ -1000 ≤ k ∧ k ≤ 0 ∧ Q (.tup []) S
  | _, _ => False) := by
  refine ⟨_, op_repTZ, fun γ C x y w1 w2 Qd Q hs rx ry h k => ?_⟩
  cases rx <;> cases ry <;> first | exact False.elim h | skip
  rename_i a xs ws h1 r1 i
  obtain ⟨h2, h3, h4, h5⟩ := h
  refine ⟨a, i, xs, rfl, rfl, h1, fun z => h2 ?_, h3, h4, newTup k hs .nil h5⟩
  subst z
  cases r1
  rfl
theorem opd_mulB : OpD X (binaryOp .Mult) rdMulB := by
  obtain ⟨r, o, kk⟩ := ((((opd_mulA (X := X)).or opd_repT1).or opd_repTZ).or opd_repT0).ex
  refine ⟨r, o, fun γ C x y w1 w2 Qd Q hs rx ry h k => kk γ C x y w1 w2 Qd Q hs rx ry ?_ k⟩
  unfold rdMulB at h
  split at h
  · exact .inl (.inl (.inl h))
  · rename_i ws j
    obtain ⟨h1, h2, h3, h4⟩ := h
    by_cases hj : 2 ≤ j
    · exact .inl (.inl (.inl ⟨hj, h2, h3, h4⟩))
    · by_cases h1' : j = 1
      · subst h1'
        have e : (List.replicate (1 : Int).toNat ws).flatten = ws := by show (ws ++ []) = ws; rw [List.append_nil]
        rw [e] at h4
        exact .inl (.inl (.inr ⟨rfl, h4⟩))
      · have e0 : j.toNat = 0 := by omega
        rw [e0] at h4
        by_cases hw : ws = []
        · subst hw
          exact .inr ⟨rfl, h1, h2, h4⟩
        · exact .inl (.inr ⟨hw, by omega, by omega, h4⟩)
  · exact .inl (.inl (.inl h))
  · exact h.elim
end
end FL
end
section
set_option autoImplicit false
namespace FL
open PySem PySem.Spec PyProof.Rows L2
/-! ### a place of the store becomes a tree ahead of a statement -/
section
variable {X : Cx} {st : Stmt} {ts : TSD}
def sFz (i : Nat) (t : TSD) : TSD := fun D τ S => match τ[i]? with
  | some (some (.loc n)) => (match S[n]? with
    | some (some (.lst ws)) => t D (τ.set i (some (.lst ws))) (S.set n none)
    | _ => False)
  | _ => False
theorem psd_fz (i : Nat) (h : PSD X st ts) : PSD X st (sFz i ts) := by
  obtain ⟨tH, p, k⟩ := h.ex
  refine ⟨tH, p, fun γ C σ τ Dd D hs hst hh kk => ?_⟩
  unfold sFz at hh
  split at hh
  · rename_i n e
    split at hh
    · rename_i ws e2
      obtain ⟨v, e', r⟩ := hst.2 i _ e
      cases r with
      | @loc _ a hn =>
        obtain ⟨xs, p1, p2⟩ := hs.cell n a _ hn e2
        refine k γ (C.die n) σ (τ.set i (some (.lst ws))) Dd D hs.die ?_ hh (kk.step Step.die)
        have q := hst.step (Step.die (n := n))
        refine ⟨by rw [List.length_set]; exact q.1, fun j w ej => ?_⟩
        by_cases hj : i = j
        · subst hj
          have hl : i < τ.length := (List.getElem?_eq_some_iff.mp e).1
          rw [List.getElem?_set_self hl] at ej
          cases ej
          exact ⟨_, e', .lst p1 (die_nl hs hn) (p2.step Step.die)⟩
        · rw [List.getElem?_set_ne hj] at ej
          exact q.2 j w ej
    · exact hh.elim
  · exact hh.elim
end
/-! ### sorted: tuples of ints of any lengths -/
section
variable {prog : Program} {w : World} {A : Around} {E : Value → Shared → Prop} {s : Shared}
open PySem.W in
theorem firsts_tup2 {M : Model} : ∀ {vs : List Value} {ns : List (List Int)} {Q : List (Option Value) → Shared → Prop}, EachIs (fun v (n : List Int) => ∃ as, Reads s.heap v (.tuple (n.map .int)) as) vs ns → (∀ fs : List (Option Value), fs.map Option.isSome = ns.map (fun n => !n.isEmpty) → Q fs s) → wpAny M A (List.mapM firstOfTuple' vs) Q E s
  | [], [], Q, .nil, h => by
    rw [List.mapM_nil]
    exact wpAny_pure (h _ rfl)
  | v :: vs, n :: ns, Q, .cons ⟨as, r⟩ rs, h => by
    rw [List.mapM_cons]
    refine wpAny_bind (first_tup r fun f e1 => ?_)
    refine wpAny_bind (firsts_tup2 rs fun fs e2 => ?_)
    refine wpAny_pure (h _ ?_)
    rw [List.map_cons, List.map_cons, e1, e2]
    cases n <;> rfl
open PySem.W in
theorem each_encT {h : Heap} : ∀ {vs : List Value} {ns : List (List Int)}, EachIs (fun v (n : List Int) => ∃ as, Reads h v (.tuple (n.map .int)) as) vs ns → EachIs (fun v d => ∃ as, Reads h v d as) vs (ns.map fun n => PyData.tuple (n.map .int))
  | [], [], .nil => .nil
  | _ :: _, _ :: _, .cons r rs => .cons r (each_encT rs)
open PySem.W in
theorem sorts_tups {vs : List Value} {ns : List (List Int)} (r : EachIs (fun v (n : List Int) => ∃ as, Reads s.heap v (.tuple (n.map .int)) as) vs ns) (hu : A.units + 2 < cLine) :
    SortsAt prog w A s (dataKind s.heap (ns.map fun n => PyData.tuple (n.map .int))) vs := by
  have dep : ∀ ns : List Int, (PyData.tuple (ns.map .int)).depth = 1 := fun ns => by
    show PyData.depthAll (ns.map .int) + 1 = 1
    rw [depth_ints]
  have hal : AllAlike (ns.map fun n => PyData.tuple (n.map .int)) := by
    intro d hd d' hd'
    obtain ⟨n, _, rfl⟩ := List.mem_map.mp hd
    obtain ⟨m, _, rfl⟩ := List.mem_map.mp hd'
    exact alike_ints _ _
  by_cases hne : ∀ n ∈ ns, n ≠ []
  · refine SortsAt.data (each_encT r) hal (.inl fun d hd => ?_) fun d hd => ?_
    · obtain ⟨n, hn, rfl⟩ := List.mem_map.mp hd
      cases n with
      | nil => exact absurd rfl (hne _ hn)
      | cons a as => exact ⟨.int a, as.map .int, rfl⟩
    · obtain ⟨n, hn, rfl⟩ := List.mem_map.mp hd
      rw [dep]; omega
  · cases r with
    | nil => exact absurd (fun n hn => nomatch hn) hne
    | @cons v n vs ns r1 rs =>
      cases n with
      | nil => exact sorts_nil (.cons r1 rs) hu
      | cons a as =>
        refine ⟨fun v hv => ?_, general', ?_, fun _ E Q hq => ?_⟩
        · obtain ⟨n, hn, as, r⟩ := EachIs.left (.cons r1 rs) v hv
          exact ⟨_, dataKind_some hal (List.mem_map.mpr ⟨n, hn, rfl⟩) r⟩
        · intro E x y a b Q ha hb hq
          obtain ⟨d, as, hd, ra, rfl⟩ := dataKind_inv ha
          obtain ⟨d', as', hd', rb, rfl⟩ := dataKind_inv hb
          have hq' : Q (dataLt d d') s := hq
          obtain ⟨n, _, rfl⟩ := List.mem_map.mp hd
          obtain ⟨m, _, rfl⟩ := List.mem_map.mp hd'
          show wpAny _ _ (oneLt' false x y) _ _ _
          exact oneLt_alike (fun z => nomatch z) ra rb (alike_ints _ _) (fun z => nomatch z) (by rw [dep, dep]; omega) hq'
        · rw [keyKind'_eq, List.mapM_toArray, map_eq_pure_bind]
          refine wpAny_bind (wpAny_bind ?_)
          refine firsts_tup2 (.cons r1 rs) fun fs efs => ?_
          refine wpAny_pure ?_
          cases fs with
          | nil => cases efs
          | cons f1 fs =>
            rw [List.map_cons, List.map_cons] at efs
            obtain ⟨e1, e2⟩ := List.cons.inj efs
            have hall : ((f1 :: fs).toArray.all fun x => x.isSome) = false := by
              cases hx : (f1 :: fs).toArray.all fun x => x.isSome with
              | false => rfl
              | true =>
                simp only [List.all_toArray, List.all_cons, Bool.and_eq_true] at hx
                refine absurd (fun n hn => ?_) hne
                rcases List.mem_cons.mp hn with rfl | hn
                · exact fun z => nomatch z
                · rintro rfl
                  have h1 : (false : Bool) ∈ fs.map Option.isSome := by
                    rw [e2]
                    exact List.mem_map.mpr ⟨[], hn, rfl⟩
                  obtain ⟨f, hf, ef⟩ := List.mem_map.mp h1
                  have := List.all_eq_true.mp hx.2 f hf
                  rw [ef] at this
                  cases this
            rw [if_neg (by rw [hall]; decide)]
            obtain ⟨x, rfl⟩ := Option.isSome_iff_exists.mp (e1 : f1.isSome = true)
            rw [if_pos (by simp)]
            exact wpAny_pure hq
end
section
variable {X : Cx}
def rdSortG : List W → Store → (List W → Store → Prop) → Prop := fun ws S Q => ∃ (w : W) (ns : List (List Int)), ws = [w] ∧ llOf S w = some (ns.map fun n => .tup (iw n)) ∧ ns.length < 1000000 ∧ ∀ ns' : List (List Int), ns'.Perm ns → ns'.Pairwise (fun p q => HT.lexLt q p = false) → Q (ns'.map fun n => .tup (iw n)) S
open PySem.W in
theorem cf_sortG {k : Nat} (hr : Room k X.A) : CallF X (.builtin "sorted") rdSortG := by
  refine ⟨fun vs H Q => ∃ (γ : List Addr) (C : Cfg) (w : W) (ns : List (List Int)), C.H = H ∧ Sim X.K γ C ∧ RVs X.K γ C vs [w] ∧ llOf C.S w = some (ns.map fun n => .tup (iw n)) ∧ ns.length < 1000000 ∧ ∃ Qd, KF X.K γ C Qd Q ∧ ∀ ns' : List (List Int), ns'.Perm ns → ns'.Pairwise (fun p q => HT.lexLt q p = false) → Qd (ns'.map fun n => .tup (iw n)) C.S, ?_, fun γ C vs ws Qd Q hs r h kk => ?_⟩
  · intro pins s σ H vs us Q I r h
    obtain ⟨γ, C, w, ns, rfl, sim, rv, hl, hcl, Qd, kf, hq⟩ := h
    cases rv with
    | cons rv1 rv2 =>
      cases rv2
      obtain ⟨p, xs, rfl, hsq, rxs⟩ := llOf_at sim rv1 hl
      obtain ⟨u, rfl, ru⟩ := vals1 r
      cases ru
      obtain ⟨its, rits, pl, hz⟩ := I.list hsq
      have hun := hr.un
      have hu := hr.units
      have e1 := each_of (fun n => W.tup (iw n)) rxs rits
      have old : ∀ b' o, s.heap.get? b' = some o → (sortingHeap (copyHeap s.heap its) (s.heap.objs.size + 1) its).get? b' = some o := fun b' o e => sorting_copy_old e
      have er : EachIs (fun v (n : List Int) => ∃ as, Reads (sortingHeap (copyHeap s.heap its) (s.heap.objs.size + 1) its) v (.tuple (n.map .int)) as) its ns := e1.mono fun v b ⟨x, h1, h2⟩ => by
        obtain ⟨as, r1, _⟩ := RV.reads I h2 (show toP (.tup (iw b)) = some (.tuple (b.map .int)) by simp only [toP, reads_iw]; rfl) h1
        exact ⟨as, PyProof.Rows.Reads.keeps old r1⟩
      have hal : AllAlike (ns.map fun n => PyData.tuple (n.map .int)) := by
        intro d hd d' hd'
        obtain ⟨n, _, rfl⟩ := List.mem_map.mp hd
        obtain ⟨m, _, rfl⟩ := List.mem_map.mp hd'
        exact alike_ints _ _
      have hlen : its.length = ns.length := by rw [← rits.length, rxs.length, List.length_map]
      have e2 := sortVals_data (enc := fun n => PyData.tuple (n.map .int)) (h' := sortingHeap (copyHeap s.heap its) (s.heap.objs.size + 1) its) false e1 er hal
      obtain ⟨zs, z1, z2⟩ := each_split (fun n => W.tup (iw n)) e2
      refine sorted_vals pl.isList (sorts_tups (s := { s with heap := sortingHeap (copyHeap s.heap its) (s.heap.objs.size + 1) its }) (A := X.A.in1.in1) er (by show X.A.units + 2 + 2 < cLine; omega)) (by rw [sizeLine_eq]; omega) ?_
      obtain ⟨ep, he'⟩ := PyProof.Rows.sortedAll_at s.heap its (sortVals (dataKind (sortingHeap (copyHeap s.heap its) (s.heap.objs.size + 1) its) (ns.map fun n => PyData.tuple (n.map .int))) false its its).toArray
      have hle : ∀ p q : List Int, dataLe false (fun n : List Int => PyData.tuple (n.map .int)) p q = true ↔ HT.lexLt q p = false := fun p q => by
        rw [dataLe_eq]
        simp only [cond_false, dlt_ints, Bool.not_eq_true']
      have hpw : (ns.mergeSort (dataLe false fun n : List Int => PyData.tuple (n.map .int))).Pairwise fun p q => HT.lexLt q p = false := by
        refine (List.pairwise_mergeSort (fun a b c h1 h2 => ?_) (fun a b => ?_) _).imp fun h => (hle _ _).mp h
        · rw [hle, ← lt_lex] at *
          have a1 : ¬ b < a := of_decide_eq_false h1
          have a2 : ¬ c < b := of_decide_eq_false h2
          exact decide_eq_false (List.not_lt.mpr (List.le_trans (List.not_lt.mp a1) (List.not_lt.mp a2)))
        · rw [Bool.or_eq_true, hle, hle, ← lt_lex, ← lt_lex]
          by_cases h : b < a
          · exact .inr (decide_eq_false (List.lt_asymm h))
          · exact .inl (decide_eq_false h)
      have zl : zs.length ≤ sizeLine := by rw [z2.length, List.length_map, List.length_mergeSort, sizeLine_eq]; omega
      exact ⟨.ref _, upd C.H (s.heap.objs.size + 1) (.lst zs), I.laid (t' := s.toks) (fun _ _ => PyProof.Rows.sortedAll_old) (Nat.le_succ _) ⟨zl, _, ep, z1, he'⟩, rfl, newF kf sim z2 (hq _ (List.mergeSort_perm ..) hpw) _ (I.hok.fresh (Nat.le_succ _))⟩
  · obtain ⟨w, ns, rfl, hl, hcl, hq⟩ := h
    exact ⟨γ, C, w, ns, rfl, hs, r, hl, hcl, Qd, kk, hq⟩
end
end FL
end
section
set_option autoImplicit false
namespace CB
open PySem PySem.Spec PyProof.Rows L2 FL
/-! ### codes, and what is told of them -/
def cw (c : List (List Int)) : List W := c.map fun w => .tup (iw w)
def extF (sg : Nat) (w : List Int) : List (List Int) := (List.range sg).map fun (i : Nat) => w ++ [(i : Int)]
def wordsF (sg : Nat) : Nat → List (List Int)
  | 0 => [[]]
  | n + 1 => (wordsF sg n).flatMap (extF sg)
def Pre (S S' : Store) : Prop := ∃ L, S' = S ++ L
def sp_law_words : FL.Spec := fun ws S Q => ∃ sg n : Nat, ws = [.int (sg : Nat), .int (n : Nat)] ∧ sg ≤ 4 ∧ n ≤ 4 ∧ ∀ S', Pre S S' → Q (.lst (cw (wordsF sg n))) S'
theorem sp_law_words_len : ∀ ws S Q, sp_law_words ws S Q → ws.length = 2 := by rintro _ _ _ ⟨a, b, rfl, _⟩; rfl
/-- what is wrong with a word behind the one ahead (none: the first word) -/
def nbW (p u : W) : W := match p, u with
  | .tup a, .tup b => (match intsOf a, intsOf b with
    | some ns, some ms => if HT.lexLt ns ms then (if ms.take ns.length = ns then .str "start" else .non) else .str "order"
    | _, _ => .non)
  | _, _ => .non
def scanW (sg : Int) : Option W → Nat → List W → W
  | _, _, [] => .non
  | p, n, u :: r => if isWordW sg u = true then (match p with
      | none => scanW sg (some u) (n + 1) r
      | some p => (match nbW p u with
        | .str x => .tup [.int (n : Nat), .str x]
        | _ => scanW sg (some u) (n + 1) r)) else .tup [.int (n : Nat), .str "word"]
def ceW (sg : Int) (v : W) : W := match v with
  | .tup us => if 1 ≤ us.length ∧ us.length ≤ 16 then scanW sg none 0 us else .tup [.non, .str "code"]
  | _ => .tup [.non, .str "code"]
def sp_neighbours_error : FL.Spec := fun ws S Q => ∃ ns ms : List Int, ws = [.tup (iw ns), .tup (iw ms)] ∧ ns.length ≤ 1000000 ∧ ms.length ≤ 1000000 ∧ Q (nbW (.tup (iw ns)) (.tup (iw ms))) S
theorem sp_neighbours_error_len : ∀ ws S Q, sp_neighbours_error ws S Q → ws.length = 2 := by rintro _ _ _ ⟨d, m, rfl, _⟩; rfl
def sp_code_error : FL.Spec := fun ws S Q => ∃ (sg : Int) (v : W), ws = [.int sg, v] ∧ Knd S v ∧ (∀ us, v = .tup us → ∀ u ∈ us, Knd S u) ∧ Q (ceW sg v) S
theorem sp_code_error_len : ∀ ws S Q, sp_code_error ws S Q → ws.length = 2 := by rintro _ _ _ ⟨d, m, rfl, _⟩; rfl
abbrev sp_law_code_word := sp_code_error
abbrev sp_law_code_word_len := sp_code_error_len
def sp_lengths : FL.Spec := fun ws S Q => ∃ c : List (List Int), ws = [.tup (cw c)] ∧ c.length ≤ 1000000 ∧ Q (.tup (iw (c.map fun w => (w.length : Int)))) S
theorem sp_lengths_len : ∀ ws S Q, sp_lengths ws S Q → ws.length = 1 := by rintro _ _ _ ⟨d, rfl, _⟩; rfl
abbrev sp_law_lengths := sp_lengths
abbrev sp_law_lengths_len := sp_lengths_len
/-- u stands ahead of v, and neither begins the other one -/
def Bef (u v : List Int) : Prop := ∃ (p : List Int) (x : Int) (s : List Int) (y : Int) (t : List Int), u = p ++ x :: s ∧ v = p ++ y :: t ∧ x < y
def PFp (c : List (List Int)) : Prop := c.Pairwise Bef
def Ws (sg : Int) (deep : Nat) (c : List (List Int)) : Prop := (∀ w ∈ c, w.length ≤ deep ∧ ∀ x ∈ w, 0 ≤ x ∧ x < sg) ∧ PFp c
def totF (c : List (List Int)) : Nat := (c.map List.length).sum
def sp_law_split : FL.Spec := fun ws S Q => ∃ (d : Nat) (sg many deep N : Int) (c : List (List Int)), ws = [.loc d, .int sg, .lst (cw c), .int many, .int deep] ∧ 2 ≤ sg ∧ sg ≤ 6 ∧ many ≤ 16 ∧ 0 ≤ deep ∧ deep ≤ 16 ∧ 1 ≤ c.length ∧ (c.length : Int) < many ∧ Ws sg deep.toNat c ∧ DeckAt S d N ∧ N ≤ 900000000 ∧
  ∀ S', DeckAt S' d (N + 20) → Ch d S S' → Q .non S' ∧ ∀ c', Ws sg deep.toNat c' → (c'.length : Int) ≤ many → (c.length < c'.length ∨ (c.length = c'.length ∧ totF c < totF c')) → Q (.lst (cw c')) S'
theorem sp_law_split_len : ∀ ws S Q, sp_law_split ws S Q → ws.length = 5 := by rintro _ _ _ ⟨d, sg, m, e, N, c, rfl, _⟩; rfl
def sp_law_code : FL.Spec := fun ws S Q => ∃ (d : Nat) (sg many deep N : Int), ws = [.loc d, .int sg, .int many, .int deep] ∧ 2 ≤ sg ∧ sg ≤ 6 ∧ 1 ≤ many ∧ many ≤ 16 ∧ 0 ≤ deep ∧ deep ≤ 16 ∧ DeckAt S d N ∧ N ≤ 500000000 ∧
  ∀ c S', Ws sg deep.toNat c → 1 ≤ c.length → (c.length : Int) ≤ many → DeckAt S' d (N + 400000) → Ch d S S' → Q (.tup (cw c)) S'
theorem sp_law_code_len : ∀ ws S Q, sp_law_code ws S Q → ws.length = 4 := by rintro _ _ _ ⟨d, sg, m, e, N, rfl, _⟩; rfl
/-- an item of a code that may be bent -/
def itB (c L : Nat) (w : W) : Bool := good w && decide (wCost w ≤ c) && decide (wDep w ≤ 6) && !(hD w && hL w) && (match w with | .tup vs => !hD w && decide (vs.length ≤ L) | _ => true)
/-- what may be shown and judged -/
structure Vl (w : W) : Prop where
  g : good w = true
  c : wCost w ≤ 1200000
  d : wDep w ≤ 20
  m : Unm w ∨ ∃ us, w = .tup us ∧ ∀ x ∈ us, Unm x
def sp_law_odd : FL.Spec := fun ws S Q => ∃ (d : Nat) (N : Int), ws = [.loc d] ∧ DeckAt S d N ∧ N ≤ 1000000000 ∧ ∀ w S', oddB w = true → itB 400 17 w = true → DeckAt S' d (N + 1) → Ch d S S' → Q w S'
theorem sp_law_odd_len : ∀ ws S Q, sp_law_odd ws S Q → ws.length = 1 := by rintro _ _ _ ⟨d, m, rfl, _⟩; rfl
/-- words that may be bent -/
def CodeB (c L : Nat) (us : List W) : Prop := ∀ u ∈ us, itB c L u = true ∧ (∃ vs, u = .tup vs) ∧ (c = 390 → wDep u ≤ 5)
def sp_law_bent : FL.Spec := fun ws S Q => ∃ (d : Nat) (sg N : Int) (us : List W) (n c L : Nat), ws = [.loc d, .int sg, .tup us] ∧ 2 ≤ sg ∧ sg ≤ 6 ∧ 1 ≤ us.length ∧ us.length ≤ n ∧ 16 ≤ n ∧ n ≤ 17 ∧ 390 ≤ c ∧ c ≤ 7000 ∧ 16 ≤ L ∧ L ≤ 200 ∧ CodeB c L us ∧ DeckAt S d N ∧ N ≤ 900000000 ∧
  ∀ w S', Vl w → (∀ vs, w = .tup vs → vs.length ≤ n + 1 ∧ (n = 16 → c = 390 → L = 16 → ∀ v ∈ vs, itB 7000 200 v = true)) → DeckAt S' d (N + 10) → Ch d S S' → Q w S'
theorem sp_law_bent_len : ∀ ws S Q, sp_law_bent ws S Q → ws.length = 3 := by rintro _ _ _ ⟨d, sg, N, us, n, c, L, rfl, _⟩; rfl
/-- what stands in a word -/
structure Lg (n : Nat) (vs : List W) : Prop where
  g : goods vs = true
  c : wCosts vs ≤ n
  d : wDeps vs ≤ 5
  h : hDs vs = false
theorem Lg.mono {n m : Nat} {vs : List W} (h : Lg n vs) (hm : n ≤ m) : Lg m vs := ⟨h.g, Nat.le_trans h.c hm, h.d, h.h⟩
theorem Lg.nil : Lg 0 [] := ⟨rfl, Nat.le_refl _, Nat.zero_le _, rfl⟩
theorem Lg.app {n m : Nat} {a b : List W} (ha : Lg n a) (hb : Lg m b) : Lg (n + m) (a ++ b) :=
  ⟨by rw [goods_app, ha.g, hb.g]; rfl, by rw [wCosts_app]; have := ha.c; have := hb.c; omega, by rw [wDeps_app]; have := ha.d; have := hb.d; omega, by rw [hDs_app, ha.h, hb.h]; rfl⟩
theorem Lg.left {n : Nat} {a b : List W} (h : Lg n (a ++ b)) : Lg n a := by
  have h1 := h.g
  have h2 := h.c
  have h3 := h.d
  have h4 := h.h
  rw [goods_app, Bool.and_eq_true] at h1
  rw [wCosts_app] at h2
  rw [wDeps_app] at h3
  rw [hDs_app, Bool.or_eq_false_iff] at h4
  exact ⟨h1.1, by omega, by omega, h4.1⟩
theorem Lg.right {n : Nat} {a b : List W} (h : Lg n (a ++ b)) : Lg n b := by
  have h1 := h.g
  have h2 := h.c
  have h3 := h.d
  have h4 := h.h
  rw [goods_app, Bool.and_eq_true] at h1
  rw [wCosts_app] at h2
  rw [wDeps_app] at h3
  rw [hDs_app, Bool.or_eq_false_iff] at h4
  exact ⟨h1.2, by omega, by omega, h4.2⟩
theorem Lg.cut {n : Nat} {vs : List W} {lo hi : Option Int} (h : Lg n vs) : Lg n (cutW vs lo hi) := by
  unfold cutW
  have h1 : Lg n (vs.drop (HT.sIx vs.length 0 lo)) := Lg.right (a := vs.take (HT.sIx vs.length 0 lo)) (by rw [List.take_append_drop]; exact h)
  exact Lg.left (b := (vs.drop (HT.sIx vs.length 0 lo)).drop (HT.sIx vs.length vs.length hi - HT.sIx vs.length 0 lo)) (by rw [List.take_append_drop]; exact h1)
theorem Lg.int {i : Int} (h : i.natAbs < 1000000) : Lg 24 [.int i] := by
  obtain ⟨h1, h2⟩ := int_c h
  exact ⟨by show (good (.int i) && true) = true; rw [h1]; rfl, by show wCost (.int i) + 2 + 0 ≤ 24; omega, by show max 0 0 ≤ 5; omega, rfl⟩
theorem Lg.bl {b : Bool} : Lg 7 [.bl b] := ⟨rfl, by show 5 + 2 + 0 ≤ 7; omega, by show max 0 0 ≤ 5; omega, rfl⟩
theorem Lg.rep {n : Nat} {vs : List W} (h : Lg n vs) : ∀ k : Nat, Lg (k * n) (List.replicate k vs).flatten
  | 0 => by rw [Nat.zero_mul]; exact Lg.nil
  | k + 1 => by
    rw [List.replicate_succ, List.flatten_cons, Nat.add_mul, Nat.one_mul, Nat.add_comm]
    exact h.app (Lg.rep h k)
theorem itB_tup {n c L : Nat} {vs : List W} (h : Lg n vs) (hc : n + 3 ≤ c) (hl : vs.length ≤ L) : itB c L (.tup vs) = true := by
  have h1 := h.c
  have h2 := h.d
  have e1 : wCost (.tup vs) ≤ c := by simp only [wCost]; omega
  have e2 : wDep (.tup vs) ≤ 6 := by simp only [wDep]; omega
  unfold itB
  simp only [good, hD, h.g, h.h, decide_eq_true e1, decide_eq_true e2, decide_eq_true hl, Bool.false_and, Bool.not_false, Bool.and_self]
theorem itB_lst {n c L : Nat} {vs : List W} (h : Lg n vs) (hc : n + 3 ≤ c) : itB c L (.lst vs) = true := by
  have h1 := h.c
  have h2 := h.d
  have e1 : wCost (.lst vs) ≤ c := by simp only [wCost]; omega
  have e2 : wDep (.lst vs) ≤ 6 := by simp only [wDep]; omega
  unfold itB
  simp only [good, hD, h.g, h.h, decide_eq_true e1, decide_eq_true e2, Bool.false_and, Bool.not_false, Bool.and_self]
theorem itB_lg {c L : Nat} {vs : List W} (h : itB c L (.tup vs) = true) : Lg c vs ∧ vs.length ≤ L := by
  unfold itB at h
  simp only [Bool.and_eq_true, decide_eq_true_eq, Bool.not_eq_true'] at h
  obtain ⟨⟨⟨⟨h1, h2⟩, h3⟩, h4⟩, h5, h6⟩ := h
  simp only [good] at h1
  simp only [wCost] at h2
  simp only [wDep] at h3
  simp only [hD] at h5
  exact ⟨⟨h1, by omega, by omega, h5⟩, h6⟩
theorem itB_mono {c c' L L' : Nat} {w : W} (h : itB c L w = true) (hc : c ≤ c') (hl : L ≤ L') : itB c' L' w = true := by
  unfold itB at h ⊢
  simp only [Bool.and_eq_true, decide_eq_true_eq, Bool.not_eq_true'] at h ⊢
  obtain ⟨⟨⟨⟨h1, h2⟩, h3⟩, h4⟩, h5⟩ := h
  refine ⟨⟨⟨⟨h1, by omega⟩, h3⟩, h4⟩, ?_⟩
  cases w <;> first | rfl | skip
  dsimp only at h5 ⊢
  rw [Bool.and_eq_true, decide_eq_true_eq] at h5 ⊢
  exact ⟨h5.1, by omega⟩
structure ItP (c : Nat) (w : W) : Prop where
  g : good w = true
  c : wCost w ≤ c
  d : wDep w ≤ 6
  m : Unm w
theorem itB_p {c L : Nat} {w : W} (h : itB c L w = true) : ItP c w := by
  unfold itB at h
  simp only [Bool.and_eq_true, decide_eq_true_eq, Bool.not_eq_true'] at h
  obtain ⟨⟨⟨⟨h1, h2⟩, h3⟩, h4⟩, _⟩ := h
  exact ⟨h1, h2, h3, h4⟩
theorem items_of {c : Nat} : ∀ {us : List W}, (∀ u ∈ us, ItP c u) → goods us = true ∧ wCosts us ≤ us.length * (c + 2) ∧ wDeps us ≤ 6
  | [], _ => ⟨rfl, Nat.zero_le _, Nat.zero_le _⟩
  | u :: us, h => by
    obtain ⟨h1, h2, h3⟩ := items_of (us := us) fun x hx => h x (List.mem_cons_of_mem _ hx)
    have hu := h u (List.mem_cons_self ..)
    have := hu.c
    have := hu.d
    refine ⟨by show (good u && goods us) = true; rw [hu.g, h1]; rfl, ?_, by show max (wDep u) (wDeps us) ≤ 6; omega⟩
    show wCost u + 2 + wCosts us ≤ (us.length + 1) * (c + 2)
    rw [Nat.add_mul]
    omega
theorem Vl.tup {c : Nat} {us : List W} (h : ∀ u ∈ us, ItP c u) (hc : us.length * (c + 2) + 3 ≤ 1200000) : Vl (.tup us) := by
  obtain ⟨h1, h2, h3⟩ := items_of h
  exact ⟨by simpa only [good] using h1, by simp only [wCost]; omega, by simp only [wDep]; omega, .inr ⟨us, rfl, fun x hx => (h x hx).m⟩⟩
theorem deps_le {m : Nat} : ∀ {us : List W}, (∀ u ∈ us, wDep u ≤ m) → wDeps us ≤ m
  | [], _ => Nat.zero_le _
  | u :: us, h => by
    have h1 := h u (List.mem_cons_self ..)
    have h2 := deps_le (us := us) fun x hx => h x (List.mem_cons_of_mem _ hx)
    show max (wDep u) (wDeps us) ≤ m
    omega
theorem no_dict : ∀ {us : List W}, (∀ u ∈ us, hD u = false) → hDs us = false
  | [], _ => rfl
  | u :: us, h => by show (hD u || hDs us) = false; rw [h u (List.mem_cons_self ..), no_dict fun x hx => h x (List.mem_cons_of_mem _ hx)]; rfl
/-- what a bent code is -/
def Gd (n c L : Nat) (w : W) : Prop := Vl w ∧ ∀ vs, w = .tup vs → vs.length ≤ n + 1 ∧ (n = 16 → c = 390 → L = 16 → ∀ v ∈ vs, itB 7000 200 v = true)
theorem Gd.tup {n c L : Nat} {ws : List W} (h : ∀ v ∈ ws, itB (9 * c + 500) (9 * L + 20) v = true) (hl : ws.length ≤ n + 1) (hn : n ≤ 17) (hc : c ≤ 7000) : Gd n c L (.tup ws) := by
  have h4 : ws.length * (9 * c + 500 + 2) ≤ 18 * 64002 := Nat.mul_le_mul (by omega) (by omega)
  refine ⟨Vl.tup (fun u hu => itB_p (h u hu)) (by omega), fun vs e => ?_⟩
  cases e
  exact ⟨hl, fun _ e1 e2 v hv => itB_mono (h v hv) (by omega) (by omega)⟩
theorem seq_gen {t u : TSD} {D : DEnds} {τ : EnvD} {S : Store} (h : ∀ u', u' = u → sSeq t u' D τ S) : sSeq t u D τ S := h u rfl
theorem for_gen {ti : TAD} {g : W → EnvD → Option EnvD} {tb u : TSD} {D : DEnds} {τ : EnvD} {S : Store} (h : ∀ tb', tb' = tb → sSeq (sFor ti g tb') u D τ S) : sSeq (sFor ti g tb) u D τ S := h tb rfl
theorem cut_mem {xs : List W} {lo hi : Option Int} {x : W} (h : x ∈ cutW xs lo hi) : x ∈ xs := List.mem_of_mem_drop (List.mem_of_mem_take h)
theorem cut_len_le {xs : List W} {lo hi : Option Int} : (cutW xs lo hi).length ≤ xs.length := by
  unfold cutW
  rw [List.length_take, List.length_drop]
  omega
theorem cut_last {xs : List W} (h : 1 ≤ xs.length) : (cutW xs (some (-1)) none).length ≤ 1 := by
  unfold cutW
  rw [List.length_take, List.length_drop]
  have e : HT.sIx xs.length 0 (some (-1)) = xs.length - 1 := by
    show (if (-1 : Int) < 0 then ((-1 : Int) + (xs.length : Int)).toNat else min (-1 : Int).toNat xs.length) = _
    rw [if_pos (by decide)]
    omega
  rw [e]
  omega
theorem flat_mem {α : Type} {xs : List α} {x : α} {k : Nat} (h : x ∈ (List.replicate k xs).flatten) : x ∈ xs := by
  obtain ⟨l, h1, h2⟩ := List.mem_flatten.mp h
  rw [List.eq_of_mem_replicate h1] at h2
  exact h2
theorem cutK_len {xs : List W} {k : Nat} : (cutW xs none (some (k : Int))).length ≤ k := by rw [cut_take, List.length_take]; omega
theorem flat_len {α : Type} (xs : List α) : ∀ k : Nat, (List.replicate k xs).flatten.length = k * xs.length
  | 0 => by simp
  | k + 1 => by rw [List.replicate_succ, List.flatten_cons, List.length_append, flat_len xs k, Nat.add_mul]; omega
theorem ints_iw {sg : Int} : ∀ {us : List W}, (us.all fun x => isWhole x 0 (sg - 1)) = true → ∃ ns : List Int, us = iw ns ∧ ∀ x ∈ ns, 0 ≤ x ∧ x < sg
  | [], _ => ⟨[], rfl, fun _ h => nomatch h⟩
  | u :: us, h => by
    rw [List.all_cons, Bool.and_eq_true] at h
    obtain ⟨ns, rfl, hb⟩ := ints_iw h.2
    cases u <;> first | (cases h.1; done) | skip
    rename_i i
    have h1 := of_decide_eq_true h.1
    refine ⟨i :: ns, rfl, fun x hx => ?_⟩
    rcases List.mem_cons.mp hx with rfl | hx
    · omega
    · exact hb x hx
theorem word_iw {sg : Int} {w : W} (h : isWordW sg w = true) : ∃ ns : List Int, w = .tup (iw ns) ∧ ns.length ≤ 16 := by
  cases w <;> first | (cases h; done) | skip
  rename_i us
  have h' : (decide (us.length ≤ 16) && us.all fun x => isWhole x 0 (sg - 1)) = true := h
  rw [Bool.and_eq_true] at h'
  obtain ⟨ns, rfl, _⟩ := ints_iw h'.2
  exact ⟨ns, rfl, by have := of_decide_eq_true h'.1; rw [iw_len] at this; exact this⟩
theorem scan_cons {sg : Int} {p : Option W} {n : Nat} {u : W} {r : List W} : scanW sg p n (u :: r) = if isWordW sg u = true then (match p with
      | none => scanW sg (some u) (n + 1) r
      | some p => (match nbW p u with
        | .str x => .tup [.int (n : Nat), .str x]
        | _ => scanW sg (some u) (n + 1) r)) else .tup [.int (n : Nat), .str "word"] := rfl
def prevW (us : List W) : Nat → Option W
  | 0 => none
  | i + 1 => us[i]?
/-- so far nothing was wrong -/
structure Scan (sg : Int) (us : List W) (i : Nat) : Prop where
  eq : scanW sg (prevW us i) i (us.drop i) = scanW sg none 0 us
  ok : ∀ p, prevW us i = some p → isWordW sg p = true
theorem Scan.zero {sg : Int} {us : List W} : Scan sg us 0 := ⟨rfl, fun _ h => nomatch h⟩
theorem Scan.bad {sg : Int} {us : List W} {i : Nat} {u : W} (h : Scan sg us i) (e : us[i]? = some u) (hw : isWordW sg u = false) : scanW sg none 0 us = .tup [.int (i : Nat), .str "word"] := by
  have hl := (List.getElem?_eq_some_iff.mp e).1
  rw [← h.eq, List.drop_eq_getElem_cons hl, (List.getElem?_eq_some_iff.mp e).2, scan_cons, if_neg (by rw [hw]; decide)]
theorem Scan.first {sg : Int} {us : List W} {u : W} (e : us[0]? = some u) (hw : isWordW sg u = true) : Scan sg us 1 := by
  have hl := (List.getElem?_eq_some_iff.mp e).1
  refine ⟨?_, fun p hp => ?_⟩
  · have q : scanW sg none 0 us = scanW sg (some u) 1 (us.drop 1) := by
      conv => lhs; rw [← List.drop_zero (l := us)]
      rw [List.drop_eq_getElem_cons hl, (List.getElem?_eq_some_iff.mp e).2, scan_cons, if_pos hw]
    rw [q]
    show scanW sg (us[0]?) 1 (us.drop 1) = _
    rw [e]
  · have : us[0]? = some p := hp
    rw [e] at this
    cases this
    exact hw
theorem Scan.nb {sg : Int} {us : List W} {i : Nat} {p u : W} {x : Str} (h : Scan sg us (i + 1)) (e : us[i + 1]? = some u) (ep : us[i]? = some p) (hw : isWordW sg u = true) (hn : nbW p u = .str x) : scanW sg none 0 us = .tup [.int ((i + 1 : Nat) : Int), .str x] := by
  have hl := (List.getElem?_eq_some_iff.mp e).1
  rw [← h.eq, List.drop_eq_getElem_cons hl, (List.getElem?_eq_some_iff.mp e).2, scan_cons, if_pos hw]
  show (match us[i]? with | none => _ | some p => _) = _
  rw [ep]
  show (match nbW p u with | .str x => _ | _ => _) = _
  rw [hn]
theorem Scan.next {sg : Int} {us : List W} {i : Nat} {p u : W} (h : Scan sg us (i + 1)) (e : us[i + 1]? = some u) (ep : us[i]? = some p) (hw : isWordW sg u = true) (hn : nbW p u = .non) : Scan sg us (i + 2) := by
  have hl := (List.getElem?_eq_some_iff.mp e).1
  refine ⟨?_, fun q hq => ?_⟩
  · rw [← h.eq, List.drop_eq_getElem_cons hl, (List.getElem?_eq_some_iff.mp e).2, scan_cons, if_pos hw]
    show scanW sg (us[i + 1]?) (i + 2) (us.drop (i + 2)) = (match us[i]? with | none => _ | some p => _)
    rw [ep, e]
    show _ = (match nbW p u with | .str x => _ | _ => _)
    rw [hn]
  · have : us[i + 1]? = some q := hq
    rw [e] at this
    cases this
    exact hw
theorem Scan.done {sg : Int} {us : List W} (h : Scan sg us us.length) : scanW sg none 0 us = .non := by
  rw [← h.eq, List.drop_length]
  rfl
theorem nb_iw (ns ms : List Int) : nbW (.tup (iw ns)) (.tup (iw ms)) = if HT.lexLt ns ms then (if ms.take ns.length = ns then .str "start" else .non) else .str "order" := by
  have e1 : intsOf (iw ms) = some ms := intsOf_map ms
  have e2 : intsOf (iw ns) = some ns := intsOf_map ns
  unfold nbW
  simp only [e1, e2]
theorem nb_cases (ns ms : List Int) : nbW (.tup (iw ns)) (.tup (iw ms)) = .non ∨ ∃ x, nbW (.tup (iw ns)) (.tup (iw ms)) = .str x := by
  rw [nb_iw]
  split
  · split
    · exact .inr ⟨_, rfl⟩
    · exact .inl rfl
  · exact .inr ⟨_, rfl⟩
theorem at_prev {us : List W} {i : Nat} {p : W} (ep : us[i]? = some p) : L2.atI us (((i + 1 : Nat) : Int) - 1) = some p := by
  have hl := (List.getElem?_eq_some_iff.mp ep).1
  obtain ⟨x, h1, _, h2⟩ := atI_of (xs := us) (i := ((i + 1 : Nat) : Int) - 1) (by omega) (by omega)
  have e : (((i + 1 : Nat) : Int) - 1).toNat = i := by omega
  rw [e, ep] at h2
  cases h2
  exact h1
theorem iw_erase : ∀ (os : List Int) (j : Nat), (iw os).eraseIdx j = iw (os.eraseIdx j)
  | [], _ => rfl
  | _ :: _, 0 => rfl
  | o :: os, j + 1 => by
    show W.int o :: (iw os).eraseIdx j = W.int o :: iw (os.eraseIdx j)
    rw [iw_erase os j]
theorem deck_ne {S : Store} {d m : Nat} {N : Int} {x : Option Cell} (h : DeckAt S d N) (hm : m ≠ d) : DeckAt (S.set m x) d N := by
  obtain ⟨ns, t, g, h1, r⟩ := h
  exact ⟨ns, t, g, by rw [List.getElem?_set_ne hm]; exact h1, r⟩
theorem deck_add {S : Store} {d : Nat} {N : Int} {L : Store} (h : DeckAt S d N) : DeckAt (S ++ L) d N := by
  obtain ⟨ns, t, g, h1, r⟩ := h
  exact ⟨ns, t, g, by rw [List.getElem?_append_left (List.getElem?_eq_some_iff.mp h1).1]; exact h1, r⟩
theorem ch_hi {S S1 : Store} {d m : Nat} {x : Option Cell} (h : Ch d S S1) (hm : S.length ≤ m) : Ch d S (S1.set m x) :=
  ⟨by rw [List.length_set]; exact h.1, fun i h1 h2 => by rw [List.getElem?_set_ne (by omega)]; exact h.2 i h1 h2⟩
theorem ch_add {S S1 : Store} {d : Nat} {L : Store} (h : Ch d S S1) : Ch d S (S1 ++ L) :=
  ⟨by rw [List.length_append]; have := h.1; omega, fun i h1 h2 => by rw [List.getElem?_append_left (Nat.lt_of_lt_of_le h2 h.1)]; exact h.2 i h1 h2⟩
theorem cw_len (c : List (List Int)) : (cw c).length = c.length := List.length_map ..
theorem cw_at {c : List (List Int)} {i : Nat} {w : List Int} (e : c[i]? = some w) : (cw c)[i]? = some (.tup (iw w)) := by
  unfold cw; rw [List.getElem?_map, e]; rfl
theorem at_cw {c : List (List Int)} {i : Nat} {k : Int} {w : List Int} (e : c[i]? = some w) (hk : k = (i : Nat)) : L2.atI (cw c) k = some (.tup (iw w)) := by
  have hl := (List.getElem?_eq_some_iff.mp e).1
  subst hk
  obtain ⟨x, h1, _, h2⟩ := atI_of (xs := cw c) (i := (i : Int)) (by omega) (by rw [cw_len]; omega)
  have e2 : ((i : Nat) : Int).toNat = i := by omega
  rw [e2, cw_at e] at h2
  cases h2
  exact h1
theorem cw_take (c : List (List Int)) (k : Nat) : (cw c).take k = cw (c.take k) := by unfold cw; rw [List.map_take]
theorem cw_drop (c : List (List Int)) (k : Nat) : (cw c).drop k = cw (c.drop k) := by unfold cw; rw [List.map_drop]
theorem cw_app (a b : List (List Int)) : cw a ++ cw b = cw (a ++ b) := by unfold cw; rw [List.map_append]
theorem ints_eqG : ∀ {acc : List W}, (∀ x ∈ acc, ∃ i, x = .int i) → eqGs acc = true ∧ wDeps acc = 0
  | [], _ => ⟨rfl, rfl⟩
  | x :: xs, h => by
    obtain ⟨i, rfl⟩ := h x (List.mem_cons_self ..)
    obtain ⟨h1, h2⟩ := ints_eqG (acc := xs) fun y hy => h y (List.mem_cons_of_mem _ hy)
    exact ⟨by show (eqG (.int i) && eqGs xs) = true; rw [h1]; rfl, by show max (wDep (.int i)) (wDeps xs) = 0; rw [h2]; rfl⟩
/-- a word split -/
def splitF (c : List (List Int)) (k : Nat) (w : List Int) (os : List Int) : List (List Int) := c.take k ++ os.map (fun o => w ++ [o]) ++ c.drop (k + 1)
theorem split_len {c : List (List Int)} {k : Nat} {w os : List Int} (e : c[k]? = some w) : (splitF c k w os).length + 1 = c.length + os.length := by
  have hl := (List.getElem?_eq_some_iff.mp e).1
  unfold splitF
  simp only [List.length_append, List.length_take, List.length_drop, List.length_map]
  omega
theorem tot_app (a b : List (List Int)) : totF (a ++ b) = totF a + totF b := by unfold totF; rw [List.map_append, List.sum_append]
theorem split_tot {c : List (List Int)} {k : Nat} {w os : List Int} (e : c[k]? = some w) (h1 : os.length = 1) : totF c < totF (splitF c k w os) := by
  have hl := (List.getElem?_eq_some_iff.mp e).1
  have hc : totF c = totF (c.take k) + (w.length + totF (c.drop (k + 1))) := by
    conv => lhs; rw [← List.take_append_drop k c]
    rw [tot_app, List.drop_eq_getElem_cons hl, (List.getElem?_eq_some_iff.mp e).2]
    rfl
  match os, h1 with
  | [o], _ =>
    have : totF (splitF c k w [o]) = totF (c.take k) + (w.length + 1) + totF (c.drop (k + 1)) := by
      unfold splitF
      rw [tot_app, tot_app]
      simp [totF]
    omega
theorem Bef.snocR {u w : List Int} {o : Int} (h : Bef u w) : Bef u (w ++ [o]) := by
  obtain ⟨p, x, s, y, t, rfl, rfl, hxy⟩ := h
  exact ⟨p, x, s, y, t ++ [o], rfl, by simp, hxy⟩
theorem Bef.snocL {u w : List Int} {o : Int} (h : Bef u w) : Bef (u ++ [o]) w := by
  obtain ⟨p, x, s, y, t, rfl, rfl, hxy⟩ := h
  exact ⟨p, x, s ++ [o], y, t, by simp, rfl, hxy⟩
theorem Bef.no {u v : List Int} (h : Bef u v) : ¬ u <+: v ∧ ¬ v <+: u := by
  obtain ⟨p, x, s, y, t, rfl, rfl, hxy⟩ := h
  refine ⟨fun z => ?_, fun z => ?_⟩
  · have := List.prefix_append_right_inj p |>.mp z
    have := (List.cons_prefix_cons.mp this).1
    omega
  · have := List.prefix_append_right_inj p |>.mp z
    have := (List.cons_prefix_cons.mp this).1
    omega
theorem Bef.lt {u v : List Int} (h : Bef u v) : u < v := by
  obtain ⟨p, x, s, y, t, rfl, rfl, hxy⟩ := h
  induction p with
  | nil => exact List.cons_lt_cons_iff.mpr (.inl hxy)
  | cons a p ih => exact List.cons_lt_cons_iff.mpr (.inr ⟨rfl, ih⟩)
theorem bef_trans : ∀ {u v w : List Int}, Bef u v → Bef v w → Bef u w := by
  intro u v w h1 h2
  obtain ⟨p, x, s, y, t, rfl, e, hxy⟩ := h1
  obtain ⟨q, a, s', b, t', e2, rfl, hab⟩ := h2
  rw [e] at e2
  clear e
  induction p generalizing q with
  | nil =>
    cases q with
    | nil =>
      have h3 := (List.cons.inj e2).1
      exact ⟨[], x, s, b, t', rfl, rfl, by omega⟩
    | cons z q =>
      have h3 := (List.cons.inj e2).1
      exact ⟨[], x, s, z, q ++ b :: t', rfl, rfl, by omega⟩
  | cons z p ih =>
    cases q with
    | nil =>
      have h3 := (List.cons.inj e2).1
      exact ⟨[], z, p ++ x :: s, b, t', rfl, rfl, by omega⟩
    | cons z' q =>
      obtain ⟨h3, h4⟩ := List.cons.inj e2
      subst h3
      obtain ⟨r, m1, m2, m3, m4, k1, k2, k3⟩ := ih q h4
      exact ⟨z :: r, m1, m2, m3, m4, by rw [List.cons_append, k1]; rfl, by rw [List.cons_append, k2]; rfl, k3⟩
theorem split_ws {sg : Int} {deep : Nat} {c : List (List Int)} {k : Nat} {w os : List Int} (h : Ws sg deep c) (e : c[k]? = some w) (hw : w.length < deep) (ho : ∀ x ∈ os, 0 ≤ x ∧ x < sg) (hn : os.Pairwise (· < ·)) : Ws sg deep (splitF c k w os) := by
  have hl := (List.getElem?_eq_some_iff.mp e).1
  refine ⟨fun u hu => ?_, ?_⟩
  · unfold splitF at hu
    rcases List.mem_append.mp hu with hu | hu
    · rcases List.mem_append.mp hu with hu | hu
      · exact h.1 u (List.mem_of_mem_take hu)
      · obtain ⟨o, ho', rfl⟩ := List.mem_map.mp hu
        refine ⟨by rw [List.length_append]; simp; omega, fun x hx => ?_⟩
        rcases List.mem_append.mp hx with hx | hx
        · exact (h.1 w (List.mem_of_getElem? e)).2 x hx
        · have : x = o := by simpa using hx
          subst this
          exact ho x ho'
    · exact h.1 u (List.mem_of_mem_drop hu)
  · have hp : (c.take k ++ (w :: c.drop (k + 1))).Pairwise Bef := by
      have e2 : c.take k ++ (w :: c.drop (k + 1)) = c := by
        have q := List.drop_eq_getElem_cons hl
        rw [(List.getElem?_eq_some_iff.mp e).2] at q
        rw [← q, List.take_append_drop]
      rw [e2]; exact h.2
    obtain ⟨pA, pB, pAB⟩ := List.pairwise_append.mp hp
    obtain ⟨pw, pB'⟩ := List.pairwise_cons.mp pB
    unfold splitF PFp
    refine List.pairwise_append.mpr ⟨List.pairwise_append.mpr ⟨pA, ?_, fun a ha b hb => ?_⟩, pB', fun a ha b hb => ?_⟩
    · exact List.Pairwise.map _ (fun a b hab => ⟨w, a, [], b, [], rfl, rfl, hab⟩) hn
    · obtain ⟨o, _, rfl⟩ := List.mem_map.mp hb
      exact (pAB a ha w (List.mem_cons_self ..)).snocR
    · rcases List.mem_append.mp ha with ha | ha
      · exact pAB a ha b (List.mem_cons_of_mem _ hb)
      · obtain ⟨o, _, rfl⟩ := List.mem_map.mp ha
        exact (pw b hb).snocL
theorem tot_le0 {deep : Nat} : ∀ {c : List (List Int)}, (∀ w ∈ c, w.length ≤ deep) → totF c ≤ c.length * deep
  | [], _ => Nat.zero_le _
  | w :: c, h => by
    have h1 := h w (List.mem_cons_self ..)
    have h2 := tot_le0 (c := c) fun u hu => h u (List.mem_cons_of_mem _ hu)
    show w.length + totF c ≤ (c.length + 1) * deep
    rw [Nat.add_mul]
    omega
theorem tot_le {sg : Int} {deep : Nat} {c : List (List Int)} (h : Ws sg deep c) : totF c ≤ c.length * deep := tot_le0 fun w hw => (h.1 w hw).1
def totW (ws : List W) : Nat := (ws.map fun w => match w with | .tup us => us.length | _ => 0).sum
theorem totW_cw (c : List (List Int)) : totW (cw c) = totF c := by
  unfold totW cw totF
  rw [List.map_map]
  congr 1
  apply List.map_congr_left
  intro w _
  exact iw_len w
def muW (τ : EnvD) : Nat := match (show Option (Option W) from τ[4]?) with
  | some (some (W.lst ws)) => (16 - ws.length) * 1000 + (256 - totW ws)
  | _ => 0
def lenAt (m : Nat) (S : Store) : Nat := match (show Option (Option Cell) from S[m]?) with
  | some (some (Cell.lst ws)) => ws.length
  | _ => 0
theorem lenAt_of {m : Nat} {S : Store} {ws : List W} (h : S[m]? = some (some (.lst ws))) : lenAt m S = ws.length := by unfold lenAt; rw [h]
theorem good_deloc {w : W} (h : good w = true) (S : Store) : deloc S w = w := by
  cases w <;> first | rfl | (simp only [good] at h; cases h)
theorem Vl.rep {w : W} (h : Vl w) (S : Store) : (ReprOk (deloc S w) ∨ ∃ us, deloc S w = .tup us ∧ good (.tup us) = true ∧ wCost (.tup us) ≤ sizeLine ∧ wDep (.tup us) ≤ 60 ∧ ∀ x ∈ us, Unm x) ∧ deloc S w = w := by
  have e := good_deloc h.g S
  have hc : wCost w ≤ sizeLine := by have := h.c; rw [sizeLine_eq]; omega
  have hd : wDep w ≤ 60 := by have := h.d; omega
  rw [e]
  refine ⟨?_, rfl⟩
  rcases h.m with m | ⟨us, rfl, m⟩
  · exact .inl ⟨h.g, hc, hd, m⟩
  · exact .inr ⟨us, rfl, h.g, hc, hd, m⟩
theorem cost_mem : ∀ {us : List W} {u : W}, u ∈ us → wCost u ≤ wCosts us
  | x :: xs, u, h => by
    rcases List.mem_cons.mp h with rfl | h
    · show wCost u ≤ wCost u + 2 + wCosts xs; omega
    · have := cost_mem h
      show wCost u ≤ wCost x + 2 + wCosts xs
      omega
theorem knd_of {w : W} (g : good w = true) (c : wCost w ≤ 1200000) (S : Store) : Knd S w := good_knd g (fun ws e => by
  subst e
  have := costs_len ws
  simp only [wCost] at c
  omega) S
theorem Vl.knd {w : W} (h : Vl w) (S : Store) : Knd S w ∧ ∀ us, w = .tup us → ∀ u ∈ us, Knd S u := by
  refine ⟨knd_of h.g h.c S, fun us e u hu => ?_⟩
  subst e
  have hg : goods us = true := by simpa only [good] using h.g
  have hc := h.c
  simp only [wCost] at hc
  have := cost_mem hu
  exact knd_of (goods_mem hg u hu) (by omega) S
theorem Vl.ofIt {c L : Nat} {w : W} (h : itB c L w = true) (hc : c ≤ 1200000) : Vl w := by
  have q := itB_p h
  exact ⟨q.g, Nat.le_trans q.c hc, by have := q.d; omega, .inl q.m⟩
structure CeOk (w : W) : Prop where
  g : good w = true
  c : wCost w ≤ 100
  d : wDep w ≤ 2
  h : hD w = false
theorem ce_non : CeOk .non := ⟨rfl, by decide, by decide, rfl⟩
theorem ce_pair {n : Nat} {x : Str} (hn : n ≤ 1000) (h1 : good (.str x) = true) (h2 : x.length ≤ 5) : CeOk (.tup [.int (n : Nat), .str x]) := by
  obtain ⟨a1, a2⟩ := int_c (i := (n : Int)) (by omega)
  refine ⟨?_, ?_, ?_, rfl⟩
  · simp only [good, goods] at a1 h1 ⊢
    rw [a1, h1]; rfl
  · simp only [wCost, wCosts] at a2 ⊢; omega
  · simp only [wDep, wDeps]; decide
theorem nb_str {p u : W} {x : Str} (h : nbW p u = .str x) : good (.str x) = true ∧ x.length ≤ 5 := by
  unfold nbW at h
  split at h
  · split at h
    · split at h
      · split at h
        · cases h; exact ⟨by decide +kernel, by decide +kernel⟩
        · cases h
      · cases h; exact ⟨by decide +kernel, by decide +kernel⟩
    · cases h
  · cases h
theorem scan_ok {sg : Int} : ∀ (us : List W) (n : Nat) (p : Option W), n + us.length ≤ 1000 → CeOk (scanW sg p n us)
  | [], _, _, _ => ce_non
  | u :: us, n, p, h => by
    have h' : n + (us.length + 1) ≤ 1000 := h
    rw [scan_cons]
    split
    · split
      · exact scan_ok us (n + 1) _ (by omega)
      · split
        · rename_i x hx
          obtain ⟨q1, q2⟩ := nb_str hx
          exact ce_pair (by omega) q1 q2
        · exact scan_ok us (n + 1) _ (by omega)
    · exact ce_pair (by omega) (by decide +kernel) (by decide +kernel)
theorem ce_code : CeOk (.tup [.non, .str "code"]) := ⟨by decide +kernel, by decide +kernel, by decide +kernel, rfl⟩
theorem ce_ok (sg : Int) (v : W) : CeOk (ceW sg v) := by
  unfold ceW
  split
  · split
    · rename_i h
      exact scan_ok _ 0 none (by omega)
    · exact ce_code
  · exact ce_code
theorem rep3c {a b : W} {x : Str} {S : Store} (ha : CeOk a) (hb : CeOk b) (hx : chk x) (hl : x.length ≤ 1200000) : ReprOk (deloc S (.lst [a, b, .str x])) ∧ deloc S (.lst [a, b, .str x]) = .lst [a, b, .str x] := by
  have a1 := ha.c
  have a2 := ha.d
  have b1 := hb.c
  have b2 := hb.d
  refine ⟨⟨?_, ?_, ?_, ?_⟩, rfl⟩
  · simp only [deloc, good, goods, ha.g, hb.g, chkB_iff.mpr hx, Bool.and_self]
  · simp only [deloc, wCost, wCosts]; rw [sizeLine_eq]; omega
  · simp only [deloc, wDep, wDeps]; omega
  · simp only [deloc, hD, hL, hDs, hLs, ha.h, hb.h]; rfl
theorem lg_iw {w : List Int} {sg : Int} (h6 : sg ≤ 6) (hl : w.length ≤ 16) (hb : ∀ x ∈ w, 0 ≤ x ∧ x < sg) : Lg 384 (iw w) ∧ wDeps (iw w) = 0 := by
  have sm : small w := fun n hn => by have := hb n hn; omega
  obtain ⟨h1, h2, h3, h4, h5⟩ := iw_ok sm
  exact ⟨⟨h1, by omega, by omega, h4⟩, h3⟩
theorem code_b {sg : Int} {deep : Nat} {c : List (List Int)} (h : Ws sg deep c) (h6 : sg ≤ 6) (hd : deep ≤ 16) : CodeB 390 16 (cw c) := by
  intro u hu
  obtain ⟨w, hw, rfl⟩ := List.mem_map.mp hu
  obtain ⟨h1, h2⟩ := h.1 w hw
  obtain ⟨q1, q2⟩ := lg_iw h6 (by omega) h2
  exact ⟨itB_tup q1 (by decide) (by rw [iw_len]; omega), ⟨_, rfl⟩, fun _ => by simp only [wDep, q2]; decide⟩
theorem code_vl {sg : Int} {deep : Nat} {c : List (List Int)} (h : Ws sg deep c) (h6 : sg ≤ 6) (hd : deep ≤ 16) (hl : c.length ≤ 16) : Vl (.tup (cw c)) := by
  refine Vl.tup (c := 390) (fun u hu => itB_p (code_b h h6 hd u hu).1) ?_
  rw [cw_len]
  have : c.length * (390 + 2) ≤ 16 * 392 := Nat.mul_le_mul hl (by decide)
  omega
def isTupW (w : W) : Bool := match w with | .tup _ => true | _ => false
theorem tg_tupW {w : W} (g : good w = true) (S : Store) : ∃ t, tgOf S w = some t ∧ isT t .tuple = isTupW w := by
  cases w <;> first | (exact ⟨_, rfl, rfl⟩) | (simp only [good] at g; cases g)
theorem tupW_iff {w : W} (h : isTupW w = true) : ∃ vs, w = .tup vs := by
  cases w <;> first | exact ⟨_, rfl⟩ | cases h
abbrev fullW : W := .tup (cw (wordsF 2 4))
theorem full_ce : ceW 2 fullW = .non := by rfl
theorem full_vl : Vl fullW := ⟨by decide +kernel, by decide +kernel, by decide +kernel, .inl (by unfold Unm; decide +kernel)⟩
theorem full5_ce : ceW 2 (.tup (W.tup (List.replicate (Int.toNat 5) [W.int 0]).flatten :: cw (wordsF 2 4))) = .tup [.non, .str "code"] := by rfl
theorem full5_vl : Vl (.tup (W.tup (List.replicate (Int.toNat 5) [W.int 0]).flatten :: cw (wordsF 2 4))) := ⟨by decide +kernel, by decide +kernel, by decide +kernel, .inl (by unfold Unm; decide +kernel)⟩
theorem full6_ce : ceW 2 (.tup (cw (wordsF 2 4) ++ [W.tup (List.replicate (Int.toNat 5) [W.int 1]).flatten])) = .tup [.non, .str "code"] := by rfl
theorem full6_vl : Vl (.tup (cw (wordsF 2 4) ++ [W.tup (List.replicate (Int.toNat 5) [W.int 1]).flatten])) := ⟨by decide +kernel, by decide +kernel, by decide +kernel, .inl (by unfold Unm; decide +kernel)⟩
abbrev cdW : W := .tup [.non, .str "code"]
theorem rep_first0 : ReprOk (.lst [.non, cdW, cdW]) := ⟨by decide +kernel, by rw [sizeLine_eq]; decide +kernel, by decide +kernel, by decide +kernel⟩
theorem rep_first (S : Store) : ReprOk (deloc S (.lst [.non, cdW, cdW])) := rep_first0
theorem rep_last {S : Store} {ls : List Int} (h : ∀ x ∈ ls, 0 ≤ x ∧ x ≤ 16) (hl : ls.length ≤ 16) : ReprOk (deloc S (.tup (iw ls))) ∧ deloc S (.tup (iw ls)) = .tup (iw ls) :=
  (Sml.ofI (ns := ls) fun n hn => by have := h n hn; omega).rep (by omega) S

def joinF (c : List (List Int)) (ks : List Nat) : List Int := ks.flatMap fun k => c.getD k []
def keysW (ks : List Nat) : List W := iw (ks.map fun (k : Nat) => (k : Int))
def sp_joined : FL.Spec := fun ws S Q => ∃ (c : List (List Int)) (ks : List Nat), ws = [.tup (cw c), .tup (keysW ks)] ∧ c.length ≤ 1000 ∧ ks.length ≤ 1000 ∧ (∀ k ∈ ks, k < c.length) ∧ (∀ w ∈ c, w.length ≤ 1000) ∧ ∀ S', (∀ d N, DeckAt S d N → DeckAt S' d N) → Q (.tup (iw (joinF c ks))) S'
theorem sp_joined_len : ∀ ws S Q, sp_joined ws S Q → ws.length = 2 := by rintro _ _ _ ⟨d, m, rfl, _⟩; rfl
/-- no word begins another one -/
def PF (c : List (List Int)) : Prop := ∀ (i j : Nat) (u v : List Int), c[i]? = some u → c[j]? = some v → u <+: v → i = j
/-- what is told of the beginnings of the first i words -/
structure KS (c : List (List Int)) (i : Nat) (ks : List (List Key)) (vs : List W) : Prop where
  nd : ks.Nodup
  ln : ks.length ≤ 100 * i
  wd : ∀ j w, j < i → c[j]? = some w → getG ks vs (kI w) = some (.int (j : Nat))
  pr : ∀ j w n, j < i → c[j]? = some w → n < w.length → getG ks vs (kI (w.take n)) = some .non
def sp_keys_by_start : FL.Spec := fun ws S Q => ∃ c : List (List Int), ws = [.tup (cw c)] ∧ c.length ≤ 1000 ∧ (∀ w ∈ c, w.length ≤ 50) ∧ PF c ∧ ∀ n S' ks vs, n < S'.length → S'[n]? = some (some (.dct ks vs)) → KS c c.length ks vs → (∀ d N, DeckAt S d N → d ≠ n ∧ DeckAt S' d N) → Q (.loc n) S'
theorem sp_keys_by_start_len : ∀ ws S Q, sp_keys_by_start ws S Q → ws.length = 1 := by rintro _ _ _ ⟨d, rfl, _⟩; rfl
def sp_read : FL.Spec := fun ws S Q => ∃ (sg : Int) (c : List (List Int)) (ks : List Nat), ws = [.int sg, .tup (cw c), .tup (iw (joinF c ks))] ∧ c.length ≤ 1000 ∧ (∀ w ∈ c, w.length ≤ 50) ∧ PF c ∧ ks.length ≤ 10000 ∧ (∀ k ∈ ks, ∃ w, c[k]? = some w ∧ w ≠ []) ∧ (∀ w ∈ c, ∀ x ∈ w, 0 ≤ x ∧ x < sg) ∧ ∀ S', (∀ d N, DeckAt S d N → DeckAt S' d N) → Q (.tup (keysW ks)) S'
theorem sp_read_len : ∀ ws S Q, sp_read ws S Q → ws.length = 3 := by rintro _ _ _ ⟨sg, c, ks, rfl, _⟩; rfl
theorem kI_inj : ∀ {a b : List Int}, kI a = kI b → a = b
  | [], [], _ => rfl
  | [], _ :: _, h => by cases h
  | _ :: _, [], h => by cases h
  | x :: xs, y :: ys, h => by
    have h' : Sum.inl x :: kI xs = (Sum.inl y :: kI ys : List Key) := h
    obtain ⟨h1, h2⟩ := List.cons.inj h'
    rw [Sum.inl.inj h1, kI_inj h2]
theorem get_put {κ : Type} [DecidableEq κ] : ∀ (ks : List κ) (vs : List W) (k k' : κ) (w : W), getG (putG ks vs k w).1 (putG ks vs k w).2 k' = if k = k' then some w else getG ks vs k'
  | [], [], k, k', w => rfl
  | [], _ :: _, k, k', w => rfl
  | _ :: _, [], k, k', w => rfl
  | a :: ks, v :: vs, k, k', w => by
    have ih := get_put ks vs k k' w
    have e : putG (a :: ks) (v :: vs) k w = if a = k then (a :: ks, w :: vs) else (a :: (putG ks vs k w).1, v :: (putG ks vs k w).2) := rfl
    rw [e]
    by_cases h : a = k
    · subst h
      rw [if_pos rfl]
      show (if a = k' then some w else getG ks vs k') = if a = k' then some w else (if a = k' then some v else getG ks vs k')
      by_cases h2 : a = k'
      · rw [if_pos h2, if_pos h2]
      · rw [if_neg h2, if_neg h2, if_neg h2]
    · rw [if_neg h]
      show (if a = k' then some v else getG (putG ks vs k w).1 (putG ks vs k w).2 k') = if k = k' then some w else (if a = k' then some v else getG ks vs k')
      rw [ih]
      by_cases h2 : a = k'
      · subst h2
        rw [if_pos rfl, if_neg fun z => h z.symm, if_pos rfl]
      · rw [if_neg h2, if_neg h2]
theorem put_mem {κ : Type} [DecidableEq κ] : ∀ (ks : List κ) (vs : List W) (k : κ) (w : W) (x : κ), x ∈ (putG ks vs k w).1 → x = k ∨ x ∈ ks
  | [], [], k, w, x, h => .inl (List.mem_singleton.mp h)
  | [], _ :: _, k, w, x, h => .inl (List.mem_singleton.mp h)
  | _ :: _, [], k, w, x, h => .inl (List.mem_singleton.mp h)
  | a :: ks, v :: vs, k, w, x, h => by
    have e : putG (a :: ks) (v :: vs) k w = if a = k then (a :: ks, w :: vs) else (a :: (putG ks vs k w).1, v :: (putG ks vs k w).2) := rfl
    rw [e] at h
    by_cases h2 : a = k
    · rw [if_pos h2] at h; exact .inr h
    · rw [if_neg h2] at h
      rcases List.mem_cons.mp h with h | h
      · exact .inr (by rw [h]; exact List.mem_cons_self ..)
      · rcases put_mem ks vs k w x h with q | q
        · exact .inl q
        · exact .inr (List.mem_cons_of_mem _ q)
theorem put_nd {κ : Type} [DecidableEq κ] : ∀ (ks : List κ) (vs : List W) (k : κ) (w : W), ks.Nodup → (putG ks vs k w).1.Nodup ∧ (putG ks vs k w).1.length ≤ ks.length + 1
  | [], [], k, w, _ => ⟨by simp [putG], by simp [putG]⟩
  | [], _ :: _, k, w, _ => ⟨by simp [putG], by simp [putG]⟩
  | _ :: _, [], k, w, _ => ⟨by simp [putG], by simp [putG]⟩
  | a :: ks, v :: vs, k, w, h => by
    have h' := List.nodup_cons.mp h
    obtain ⟨i1, i2⟩ := put_nd ks vs k w h'.2
    have e : putG (a :: ks) (v :: vs) k w = if a = k then (a :: ks, w :: vs) else (a :: (putG ks vs k w).1, v :: (putG ks vs k w).2) := rfl
    rw [e]
    by_cases h2 : a = k
    · rw [if_pos h2]; exact ⟨h, Nat.le_succ _⟩
    · rw [if_neg h2]
      refine ⟨List.nodup_cons.mpr ⟨fun z => ?_, i1⟩, by show (putG ks vs k w).1.length + 1 ≤ ks.length + 1 + 1; omega⟩
      rcases put_mem ks vs k w a z with q | q
      · exact h2 q
      · exact h'.1 q
/-- .. and of the first n beginnings of the next one -/
structure KM (c : List (List Int)) (i : Nat) (w : List Int) (n : Nat) (ks : List (List Key)) (vs : List W) : Prop where
  nd : ks.Nodup
  ln : ks.length ≤ 100 * i + n
  wd : ∀ j u, j < i → c[j]? = some u → getG ks vs (kI u) = some (.int (j : Nat))
  pr : ∀ j u m, j < i → c[j]? = some u → m < u.length → getG ks vs (kI (u.take m)) = some .non
  me : ∀ m, m < n → getG ks vs (kI (w.take m)) = some .non
theorem KM.step {c : List (List Int)} {i n : Nat} {w : List Int} {ks : List (List Key)} {vs : List W} (h : KM c i w n ks vs) (hp : PF c) (e : c[i]? = some w) : KM c i w (n + 1) (putG ks vs (kI (w.take n)) .non).1 (putG ks vs (kI (w.take n)) .non).2 := by
  obtain ⟨p1, p2⟩ := put_nd ks vs (kI (w.take n)) .non h.nd
  refine ⟨p1, by have := h.ln; omega, fun j u hj ej => ?_, fun j u m hj ej hm => ?_, fun m hm => ?_⟩
  · rw [get_put, if_neg, h.wd j u hj ej]
    intro z
    have := kI_inj z
    have : j = i := hp j i u w ej e (by rw [← this]; exact List.take_prefix ..)
    omega
  · rw [get_put]
    split
    · rfl
    · exact h.pr j u m hj ej hm
  · rw [get_put]
    split
    · rfl
    · rename_i hne
      have : m < n := by
        rcases Nat.lt_or_ge m n with q | q
        · exact q
        · have : m = n := by omega
          subst this
          exact absurd rfl hne
      exact h.me m this
theorem KM.last {c : List (List Int)} {i : Nat} {w : List Int} {ks : List (List Key)} {vs : List W} (h : KM c i w w.length ks vs) (hp : PF c) (e : c[i]? = some w) (hw : w.length ≤ 50) : KS c (i + 1) (putG ks vs (kI w) (.int (i : Nat))).1 (putG ks vs (kI w) (.int (i : Nat))).2 := by
  obtain ⟨p1, p2⟩ := put_nd ks vs (kI w) (.int (i : Nat)) h.nd
  refine ⟨p1, by have := h.ln; omega, fun j u hj ej => ?_, fun j u m hj ej hm => ?_⟩
  · rw [get_put]
    split
    · rename_i z
      have z' := kI_inj z
      subst z'
      have : i = j := hp i j w w e ej (List.prefix_refl _)
      rw [this]
    · rename_i z
      have : j < i := by
        rcases Nat.lt_or_ge j i with q | q
        · exact q
        · have : j = i := by omega
          subst this
          rw [e] at ej
          cases ej
          exact absurd rfl z
      exact h.wd j u this ej
  · rw [get_put, if_neg]
    · by_cases hji : j = i
      · subst hji
        rw [e] at ej
        cases ej
        exact h.me m hm
      · exact h.pr j u m (by omega) ej hm
    · intro z
      have z' := kI_inj z
      have : i = j := hp i j w u e ej (by rw [z']; exact List.take_prefix ..)
      subst this
      rw [e] at ej
      cases ej
      have := congrArg List.length z'
      rw [List.length_take] at this
      omega
theorem KS.start {c : List (List Int)} {i : Nat} {w : List Int} {ks : List (List Key)} {vs : List W} (h : KS c i ks vs) : KM c i w 0 ks vs := ⟨h.nd, h.ln, h.wd, h.pr, fun _ z => absurd z (Nat.not_lt_zero _)⟩
theorem join_len {c : List (List Int)} (hw : ∀ w ∈ c, w.length ≤ 1000) : ∀ ks : List Nat, (joinF c ks).length ≤ ks.length * 1000
  | [] => Nat.zero_le _
  | k :: ks => by
    have h1 := join_len hw ks
    have h2 : (c.getD k []).length ≤ 1000 := by
      rw [List.getD_eq_getElem?_getD]
      cases e : c[k]? with
      | none => exact Nat.zero_le _
      | some w => exact hw w (List.mem_of_getElem? e)
    show (c.getD k [] ++ joinF c ks).length ≤ (ks.length + 1) * 1000
    rw [List.length_append]
    omega
theorem join_app (c : List (List Int)) (a b : List Nat) : joinF c (a ++ b) = joinF c a ++ joinF c b := List.flatMap_append ..
theorem join_take {c : List (List Int)} {ks : List Nat} {i k : Nat} {w : List Int} (e : ks[i]? = some k) (ew : c[k]? = some w) : joinF c (ks.take (i + 1)) = joinF c (ks.take i) ++ w := by
  rw [List.take_add_one, e, join_app]
  show joinF c (ks.take i) ++ (c.getD k [] ++ []) = _
  rw [List.getD_eq_getElem?_getD, ew, List.append_nil]
  rfl
theorem iw_app (a b : List Int) : iw a ++ iw b = iw (a ++ b) := by unfold iw; rw [List.map_append]
theorem keysW_at {ks : List Nat} {i : Nat} {x : W} (e : (keysW ks)[i]? = some x) : ∃ k, ks[i]? = some k ∧ x = .int (k : Nat) := by
  unfold keysW iw at e
  rw [List.map_map, List.getElem?_map] at e
  obtain ⟨k, h1, h2⟩ := Option.map_eq_some_iff.mp e
  exact ⟨k, h1, h2.symm⟩
/-- where the reading of joined words stands: done keys, the word begun, what is left -/
structure Rd (c : List (List Int)) (ks done : List Nat) (start rem : List Int) (rest : List Nat) : Prop where
  ks : ks = done ++ rest
  eq : start ++ rem = joinF c rest
  st : start = [] ∨ ∃ k r w t, rest = k :: r ∧ c[k]? = some w ∧ w = start ++ t ∧ t ≠ []
theorem join_cons {c : List (List Int)} {k : Nat} {r : List Nat} {w : List Int} (ew : c[k]? = some w) : joinF c (k :: r) = w ++ joinF c r := by
  show c.getD k [] ++ joinF c r = _
  rw [List.getD_eq_getElem?_getD, ew]
  rfl
/-- with the next sign a word is there, or it is still begun -/
theorem Rd.next {c : List (List Int)} {ks done rest : List Nat} {start rem : List Int} {x : Int} (h : Rd c ks done start (x :: rem) rest) (hk : ∀ k ∈ ks, ∃ w, c[k]? = some w ∧ w ≠ []) :
    ∃ k r w, rest = k :: r ∧ c[k]? = some w ∧ ((w = start ++ [x] ∧ Rd c ks (done ++ [k]) [] rem r) ∨ (∃ n, n < w.length ∧ w.take n = start ++ [x] ∧ Rd c ks done (start ++ [x]) rem rest)) := by
  have main : ∀ k r w t, rest = k :: r → c[k]? = some w → w = start ++ t → t ≠ [] → ∃ k r w, rest = k :: r ∧ c[k]? = some w ∧ ((w = start ++ [x] ∧ Rd c ks (done ++ [k]) [] rem r) ∨ (∃ n, n < w.length ∧ w.take n = start ++ [x] ∧ Rd c ks done (start ++ [x]) rem rest)) := by
    intro k r w t er ew et ht
    refine ⟨k, r, w, er, ew, ?_⟩
    have e1 : start ++ x :: rem = w ++ joinF c r := by rw [← join_cons ew, ← er]; exact h.eq
    subst et
    rw [List.append_assoc] at e1
    have e2 := List.append_cancel_left e1
    cases t with
    | nil => exact absurd rfl ht
    | cons y t =>
      have e3 : x = y ∧ rem = t ++ joinF c r := by
        have := List.cons.inj e2
        exact this
      obtain ⟨rfl, e4⟩ := e3
      cases t with
      | nil => exact .inl ⟨rfl, by rw [h.ks, er, List.append_assoc]; rfl, e4, .inl rfl⟩
      | cons z t =>
        refine .inr ⟨start.length + 1, by simp, ?_, h.ks, ?_, .inr ⟨k, r, _, z :: t, er, ew, by simp, by simp⟩⟩
        · rw [show start ++ x :: z :: t = (start ++ [x]) ++ (z :: t) by simp, List.take_left' (by simp)]
        · rw [er, join_cons ew, e4]; simp
  rcases h.st with e | ⟨k, r, w, t, h1, h2, h3, h4⟩
  · subst e
    cases hr : rest with
    | nil =>
      have := h.eq
      rw [hr] at this
      cases this
    | cons k r =>
      obtain ⟨w, ew, hw⟩ := hk k (by rw [h.ks, hr]; simp)
      have q := main k r w w hr ew rfl hw
      rw [hr] at q
      exact q
  · exact main k r w t h1 h2 h3 h4
theorem Rd.done {c : List (List Int)} {ks done rest : List Nat} {start : List Int} (h : Rd c ks done start [] rest) (hk : ∀ k ∈ ks, ∃ w, c[k]? = some w ∧ w ≠ []) : start = [] ∧ done = ks := by
  have he := h.eq
  rw [List.append_nil] at he
  rcases h.st with e | ⟨k, r, w, t, h1, h2, h3, h4⟩
  · refine ⟨e, ?_⟩
    subst e
    cases hr : rest with
    | nil => rw [h.ks, hr, List.append_nil]
    | cons k r =>
      obtain ⟨w, ew, hw⟩ := hk k (by rw [h.ks, hr]; simp)
      rw [hr, join_cons ew] at he
      cases w with
      | nil => exact absurd rfl hw
      | cons _ _ => cases he
  · rw [h1, join_cons h2, h3] at he
    have := congrArg List.length he
    rw [List.length_append, List.length_append] at this
    cases t with
    | nil => exact absurd rfl h4
    | cons _ _ => simp at this; omega
theorem join_len50 {c : List (List Int)} (hw : ∀ w ∈ c, w.length ≤ 50) : ∀ ks : List Nat, (joinF c ks).length ≤ ks.length * 50
  | [] => Nat.zero_le _
  | k :: ks => by
    have h1 := join_len50 hw ks
    have h2 : (c.getD k []).length ≤ 50 := by
      rw [List.getD_eq_getElem?_getD]
      cases e : c[k]? with
      | none => exact Nat.zero_le _
      | some w => exact hw w (List.mem_of_getElem? e)
    show (c.getD k [] ++ joinF c ks).length ≤ (ks.length + 1) * 50
    rw [List.length_append]
    omega
theorem pf_of {c : List (List Int)} (h : PFp c) : PF c := by
  intro i j u v ei ej hp
  obtain ⟨hi, rfl⟩ := List.getElem?_eq_some_iff.mp ei
  obtain ⟨hj, rfl⟩ := List.getElem?_eq_some_iff.mp ej
  rcases Nat.lt_trichotomy i j with q | q | q
  · exact absurd hp (List.pairwise_iff_getElem.mp h i j hi hj q).no.1
  · exact q
  · exact absurd hp (List.pairwise_iff_getElem.mp h j i hj hi q).no.2
theorem ends_gen {t : TSD} {D : DEnds} {τ : EnvD} {S : Store} (h : ∀ D', D' = D → t D' τ S) : t D τ S := h D rfl
theorem cw_eqG : ∀ c : List (List Int), eqGs (cw c) = true ∧ wDeps (cw c) ≤ 1
  | [] => ⟨rfl, Nat.zero_le _⟩
  | w :: c => by
    obtain ⟨h1, h2⟩ := cw_eqG c
    refine ⟨?_, ?_⟩
    · show (eqG (.tup (iw w)) && eqGs (cw c)) = true
      rw [h1]
      simp only [eqG, eqGs_iw, Bool.and_self]
    · show max (wDep (.tup (iw w))) (wDeps (cw c)) ≤ 1
      simp only [wDep, deps_iw]
      omega
theorem ne_words {sg : Int} {deep : Nat} {c : List (List Int)} (h : Ws sg deep c) (he : eqWs (cw c) [W.tup []] = false) : ∀ w ∈ c, w ≠ [] := by
  intro w hw e
  subst e
  match c, h, he, hw with
  | [u], h, he, hw =>
    have : u = [] := (List.mem_singleton.mp hw).symm
    subst this
    cases (show eqWs (cw [[]]) [W.tup []] = true from rfl).symm.trans he
  | u :: v :: r, h, he, hw =>
    have hp := h.2
    rcases List.mem_cons.mp hw with q | q
    · subst q
      exact ((List.pairwise_cons.mp hp).1 v (List.mem_cons_self ..)).no.1 List.nil_prefix
    · exact ((List.pairwise_cons.mp hp).1 [] q).no.2 List.nil_prefix
structure ItD (u : W) : Prop where
  p : ItP 72003 u
  h : hD u = false
theorem itI {ns : List Int} (h : small ns) (hl : ns.length ≤ 3000) : ItD (.tup (iw ns)) := by
  obtain ⟨h1, h2, h3, h4, h5⟩ := iw_ok h
  exact ⟨⟨by simpa only [good] using h1, by simp only [wCost]; omega, by simp only [wDep]; omega, by unfold Unm; simp only [hD, h4]; rfl⟩, by simpa only [hD] using h4⟩
theorem itC {sg : Int} {deep : Nat} {c : List (List Int)} (h : Ws sg deep c) (h6 : sg ≤ 6) (hd : deep ≤ 16) (hl : c.length ≤ 16) : ItD (.tup (cw c)) := by
  have cb := code_b h h6 hd
  obtain ⟨h1, h2, h3⟩ := items_of (c := 390) (us := cw c) fun u hu => itB_p (cb u hu).1
  have h4 : hDs (cw c) = false := no_dict fun u hu => by
    obtain ⟨a, ⟨us', rfl⟩, _⟩ := cb u hu
    simpa only [hD] using (itB_lg a).1.h
  have h5 : wDeps (cw c) ≤ 5 := deps_le fun u hu => (cb u hu).2.2 rfl
  rw [cw_len] at h2
  have h6 : c.length * (390 + 2) ≤ 16 * 392 := Nat.mul_le_mul hl (by decide)
  exact ⟨⟨by simpa only [good] using h1, by simp only [wCost]; omega, by simp only [wDep]; omega, by unfold Unm; simp only [hD, h4]; rfl⟩, by simpa only [hD] using h4⟩
theorem repL {us : List W} (h : ∀ u ∈ us, ItD u) (hl : us.length ≤ 10) (S : Store) : ReprOk (deloc S (.lst us)) := by
  obtain ⟨h1, h2, h3⟩ := items_of (c := 72003) (us := us) fun u hu => (h u hu).p
  have h4 : hDs us = false := no_dict fun u hu => (h u hu).h
  have h5 : us.length * (72003 + 2) ≤ 10 * 72005 := Nat.mul_le_mul hl (by decide)
  show ReprOk (.lst us)
  exact ⟨by simpa only [good] using h1, by simp only [wCost]; rw [sizeLine_eq]; omega, by simp only [wDep]; omega, by simp only [hD, h4]; rfl⟩
theorem rep1 {u : W} (h : ItD u) (S : Store) : ReprOk (deloc S u) := by
  rw [good_deloc h.p.g]
  have := h.p.c
  have := h.p.d
  exact ⟨h.p.g, by rw [sizeLine_eq]; omega, by omega, h.p.m⟩
theorem keys_small {ks : List Nat} (h : ∀ k ∈ ks, k < 1000) : small (ks.map fun (k : Nat) => (k : Int)) := fun n hn => by
  obtain ⟨k, hk, rfl⟩ := List.mem_map.mp hn
  have := h k hk
  omega
theorem join_small {sg : Int} {deep : Nat} {c : List (List Int)} (h : Ws sg deep c) (h6 : sg ≤ 6) (ks : List Nat) : small (joinF c ks) := fun n hn => by
  obtain ⟨k, _, h2⟩ := List.mem_flatMap.mp hn
  rw [List.getD_eq_getElem?_getD] at h2
  cases e : c[k]? with
  | none => rw [e] at h2; cases h2
  | some w =>
    rw [e] at h2
    have := (h.1 w (List.mem_of_getElem? e)).2 n h2
    omega
theorem join_len16 {c : List (List Int)} (hw : ∀ w ∈ c, w.length ≤ 16) : ∀ ks : List Nat, (joinF c ks).length ≤ ks.length * 16
  | [] => Nat.zero_le _
  | k :: ks => by
    have h1 := join_len16 hw ks
    have h2 : (c.getD k []).length ≤ 16 := by
      rw [List.getD_eq_getElem?_getD]
      cases e : c[k]? with
      | none => exact Nat.zero_le _
      | some w => exact hw w (List.mem_of_getElem? e)
    show (c.getD k [] ++ joinF c ks).length ≤ (ks.length + 1) * 16
    rw [List.length_append]
    omega
theorem keysW_len (ks : List Nat) : (keysW ks).length = ks.length := by unfold keysW; rw [iw_len, List.length_map]
theorem keysW_app (a b : List Nat) : keysW a ++ keysW b = keysW (a ++ b) := by unfold keysW; rw [iw_app, List.map_append]
theorem del_lst (S : Store) (us : List W) : deloc S (.lst us) = .lst us := rfl
theorem del_tup (S : Store) (us : List W) : deloc S (.tup us) = .tup us := rfl
theorem at_iw {a : List Int} {i : Nat} {k x : Int} (e : a[i]? = some x) (hk : k = (i : Nat)) : L2.atI (iw a) k = some (.int x) := by
  have hl := (List.getElem?_eq_some_iff.mp e).1
  subst hk
  obtain ⟨y, h1, _, h2⟩ := atI_of (xs := iw a) (i := (i : Int)) (by omega) (by rw [iw_len]; omega)
  have e2 : ((i : Nat) : Int).toNat = i := by omega
  have e3 : (iw a)[i]? = some (.int x) := by unfold iw; rw [List.getElem?_map, e]; rfl
  rw [e2, e3] at h2
  cases h2
  exact h1
theorem Pre.refl (S : Store) : Pre S S := ⟨[], (List.append_nil _).symm⟩
theorem Pre.trans {S T U : Store} (h : Pre S T) (k : Pre T U) : Pre S U := by
  obtain ⟨L, rfl⟩ := h
  obtain ⟨M, rfl⟩ := k
  exact ⟨L ++ M, List.append_assoc ..⟩
theorem lcI_filt {g : W → EnvD → Option EnvD} {tt : TTD} {te : TD} {τ : EnvD} {S : Store} {Q : List W → Store → Prop} {xs : List W} (p : W → Bool) (f : W → W) (h : ∀ x ∈ xs, ∃ τ1, g x τ = some τ1 ∧ (∀ R : Bool → Store → Prop, R (p x) S → tt τ1 S R) ∧ (p x = true → ∀ R : WK, R (f x) S → te τ1 S R)) (hq : Q ((xs.filter p).map f) S) : lcI g tt te τ xs S Q := by
  refine ⟨fun i acc S' => S' = S ∧ acc = ((xs.take i).filter p).map f, ⟨rfl, rfl⟩, fun i x acc S' e _ hp => ?_, fun acc S' hp => ?_⟩
  · obtain ⟨rfl, rfl⟩ := hp
    obtain ⟨τ1, e1, h1, h2⟩ := h x (List.mem_of_getElem? e)
    rw [e1]
    show tt _ _ _
    refine h1 _ ?_
    cases hb : p x with
    | true =>
      rw [if_pos rfl]
      refine h2 hb _ ⟨rfl, ?_⟩
      rw [List.take_add_one, e, List.filter_append, List.map_append]
      simp [hb]
    | false =>
      rw [if_neg (by decide)]
      refine ⟨rfl, ?_⟩
      rw [List.take_add_one, e, List.filter_append, List.map_append]
      simp [hb]
  · obtain ⟨rfl, rfl⟩ := hp
    rw [List.take_length]
    exact hq
theorem words_mem {sg : Nat} : ∀ (n : Nat) (w : List Int), w ∈ wordsF sg n ↔ w.length = n ∧ ∀ x ∈ w, 0 ≤ x ∧ x < sg
  | 0, w => by
    show w ∈ [[]] ↔ _
    rw [List.mem_singleton]
    refine ⟨fun h => by subst h; exact ⟨rfl, fun _ h => nomatch h⟩, fun h => List.eq_nil_of_length_eq_zero h.1⟩
  | n + 1, w => by
    show w ∈ (wordsF sg n).flatMap (extF sg) ↔ _
    rw [List.mem_flatMap]
    refine ⟨fun ⟨u, hu, hw⟩ => ?_, fun ⟨hl, hx⟩ => ?_⟩
    · obtain ⟨h1, h2⟩ := (words_mem n u).mp hu
      obtain ⟨i, hi, rfl⟩ := List.mem_map.mp hw
      have := List.mem_range.mp hi
      refine ⟨by rw [List.length_append, h1]; rfl, fun x hx => ?_⟩
      rcases List.mem_append.mp hx with hx | hx
      · exact h2 x hx
      · have : x = (i : Int) := by simpa using hx
        omega
    · rcases List.eq_nil_or_concat w with rfl | ⟨u, z, rfl⟩
      · cases hl
      · have hz := hx z (by simp)
        refine ⟨u, (words_mem n u).mpr ⟨by simp at hl; omega, fun x hxu => hx x (by simp [hxu])⟩, ?_⟩
        unfold extF
        refine List.mem_map.mpr ⟨z.toNat, List.mem_range.mpr (by omega), ?_⟩
        rw [Int.toNat_of_nonneg hz.1]
        simp
theorem ext_range (sg : Nat) (w : List Int) : (rangeW 0 ((sg : Nat) : Int).toNat).map (fun x => W.tup (iw w ++ [x])) = cw (extF sg w) := by
  have e0 : ((sg : Nat) : Int).toNat = sg := by omega
  rw [e0]
  unfold rangeW extF cw
  rw [List.map_map, List.map_map]
  apply List.map_congr_left
  intro i _
  show W.tup (iw w ++ [W.int (0 + (i : Nat))]) = W.tup (iw (w ++ [(i : Int)]))
  unfold iw
  rw [List.map_append, Int.zero_add]
  rfl
theorem words_len (sg : Nat) : ∀ n, (wordsF sg n).length = sg ^ n
  | 0 => rfl
  | n + 1 => by
    have : ∀ xs : List (List Int), (xs.flatMap (extF sg)).length = xs.length * sg := by
      intro xs
      induction xs with
      | nil => simp
      | cons x xs ih =>
        rw [List.flatMap_cons, List.length_append, ih, List.length_cons, Nat.succ_mul]
        show ((List.range sg).map _).length + _ = _
        rw [List.length_map, List.length_range]
        omega
    show ((wordsF sg n).flatMap (extF sg)).length = _
    rw [this, words_len, Nat.pow_succ]
theorem words_cnt (sg : Nat) (hsg : sg ≤ 4) (i : Nat) (hi : i ≤ 4) : (wordsF sg i).length ≤ 256 := by
  rw [words_len]
  exact Nat.le_trans (Nat.pow_le_pow_left hsg i) (Nat.le_trans (Nat.pow_le_pow_right (by decide) hi) (by decide))
def ofW : W → List Int
  | .tup us => (intsOf us).getD []
  | _ => []
theorem ofW_iw (u : List Int) : ofW (.tup (iw u)) = u := by
  show (intsOf (iw u)).getD [] = u
  unfold iw
  rw [intsOf_map]
  rfl
def stB (a b : List Int) : Bool := decide (b.take a.length = a)
theorem filt_cw (c : List (List Int)) (p : W → Bool) (q : List Int → Bool) (h : ∀ u, p (.tup (iw u)) = q u) : (cw c).filter p = cw (c.filter q) := by
  unfold cw
  rw [List.filter_map]
  congr 1
  congr 1
  funext u
  exact h u
theorem for_gen' {ti : TAD} {g : W → EnvD → Option EnvD} {tb : TSD} {D : DEnds} {τ : EnvD} {S : Store} (h : ∀ tb', tb' = tb → sFor ti g tb' D τ S) : sFor ti g tb D τ S := h tb rfl
theorem itN {i : Int} (h : i.natAbs < 1000000) : ItD (.int i) := by
  obtain ⟨h1, h2⟩ := int_c h
  exact ⟨⟨h1, by omega, by show 0 ≤ 6; omega, by unfold Unm; rfl⟩, rfl⟩
theorem at_nat {xs : List W} {i : Nat} {k : Int} {w : W} (e : xs[i]? = some w) (hk : k = (i : Nat)) : L2.atI xs k = some w := by
  have hl := (List.getElem?_eq_some_iff.mp e).1
  subst hk
  obtain ⟨x, h1, _, h2⟩ := atI_of (xs := xs) (i := (i : Int)) (by omega) (by omega)
  have e2 : ((i : Nat) : Int).toNat = i := by omega
  rw [e2, e] at h2
  cases h2
  exact h1
theorem flat_le {α : Type} {f : Nat → List α} {m : Nat} : ∀ {xs : List Nat}, (∀ x ∈ xs, (f x).length ≤ m) → (xs.flatMap f).length ≤ xs.length * m
  | [], _ => by simp
  | x :: xs, h => by
    rw [List.flatMap_cons, List.length_append, List.length_cons, Nat.succ_mul]
    have h1 := h x List.mem_cons_self
    have h2 := flat_le (f := f) (m := m) (xs := xs) fun y hy => h y (List.mem_cons_of_mem _ hy)
    omega
theorem rangeD_at {hi : Int} {n i : Nat} {x : W} (e : (rangeD hi n)[i]? = some x) : i < n ∧ x = .int (hi - (i : Nat)) := by
  unfold rangeD at e
  rw [List.getElem?_map] at e
  obtain ⟨j, e1, e2⟩ := Option.map_eq_some_iff.mp e
  obtain ⟨e3, e4⟩ := List.getElem?_eq_some_iff.mp e1
  rw [List.length_range] at e3
  rw [List.getElem_range] at e4
  subst e4
  exact ⟨e3, e2.symm⟩
def Sg (sg : Nat) (w : List Int) : Prop := ∀ x ∈ w, 0 ≤ x ∧ x < (sg : Nat)
theorem sg_at {sg : Nat} {w : List Int} (h : Sg sg w) (p : Nat) (hp : p < w.length) : 0 ≤ w.getD p 0 ∧ w.getD p 0 < (sg : Nat) ∧ w[p]? = some (w.getD p 0) := by
  have e : w.getD p 0 = w[p] := by rw [List.getD_eq_getElem?_getD, List.getElem?_eq_getElem hp]; rfl
  rw [e]
  have := h _ (List.getElem_mem hp)
  exact ⟨this.1, this.2, List.getElem?_eq_getElem hp⟩
theorem at_last (g : List W) (x : W) : L2.atI (g ++ [x]) (-1) = some x := by
  unfold L2.atI L2.ixN
  rw [if_neg (by decide), List.length_append, List.length_singleton, if_pos (by omega)]
  show (g ++ [x])[(-1 + ((g.length + 1 : Nat) : Int)).toNat]? = _
  rw [show (-1 + ((g.length + 1 : Nat) : Int)).toNat = g.length by omega]
  simp
theorem cut_init (g : List W) (x : W) : cutW (g ++ [x]) none (some (-1)) = g := by
  have e : HT.sIx (g ++ [x]).length (g ++ [x]).length (some (-1)) = g.length := by
    show (if (-1 : Int) < 0 then ((-1 : Int) + ((g ++ [x]).length : Nat)).toNat else min (-1 : Int).toNat (g ++ [x]).length) = _
    rw [if_pos (by decide), List.length_append, List.length_singleton]
    omega
  unfold cutW
  rw [HT.sIx_none, e, List.drop_zero, Nat.sub_zero]
  simp
theorem iw_snoc (g : List Int) (x : Int) : iw (g ++ [x]) = iw g ++ [W.int x] := by unfold iw; rw [List.map_append]; rfl
theorem flat_zero (n : Nat) : (List.replicate n [W.int 0]).flatten = iw (List.replicate n 0) := by
  induction n with
  | zero => rfl
  | succ n ih => rw [List.replicate_succ, List.flatten_cons, ih]; rfl
end CB
end
section
set_option autoImplicit false
namespace FL
open PySem PySem.Spec PyProof.Rows L2
/-! ### sorted(set(t)), t a tuple of ints -/
section
variable {X : Cx}
/-- the set that a tuple of ints makes -/
def stI (K : PySem.W.Frag) (w : World) : List V → Hp → VK → Prop := fun xs H Q => ∃ (l : Addr) (ns : List Int), xs = [V.ref l] ∧ SqT K H l (ns.map V.int) ∧ ns.length ≤ 1000 ∧ ∀ (a : Addr) (c : Nat), H a = none → c ≤ ns.length → Q (.ref a) (upd H a (SetO w a (fun j => decide (j ∈ ns)) c))
theorem cr_stI (hc : X.calm = true) : CallR X (.type "set") (stI X.K X.w) := by
  intro pins s σ H xs us Q I r h
  obtain ⟨l, ns, rfl, hl, hn, hq⟩ := h
  rw [Vals.ref1 r]
  obtain ⟨its, rv, pt, hz⟩ := I.tuple hl
  refine call_set_tupI ns (I.ok.hd hc) (show s.heap.IsTuple l its.toArray from pt) (ints_of_vals rv) (by unfold scanBound; omega) fun h' tk c R hcn k => ?_
  have fr : H s.heap.objs.size = none := I.hok.fresh (Nat.le_refl _)
  exact ⟨V.ref s.heap.objs.size, _, I.laid (t' := tk) k (Nat.le_refl _) (setO_new R), rfl, hq _ c fr hcn⟩
def dSortSetI (ta : TD) : TAD := fun τ S Q => ta τ S fun w S1 => ∃ ns : List Int, w = .tup (iw ns) ∧ ns.length < 64 ∧ ∀ ns' : List Int, ns'.Pairwise (· < ·) → (∀ k, k ∈ ns' ↔ k ∈ ns) → Q (iw ns') S1
theorem pdf_sortSetI {a : Expr} {ta : TD} {p p2 pos pos2 : Pos} (hc : X.calm = true) (hg : Gl X "sorted") (hm : X.mg "sorted" = none) (hg2 : Gl X "set") (hm2 : X.mg "set" = none) (ha : PD X a ta)
    (na : starEach [a] X.env = (false, eval a X.env) :: starEach [] X.env := by rfl) (nb : starEach [.Call (.Name "set" p2) [a] [] pos2] X.env = (false, eval (.Call (.Name "set" p2) [a] [] pos2) X.env) :: starEach [] X.env := by rfl) :
    PDF X (.Call (.Name "sorted" p) [.Call (.Name "set" p2) [a] [] pos2] [] pos) (dSortSetI ta) := by
  obtain ⟨tA, pA, kA⟩ := ha.ex
  have p1 := pe_callTy (p := p2) (pos := pos2) (cr_stI hc) hg2 hm2 (by decide +kernel) (pa_cons pA pa_nil na) (by decide) (by decide) na (by rfl)
  have p3 := pe_callB (p := p) (pos := pos) (cr_sortedSet hc) hg hm (by decide +kernel) (pa_cons p1 pa_nil nb) (by decide) (by decide) nb (by rfl)
  refine ⟨_, p3, fun γ C σ τ Qd Q hs hst h k => ?_⟩
  refine kA γ C σ τ _ _ hs hst h fun C1 v w h1 s1 st1 r1 => ?_
  obtain ⟨ns, rfl, hn, hq⟩ := h1
  cases r1 with
  | @tup l xs _ hl rs =>
    have ex := rs.ints
    subst ex
    refine ⟨l, ns, rfl, hl, by omega, fun a c fa hc' => ?_⟩
    have st2 : Step γ C1 γ (C1.put a (SetO X.w a (fun j => decide (j ∈ ns)) c)) := Step.new fa
    have s2 : Sim X.K γ (C1.put a (SetO X.w a (fun j => decide (j ∈ ns)) c)) := s1.new fa
    refine ⟨a, _, c, rfl, upd_same, by omega, fun ns' q hp hm' _ fq => ?_⟩
    exact newF (k.step (st1.trans st2)) s2 (RVs.of_ints ns') (hq ns' hp fun j => by rw [hm' j]; exact decide_eq_true_iff) q fq
end
/-! ### list and tuple of range(a, b) -/
section
variable {X : Cx} {a b : Expr} {ta tb : TD}
theorem rvs_rg {K : PySem.W.Frag} {γ : List Addr} {C : Cfg} (i j : Int) : RVs K γ C (rgV i j) (rangeW i (j - i).toNat) := by
  unfold rgV rangeW
  induction (List.range (j - i).toNat) with
  | nil => exact .nil
  | cons z zs ih => exact .cons (.int _) ih
def dTupRg2 (ta tb : TD) : TD := fun τ S Q => ta τ S fun x S1 => tb τ S1 fun y S2 => ∃ i j : Int, x = .int i ∧ y = .int j ∧ -1000000 ≤ i ∧ i ≤ 1000000 ∧ -1000000 ≤ j ∧ j ≤ 1000000 ∧ Q (.tup (rangeW i (j - i).toNat)) S2
theorem pd_tupRg2 {p p2 pos pos2 : Pos} (hc : X.calm = true) (hg : Gl X "tuple") (hm : X.mg "tuple" = none) (hg2 : Gl X "range") (hm2 : X.mg "range" = none) (ha : PD X a ta) (hb : PD X b tb)
    (na : starEach [a, b] X.env = (false, eval a X.env) :: starEach [b] X.env := by rfl) (nb : starEach [b] X.env = (false, eval b X.env) :: starEach [] X.env := by rfl) (hp : (backTo pos2 (starEach [b] X.env)).any (·.1) = false := by rfl)
    (nc : starEach [.Call (.Name "range" p2) [a, b] [] pos2] X.env = (false, eval (.Call (.Name "range" p2) [a, b] [] pos2) X.env) :: starEach [] X.env := by rfl) :
    PD X (.Call (.Name "tuple" p) [.Call (.Name "range" p2) [a, b] [] pos2] [] pos) (dTupRg2 ta tb) := by
  obtain ⟨tA, pA, kA⟩ := ha.ex
  obtain ⟨tB, pB, kB⟩ := hb.ex
  refine ⟨_, pe_tupRg hc hg hm (prg_2 hg2 hm2 pA pB na nb hp) nc, fun γ C σ τ Qd Q hs hst h k => ?_⟩
  refine kA γ C σ τ _ _ hs hst h fun C1 v w h1 s1 st1 r1 => kB γ C1 σ τ _ _ s1 (hst.step st1) h1 fun C2 v2 w2 h2 s2 st2 r2 => ?_
  obtain ⟨i, j, rfl, rfl, b1, b2, b3, b4, hq⟩ := h2
  cases r1
  cases r2
  exact ⟨i, j, rfl, rfl, ⟨by omega, by omega, by omega, by omega, by omega⟩, newTup (k.step (st1.trans st2)) s2 (rvs_rg i j) hq⟩
def dLstRg2 (ta tb : TD) : TAD := fun τ S Q => ta τ S fun x S1 => tb τ S1 fun y S2 => ∃ i j : Int, x = .int i ∧ y = .int j ∧ -1000000 ≤ i ∧ i ≤ 1000000 ∧ -1000000 ≤ j ∧ j ≤ 1000000 ∧ Q (rangeW i (j - i).toNat) S2
theorem pdf_lstRg2 {p p2 pos pos2 : Pos} (hc : X.calm = true) (hg : Gl X "list") (hm : X.mg "list" = none) (hg2 : Gl X "range") (hm2 : X.mg "range" = none) (ha : PD X a ta) (hb : PD X b tb)
    (na : starEach [a, b] X.env = (false, eval a X.env) :: starEach [b] X.env := by rfl) (nb : starEach [b] X.env = (false, eval b X.env) :: starEach [] X.env := by rfl) (hp : (backTo pos2 (starEach [b] X.env)).any (·.1) = false := by rfl)
    (nc : starEach [.Call (.Name "range" p2) [a, b] [] pos2] X.env = (false, eval (.Call (.Name "range" p2) [a, b] [] pos2) X.env) :: starEach [] X.env := by rfl) :
    PDF X (.Call (.Name "list" p) [.Call (.Name "range" p2) [a, b] [] pos2] [] pos) (dLstRg2 ta tb) := by
  obtain ⟨tA, pA, kA⟩ := ha.ex
  obtain ⟨tB, pB, kB⟩ := hb.ex
  refine ⟨_, pe_listRg hc hg hm (prg_2 hg2 hm2 pA pB na nb hp) nc, fun γ C σ τ Qd Q hs hst h k => ?_⟩
  refine kA γ C σ τ _ _ hs hst h fun C1 v w h1 s1 st1 r1 => kB γ C1 σ τ _ _ s1 (hst.step st1) h1 fun C2 v2 w2 h2 s2 st2 r2 => ?_
  obtain ⟨i, j, rfl, rfl, b1, b2, b3, b4, hq⟩ := h2
  cases r1
  cases r2
  exact ⟨i, j, rfl, rfl, ⟨by omega, by omega, by omega, by omega, by omega⟩, newF (k.step (st1.trans st2)) s2 (rvs_rg i j) hq⟩
end
/-! ### a new list by a test; {} as a place of the store -/
section
variable {X : Cx} {a b c : Expr} {ta tb : TAD} {tA : TTD} {pos : Pos}
def dIfF (t : TTD) (ta tb : TAD) : TAD := fun τ S Q => t τ S fun c S1 => if c = true then ta τ S1 Q else tb τ S1 Q
theorem pdf_ifExp (hc : PTD X c tA) (ha : PDF X a ta) (hb : PDF X b tb) : PDF X (.IfExp c a b pos) (dIfF tA ta tb) := by
  obtain ⟨t, p, kt⟩ := hc.ex
  obtain ⟨u, q, ku⟩ := ha.ex
  obtain ⟨z, y, kz⟩ := hb.ex
  refine ⟨_, pe_ifExp p q y, fun γ C σ τ Qd Q hs hst h k => ?_⟩
  refine kt γ C σ τ _ _ hs hst h fun C1 b h1 s1 st1 => ?_
  cases b with
  | true => exact (if_pos rfl).mpr (ku γ C1 σ τ _ _ s1 (hst.step st1) ((if_pos rfl).mp h1) (k.step st1))
  | false => exact (if_neg Bool.false_ne_true).mpr (kz γ C1 σ τ _ _ s1 (hst.step st1) ((if_neg Bool.false_ne_true).mp h1) (k.step st1))
def dDic0C : TD := fun _ S Q => Q (.loc S.length) (S ++ [some (.dic [] [])])
theorem pd_dic0C : PD X (.Dict [] [] pos) dDic0C := by
  refine ⟨_, pe_dnewK, fun γ C σ τ Qd Q hs hst h k => fun p hp => ?_⟩
  obtain ⟨g1, g2⟩ := hs.ghost (o := .dK []) hp
  refine k ((C.put p (.dK [])).add p (.dic [] [])) _ _ h (g1.add ⟨[], upd_same, rfl, .nil⟩) (g2.add g1 fun _ z => z) (.loc ?_)
  show (C.ρ ++ [p])[C.S.length]? = some p
  rw [← hs.len]; simp
end
end FL
end
section
set_option autoImplicit false
namespace FL
open PySem PySem.Spec PyProof.Rows L2
/-! ### is True, is not True -/
section
variable {X : Cx}
def rdIsB (neg : Bool) : R2D := fun x y S Q => match x, y with
  | .bl a, .bl b => Q (.bl (neg != decide (a = b))) S
  | _, _ => False
theorem opd_isB : OpD X (compareOp .Is) (rdIsB false) := by
  refine ⟨_, op_is_bl, fun γ C x y w1 w2 Qd Q hs rx ry h k => ?_⟩
  cases rx <;> cases ry <;> first | exact False.elim h | skip
  refine ⟨_, _, rfl, rfl, k C _ _ ?_ hs (.refl _ _) (.bl _)⟩
  rename_i a b
  have e : (false != decide (a = b)) = decide (a = b) := by cases a <;> cases b <;> rfl
  rw [← e]
  exact h
theorem opd_notB : OpD X (compareOp .IsNot) (rdIsB true) := by
  refine ⟨_, op_isnot_bl, fun γ C x y w1 w2 Qd Q hs rx ry h k => ?_⟩
  cases rx <;> cases ry <;> first | exact False.elim h | skip
  refine ⟨_, _, rfl, rfl, k C _ _ ?_ hs (.refl _ _) (.bl _)⟩
  rename_i a b
  have e : (true != decide (a = b)) = !decide (a = b) := by cases a <;> cases b <;> rfl
  rw [← e]
  exact h
end
/-! ### sorted(set(xs)), xs a list of tuples of ints, fewer than 64 -/
section
variable {P : Program} {w : World} {A : Around} {E : Value → Shared → Prop} {s : Shared}
theorem reads_items {h : Heap} : ∀ {k : List Int} {vs : List Value}, ItemsAre (intKind P w) k vs → ∃ as, ReadsAll h vs (k.map .int) as
  | _, _, .nil => ⟨_, .nil⟩
  | _, _, .cons h1 t => by
    obtain ⟨as, q⟩ := reads_items (h := h) t
    obtain ⟨u, rfl⟩ := Value.isInt_shape h1
    exact ⟨_, .cons (.int _ _) q⟩
theorem reads_isT {h : Heap} {k : List Int} {b : Addr} (x : IsT P w h k b) : ∃ as, Reads h (.ref b) (.tuple (k.map .int)) as := by
  obtain ⟨o, items, n, ho, hc, hd, hi⟩ := x
  obtain ⟨as, q⟩ := reads_items (h := h) hi
  exact ⟨_, .tuple ho hc hd q⟩
/-- what is a list of pictures up to order is a picture -/
theorem perm_pic {α β : Type} (f : α → β) : ∀ {vs us : List β}, vs.Perm us → ∀ L : List α, us = L.map f → ∃ L1 : List α, L1.Perm L ∧ vs = L1.map f := by
  intro vs us hp
  induction hp with
  | nil => intro L e; cases L with
    | nil => exact ⟨[], List.Perm.refl _, rfl⟩
    | cons => cases e
  | cons x _ ih => intro L e; cases L with
    | nil => cases e
    | cons a L =>
      obtain ⟨e1, e2⟩ := List.cons.inj e
      obtain ⟨L1, q1, q2⟩ := ih L e2
      exact ⟨a :: L1, q1.cons a, by rw [q2, List.map_cons, e1]⟩
  | swap x y l => intro L e; match L, e with
    | [], e => cases e
    | [_], e => cases e
    | a :: b :: L, e =>
      obtain ⟨e1, e2⟩ := List.cons.inj e
      obtain ⟨e3, e4⟩ := List.cons.inj e2
      exact ⟨b :: a :: L, List.Perm.swap a b L, by rw [List.map_cons, List.map_cons, ← e1, ← e3, ← e4]⟩
  | trans _ _ ih1 ih2 => intro L e
                         obtain ⟨L1, q1, q2⟩ := ih2 L e
                         obtain ⟨L2, q3, q4⟩ := ih1 L1 q2
                         exact ⟨L2, q3.trans q1, q4⟩
open PySem.W in
theorem each_pic (f : Addr × List Int → Value) : ∀ L : List (Addr × List Int), EachIs (fun v q => v = f q) (L.map f) L
  | [] => .nil
  | _ :: L => .cons rfl (each_pic f L)
open PySem.W in
theorem each_and {α β : Type} {R : α → β → Prop} {p : β → Prop} : ∀ {as : List α} {bs : List β}, EachIs R as bs → (∀ b ∈ bs, p b) → EachIs (fun a b => R a b ∧ p b) as bs
  | _, _, .nil, _ => .nil
  | _, _, .cons h t, hp => .cons ⟨h, hp _ List.mem_cons_self⟩ (each_and t fun b hb => hp b (List.mem_cons_of_mem _ hb))
open PySem.W in
theorem each_eq {α β : Type} (f : β → α) : ∀ {as : List α} {bs : List β}, EachIs (fun a b => a = f b) as bs → as = bs.map f
  | _, _, .nil => rfl
  | _, _, .cons h t => by rw [List.map_cons, h, each_eq f t]
open PySem.W in
theorem sorted_setG {a : Addr} {L : List (Addr × List Int)} {es : Array (Int × Value)} {ep : Nat} {t : SetTable} {Q : Value → Shared → Prop} (R : SetTR P w s.heap a L es ep t) (hh : A.handled = none) (hu : A.units + 10 < cLine)
    (hQ : ∀ (s' : Shared) (p : Addr) (c : Nat) (L' : List (Addr × List Int)), (∀ b o, s.heap.get? b = some o → s'.heap.get? b = some o) → s'.gens = s.gens → s'.os = s.os → s.heap.objs.size ≤ p →
      s'.heap.get? p = some (seqObj "list" (L'.map fun q => Value.ref q.1).toArray c) → L'.Perm L → (L'.map (·.2)).Pairwise (fun p q => HT.lexLt q p = false) → Q (.ref p) s') :
    wpAny (model P w) A (call (.builtin "sorted") [.ref a]) Q E s := by
  obtain ⟨o, ho, hex, hd⟩ := R.ob
  have hsz := R.size
  have hfew := R.few
  refine Calls.call_function_entry kind_sorted plain_sorted entry_sorted (args_sorted1 _) ?_
  unfold Builtin.«sorted»
  refine wpAny_bind (m := checkCount "sorted" 1 1 _) (wpAny_pure ?_)
  refine wpAny_bind (collect_set (A := A.in1) hh ⟨o, ho, hex.1, hd⟩ R.fits (by unfold scanBound; omega) R.tab.ris R.led fun s1 vs k1 hz g1 o1 pm => ?_)
  have pics : es.toList.map (·.2) = L.map fun q => Value.ref q.1 := by rw [R.rows, L2.rowsOf, List.map_map]; rfl
  obtain ⟨L1, pL, rfl⟩ := perm_pic (fun q : Addr × List Int => Value.ref q.1) pm L pics
  have ln : L1.length < 64 := by rw [pL.length_eq]; exact hfew
  have lnv : (L1.map fun q => Value.ref q.1).length ≤ sizeLine := by rw [List.length_map, sizeLine_eq]; omega
  refine wpAny_bind (wpAny_newList ?_ lnv)
  have hoL : (s1.heap.push (seqObj "list" (L1.map fun q => Value.ref q.1).toArray 0)).get? s1.heap.objs.size = some (seqObj "list" (L1.map fun q => Value.ref q.1).toArray 0) := Heap.get?_push_size _ rfl
  have szL : s1.heap.objs.size < (s1.heap.push (seqObj "list" (L1.map fun q => Value.ref q.1).toArray 0)).objs.size := by rw [size_push']; exact Nat.lt_succ_self _
  -- what stood before stands while it is sorted
  have old : ∀ b u, s.heap.get? b = some u → (sortingHeap (s1.heap.push (seqObj "list" (L1.map fun q => Value.ref q.1).toArray 0)) s1.heap.objs.size (L1.map fun q => Value.ref q.1)).get? b = some u := fun b u e => by
    have e1 := k1 b u e
    have hb : b < s1.heap.objs.size := Heap.lt_size e1
    unfold sortingHeap
    refine Heap.get?_push_of_some _ (Heap.get?_push_of_some _ ?_)
    rw [Heap.get?_update_ne _ _ _ _ (Nat.ne_of_lt hb)]
    exact Heap.get?_push_of_some _ e1
  have er : EachIs (fun v (n : List Int) => ∃ as, Reads (sortingHeap (s1.heap.push (seqObj "list" (L1.map fun q => Value.ref q.1).toArray 0)) s1.heap.objs.size (L1.map fun q => Value.ref q.1)) v (.tuple (n.map .int)) as) (L1.map fun q => Value.ref q.1) (L1.map (·.2)) := by
    have h0 : ∀ q ∈ L1, ∃ as, Reads (sortingHeap (s1.heap.push (seqObj "list" (L1.map fun q => Value.ref q.1).toArray 0)) s1.heap.objs.size (L1.map fun q => Value.ref q.1)) (.ref q.1) (.tuple (q.2.map .int)) as := fun q hq => reads_isT (P := P) (w := w) (isT_keep (R.tup q (pL.subset hq)) old)
    generalize sortingHeap (s1.heap.push (seqObj "list" (L1.map fun q => Value.ref q.1).toArray 0)) s1.heap.objs.size (L1.map fun q => Value.ref q.1) = hh' at h0
    clear ln lnv hoL szL old pL pm
    induction L1 with
    | nil => exact .nil
    | cons q L1 ih => exact .cons (h0 q List.mem_cons_self) (ih fun r hr => h0 r (List.mem_cons_of_mem _ hr))
  have er2 : EachIs (fun v (q : Addr × List Int) => ∃ as, Reads (sortingHeap (s1.heap.push (seqObj "list" (L1.map fun q => Value.ref q.1).toArray 0)) s1.heap.objs.size (L1.map fun q => Value.ref q.1)) v (PyData.tuple (q.2.map .int)) as) (L1.map fun q => Value.ref q.1) L1 := by
    have h0 : ∀ q ∈ L1, ∃ as, Reads (sortingHeap (s1.heap.push (seqObj "list" (L1.map fun q => Value.ref q.1).toArray 0)) s1.heap.objs.size (L1.map fun q => Value.ref q.1)) (.ref q.1) (.tuple (q.2.map .int)) as := fun q hq => reads_isT (P := P) (w := w) (isT_keep (R.tup q (pL.subset hq)) old)
    generalize sortingHeap (s1.heap.push (seqObj "list" (L1.map fun q => Value.ref q.1).toArray 0)) s1.heap.objs.size (L1.map fun q => Value.ref q.1) = hh' at h0
    clear ln lnv hoL szL old pL pm er
    induction L1 with
    | nil => exact .nil
    | cons q L1 ih => exact .cons (h0 q List.mem_cons_self) (ih fun r hr => h0 r (List.mem_cons_of_mem _ hr))
  have hal : AllAlike (L1.map fun q => PyData.tuple (q.2.map .int)) := by
    intro d hd d' hd'
    obtain ⟨n, _, rfl⟩ := List.mem_map.mp hd
    obtain ⟨m, _, rfl⟩ := List.mem_map.mp hd'
    exact alike_ints _ _
  have e3 := sortVals_data (enc := fun q : Addr × List Int => PyData.tuple (q.2.map .int)) false (each_pic (fun q => Value.ref q.1) L1) er2 hal
  have e4 := each_eq _ e3
  have em : (L1.map fun q => PyData.tuple (q.2.map .int)) = (L1.map (·.2)).map fun n => PyData.tuple (n.map .int) := by rw [List.map_map]; rfl
  have so := sorts_tups (prog := P) (w := w) (A := A.in1.in1) (s := { s1 with heap := sortingHeap (s1.heap.push (seqObj "list" (L1.map fun q => Value.ref q.1).toArray 0)) s1.heap.objs.size (L1.map fun q => Value.ref q.1) }) er (by show A.units + 2 + 2 < cLine; omega)
  rw [← em] at so
  refine wpAny_bind (wpAny_holding (wpAny_call_entry slot_list_sort ⟨_, hoL, rfl⟩ entry_list_sort (list_sort_vals (s := { s1 with heap := s1.heap.push (seqObj "list" (L1.map fun q => Value.ref q.1).toArray 0) }) hoL so lnv ⟨_, rfl, ?_⟩) (args_list_sort _)))
  have pm2 : (L1.mergeSort (dataLe false fun q : Addr × List Int => PyData.tuple (q.2.map .int))).Perm L1 := List.mergeSort_perm ..
  have hle : ∀ p q : Addr × List Int, dataLe false (fun q : Addr × List Int => PyData.tuple (q.2.map .int)) p q = true ↔ HT.lexLt q.2 p.2 = false := fun p q => by
    rw [dataLe_eq]
    simp only [cond_false, dlt_ints, Bool.not_eq_true']
  have hpw : (L1.mergeSort (dataLe false fun q : Addr × List Int => PyData.tuple (q.2.map .int))).Pairwise fun p q => HT.lexLt q.2 p.2 = false := by
    refine (List.pairwise_mergeSort (fun a b c h1 h2 => ?_) (fun a b => ?_) _).imp fun h => (hle _ _).mp h
    · rw [hle, ← lt_lex] at *
      have a1 : ¬ b.2 < a.2 := of_decide_eq_false h1
      have a2 : ¬ c.2 < b.2 := of_decide_eq_false h2
      exact decide_eq_false (List.not_lt.mpr (List.le_trans (List.not_lt.mp a1) (List.not_lt.mp a2)))
    · rw [Bool.or_eq_true, hle, hle, ← lt_lex, ← lt_lex]
      by_cases h : b.2 < a.2
      · exact .inr (decide_eq_false (List.lt_asymm h))
      · exact .inl (decide_eq_false h)
  rw [e4]
  generalize L1.mergeSort (dataLe false fun q : Addr × List Int => PyData.tuple (q.2.map .int)) = L' at pm2 hpw
  obtain ⟨c, hc⟩ := sortedHeap_at (vs := L1.map fun q => Value.ref q.1) (out := (L'.map fun q => Value.ref q.1).toArray) hoL
  refine wpAny_pure ⟨_, rfl, hQ _ s1.heap.objs.size c L' (fun b u e => ?_) g1 o1 hz hc (pm2.trans pL) (List.pairwise_map.mpr hpw)⟩
  have e1 := k1 b u e
  have hb := Heap.lt_size e1
  refine (sortedHeap_old (Nat.ne_of_lt hb) (Nat.lt_trans hb szL)).trans ?_
  exact Heap.get?_push_of_some _ e1
end
section
variable {X : Cx}
/-- sorted(set) as a reading of the heap -/
def stG (K : PySem.W.Frag) (P : Program) (w : World) : List V → Hp → VK → Prop := fun vs H Q => ∃ (a : Addr) (L : List (Addr × List Int)), vs = [V.ref a] ∧ H a = some (SetTO P w a L) ∧ (∀ p ∈ L, SqT K H p.1 (p.2.map V.int)) ∧
  ∀ (L' : List (Addr × List Int)) (p : Addr), L'.Perm L → (L'.map (·.2)).Nodup → L'.length < 64 → (L'.map (·.2)).Pairwise (fun p q => HT.lexLt q p = false) → H p = none → Q (.ref p) (upd H p (.lst (L'.map fun q => V.ref q.1)))
theorem cr_stG {k : Nat} (hr : Room k X.A) (hc : X.calm = true) : CallR X (.builtin "sorted") (stG X.K X.prog X.w) := by
  intro pins s σ H vs us Q I r h
  obtain ⟨a, L, rfl, ha, hk, hq⟩ := h
  have hun := hr.un
  obtain ⟨es, ep, t, R⟩ := SetT0.full (show SetT0 X.prog X.w s.heap a L from (I.hok a _ ha).1) fun p hp => I.isT (hk p hp)
  rw [Vals.ref1 r]
  refine sorted_setG R (I.ok.hd hc) (by omega) fun s' p c L' kp gg oo hp hg pm pw => ?_
  have few : L'.length < 64 := by rw [pm.length_eq]; exact R.few
  have lx : (L'.map fun q => V.ref q.1).length ≤ sizeLine := by rw [List.length_map, sizeLine_eq]; omega
  have fr : H p = none := I.hok.fresh hp
  have J : L2.Inv X pins σ (upd H p (.lst (L'.map fun q => V.ref q.1))) { s with heap := s'.heap, gens := s'.gens, drawn := s'.drawn, toks := s'.toks } := I.call (ch := []) (Un.laid kp hp fr) (I.hok.laid kp hp ⟨lx, (L'.map fun q => Value.ref q.1).toArray.toList, c, by simpa using vals_of_refs L', by simpa using hg⟩) (by rw [gg]; exact I.bare) (fun _ z => nomatch z)
  have es' : s' = { s with heap := s'.heap, gens := s'.gens, drawn := s'.drawn, toks := s'.toks } := by cases s'; cases s; cases oo; rfl
  rw [es']
  exact ⟨V.ref p, _, J, rfl, hq L' p pm ((pm.map (·.2)).nodup_iff.mpr R.nd) few pw fr⟩
def dSortSetT (ta : TD) : TAD := fun τ S Q => ta τ S fun w S1 => ∃ c : List (List Int), w = .lst (CB.cw c) ∧ c.length < 64 ∧ ∀ c' : List (List Int), c'.Pairwise (fun p q => HT.lexLt q p = false) → c'.Nodup → (∀ u, u ∈ c' ↔ u ∈ c) → Q (CB.cw c') S1
theorem rvs_words {K : PySem.W.Frag} {γ : List Addr} {C : Cfg} : ∀ {xs : List V} {c : List (List Int)}, RVs K γ C xs (CB.cw c) → ∃ ks : List (Addr × List Int), xs = ks.map (fun p => V.ref p.1) ∧ ks.map (·.2) = c ∧ ∀ p ∈ ks, SqT K C.H p.1 (p.2.map V.int) ∧ RV K γ C (V.ref p.1) (.tup (iw p.2))
  | _, [], .nil => ⟨[], rfl, rfl, fun _ h => nomatch h⟩
  | _, w :: c, .cons r rs => by
    obtain ⟨ks, e1, e2, h⟩ := rvs_words rs
    have r0 := r
    cases r with
    | @tup a xs _ hl q =>
      have e := q.ints
      subst e
      refine ⟨(a, w) :: ks, by rw [List.map_cons, e1], by rw [List.map_cons, e2], fun p hp => ?_⟩
      rcases List.mem_cons.mp hp with rfl | hp
      · exact ⟨hl, r0⟩
      · exact h p hp
theorem rvs_back {K : PySem.W.Frag} {γ : List Addr} {C : Cfg} : ∀ {ks : List (Addr × List Int)}, (∀ p ∈ ks, RV K γ C (V.ref p.1) (.tup (iw p.2))) → RVs K γ C (ks.map fun p => V.ref p.1) (CB.cw (ks.map (·.2)))
  | [], _ => .nil
  | p :: ks, h => .cons (h p List.mem_cons_self) (rvs_back fun q hq => h q (List.mem_cons_of_mem _ hq))
theorem pdf_sortSetT {k : Nat} (hr : Room k X.A) {a : Expr} {ta : TD} {p p2 pos pos2 : Pos} (hc : X.calm = true) (hg : Gl X "sorted") (hm : X.mg "sorted" = none) (hg2 : Gl X "set") (hm2 : X.mg "set" = none) (ha : PD X a ta)
    (na : starEach [a] X.env = (false, eval a X.env) :: starEach [] X.env := by rfl) (nb : starEach [.Call (.Name "set" p2) [a] [] pos2] X.env = (false, eval (.Call (.Name "set" p2) [a] [] pos2) X.env) :: starEach [] X.env := by rfl) :
    PDF X (.Call (.Name "sorted" p) [.Call (.Name "set" p2) [a] [] pos2] [] pos) (dSortSetT ta) := by
  obtain ⟨tA, pA, kA⟩ := ha.ex
  have hun := hr.un
  have p1 := pe_callTy (p := p2) (pos := pos2) (cr_setOfT hc (by omega)) hg2 hm2 (by decide +kernel) (pa_cons pA pa_nil na) (by decide) (by decide) na (by rfl)
  have p3 := pe_callB (p := p) (pos := pos) (cr_stG hr hc) hg hm (by decide +kernel) (pa_cons p1 pa_nil nb) (by decide) (by decide) nb (by rfl)
  refine ⟨_, p3, fun γ C σ τ Qd Q hs hst h k => ?_⟩
  refine kA γ C σ τ _ _ hs hst h fun C1 v w h1 s1 st1 r1 => ?_
  obtain ⟨c, rfl, hn, hq⟩ := h1
  cases r1 with
  | @lst l xs _ hl nl rs =>
    obtain ⟨ks, rfl, rfl, hk⟩ := rvs_words rs
    rw [List.length_map] at hn
    refine ⟨l, ks, rfl, SqL.of hl, fun p hp => (hk p hp).1, hn, fun a L fa hsub hall => ?_⟩
    have st2 : Step γ C1 γ (C1.put a (SetTO X.prog X.w a L)) := Step.new fa
    have s2 : Sim X.K γ (C1.put a (SetTO X.prog X.w a L)) := s1.new fa
    refine ⟨a, L, rfl, upd_same, fun p hp => st2.sqt (hk p (hsub p hp)).1, fun L' q pm nd few pw fq => ?_⟩
    refine newF (k.step (st1.trans st2)) s2 (rvs_back fun p hp => (hk p (hsub p (pm.subset hp))).2.step st2) (hq _ pw nd fun u => ⟨fun hu => ?_, fun hu => ?_⟩) q fq
    · obtain ⟨p, hp, rfl⟩ := List.mem_map.mp hu
      exact List.mem_map.mpr ⟨p, hsub p (pm.subset hp), rfl⟩
    · obtain ⟨p, hp, rfl⟩ := List.mem_map.mp hu
      exact (pm.map (·.2)).mem_iff.mpr (hall p hp)
end
end FL
end
section
set_option autoImplicit false
namespace FL
open PySem PySem.Spec PyProof.Rows L2
/-! ### > of int tuples -/
theorem lexGt_eq : ∀ ns ms : List Int, Ob.lexAt (fun j => decide (ns.getD j 0 = ms.getD j 0)) (fun j => decide (ms.getD j 0 < ns.getD j 0)) (decide (ns.length > ms.length)) 0 (min ns.length ms.length) = HT.lexLt ms ns
  | [], [] => rfl
  | [], m :: ms => rfl
  | n :: ns, [] => rfl
  | n :: ns, m :: ms => by
    have ih := lexGt_eq ns ms
    have e : min (n :: ns).length (m :: ms).length = min ns.length ms.length + 1 := by simp only [List.length_cons]; omega
    rw [e, Ob.lexAt_succ, HT.lexLt_cons]
    simp only [List.getD_cons_zero]
    by_cases h : n = m
    · subst h
      rw [if_pos (decide_eq_true rfl), if_pos rfl, lexAt_shift]
      have e2 : decide ((n :: ns).length > (n :: ms).length) = decide (ns.length > ms.length) := decide_eq_decide.mpr (by simp)
      rw [e2]
      exact ih
    · rw [if_neg (by simpa using h), if_neg fun z => h z.symm]
section
variable {X : Cx}
def gtH (K : PySem.W.Frag) : R2 := fun x y H Q => ∃ (a b : Addr) (ns ms : List Int), x = .ref a ∧ y = .ref b ∧ SqT K H a (ns.map V.int) ∧ SqT K H b (ms.map V.int) ∧ Q (.bl (HT.lexLt ms ns)) H
theorem op_gtH (hu : X.A.units < cLine) : OpR X (compareOp .Gt) (gtH X.K) := by
  intro pins s σ H x y v u Q I rx ry h
  obtain ⟨a, b, ns, ms, rfl, rfl, ha, hb, q⟩ := h
  cases rx
  cases ry
  obtain ⟨us, r1, p1, _⟩ := I.tuple ha
  obtain ⟨ws, r2, p2, _⟩ := I.tuple hb
  have i1 := Vals.ints r1
  have i2 := Vals.ints r2
  have l1 : us.toArray.size = ns.length := List.size_toArray.trans i1.length
  have l2 : ws.toArray.size = ms.length := List.size_toArray.trans i2.length
  have g1 : ∀ j (h : j < us.toArray.size), ∃ t, us.toArray[j] = .int (ns.getD j 0) t := fun j h => IntsAre.int_at i1 _ _ (by simp at h; simp [h])
  have g2 : ∀ j (h : j < ws.toArray.size), ∃ t, ws.toArray[j] = .int (ms.getD j 0) t := fun j h => IntsAre.int_at i2 _ _ (by simp at h; simp [h])
  have main := Ob.RcOp.tuples_gt (A := X.A) (s := s) (e := fun j => decide (ns.getD j 0 = ms.getD j 0)) (r := fun j => decide (ms.getD j 0 < ns.getD j 0)) p1 p2 hu (fun j h1 h2 => by
    obtain ⟨t, et⟩ := g1 j h1
    obtain ⟨t', et'⟩ := g2 j h2
    rw [et, et', show decide (ns.getD j 0 = ms.getD j 0) = (ns.getD j 0 == ms.getD j 0) from (Bool.beq_eq_decide_eq _ _).symm]
    exact SeqAt.EqAt.int_int _ _ _ _) (fun j h1 h2 _ => by
    obtain ⟨t, et⟩ := g1 j h1
    obtain ⟨t', et'⟩ := g2 j h2
    rw [et, et']
    exact Ob.RcOp.gt_int _ _ _ _)
  rw [l1, l2, lexGt_eq] at main
  exact main X.prog X.w X.xe (EP X pins σ Q) ⟨.bl _, H, I, rfl, q⟩
def rdGt : R2D := fun x y S Q => match x, y with
  | .int i, .int j => Q (.bl (decide (j < i))) S
  | .tup a, .tup b => (match intsOf a, intsOf b with
    | some ns, some ms => Q (.bl (HT.lexLt ms ns)) S
    | _, _ => False)
  | _, _ => False
theorem opd_gt {k : Nat} (hr : Room k X.A) : OpD X (compareOp .Gt) rdGt := by
  refine ⟨_, op_gt.or (op_gtH hr.units0), fun γ C x y w1 w2 Qd Q hs rx ry h k => ?_⟩
  cases rx <;> cases ry <;> first | exact False.elim h | skip
  · exact .inl ⟨_, _, rfl, rfl, k C _ _ h hs (.refl _ _) (.bl _)⟩
  · rename_i a xs us h1 r1 b ys vs h2 r2
    have h' : (match intsOf us, intsOf vs with
      | some ns, some ms => Qd (.bl (HT.lexLt ms ns)) C.S
      | _, _ => False) := h
    split at h'
    · rename_i ns ms e1 e2
      rw [intsOf_eq e1] at r1
      rw [intsOf_eq e2] at r2
      rw [r1.ints] at h1
      rw [r2.ints] at h2
      exact .inr ⟨a, b, ns, ms, rfl, rfl, h1, h2, k C _ _ h' hs (.refl _ _) (.bl _)⟩
    · exact h'.elim
end
end FL
end
section
set_option autoImplicit false
namespace FL
open PySem PySem.Spec PyProof.Rows L2
/-! ### sorted(set(t)), t a tuple of tuples of ints, fewer than 64 -/
section
variable {P : Program} {w : World} {A : Around} {E : Value → Shared → Prop} {s : Shared}
/-- a set as it is made -/
abbrev bareSet (w : World) : Obj := { cls := .type "set", dict := none, data := .set #[] 0 (.fresh 0 0 (!w.params.followText "set-order")) }
/-- what the filling of the set leaves -/
def Filled (P : Program) (w : World) (s : Shared) (ks : List (Addr × List Int)) (z : Shared) : Prop := ∃ (g : Heap) (tk : Nat) (L : List (Addr × List Int)) (es : Array (Int × Value)) (ep : Nat) (tb : SetTable), z = { s with heap := g, toks := tk } ∧ SetTR P w g s.heap.objs.size L es ep tb ∧ Got ks ks.length L ∧ ∀ b o, s.heap.get? b = some o → g.get? b = some o
set_option maxHeartbeats 3200000 in
theorem set_of_tup {t : Addr} {its : Array Value} (ks : List (Addr × List Int)) {Q : Value → Shared → Prop} (h0 : A.handled = none) (ht : s.heap.IsTuple t its) (hi : its.toList = ks.map fun p => Value.ref p.1)
    (hT : ∀ p ∈ ks, IsT P w s.heap p.2 p.1) (h64 : ks.length < 64) (hU : A.units + 3 < cLine)
    (hQ : ∀ z, Filled P w s ks z → Q (.ref s.heap.objs.size) z) :
    wpAny (model P w) A (call (.type "set") [.ref t]) Q E s := by
  have n0 : its.size = ks.length := by rw [← Array.length_toList, hi, List.length_map]
  obtain ⟨mc, mt, em⟩ := F.called_set.mro
  have em1 := F.called_set.made
  have em2 := F.called_set.sub
  refine wpAny_call (codeAny_of_tree ?_)
  show wpAny _ _ (callAny (.type "set") _) _ _ s
  refine wpAny_pure (And.intro (Code.quiet_builtin _ (by decide +kernel)) (codeAny_builtin F.entry_type_call ?_))
  rw [Around.under_plain (weight_type_call_type "set" [.ref t] []) rfl]
  have em3 := F.called_set.notType
  have em4 := F.called_set.canCreate
  have em5 := F.typeCall_set_1 (.ref t)
  repeat any_goals first | assumption | wp_step
  refine codeAny_mono (code_set_led1 (.ref t) (E := E) (Q₁ := fun v z => v = .ref s.heap.objs.size ∧ z = { s with heap := s.heap.push (bareSet w) }) ⟨rfl, rfl⟩) fun r z hr => ?_
  rcases r with e | fl
  · exact hr
  rcases fl with _ | v | _ | _
  case ok.ret =>
    obtain ⟨rfl, rfl⟩ := hr
    have at0 : (s.heap.push (bareSet w)).get? s.heap.objs.size = some (bareSet w) := Heap.get?_push_size _ rfl
    have ty0 : Shared.TypeIs { s with heap := s.heap.push (bareSet w) } (.ref s.heap.objs.size) "set" := ⟨_, at0, rfl⟩
    have em6 := F.called_set.init.lookup
    have em7 := F.called_set.init.bind (.ref s.heap.objs.size)
    repeat any_goals first | assumption | wp_step
    refine codeAny_mono (codeAny_call_builtin (R := wants (fun r z => r = .none ∧ Filled P w s ks z) E) F.called_set.init.plain F.entry_set_init (check_set_init_1 ty0 ?_)) fun r z hr => ?_
    · obtain ⟨⟨ocls, odict, odata, oslots⟩, hol, hcl, nl, hdl⟩ := ht
      simp only at hcl hdl
      subst hcl; subst hdl
      have q0 : (s.heap.push (bareSet w)).get? t = some { cls := .type "tuple", dict := odict, data := .seq its nl, slots := oslots } := Heap.get?_push_of_some _ hol
      have q1 := F.sub_tuple_set
      have q2 := F.sub_tuple_frozenset
      have q3 : (Value.type "tuple" == Value.type "dict") = false := by decide
      have q4 : (s.heap.push (bareSet w)).IsTuple t its := ⟨_, q0, rfl, nl, rfl⟩
      unfold Builtin.«set.__init__» noKeywords Builtin.Frozenset.updateFrom
      generalize hPI : pyIter = PI
      wp_walk
      subst hPI
      refine wpAny_pyIter_tuple q4 ?_
      refine wpAny_bind (wpAny_runValue ?_)
      have lt0 : t < s.heap.objs.size := Heap.lt_size hol
      have hh3 : A.in1.in1.in1.handled = none := by simp [h0]
      have zz : (s.heap.push (bareSet w)).objs.size = s.heap.objs.size + 1 := Heap.size_push ..
      have neI : t ≠ (s.heap.push (bareSet w)).objs.size := by rw [zz]; exact Nat.ne_of_lt (Nat.lt_succ_of_lt lt0)
      have nf : s.heap.objs.size ∉ [(s.heap.push (bareSet w)).objs.size, t] := by
        rw [zz]
        simp only [List.mem_cons, List.not_mem_nil, or_false, not_or]
        exact And.intro (Nat.ne_of_lt (Nat.lt_succ_self _)) (Nat.ne_of_gt lt0)
      have vals : ∀ (i : Nat) (v : Value), its[i]? = some v → ∃ p, ks[i]? = some p ∧ v = .ref p.1 := fun i v hv => by
        rw [← Array.getElem?_toList, hi, List.getElem?_map] at hv
        obtain ⟨p, e1, e2⟩ := Option.map_eq_some_iff.mp hv
        exact ⟨p, e1, e2.symm⟩
      have none_of : ∀ b, s.heap.objs.size ≤ b → s.heap.get? b = none := fun b hb => by
        rcases h : s.heap.get? b with _ | o
        · rfl
        · exact (Nat.lt_irrefl _ (Nat.lt_of_lt_of_le (Heap.lt_size h) hb)).elim
      refine set_update_tups ((Walks.tuple hh3 _ t neI its).toS) s.heap.objs.size nf ks n0 h64 vals s.heap hT (none_of _ (Nat.le_refl _)) (fun b hb => none_of b ?_) hU (its.size - 0) 0 _ (by omega) (Nat.zero_le _)
        (And.intro ⟨_, Heap.get?_push_size _ rfl, rfl, rfl⟩ (q4.push _)) (fun b o e => Heap.get?_push_of_some _ (Heap.get?_push_of_some _ e)) ⟨[], #[], 0, _, setTR_fresh (Heap.get?_push_of_some _ at0), Got.zero ks⟩ ?_
      · rw [List.mem_singleton.mp hb, zz]; exact Nat.le_succ _
      · intro z L es ep tb mv hS g' kp
        obtain ⟨g, g2, d', tk', os'⟩ := z
        obtain rfl : g2 = s.gens := mv.gens
        obtain rfl : d' = s.drawn := mv.drawn
        obtain rfl : os' = s.os := mv.os
        rw [n0] at g'
        show wpAny _ _ _ _ _ _
        refine wpAny_pure ?_
        show wpAny _ _ (ret Value.none) _ _ (Shared.mk ..)
        exact wpAny_pure (And.intro rfl ⟨g, tk', L, es, ep, tb, rfl, hS, g', kp⟩)
    · rcases r with e | fl
      · exact hr
      rcases fl with _ | v | _ | _
      case ok.ret =>
        obtain ⟨rfl, hz⟩ := hr
        have hq := hQ _ hz
        obtain ⟨g, tk, L, es, ep, tb, rfl, hS, g', kp⟩ := hz
        repeat any_goals first | assumption | wp_step
      all_goals exact hr.elim
  all_goals exact hr.elim
end
section
variable {X : Cx}
/-- set(t) as a reading of the heap -/
def stTT (K : PySem.W.Frag) (P : Program) (w : World) : List V → Hp → VK → Prop := fun xs H Q => ∃ (t : Addr) (ks : List (Addr × List Int)), xs = [V.ref t] ∧ SqT K H t (ks.map fun p => V.ref p.1) ∧ (∀ p ∈ ks, SqT K H p.1 (p.2.map V.int)) ∧ ks.length < 64 ∧
  ∀ (a : Addr) (L : List (Addr × List Int)), H a = none → (∀ p ∈ L, p ∈ ks) → (∀ p ∈ ks, p.2 ∈ L.map (·.2)) → Q (.ref a) (upd H a (SetTO P w a L))
theorem cr_stTT {k : Nat} (hr : Room k X.A) (hc : X.calm = true) : CallR X (.type "set") (stTT X.K X.prog X.w) := by
  intro pins s σ H xs us Q I r h
  obtain ⟨t, ks, rfl, hl, hk, hf, hq⟩ := h
  have hun := hr.un
  rw [Vals.ref1 r]
  obtain ⟨its, rv, pt, hz⟩ := I.tuple hl
  have fr : H s.heap.objs.size = none := I.hok.fresh (Nat.le_refl _)
  refine set_of_tup (P := X.prog) (w := X.w) ks (I.ok.hd hc) (show s.heap.IsTuple t its.toArray from pt) (by simpa using refs_of_vals rv) (fun p hp => I.isT (hk p hp)) hf (by omega) fun z hz => ?_
  obtain ⟨g, tk, L, es, ep, tb, rfl, R, gt, kp⟩ := hz
  exact ⟨V.ref s.heap.objs.size, _, I.laid (t' := tk) kp (Nat.le_refl _) (setTO_new R.t0), rfl, hq _ L fr (fun p hp => List.mem_of_mem_take (gt.sub p hp)) fun p hp => gt.all p (by rw [List.take_length]; exact hp)⟩
def dSortSetTT (ta : TD) : TAD := fun τ S Q => ta τ S fun w S1 => ∃ c : List (List Int), w = .tup (CB.cw c) ∧ c.length < 64 ∧ ∀ c' : List (List Int), c'.Pairwise (fun p q => HT.lexLt q p = false) → c'.Nodup → (∀ u, u ∈ c' ↔ u ∈ c) → Q (CB.cw c') S1
theorem pdf_sortSetTT {k : Nat} (hr : Room k X.A) {a : Expr} {ta : TD} {p p2 pos pos2 : Pos} (hc : X.calm = true) (hg : Gl X "sorted") (hm : X.mg "sorted" = none) (hg2 : Gl X "set") (hm2 : X.mg "set" = none) (ha : PD X a ta)
    (na : starEach [a] X.env = (false, eval a X.env) :: starEach [] X.env := by rfl) (nb : starEach [.Call (.Name "set" p2) [a] [] pos2] X.env = (false, eval (.Call (.Name "set" p2) [a] [] pos2) X.env) :: starEach [] X.env := by rfl) :
    PDF X (.Call (.Name "sorted" p) [.Call (.Name "set" p2) [a] [] pos2] [] pos) (dSortSetTT ta) := by
  obtain ⟨tA, pA, kA⟩ := ha.ex
  have p1 := pe_callTy (p := p2) (pos := pos2) (cr_stTT hr hc) hg2 hm2 (by decide +kernel) (pa_cons pA pa_nil na) (by decide) (by decide) na (by rfl)
  have p3 := pe_callB (p := p) (pos := pos) (cr_stG hr hc) hg hm (by decide +kernel) (pa_cons p1 pa_nil nb) (by decide) (by decide) nb (by rfl)
  refine ⟨_, p3, fun γ C σ τ Qd Q hs hst h k => ?_⟩
  refine kA γ C σ τ _ _ hs hst h fun C1 v w h1 s1 st1 r1 => ?_
  obtain ⟨c, rfl, hn, hq⟩ := h1
  cases r1 with
  | @tup l xs _ hl rs =>
    obtain ⟨ks, rfl, rfl, hk⟩ := rvs_words rs
    rw [List.length_map] at hn
    refine ⟨l, ks, rfl, hl, fun p hp => (hk p hp).1, hn, fun a L fa hsub hall => ?_⟩
    have st2 : Step γ C1 γ (C1.put a (SetTO X.prog X.w a L)) := Step.new fa
    have s2 : Sim X.K γ (C1.put a (SetTO X.prog X.w a L)) := s1.new fa
    refine ⟨a, L, rfl, upd_same, fun p hp => st2.sqt (hk p (hsub p hp)).1, fun L' q pm nd few pw fq => ?_⟩
    refine newF (k.step (st1.trans st2)) s2 (rvs_back fun p hp => (hk p (hsub p (pm.subset hp))).2.step st2) (hq _ pw nd fun u => ⟨fun hu => ?_, fun hu => ?_⟩) q fq
    · obtain ⟨p, hp, rfl⟩ := List.mem_map.mp hu
      exact List.mem_map.mpr ⟨p, hsub p (pm.subset hp), rfl⟩
    · obtain ⟨p, hp, rfl⟩ := List.mem_map.mp hu
      exact (pm.map (·.2)).mem_iff.mpr (hall p hp)
end
end FL
end
section
set_option autoImplicit false
namespace FL
open PySem PySem.Spec PyProof.Rows L2
/-! ### max(xs, key=len, default=None), xs a list of tuples -/
section
variable {prog : Program} {w : World} {A : Around} {E : Value → Shared → Prop} {s : Shared}
/-- the place of the first of the greatest ones -/
def bestK (kf : Nat → Nat) : Nat → Nat
  | 0 => 0
  | n + 1 => if kf (bestK kf n) < kf (n + 1) then n + 1 else bestK kf n
theorem bestK_spec (kf : Nat → Nat) : ∀ n, bestK kf n ≤ n ∧ (∀ i, i ≤ n → kf i ≤ kf (bestK kf n)) ∧ ∀ i, i < bestK kf n → kf i < kf (bestK kf n)
  | 0 => ⟨Nat.le_refl _, fun i hi => by rw [show i = 0 by omega]; exact Nat.le_refl _, fun i hi => absurd hi (Nat.not_lt_zero _)⟩
  | n + 1 => by
    obtain ⟨h1, h2, h3⟩ := bestK_spec kf n
    show (if kf (bestK kf n) < kf (n + 1) then n + 1 else bestK kf n) ≤ _ ∧ (∀ i, i ≤ n + 1 → _ ≤ kf (if kf (bestK kf n) < kf (n + 1) then n + 1 else bestK kf n)) ∧ ∀ i, i < (if kf (bestK kf n) < kf (n + 1) then n + 1 else bestK kf n) → _ < kf (if kf (bestK kf n) < kf (n + 1) then n + 1 else bestK kf n)
    by_cases h : kf (bestK kf n) < kf (n + 1)
    · rw [if_pos h]
      refine ⟨Nat.le_refl _, fun i hi => ?_, fun i hi => ?_⟩
      · rcases Nat.lt_or_ge n i with q | q
        · rw [show i = n + 1 by omega]; exact Nat.le_refl _
        · have := h2 i q; omega
      · have := h2 i (by omega); omega
    · rw [if_neg h]
      refine ⟨by omega, fun i hi => ?_, h3⟩
      rcases Nat.lt_or_ge n i with q | q
      · rw [show i = n + 1 by omega]; omega
      · exact h2 i q
def kwN : List (Str × Value) := [("default", Value.none)]
/-- the values of the list are tuples of these lengths -/
def TupL (h : Heap) (vs : List Value) (kf : Nat → Nat) : Prop := ∀ (i : Nat) (v : Value), vs[i]? = some v → ∃ (a : Addr) (its : Array Value), v = .ref a ∧ IsTup h a its ∧ its.size = kf i ∧ its.size < 2 ^ 62
theorem maxk_loop {R : Result → Shared → Prop} (hA : A.handled = none) {l I S : Addr} {vs : List Value} {h0 : Heap} {kf : Nat → Nat}
    (hlI : l ≠ I) (hSI : S ≠ I) (hI0 : h0.get? I = none) (hS0 : h0.get? S = none) (hl : h0.IsList l vs.toArray) (hT : TupL h0 vs kf) :
    ∀ (k j : Nat) (s : Shared) (vb : Value) (tb : Tok) (c : Nat), vs.length - (j + 1) = k → j + 1 ≤ vs.length → s.heap.IsListIter I l (j + 1) → vs[bestK kf j]? = some vb →
      s.heap.get? S = some { cls := Value.type "list", data := Data.seq #[vb, .int ((kf (bestK kf j) : Nat) : Int) tb] c } → Kept h0 s.heap →
      (∀ (v : Value) (h' : Heap) (tk : Nat), vs[bestK kf (vs.length - 1)]? = some v → Kept h0 h' → R (Except.ok (Flow.ret v)) { heap := h', gens := s.gens, drawn := s.drawn, toks := tk, os := s.os }) →
      codeAny (model prog w) A (Code.builtin "max.loop" { pos := [Value.ref I, Value.builtin "len", Value.ref S], kw := kwN }) R s := by
  have wk : PySem.Walks prog w A.in1 I [I, l] [I] vs.toArray.size (fun i v => vs.toArray[i]? = some v) fun i h => h.IsListIter I l i ∧ h.IsList l vs.toArray := PySem.Walks.list (by simpa using hA) I l hlI vs.toArray
  have kk : ∀ {h h' : Heap}, Kept h0 h → (∀ (b : Addr) (o : Obj), ¬b ∈ [I] → h.get? b = some o → h'.get? b = some o) → Kept h0 h' := by
    intro h h' a b c o e
    refine b c o ?_ (a c o e)
    intro z
    rw [List.mem_singleton] at z
    subst z
    rw [hI0] at e
    cases e
  have ku : ∀ {h : Heap} (_ : Kept h0 h) (f : Obj → Obj), Kept h0 (h.update S f) := by
    intro h a f b o e
    rw [Heap.get?_update_other _ _ ?_]
    · exact a b o e
    · rintro rfl
      rw [hS0] at e
      cases e
  have hlk : ∀ h : Heap, Kept h0 h → h.IsList l vs.toArray := fun h a => by
    obtain ⟨c, hc, h2⟩ := hl
    exact ⟨c, a _ _ hc, h2⟩
  have hSl : S ≠ l := by
    rintro rfl
    obtain ⟨c, hc, h2⟩ := hl
    rw [hS0] at hc
    cases hc
  intro k
  induction k with
  | zero =>
    intro j s vb tb c hk hj hI hb hS hK hq
    refine codeAny_builtin F.entry_max_loop ?_
    rw [Around.under_plainId F.plain_max_loop]
    refine wpAny_bind (wpAny_seqItems hS rfl ?_)
    have hn : j + 1 = vs.length := by omega
    refine wpAny_bind (wpAny_tryCatch (wk.done _ _ _ ?_ ?_))
    · refine ⟨?_, hlk _ hK⟩
      show s.heap.IsListIter I l vs.toArray.size
      rw [List.size_toArray, ← hn]
      exact hI
    · intro h' tk hh
      have hK' : Kept h0 h' := kk hK hh
      have hS' : h'.get? S = some { cls := Value.type "list", data := Data.seq #[vb, .int ((kf (bestK kf j) : Nat) : Int) tb] c } := hh S _ (by simpa using hSI) hS
      dsimp only
      refine wpAny_bind (wpAny_updateSeq hS' rfl ?_ (by rw [sizeLine_eq]; show 2 ≤ 16777216; decide) (by rw [sizeLine_eq]; show 0 ≤ 16777216 + 1; decide))
      refine wpAny_bind (wpAny_letGo ?_)
      refine wpAny_pure ?_
      refine hq vb _ tk ?_ (ku hK' _)
      rw [show vs.length - 1 = j by omega]
      exact hb
  | succ k ih =>
    intro j s vb tb c hk hj hI hb hS hK hq
    refine codeAny_builtin F.entry_max_loop ?_
    rw [Around.under_plainId F.plain_max_loop]
    refine wpAny_bind (wpAny_seqItems hS rfl ?_)
    refine wpAny_bind (wpAny_tryCatch (wk.item (j + 1) _ _ _ (by rw [List.size_toArray]; omega) ⟨hI, hlk _ hK⟩ ?_))
    intro v h' tk hv hI' hh
    have hK' : Kept h0 h' := kk hK hh
    have hS' : h'.get? S = some { cls := Value.type "list", data := Data.seq #[vb, .int ((kf (bestK kf j) : Nat) : Int) tb] c } := hh S _ (by simpa using hSI) hS
    have hv' : vs[j + 1]? = some v := by simpa using hv
    obtain ⟨a, its, rfl, ht, hz, hz2⟩ := hT (j + 1) v hv'
    dsimp only
    refine wpAny_bind (wpAny_tryCatch (wpAny_holding (len_tuple (ht.keeps hK') (by omega) ?_)))
    rw [hz]
    show wpAny _ _ (_ >>= _) _ _ _
    refine wpAny_bind (wpAny_tryCatch (wpAny_holding (wpAny_bind (CmpOf.ints_gt (prog := prog) (w := w) (A := A.in1) (P := fun i v => ∃ t, v = .int ((kf i : Nat) : Int) t) (fun i => ((kf i : Nat) : Int)) (fun i v h => h) (j + 1) (bestK kf j) _ _ _ _ _ ⟨_, rfl⟩ ⟨tb, rfl⟩ ?_))))
    refine wpAny_bind (wpAny_holding (wpAny_truthy_bool ?_))
    refine wpAny_bind (wpAny_letGo ?_)
    refine wpAny_pure ?_
    dsimp only
    by_cases hbt : kf (bestK kf j) < kf (j + 1)
    · rw [decide_eq_true (show ((kf (j + 1) : Nat) : Int) > ((kf (bestK kf j) : Nat) : Int) by omega), if_pos rfl]
      have eb : bestK kf (j + 1) = j + 1 := by show (if kf (bestK kf j) < kf (j + 1) then j + 1 else bestK kf j) = _; rw [if_pos hbt]
      refine wpAny_bind (wpAny_updateSeq hS' rfl ?_ (by rw [sizeLine_eq]; show 2 ≤ 16777216; decide) (by rw [sizeLine_eq]; show 2 ≤ 16777216 + 1; decide))
      refine wpAny_bind (wpAny_letGo ?_)
      refine wpAny_pure ⟨plainId_quiet F.plain_max_loop _, ?_⟩
      refine ih (j + 1) _ (.ref a) (tk + 1) _ (by omega) (by omega) ?_ (by rw [eb]; exact hv') (by rw [eb]; exact Heap.get?_update_self _ hS' rfl) (ku hK' _) ?_
      · exact (wk.frame (j + 2) h' _ hI' (fun b hb o ho => by
          rw [Heap.get?_update_other _ _ ?_]
          · exact ho
          · rintro rfl
            simp only [List.mem_cons, List.not_mem_nil, or_false] at hb
            rcases hb with rfl | rfl
            · exact hSI rfl
            · exact hSl rfl)).1
      · intro v' h'' tk' e1 e2
        exact hq v' h'' tk' e1 e2
    · rw [decide_eq_false (show ¬ ((kf (j + 1) : Nat) : Int) > ((kf (bestK kf j) : Nat) : Int) by omega), if_neg (by decide)]
      have eb : bestK kf (j + 1) = bestK kf j := by show (if kf (bestK kf j) < kf (j + 1) then j + 1 else bestK kf j) = _; rw [if_neg hbt]
      refine wpAny_bind (wpAny_letGo ?_)
      refine wpAny_pure ⟨plainId_quiet F.plain_max_loop _, ?_⟩
      refine ih (j + 1) _ vb tb c (by omega) (by omega) hI'.1 (by rw [eb]; exact hb) (by rw [eb]; exact hS') hK' ?_
      intro v' h'' tk' e1 e2
      exact hq v' h'' tk' e1 e2
theorem maxk_args (a : Value) : argsOk "max" ⟨[a], [("key", .builtin "len"), ("default", .none)]⟩ := by unfold argsOk; kernel_rfl
theorem maxk_first {R : Result → Shared → Prop} (hA : A.handled = none) {l I S : Addr} {vs : List Value} {h0 : Heap} {kf : Nat → Nat}
    (hlI : l ≠ I) (hSI : S ≠ I) (hI0 : h0.get? I = none) (hS0 : h0.get? S = none) (hl : h0.IsList l vs.toArray) (hT : TupL h0 vs kf) :
    ∀ (s : Shared) (c : Nat), s.heap.IsListIter I l 0 →
      s.heap.get? S = some { cls := Value.type "list", data := Data.seq #[] c } → Kept h0 s.heap →
      (vs = [] → ∀ (h' : Heap) (tk : Nat), Kept h0 h' → R (Except.ok (Flow.ret .none)) { heap := h', gens := s.gens, drawn := s.drawn, toks := tk, os := s.os }) →
      (∀ (v : Value) (h' : Heap) (tk : Nat), 0 < vs.length → vs[bestK kf (vs.length - 1)]? = some v → Kept h0 h' → R (Except.ok (Flow.ret v)) { heap := h', gens := s.gens, drawn := s.drawn, toks := tk, os := s.os }) →
      codeAny (model prog w) A (Code.builtin "max.loop" { pos := [Value.ref I, Value.builtin "len", Value.ref S], kw := kwN }) R s := by
  have wk : PySem.Walks prog w A.in1 I [I, l] [I] vs.toArray.size (fun i v => vs.toArray[i]? = some v) fun i h => h.IsListIter I l i ∧ h.IsList l vs.toArray := PySem.Walks.list (by simpa using hA) I l hlI vs.toArray
  intro s c hI hS hK hn hq
  have hSl : S ≠ l := by
    rintro rfl
    obtain ⟨c, hc, h2⟩ := hl
    rw [hS0] at hc
    cases hc
  have kk : ∀ {h' : Heap}, (∀ (b : Addr) (o : Obj), ¬b ∈ [I] → s.heap.get? b = some o → h'.get? b = some o) → Kept h0 h' := by
    intro h' hh b o e
    refine hh b o ?_ (hK b o e)
    intro z
    rw [List.mem_singleton] at z
    subst z
    rw [hI0] at e
    cases e
  have hlk : s.heap.IsList l vs.toArray := by
    obtain ⟨c, hc, h2⟩ := hl
    exact ⟨c, hK _ _ hc, h2⟩
  refine codeAny_builtin F.entry_max_loop ?_
  rw [Around.under_plainId F.plain_max_loop]
  refine wpAny_bind (wpAny_seqItems hS rfl ?_)
  by_cases hv0 : vs = []
  · refine wpAny_bind (wpAny_tryCatch (wk.done _ _ _ ⟨?_, hlk⟩ ?_))
    · rw [hv0]
      exact hI
    · intro h' tk hh
      dsimp only
      refine wpAny_bind (wpAny_rule ?_)
      exact wpAny_pure (hn hv0 h' tk (kk hh))
  have hj : 0 < vs.length := List.length_pos_iff.mpr hv0
  refine wpAny_bind (wpAny_tryCatch (wk.item 0 _ _ _ (by rw [List.size_toArray]; omega) ⟨hI, hlk⟩ ?_))
  intro v h' tk hv hI' hh
  have hK' : Kept h0 h' := kk hh
  have hS' : h'.get? S = some { cls := Value.type "list", data := Data.seq #[] c } := hh S _ (by simpa using hSI) hS
  have hv' : vs[0]? = some v := by simpa using hv
  obtain ⟨a, its, rfl, ht, hz, hz2⟩ := hT 0 v hv'
  dsimp only
  refine wpAny_bind (wpAny_tryCatch (wpAny_holding (len_tuple (ht.keeps hK') (by omega) ?_)))
  rw [hz]
  show wpAny _ _ (_ >>= _) _ _ _
  refine wpAny_bind (wpAny_updateSeq hS' rfl ?_ (by rw [sizeLine_eq]; show 0 ≤ 16777216; decide) (by rw [sizeLine_eq]; show 2 ≤ 16777216 + 1; decide))
  refine wpAny_pure ⟨plainId_quiet F.plain_max_loop _, ?_⟩
  refine maxk_loop hA hlI hSI hI0 hS0 hl hT (vs.length - 1) 0 _ (.ref a) _ _ (by omega) (by omega) ?_ hv' (Heap.get?_update_self _ hS' rfl) ?_ ?_
  · exact (wk.frame 1 h' _ hI' (fun b hb o ho => by
      rw [Heap.get?_update_other _ _ ?_]
      · exact ho
      · rintro rfl
        simp only [List.mem_cons, List.not_mem_nil, or_false] at hb
        rcases hb with rfl | rfl
        · exact hSI rfl
        · exact hSl rfl)).1
  · intro b o e
    rw [Heap.get?_update_other _ _ ?_]
    · exact hK' b o e
    · rintro rfl
      rw [hS0] at e
      cases e
  · intro v' h'' tk' e1 e2
    exact hq v' h'' tk' hj e1 e2
/-- max(l, key=len, default=None) -/
theorem maxk_list {l : Addr} {vs : List Value} {kf : Nat → Nat} {Q : Value → Shared → Prop} (hA : A.handled = none) (hl : s.heap.IsList l vs.toArray) (hT : TupL s.heap vs kf)
    (h0 : vs = [] → ∀ (h' : Heap) (tk : Nat), Kept s.heap h' → Q .none { heap := h', gens := s.gens, drawn := s.drawn, toks := tk, os := s.os })
    (hq : ∀ (v : Value) (h' : Heap) (tk : Nat), 0 < vs.length → vs[bestK kf (vs.length - 1)]? = some v → Kept s.heap h' → Q v { heap := h', gens := s.gens, drawn := s.drawn, toks := tk, os := s.os }) :
    wpAny (model prog w) A (call (Value.builtin "max") [Value.ref l] [("key", .builtin "len"), ("default", .none)]) Q E s := by
  refine kmb_tree F.kind_max F.plain_max F.entry_max (maxk_args _) ?_
  show wpAny _ _ (_ >>= _) _ _ _
  refine wpAny_bind ?_
  refine wpAny_of_eq (a := [some (.builtin "len"), some .none]) rfl ?_
  show wpAny _ _ (_ >>= _) _ _ _
  refine wpAny_bind (wpAny_pure ?_)
  show wpAny _ _ (_ >>= _) _ _ _
  refine wpAny_bind (wpAny_pyIter_list hl ?_)
  refine wpAny_bind (wpAny_newList ?_ (by rw [sizeLine_eq]; decide))
  refine wpAny_pure ⟨plainId_quiet F.plain_max_loop _, ?_⟩
  have hls : l < s.heap.objs.size := by
    obtain ⟨o, ho, _⟩ := hl
    exact Heap.lt_size ho
  refine maxk_first (h0 := s.heap) (kf := kf) (vs := vs) hA (Nat.ne_of_lt hls) ?_ ?_ ?_ hl hT _ 0 ?_ ?_ ?_ ?_ ?_
  · rw [Heap.size_push]; exact Nat.succ_ne_self _
  · exact Heap.get?_none_of_le (Nat.le_refl _)
  · exact Heap.get?_none_of_le (by rw [Heap.size_push]; exact Nat.le_succ _)
  · exact ⟨_, Heap.get?_push_of_some _ (Heap.get?_push_size _ rfl), rfl, rfl⟩
  · exact Heap.get?_push_size _ rfl
  · intro b o e
    exact Heap.get?_push_of_some _ (Heap.get?_push_of_some _ e)
  · intro e0 h' tk e2
    exact h0 e0 h' tk e2
  · intro v h' tk e0 e1 e2
    exact hq v h' tk e0 e1 e2
end
section
variable {X : Cx} {a : Expr} {ta : TD}
theorem vals_at : ∀ {xs : List V} {us : List Value} {i : Nat} {u : Value}, Vals xs us → us[i]? = some u → ∃ x, xs[i]? = some x ∧ RelV x u
  | _, _, _, _, .nil, e => by cases e
  | _, _, 0, _, .cons r _, e => by cases e; exact ⟨_, rfl, r⟩
  | _, _, i + 1, u, .cons _ t, e => vals_at (i := i) (u := u) t e
/-- the reading of the heap -/
def maxLenH (K : PySem.W.Frag) : V → Hp → VK → Prop := fun x H Q => ∃ (l : Addr) (xs : List V) (kf : Nat → Nat), x = .ref l ∧ SqL K H l xs ∧ (∀ (i : Nat) (y : V), xs[i]? = some y → ∃ (b : Addr) (ys : List V), y = .ref b ∧ SqT K H b ys ∧ ys.length = kf i) ∧
  (xs = [] → Q .non H) ∧ ∀ y : V, 0 < xs.length → xs[bestK kf (xs.length - 1)]? = some y → Q y H
theorem pe_maxLen {tA : TE} {p p2 p3 k1 k2 pos : Pos} {kc : Nat} (hc : X.calm = true) (hg : Gl X "max") (hm : X.mg "max" = none) (hg2 : Gl X "len") (hm2 : X.mg "len" = none) (ha : PE X a tA)
    (he : backTo pos (starEach [a] X.env) = (false, eval a X.env) :: backTo pos (starEach [] X.env) := by rfl) (hpl : (backTo pos (starEach [a] X.env)).any (·.1) = false := by rfl) (na : starEach [a] X.env = (false, eval a X.env) :: starEach [] X.env := by rfl) :
    PE X (.Call (.Name "max" p) [a] [⟨some "key", .Name "len" p2, k1⟩, ⟨some "default", .Constant .none kc p3, k2⟩] pos) (fun σ H Q => tA σ H fun x H1 => maxLenH X.K x H1 Q) := by
  refine ⟨fun pins s σ H Q I h => ?_⟩
  refine wpAny_Call_Name_kw (ld_blt I hg hm (show bootBuiltins "max" = some (.builtin "max") by decide +kernel) ?_ (by decide) (by decide))
  refine PyProof.Rows.callWith_kw (thn ((pa_cons ha pa_nil na).run pos pins s σ H (fun vs H1 => match vs with | [x] => maxLenH X.K x H1 Q | _ => False) I ?_) fun us s1 ⟨vs, H1, I1, r1, q1⟩ => ?_) he hpl rfl rfl
  · exact h
  · show wpAny _ _ (evalAll ((do let v ← eval (.Name "len" p2) X.env; standAt pos; pure v) :: (do let v ← eval (.Constant .none kc p3) X.env; standAt pos; pure v) :: [])) _ _ s1
    refine wpAny_evalAll_cons (wpAny_bind (ld_blt I1 hg2 hm2 (show bootBuiltins "len" = some (.builtin "len") by decide +kernel) (wpAny_bind (wpAny_standAt (wpAny_pure ?_))) (by decide) (by decide)))
    refine wpAny_evalAll_cons (wpAny_bind (wpAny_Constant_none (wpAny_bind (wpAny_standAt (wpAny_pure ?_)))))
    refine wpAny_evalAll_nil ?_
    match vs, q1, r1 with
    | [_], ⟨l, xs, kf, rfl, hl, hi, hn, hq⟩, r1 =>
    rw [Vals.ref1 r1]
    obtain ⟨its, rv, pl, hz⟩ := I1.list hl
    have hlen := rv.length
    show wpAny _ _ (call (.builtin "max") [.ref l] [("key", .builtin "len"), ("default", .none)]) _ _ _
    refine maxk_list (kf := kf) (I1.ok.hd hc) pl.isList (fun i v e => ?_) (fun e h' tk kp => ?_) fun v h' tk e0 e1 kp => ?_
    · obtain ⟨y, q1, q2⟩ := vals_at rv e
      obtain ⟨b, ys, rfl, hy, hk⟩ := hi i y q1
      cases q2
      obtain ⟨its2, r2, p2, z2⟩ := I1.tuple hy
      have := r2.length
      have hs : sizeLine = 16777216 := sizeLine_eq
      exact ⟨b, its2.toArray, rfl, p2, by rw [List.size_toArray]; omega, by rw [List.size_toArray]; omega⟩
    · exact ⟨V.non, H1, I1.kept kp, rfl, hn (List.length_eq_zero_iff.mp (by rw [hlen, e]; rfl))⟩
    · obtain ⟨y, q1, q2⟩ := vals_at rv e1
      rw [← hlen] at e0 q1
      exact ⟨y, H1, I1.kept kp, q2, hq y e0 q1⟩
def dMaxLen (ta : TD) : TD := fun τ S Q => ta τ S fun w S1 => ∃ ts : List (List W), llOf S1 w = some (ts.map W.tup) ∧ (ts = [] → Q .non S1) ∧ ∀ (i : Nat) (t : List W), ts[i]? = some t → (∀ (j : Nat) (u : List W), ts[j]? = some u → u.length ≤ t.length ∧ (j < i → u.length < t.length)) → Q (.tup t) S1
theorem pd_maxLen {p p2 p3 k1 k2 pos : Pos} {kc : Nat} (hc : X.calm = true) (hg : Gl X "max") (hm : X.mg "max" = none) (hg2 : Gl X "len") (hm2 : X.mg "len" = none) (ha : PD X a ta)
    (he : backTo pos (starEach [a] X.env) = (false, eval a X.env) :: backTo pos (starEach [] X.env) := by rfl) (hpl : (backTo pos (starEach [a] X.env)).any (·.1) = false := by rfl) (na : starEach [a] X.env = (false, eval a X.env) :: starEach [] X.env := by rfl) :
    PD X (.Call (.Name "max" p) [a] [⟨some "key", .Name "len" p2, k1⟩, ⟨some "default", .Constant .none kc p3, k2⟩] pos) (dMaxLen ta) := by
  obtain ⟨tA, pA, kA⟩ := ha.ex
  refine ⟨_, pe_maxLen hc hg hm hg2 hm2 pA he hpl na, fun γ C σ τ Qd Q hs hst h k => ?_⟩
  refine kA γ C σ τ _ _ hs hst h fun C1 v w h1 s1 st1 r1 => ?_
  obtain ⟨ts, e, h0, hq⟩ := h1
  obtain ⟨l, xs, rfl, hl, rs⟩ := llOf_at s1 r1 e
  have hn : xs.length = ts.length := by rw [rs.length, List.length_map]
  have get : ∀ (i : Nat) (y : V), xs[i]? = some y → ∃ t, ts[i]? = some t ∧ RV X.K γ C1 y (.tup t) := fun i y ey => by
    obtain ⟨w2, e1, e2⟩ := rs.getV ey
    rw [List.getElem?_map] at e1
    obtain ⟨t, e3, rfl⟩ := Option.map_eq_some_iff.mp e1
    exact ⟨t, e3, e2⟩
  refine ⟨l, xs, fun i => (ts.getD i []).length, rfl, hl, fun i y ey => ?_, fun ex => ?_, fun y hy ey => ?_⟩
  · obtain ⟨t, e1, e2⟩ := get i y ey
    cases e2 with
    | @tup b ys _ hb ry =>
      refine ⟨b, ys, rfl, hb, ?_⟩
      dsimp only
      rw [List.getD_eq_getElem?_getD, e1]
      exact ry.length
  · exact k C1 _ _ (h0 (List.length_eq_zero_iff.mp (by rw [← hn, ex]; rfl))) s1 st1 .non
  · obtain ⟨t, e1, e2⟩ := get _ y ey
    obtain ⟨b1, b2, b3⟩ := bestK_spec (fun i => (ts.getD i []).length) (xs.length - 1)
    have gd : ∀ (j : Nat) (u : List W), ts[j]? = some u → (ts.getD j []).length = u.length := fun j u ej => by rw [List.getD_eq_getElem?_getD, ej]; rfl
    refine k C1 _ _ (hq _ t e1 fun j u ej => ?_) s1 st1 e2
    have hj := (List.getElem?_eq_some_iff.mp ej).1
    have g1 := gd j u ej
    have g2 := gd _ t e1
    have q1 := b2 j (by omega)
    refine ⟨by omega, fun hlt => ?_⟩
    have q2 := b3 j hlt
    omega
end
end FL
end
section
set_option autoImplicit false
namespace FL
open PySem PySem.Spec PyProof.Rows L2
/-! ### own errors without fields -/
/-- what the text says of an error class that has no __init__ of its own -/
structure ErrZ (K : PySem.W.Frag) (mg : Str → Option Value) (x : Str) (C : Addr) : Prop where
  q : PySem.W.excIn K C [.type "ValueError", .type "Exception", .type "BaseException", .type "object"] "ValueError.__new__" = true
  kC : PySem.W.keepIn K (.ref C) = true
  xf : XfC K C
  tC : PySem.W.typeIn K (.ref C) = some (.type "type")
  m : mg x = some (.ref C)
  te : PySem.W.exmOne K (.ref C) (.ref C) = some true
section
variable {X : Cx} {C : Addr} {x : Str} {p pos pos2 : Pos}
theorem pmk_bare (E : ErrZ X.K X.mg x C) (hg : Gl X x) (hdb : (x == ("__debug__" : Str)) = false := by decide) : PMk X (.Call (.Name x p) [] [] pos) (fun _ H Q => Q (.ref C) none H) := by
  intro pins s σ H Q I h
  refine wpAny_Call_Name_kw (ld_glob I hg E.m ?_ hdb)
  refine PySem.W.callWith_K0 I.kIn E.kC ?_
  obtain ⟨bm, N, nm, qn, bs, hdct, sn, sub, ab, col, dd, k0, k1, k2, k3, k5, mN, hC, hN, hni, T⟩ := exc_obj I.kIn E.q
  obtain ⟨hp, g, d, tk, os⟩ := s
  refine wpAny_call_exc_subT (rest := []) PySem.F.excBase_ValueError T hC hN hni (fun h' e hm => ?_) (Nat.zero_le _)
  exact mk_of I hm (raises_own E.xf.exC E.tC) h (I.hok.gone hm.new)
def sRaise0 (C : Addr) : TSDX := fun Ed _ τ S => Ed C [] τ S
theorem psdx_raise0 {Ex : WX} (hc : X.calm = true) (tk : Takes X Ex) (E : ErrZ X.K X.mg x C) (hg : Gl X x) (hdb : (x == ("__debug__" : Str)) = false := by decide) :
    PSDX X Ex (.Raise (some (.Call (.Name x p) [] [] pos)) none pos2) (sRaise0 C) :=
  ⟨_, ps_raise hc tk (pmk_bare E hg hdb), fun γ C0 σ τ Ed Dd D hs hst h k kx => kx C0 C none [] σ τ h hs (.refl _ _) rfl hst⟩
end
section
variable {X : Cx} {a E I : Addr} {fd : FuncData} {ps : List Str} {d : Option Addr} {oe : Obj} {pn : List (Addr × Obj)} {j : Nat} {x n f y z : Str} {p p2 p3 pos : Pos}
theorem call_isZ (T : XfC X.K E) (T2 : ErrI X.K E) (hz : Zc (.ref E) d oe) (hf : ∃ vs, oe.data = .fields vs) (hd : d = none) :
    CallR (X.suite a ((a, oe) :: pn)) (.builtin "isinstance") (fun xs H Q => ∃ (c : V) (cv : Value) (bb : Bool), xs = [.ref a, c] ∧ (∀ u, RelV c u → u = cv) ∧ PySem.W.kitOne X.K (.ref E) cv = some bb ∧ Q (.bl bb) H) := by
  intro pins s σ H xs us Q I r h
  obtain ⟨c, cv, b, rfl, hcv, e, q⟩ := h
  cases r with
  | cons rx rr =>
    cases rr with
    | cons rt rr =>
      cases rr
      cases rx
      have ec := hcv _ rt
      subst ec
      subst hd
      obtain ⟨hget, _⟩ := I.pin (a, oe) (List.mem_append.mpr (.inl List.mem_cons_self))
      obtain ⟨vs, hv⟩ := hf
      have J : PySem.W.InstAt s.heap a oe E none := ⟨hget, hz.1, by unfold PySem.W.notCls; rw [hv] <;> rfl, by rw [hz.2]; trivial⟩
      exact PySem.W.kia_one (PySem.W.handS_kitx_exc T.ga T.gg T.exC T.hdC T2.ha T2.hn T2.ht T2.hm) I.kIn J e (fun z => nomatch z) fun tk => ⟨.bl b, H, I.kept (t' := tk) fun _ _ z => z, rfl, q⟩
/-- isinstance(err, D), whether the error has fields or not -/
theorem pde_isA {D : Value} {cD : V} {bb : Bool} (T : XfC X.K E) (T2 : ErrI X.K E) (hz : Zc (.ref E) d oe) (hf : ∃ vs, oe.data = .fields vs) (hcD : ∀ u, RelV cD u → u = D) (hk : PySem.W.kitOne X.K (.ref E) D = some bb) (hD : PE (X.suite a ((a, oe) :: pn)) (.Name z p3) (tC cD))
    (hg : Gl X "isinstance") (hm : X.mg "isinstance" = none) (hN : X.N[j]? = some n := by rfl) (hv : Vis X.env.scope n := by first | exact Or.inl rfl | exact Or.inr (Or.inl rfl) | exact Or.inr (Or.inr rfl)) (hd : (n == ("__debug__" : Str)) = false := by decide) (hcd : (n == ("__classdict__" : Str)) = false := by decide)
    (h1 : starEach [.Name n p2, .Name z p3] X.env = (false, eval (.Name n p2) X.env) :: starEach [.Name z p3] X.env := by rfl) (h2 : starEach [.Name z p3] X.env = (false, eval (.Name z p3) X.env) :: starEach [] X.env := by rfl) (hpl : (backTo pos (starEach [.Name z p3] X.env)).any (·.1) = false := by rfl) :
    PDE (X.suite a ((a, oe) :: pn)) a d j (.Call (.Name "isinstance" p) [.Name n p2, .Name z p3] [] pos) (fun fws τ S Q => Q (.bl bb) S) := by
  cases d with
  | none =>
    refine ⟨_, pe_callB (call_isZ T T2 hz hf rfl) hg hm (by decide +kernel) (pa_cons (pe_var (i := j) hN hv hd hcd) (pa_cons hD pa_nil h2) h1) (by decide) (by decide) h1 hpl, fun γ C σ τ fws Qd Q hs hst hj he h k => ?_⟩
    exact ⟨_, hj, cD, D, bb, rfl, hcD, hk, k C _ _ h hs (.refl _ _) (.bl _)⟩
  | some dd =>
    refine ⟨_, pe_callB (call_isX T T2 hz hf rfl) hg hm (by decide +kernel) (pa_cons (pe_var (i := j) hN hv hd hcd) (pa_cons hD pa_nil h2) h1) (by decide) (by decide) h1 hpl, fun γ C σ τ fws Qd Q hs hst hj he h k => ?_⟩
    obtain ⟨fs, e1, e2, e3, e4⟩ := he
    exact ⟨_, hj, cD, D, bb, rfl, hcD, hk, ⟨fs, e1⟩, k C _ _ h hs (.refl _ _) (.bl _)⟩
end
end FL
end
section
set_option autoImplicit false
namespace FL
open PySem PySem.Spec PyProof.Rows L2
/-! ### operators and built-ins over a value that may not come -/
section
variable {X : Cx} {Ex : WX} {a b e : Expr} {ta : TD} {tx : TDX} {pos p : Pos}
theorem pdx_op {op : Operator} {rd : R2D} (ho : OpD X (binaryOp op) rd) (ha : PD X a ta) (hb : PDX X Ex b tx) : PDX X Ex (.BinOp a op b pos) (fun Ed => dOp rd ta (tx Ed)) := by
  obtain ⟨r, hr, kr⟩ := ho.ex
  obtain ⟨tA, pa, ka⟩ := ha.ex
  obtain ⟨tB, pb, kb⟩ := hb.ex
  refine ⟨_, pe_op hr pa pb, fun γ C σ τ Ed Qd Q hs hst h k kx => ?_⟩
  exact ka γ C σ τ _ _ hs hst h fun C1 v1 w1 h1 s1 st1 r1 => kb γ C1 σ τ Ed _ _ s1 (hst.step st1) h1 (fun C2 v2 w2 h2 s2 st2 r2 => kr γ C2 v1 v2 w1 w2 _ _ s2 (r1.step st2) r2 h2 (k.step (st1.trans st2))) (kx.step st1)
theorem pdx_callB {x : Str} {id : String} {r : List W → Store → WK → Prop} (hc : CallD X (.builtin id) r) (hg : Gl X x) (hm : X.mg x = none) (hv : bootBuiltins x = some (.builtin id)) (ha : PDX X Ex e tx) (hn : x ≠ "__name__" := by decide) (hdb : (x == ("__debug__" : Str)) = false := by decide)
    (he : starEach (e :: []) X.env = (false, eval e X.env) :: starEach [] X.env := by rfl) (hpl : (backTo pos (starEach [] X.env)).any (·.1) = false := by rfl) : PDX X Ex (.Call (.Name x p) [e] [] pos) (fun Ed => dCB r (dCons (tx Ed) dNil)) := by
  obtain ⟨u, o, kr⟩ := hc.ex
  obtain ⟨tA, pa, ka⟩ := ha.ex
  exact ⟨_, pe_callB o hg hm hv (pa_cons pa pa_nil he) hn hdb he hpl, fun γ C σ τ Ed Qd Q hs hst h k kx => ka γ C σ τ Ed _ _ hs hst h (fun C1 v w h1 s1 st1 r1 => kr γ C1 [v] [w] _ _ s1 (.cons r1 .nil) h1 (k.step st1)) kx⟩
end
/-! ### [.. for .. in name], the name a list of the store that stays as it is -/
section
variable {X : Cx}
def dLcN (i : Nat) (g : W → EnvD → Option EnvD) (tt : TTD) (te : TD) (vs : List Nat) : TAD := fun τ S Q => match τ[i]? with
  | some (some (.loc n)) => (match S[n]? with
    | some (some (.lst items)) => items.length ≤ sizeLine ∧ ∃ P : Nat → List W → Store → Prop, P 0 [] S ∧ (∀ j acc S, P j acc S → S[n]? = some (some (Cell.lst items))) ∧ (∀ j x acc S, items[j]? = some x → acc.length ≤ j → P j acc S → match g x (wipeD τ vs) with
        | some τ1 => tt τ1 S fun b S1 => if b = true then te τ1 S1 fun w S2 => P (j + 1) (acc ++ [w]) S2 else P (j + 1) acc S1
        | none => False) ∧ ∀ acc S, P items.length acc S → Q acc S
    | _ => False)
  | _ => False
theorem lc_exN {i0 : Nat} {x0 : Str} {pos0 : Pos} {elt tg : Expr} {ifs : List Expr} {scope : Scope} {own : List (Str × Nat)} {is : List Nat} {g : W → EnvD → Option EnvD} {tt : TTD} {te : TD} (hN0 : X.N[i0]? = some x0) (hv0 : Vis X.env.scope x0) (hd0 : (x0 == ("__debug__" : Str)) = false) (hcd0 : (x0 == ("__classdict__" : Str)) = false)
    (hg : ∀ (s : Shared) (H : Hp) (C : Addr) (cl : List (Str × Addr)) (fp : List Addr), PGD (X.blk s H scope (compEnvC scope cl C X.env) fp) tg is g)
    (ht : ∀ (s : Shared) (H : Hp) (C : Addr) (cl : List (Str × Addr)) (fp : List Addr), PTsD (X.blk s H scope (compEnvC scope cl C X.env) fp) ifs tt)
    (he : ∀ (s : Shared) (H : Hp) (C : Addr) (cl : List (Str × Addr)) (fp : List Addr), PD (X.blk s H scope (compEnvC scope cl C X.env) fp) elt te)
    (his : ∀ j ∈ is, j ∈ own.map (·.2)) :
    ∃ wi gH tH eH, PI X tg (.Name x0 pos0) wi ∧ (∀ (s : Shared) (H : Hp) (C : Addr) (cl : List (Str × Addr)) (fp : List Addr), PG (X.blk s H scope (compEnvC scope cl C X.env) fp) tg gH) ∧ (∀ (s : Shared) (H : Hp) (C : Addr) (cl : List (Str × Addr)) (fp : List Addr), PTs (X.blk s H scope (compEnvC scope cl C X.env) fp) ifs tH) ∧
      (∀ (s : Shared) (H : Hp) (C : Addr) (cl : List (Str × Addr)) (fp : List Addr), PE (X.blk s H scope (compEnvC scope cl C X.env) fp) elt eH) ∧ ∀ γ C σ τ Qd Q, Sim X.K γ C → RSt X.K γ C σ τ → dLcN i0 g tt te (own.map (·.2)) τ C.S Qd → KF X.K γ C Qd Q → tLc wi gH tH eH (own.map (·.2)) σ C.H Q := by
  refine ⟨_, fun v σ H Q => ∀ s0 H0 D cl fp, Classical.choose (hg s0 H0 D cl fp).ex v σ H Q, fun σ H Q => ∀ s0 H0 D cl fp, Classical.choose (ht s0 H0 D cl fp).ex σ H Q, fun σ H Q => ∀ s0 H0 D cl fp, Classical.choose (he s0 H0 D cl fp).ex σ H Q, pi_list (pe_var (i := i0) hN0 hv0 hd0 hcd0), ?_, ?_, ?_, fun γ C σ τ Qd Q hsm hst h k => ?_⟩
  · intro s0 H0 D cl fp
    exact ⟨fun pins s σ H v u Q I r h => (Classical.choose_spec (hg s0 H0 D cl fp).ex).1.run pins s σ H v u Q I r (h s0 H0 D cl fp)⟩
  · intro s0 H0 D cl fp
    exact ⟨fun pins s σ H Q I h => (Classical.choose_spec (ht s0 H0 D cl fp).ex).1.run pins s σ H Q I (h s0 H0 D cl fp)⟩
  · intro s0 H0 D cl fp
    exact ⟨fun pins s σ H Q I h => (Classical.choose_spec (he s0 H0 D cl fp).ex).1.run pins s σ H Q I (h s0 H0 D cl fp)⟩
  unfold dLcN at h
  split at h
  case h_2 => exact h.elim
  rename_i n en
  split at h
  case h_2 => exact h.elim
  rename_i ws e2
  obtain ⟨hlen, P, p0, pc, pstep, pend⟩ := h
  obtain ⟨v, e', r⟩ := hst.2 i0 _ en
  cases r with
  | @loc _ a hn =>
    obtain ⟨xs0, p1, p2⟩ := hsm.cell n a _ hn e2
    have pre : ∀ {Ca : Cfg} {γa : List Addr}, Step γ C γa Ca → Ca.ρ[n]? = some a := fun st => by
      obtain ⟨l, q⟩ := st.pre
      rw [q]; exact get_pre hn
    refine ⟨_, e', a, rfl, ⟨xs0, SqL.of p1⟩, fun D hD => ?_⟩
    obtain ⟨g1, g2⟩ := hsm.ghost (o := .lst []) hD
    have hD0 : C.H D = none := hD
    refine ⟨fun i m H => i + m = ws.length ∧ ∃ C2 acc xs, C2.H = H ∧ Sim X.K (D :: γ) C2 ∧ Step γ C (D :: γ) C2 ∧ H D = some (.lst xs) ∧ RVs X.K (D :: γ) C2 xs acc ∧ acc.length ≤ i ∧ P i acc C2.S,
      ⟨ws.length, by omega, C.put D (.lst []), [], [], rfl, g1, g2, upd_same, .nil, Nat.le_refl _, p0⟩, fun i m H hW => ?_⟩
    obtain ⟨em, C2, acc, xs, rfl, s2, st2, eD, rx, hacc, hl⟩ := hW
    obtain ⟨ys, q1, q2⟩ := s2.cell n a _ (pre st2) (pc i acc C2.S hl)
    by_cases hi : i < ws.length
    · have ei : ws[i]? = some ws[i] := List.getElem?_eq_getElem hi
      obtain ⟨u, eu, rv⟩ := q2.get ei
      refine .inr ⟨⟨ys, u, SqL.of q1, eu⟩, fun H' => i + 1 + (m - 1) = ws.length ∧ ∃ C2 acc xs, C2.H = H' ∧ Sim X.K (D :: γ) C2 ∧ Step γ C (D :: γ) C2 ∧ H' D = some (.lst xs) ∧ RVs X.K (D :: γ) C2 xs acc ∧ acc.length ≤ i + 1 ∧ P (i + 1) acc C2.S, fun H' hN => ⟨m - 1, by omega, hN⟩, fun x H' hy => ?_⟩
      obtain ⟨rfl, hy2⟩ := hy
      have ey : x = u := by
        have := (hy2 ys (SqL.of q1)).symm.trans eu
        cases this; rfl
      subst ey
      have hl' := pstep i ws[i] acc C2.S ei hacc hl
      cases eg : g ws[i] (wipeD τ (own.map (·.2))) with
      | none => rw [eg] at hl'; exact hl'.elim
      | some τ1 =>
        rw [eg] at hl'
        intro s0 H0 D0 cl fp
        have hstw : RSt X.K (D :: γ) C2 (L2.wipe σ (own.map (·.2))) (wipeD τ (own.map (·.2))) := (hst.step st2).wipe _
        refine (Classical.choose_spec (hg s0 H0 D0 cl fp).ex).2 (D :: γ) C2 _ _ x ws[i] τ1 _ s2 hstw rv eg fun σ' hst' hl1 hk1 => ⟨?_, ?_⟩
        · have e1 := wipe_same (vs := own.map (·.2)) hl1 fun j hj => hk1 j fun z => hj (his j z)
          rw [e1]
          exact wipe_same (wipe_length _ _) fun j hj => wipe_out hj
        · intro s0 H0 D0 cl fp
          refine (Classical.choose_spec (ht s0 H0 D0 cl fp).ex).2 (D :: γ) C2 σ' τ1 _ _ s2 hst' hl' fun C4 bb h4 s4 st4 => ?_
          have st14 := st2.trans st4
          have eD4 : C4.H D = some (.lst xs) := st4.keep D _ eD (.inl List.mem_cons_self)
          cases bb with
          | false =>
            rw [if_neg Bool.false_ne_true] at h4 ⊢
            exact ⟨by omega, C4, acc, xs, rfl, s4, st14, eD4, rx.step st4, by omega, h4⟩
          | true =>
            rw [if_pos rfl] at h4 ⊢
            intro s0 H0 D0 cl fp
            refine (Classical.choose_spec (he s0 H0 D0 cl fp).ex).2 (D :: γ) C4 σ' τ1 _ _ s4 (hst'.step st4) h4 fun C5 y w h5 s5 st5 r5 => ?_
            have eD5 : C5.H D = some (.lst xs) := st5.keep D _ eD4 (.inl List.mem_cons_self)
            have hp : ∃ u, C5.H D = some u ∧ (∀ xs, u ≠ .tup xs) ∧ ∀ o z, u ≠ .frz o z := ⟨_, eD5, fun _ => nofun, fun _ _ => nofun⟩
            have lx : xs.length = acc.length := rx.length
            refine ⟨xs, eD5, by omega, by omega, C5.put D (.lst (xs ++ [y])), acc ++ [w], xs ++ [y], rfl, s5.gput hp, (st14.trans st5).gput hD, upd_same, ?_, ?_, h5⟩
            · exact ((rx.step (st4.trans st5)).gput s5 hp).append (.cons (r5.gput s5 hp) .nil)
            · rw [List.length_append]; show acc.length + 1 ≤ i + 1; omega
    · refine .inl ⟨⟨ys, SqL.of q1, by rw [q2.length]; omega⟩, ?_⟩
      have e : i = ws.length := by omega
      subst e
      exact k C2 D xs acc (pend acc C2.S hl) s2 st2 hD0 eD rx
theorem psd_setLcTN (hc : X.calm = true) (hN : X.N.Nodup) {i : Nat} {y : Str} {py spos pos : Pos} (hy : X.N[i]? = some y) (hyl : X.env.scope.names.lookup y = some .local) {i0 : Nat} {x0 : Str} {pos0 : Pos} {elt tg : Expr} {ifs : List Expr} {scope : Scope} {own : List (Str × Nat)} {is : List Nat} {g : W → EnvD → Option EnvD} {tt : TTD} {te : TD} (hN0 : X.N[i0]? = some x0) (hv0 : Vis X.env.scope x0) (hd0 : (x0 == ("__debug__" : Str)) = false) (hcd0 : (x0 == ("__classdict__" : Str)) = false)
    (hg : ∀ (s : Shared) (H : Hp) (C : Addr) (cl : List (Str × Addr)) (fp : List Addr), PGD (X.blk s H scope (compEnvC scope cl C X.env) fp) tg is g)
    (ht : ∀ (s : Shared) (H : Hp) (C : Addr) (cl : List (Str × Addr)) (fp : List Addr), PTsD (X.blk s H scope (compEnvC scope cl C X.env) fp) ifs tt)
    (he : ∀ (s : Shared) (H : Hp) (C : Addr) (cl : List (Str × Addr)) (fp : List Addr), PD (X.blk s H scope (compEnvC scope cl C X.env) fp) elt te)
    (his : ∀ j ∈ is, j ∈ own.map (·.2)) (ok : BlkOk X.N X.env.scope scope own) (hsw : swapsWith (.ListComp elt [⟨tg, .Name x0 pos0, ifs, 0⟩] scope pos) (some (.Name y py)) spos.line X.env = pure true) (hs : ∀ x, foldedSetIterable (.Name x0 pos0) X.env x = pure x := by intro _; rfl) :
    PSD X (.Assign [.Name y py] (.ListComp elt [⟨tg, .Name x0 pos0, ifs, 0⟩] scope pos) spos) (sLcT i (dLcN i0 g tt te (own.map (·.2)))) := by
  obtain ⟨wi, gH, tH, eH, h1, h2, h3, h4, h5⟩ := lc_exN (pos0 := pos0) hN0 hv0 hd0 hcd0 hg ht he his
  refine ⟨_, ps_setLc hc hN hy hyl hsw h1 ok h2 h3 h4 hs, fun γ C σ τ Dd D hsm hst h k => ?_⟩
  exact h5 γ C σ τ _ _ hsm hst h fun C1 q xs ws hq s1 st1 hq0 e1 r1 => k.nx C1 _ _ hq s1.drop (st1.drop s1 fun _ z => z) ((hst.step (st1.drop s1 fun _ z => z)).set (.lst e1 s1.nlive r1.drop1))
end
end FL
end
section
set_option autoImplicit false
namespace FL
open PySem PySem.Spec PyProof.Rows L2
/-! ### sorted: pairs of an int and a tuple of ints -/
theorem pLt_of (p q : Int × List Int) : pLt q p = false ↔ (p.1 < q.1 ∨ p.1 = q.1 ∧ ¬ q.2 < p.2) := by
  unfold pLt
  by_cases e : q.1 = p.1
  · rw [if_pos e, ← lt_lex, decide_eq_false_iff_not]
    constructor
    · intro h; exact .inr ⟨e.symm, h⟩
    · rintro (h | ⟨_, h⟩)
      · omega
      · exact h
  · rw [if_neg e, decide_eq_false_iff_not]
    constructor
    · intro h; exact .inl (by omega)
    · rintro (h | ⟨h, _⟩) <;> omega
theorem pLt_trans' {p q r : Int × List Int} (h1 : pLt q p = false) (h2 : pLt r q = false) : pLt r p = false := by
  rw [pLt_of] at *
  rcases h1 with h1 | ⟨a1, b1⟩
  · rcases h2 with h2 | ⟨a2, b2⟩
    · exact .inl (by omega)
    · exact .inl (by omega)
  · rcases h2 with h2 | ⟨a2, b2⟩
    · exact .inl (by omega)
    · exact .inr ⟨by omega, List.not_lt.mpr (List.le_trans (List.not_lt.mp b1) (List.not_lt.mp b2))⟩
theorem pLt_total (p q : Int × List Int) : pLt q p = false ∨ pLt p q = false := by
  rw [pLt_of, pLt_of]
  rcases Int.lt_trichotomy p.1 q.1 with h | h | h
  · exact .inl (.inl h)
  · by_cases h2 : q.2 < p.2
    · exact .inr (.inr ⟨h.symm, List.lt_asymm h2⟩)
    · exact .inl (.inr ⟨h, h2⟩)
  · exact .inr (.inl h)
section
variable {X : Cx}
open PySem.W in
theorem each_ofG {α : Type} {K : PySem.W.Frag} {γ : List Addr} {C : Cfg} (f : α → W) : ∀ {cs : List α} {xs : List V} {out : List Value}, RVs K γ C xs (cs.map f) → Vals xs out → EachIs (fun v b => ∃ x : V, RelV x v ∧ RV K γ C x (f b)) out cs
  | [], _, _, r, q => by
    cases r
    cases q
    exact .nil
  | c :: cs, _, _, r, q => by
    rw [List.map_cons] at r
    cases r with
    | cons r1 r2 =>
      cases q with
      | cons q1 q2 => exact .cons ⟨_, q1, r1⟩ (each_ofG f r2 q2)
open PySem.W in
theorem each_splitG {α : Type} {K : PySem.W.Frag} {γ : List Addr} {C : Cfg} (f : α → W) : ∀ {cs : List α} {out : List Value}, EachIs (fun v b => ∃ x : V, RelV x v ∧ RV K γ C x (f b)) out cs → ∃ xs : List V, Vals xs out ∧ RVs K γ C xs (cs.map f)
  | _, _, .nil => ⟨[], .nil, .nil⟩
  | _, _, .cons ⟨x, h1, h2⟩ t => by
    obtain ⟨xs, a, b⟩ := each_splitG f t
    exact ⟨x :: xs, .cons h1 a, .cons h2 b⟩
def rdSortPI : List W → Store → (List W → Store → Prop) → Prop := fun ws S Q => ∃ (w : W) (ps : List (Int × List Int)), ws = [w] ∧ llOf S w = some (ps.map prI) ∧ ps.length ≤ 1000000 ∧ ∀ ps' : List (Int × List Int), ps'.Perm ps → ps'.Pairwise (fun p q => pLt q p = false) → Q (ps'.map prI) S
open PySem.W in
theorem cf_sortPI {k : Nat} (hr : Room k X.A) : CallF X (.builtin "sorted") rdSortPI := by
  refine ⟨fun vs H Q => ∃ (γ : List Addr) (C : Cfg) (w : W) (ps : List (Int × List Int)), C.H = H ∧ Sim X.K γ C ∧ RVs X.K γ C vs [w] ∧ llOf C.S w = some (ps.map prI) ∧ ps.length ≤ 1000000 ∧ ∃ Qd, KF X.K γ C Qd Q ∧ ∀ ps' : List (Int × List Int), ps'.Perm ps → ps'.Pairwise (fun p q => pLt q p = false) → Qd (ps'.map prI) C.S, ?_, fun γ C vs ws Qd Q hs r h kk => ?_⟩
  · intro pins s σ H vs us Q I r h
    obtain ⟨γ, C, w, cs, rfl, sim, rv, hl, hcl, Qd, kf, hq⟩ := h
    cases rv with
    | cons rv1 rv2 =>
      cases rv2
      obtain ⟨p, xs, rfl, hsq, rxs⟩ := llOf_at sim rv1 hl
      obtain ⟨u, rfl, ru⟩ := vals1 r
      cases ru
      obtain ⟨its, rits, pl, hz⟩ := I.list hsq
      have old : ∀ b' o, s.heap.get? b' = some o → (sortingHeap (copyHeap s.heap its) (s.heap.objs.size + 1) its).get? b' = some o := fun b' o e => sorting_copy_old e
      have hun := hr.un
      have e1 := each_ofG prI rxs rits
      have er : EachIs (fun v b => ∃ as, Reads s.heap v (pdI b) as) its cs := e1.mono fun v b ⟨x, h1, h2⟩ => by
        obtain ⟨as, r1, _⟩ := RV.reads I h2 (toP_pI b) h1
        exact ⟨as, r1⟩
      have hal : AllAlike (cs.map pdI) := AllAlike.of fun b b' => by
        unfold pdI
        show (true && (alike (.tuple (b.2.map .int)) (.tuple (b'.2.map .int)) && true)) = true
        rw [show alike (.tuple (b.2.map .int)) (.tuple (b'.2.map .int)) = true from alike_ints _ _]
        rfl
      have hlen : its.length = cs.length := by rw [← rits.length, rxs.length, List.length_map]
      refine sorted_data (enc := pdI) (R := fun v b => ∃ x : V, RelV x v ∧ RV X.K γ C x (prI b)) pl.isList e1 er hal (Sortable.tuples fun b => ⟨.int b.1, [.tuple (b.2.map .int)], rfl⟩) (by rw [sizeLine_eq]; omega) (fun b _ => ?_) fun out ho hout => ?_
      · have : (pdI b).depth = 2 := by
          unfold pdI
          show max 0 (max (PyData.depthAll (b.2.map .int) + 1) 0) + 1 = 2
          rw [depth_ints]
          rfl
        rw [this]; omega
      · have hle : ∀ p q : Int × List Int, dataLe false pdI p q = true ↔ pLt q p = false := fun p q => by
          rw [dataLe_eq]
          simp only [cond_false, dlt_pI, Bool.not_eq_true']
        obtain ⟨zs, z1, z2⟩ := each_splitG prI hout
        obtain ⟨ep, he'⟩ := PyProof.Rows.sortedAll_at s.heap its out.toArray
        have zl : zs.length ≤ sizeLine := by rw [z2.length, List.length_map, List.length_mergeSort, sizeLine_eq]; omega
        have hpw : (cs.mergeSort (dataLe false pdI)).Pairwise fun p q => pLt q p = false := by
          refine (List.pairwise_mergeSort (fun a b c h1 h2 => ?_) (fun a b => ?_) cs).imp fun h => (hle _ _).mp h
          · exact (hle _ _).mpr (pLt_trans' ((hle _ _).mp h1) ((hle _ _).mp h2))
          · rw [Bool.or_eq_true]
            exact (pLt_total a b).imp (hle _ _).mpr (hle _ _).mpr
        exact ⟨.ref _, upd C.H (s.heap.objs.size + 1) (.lst zs), I.laid (t' := s.toks) (fun _ _ => PyProof.Rows.sortedAll_old) (Nat.le_succ _) ⟨zl, _, ep, z1, he'⟩, rfl, newF kf sim z2 (hq _ (List.mergeSort_perm ..) hpw) _ (I.hok.fresh (Nat.le_succ _))⟩
  · obtain ⟨w, cs, rfl, hl, hcl, hq⟩ := h
    exact ⟨γ, C, w, cs, rfl, hs, r, hl, hcl, Qd, kk, hq⟩
end
end FL
end
section
set_option autoImplicit false
namespace FL
open PySem PySem.Spec PyProof.Rows L2
/-! ### texts -/
def strsW (ys : List Str) : List W := ys.map W.str
theorem RVs.strs {K : PySem.W.Frag} {γ : List Addr} {C : Cfg} : ∀ {xs : List V} {ys : List Str}, RVs K γ C xs (strsW ys) → xs = ys.map V.str
  | _, [], .nil => rfl
  | _, y :: ys, .cons r rs => by
    cases r
    rw [RVs.strs rs]
    rfl
theorem RVs.of_strs {K : PySem.W.Frag} {γ : List Addr} {C : Cfg} : ∀ ys : List Str, RVs K γ C (ys.map V.str) (strsW ys)
  | [] => .nil
  | y :: ys => .cons (.str y) (RVs.of_strs ys)
section
variable {X : Cx} {o e : Expr} {to te : TD} {apos pos : Pos}
/-- a module's text -/
theorem pd_globS {x : Str} {y : Str} {u : Value} {pos : Pos} (hg : Gl X x) (hm : X.mg x = some u) (r : RelV (.str y) u) (hd : (x == ("__debug__" : Str)) = false := by decide) : PD X (.Name x pos) (dC (.str y)) :=
  ⟨_, pe_glob hg hm r hd, fun γ C σ τ Qd Q hs hst h k => k C _ _ h hs (.refl _ _) (.str y)⟩
/-- a.split(b) -/
def dSplit (to te : TD) : TAD := fun τ S Q => to τ S fun x S1 => match x with
  | .str a => te τ S1 fun y S2 => ∃ b : Str, y = .str b ∧ (b.length == 0) = false ∧ a.length + 2 ≤ sizeLine ∧ Q (strsW (Txt.split a b)) S2
  | _ => False
theorem pdf_split (ho : PD X o to) (he : PD X e te) (hs : starEach [e] X.env = [(false, eval e X.env)] := by rfl) (hbase : attributeBase o "split" X.env (eval o X.env) = eval o X.env := by rfl) (hline : (apos.endLine == pos.line) = true := by rfl) :
    PDF X (.Call (.Attribute o "split" apos) [e] [] pos) (dSplit to te) := by
  obtain ⟨tO, pO, kO⟩ := ho.ex
  obtain ⟨tE, pE, kE⟩ := he.ex
  refine ⟨_, pe_split pO pE hs hbase hline, fun γ C σ τ Qd Q hsm hst h k => ?_⟩
  refine kO γ C σ τ _ _ hsm hst h fun C1 v1 w1 h1 s1 st1 r1 => ?_
  cases r1 <;> first | exact False.elim h1 | skip
  rename_i a
  refine ⟨⟨a, rfl⟩, ?_⟩
  · refine kE γ C1 σ τ _ _ s1 (hst.step st1) h1 fun C2 v2 w2 h2 s2 st2 r2 => ?_
    obtain ⟨b, rfl, hb, hz, hq⟩ := h2
    cases r2
    exact ⟨a, b, rfl, rfl, hb, hz, newF (k.step (st1.trans st2)) s2 (RVs.of_strs _) hq⟩
/-- a.join(l) -/
def dJoin (to te : TD) : TD := fun τ S Q => to τ S fun x S1 => match x with
  | .str a => te τ S1 fun y S2 => ∃ ys : List Str, llOf S2 y = some (strsW ys) ∧ (ys.map (·.length)).sum + ys.length * a.length ≤ 16777216 ∧ Q (.str (Txt.join a ys)) S2
  | _ => False
theorem pd_join (ho : PD X o to) (he : PD X e te) (hs : starEach [e] X.env = [(false, eval e X.env)] := by rfl) (hbase : attributeBase o "join" X.env (eval o X.env) = eval o X.env := by rfl) (hline : (apos.endLine == pos.line) = true := by rfl) :
    PD X (.Call (.Attribute o "join" apos) [e] [] pos) (dJoin to te) := by
  obtain ⟨tO, pO, kO⟩ := ho.ex
  obtain ⟨tE, pE, kE⟩ := he.ex
  refine ⟨_, pe_join pO pE hs hbase hline, fun γ C σ τ Qd Q hsm hst h k => ?_⟩
  refine kO γ C σ τ _ _ hsm hst h fun C1 v1 w1 h1 s1 st1 r1 => ?_
  cases r1 <;> first | exact False.elim h1 | skip
  rename_i a
  refine ⟨⟨a, rfl⟩, ?_⟩
  · refine kE γ C1 σ τ _ _ s1 (hst.step st1) h1 fun C2 v2 w2 h2 s2 st2 r2 => ?_
    obtain ⟨ys, hl, hz, hq⟩ := h2
    obtain ⟨p, xs, rfl, hx, rs⟩ := llOf_at s2 r2 hl
    have ex := rs.strs
    subst ex
    exact ⟨a, p, ys, rfl, rfl, .inl hx, hz, k C2 _ _ hq s2 (st1.trans st2) (.str _)⟩
/-- int(text) -/
def rdIntS : List W → Store → WK → Prop := fun ws S Q => ∃ (a : Str) (n : Int), ws = [.str a] ∧ PySem.intText? a = some n ∧ a.length ≤ 640 ∧ Q (.int n) S
theorem cd_intS : CallD X (.type "int") rdIntS := by
  refine ⟨_, call_int_str, fun γ C vs ws Qd Q hs r h k => ?_⟩
  obtain ⟨a, n, rfl, hn, hl, hq⟩ := h
  cases r with
  | cons r1 r2 =>
    cases r2
    cases r1
    exact ⟨a, n, rfl, hn, hl, k C _ _ hq hs (.refl _ _) (.int _)⟩
/-- str(number) -/
def rdStrI : List W → Store → WK → Prop := fun ws S Q => ∃ i : Int, ws = [.int i] ∧ i.natAbs.log2 < 1920 ∧ Q (.str (toString i)) S
theorem cd_strI : CallD X (.type "str") rdStrI := by
  refine ⟨_, call_str_int, fun γ C vs ws Qd Q hs r h k => ?_⟩
  obtain ⟨i, rfl, hl, hq⟩ := h
  cases r with
  | cons r1 r2 =>
    cases r2
    cases r1
    exact ⟨i, rfl, hl, k C _ _ hq hs (.refl _ _) (.str _)⟩
/-- one sign in a text -/
def rdInS (neg : Bool) : R2D := fun x y S Q => match x, y with
  | .str a, .str z => ∃ c : Nat, a = ⟨#[c]⟩ ∧ Q (.bl (neg != decide (c ∈ z.cps.toList))) S
  | _, _ => False
theorem opd_inS : OpD X (compareOp .In) (rdInS false) := by
  refine ⟨_, op_in_sign, fun γ C x y w1 w2 Qd Q hs rx ry h k => ?_⟩
  cases rx <;> cases ry <;> first | exact False.elim h | skip
  obtain ⟨c, rfl, hq⟩ := h
  refine ⟨c, _, rfl, rfl, k C _ _ ?_ hs (.refl _ _) (.bl _)⟩
  rename_i z
  have e : (false != decide (c ∈ z.cps.toList)) = decide (c ∈ z.cps.toList) := by cases decide (c ∈ z.cps.toList) <;> rfl
  rw [← e]
  exact hq
theorem opd_notInS : OpD X (compareOp .NotIn) (rdInS true) := by
  refine ⟨_, op_notIn_sign, fun γ C x y w1 w2 Qd Q hs rx ry h k => ?_⟩
  cases rx <;> cases ry <;> first | exact False.elim h | skip
  obtain ⟨c, rfl, hq⟩ := h
  refine ⟨c, _, rfl, rfl, k C _ _ ?_ hs (.refl _ _) (.bl _)⟩
  rename_i z
  have e : (true != decide (c ∈ z.cps.toList)) = !decide (c ∈ z.cps.toList) := by cases decide (c ∈ z.cps.toList) <;> rfl
  rw [← e]
  exact hq
/-- for sign in text -/
def signsW (a : Str) : List W := a.cps.toList.map fun c => W.str ⟨#[c]⟩
def iSigns (ta : TD) : TAD := fun τ S Q => ta τ S fun w S1 => match w with
  | .str a => Q (signsW a) S1
  | _ => False
theorem walks_str {K : PySem.W.Frag} {γ : List Addr} {C : Cfg} (a : Str) : Walks K γ C (Its a) (signsW a) := by
  refine ⟨fun i w γ' C' s' st e => ?_, fun i γ' C' s' st hl => ?_⟩
  · unfold signsW at e
    rw [List.getElem?_map, Array.getElem?_toList] at e
    obtain ⟨c, ec, rfl⟩ := Option.map_eq_some_iff.mp e
    refine ⟨(Array.getElem?_eq_some_iff.mp ec).1, fun x H' hy => ?_⟩
    obtain ⟨rfl, c', ec', rfl⟩ := hy
    rw [ec] at ec'
    cases ec'
    exact ⟨C', rfl, rfl, s', .refl _ _, .str _⟩
  · show a.cps.size ≤ i
    unfold signsW at hl
    rw [List.length_map, Array.length_toList] at hl
    exact hl
theorem pid_signs {tg a : Expr} {ta : TD} (ha : PD X a ta) : PID X tg a (iSigns ta) := by
  obtain ⟨tA, pa, ka⟩ := ha.ex
  refine ⟨_, pi_str pa, fun γ C σ τ Qd R hs hst h k => ka γ C σ τ _ _ hs hst h fun C1 v w h1 s1 st1 r1 => ?_⟩
  cases r1 <;> first | exact False.elim h1 | skip
  exact ⟨_, rfl, k C1 _ _ h1 s1 st1 (walks_str _)⟩
/-- text[i] -/
def rdIxS : R2D := fun x y S Q => match x, y with
  | .str a, .int i => (match L2.atI a.cps.toList i with
    | some c => a.length ≤ sizeLine ∧ Q (.str ⟨#[c]⟩) S
    | none => False)
  | _, _ => False
theorem pd_ixS {a b : Expr} {ta tb : TD} (ha : PD X a ta) (hb : PD X b tb) (hs : PlainIx b) : PD X (.Subscript a b pos) (dOp rdIxS ta tb) := by
  obtain ⟨tA, pa, ka⟩ := ha.ex
  obtain ⟨tB, pb, kb⟩ := hb.ex
  refine ⟨_, pe_ix ix_str pa pb hs, fun γ C σ τ Qd Q hs hst h k => ?_⟩
  refine ka γ C σ τ _ _ hs hst h fun C1 v1 w1 h1 s1 st1 r1 => kb γ C1 σ τ _ _ s1 (hst.step st1) h1 fun C2 v2 w2 h2 s2 st2 r2 => ?_
  cases r1 <;> cases r2 <;> first | exact False.elim h2 | skip
  unfold rdIxS at h2
  dsimp only at h2
  split at h2
  · rename_i c e
    exact ⟨_, _, c, rfl, rfl, h2.1, e, k C2 _ _ h2.2 s2 (st1.trans st2) (.str _)⟩
  · exact h2.elim
/-- len(text) -/
def rdLenS : List W → Store → WK → Prop := fun ws S Q => ∃ a : Str, ws = [.str a] ∧ a.length ≤ sizeLine ∧ Q (.int (a.length : Nat)) S
theorem cd_lenS : CallD X (.builtin "len") rdLenS := by
  refine ⟨_, call_len, fun γ C vs ws Qd Q hs r h k => ?_⟩
  obtain ⟨a, rfl, hl, hq⟩ := h
  cases r with
  | cons r1 r2 =>
    cases r2
    cases r1
    exact ⟨.str a, a.length, rfl, ⟨hl, rfl⟩, k C _ _ hq hs (.refl _ _) (.int _)⟩
end
end FL
end
section
set_option autoImplicit false
namespace FL
open PySem PySem.Spec PyProof.Rows L2
/-! ### except of a class above the error's -/
theorem psd_tryD {X : Cx} {E D0 : Addr} {j : Nat} {x n : Str} {b₀ : Stmt} {body suite : List Stmt} {np pos pos' : Pos} {tb : TSDX} {ts : FW → TSD} (hs : X.stack = X.env :: X.outer) (hf : X.env.frame = some X.env.locals) (hN : X.N.Nodup) (hi : X.N[j]? = some n) (hln : X.env.kindOf n = some .local) (hc : Names X x (.ref D0))
    (te : PySem.W.exmOne X.K (.ref E) (.ref D0) = some true)
    (hb : ∀ (Ex : WX) (pn : List (Addr × Obj)) (xe : Value → Shared → Prop), Takes (X.tr pn xe) Ex → PassesOwn (model X.prog X.w) X.A X.env xe → PSSDX (X.tr pn xe) Ex body tb)
    (hsu : ∀ (a : Addr) (oe : Obj) (d : Option Addr) (pn : List (Addr × Obj)), Zc (.ref E) d oe → (∃ vs, oe.data = .fields vs) → PSSDE (X.suite a ((a, oe) :: pn)) a d j (b₀ :: suite) ts) :
    PSD X (.Try body [.ExceptHandler (some (.Name x np)) (some n) (b₀ :: suite) pos'] [] [] pos) (sTry E j tb ts) := by
  refine ⟨_, ps_try_as (i := j) (Wout := fun _ _ _ _ => False) (tb := fun Ex D σ H => ∀ pn xe h1 h2, Classical.choose (hb Ex pn xe h1 h2).ex D σ H) (ts := fun a cls d D σ H => cls = .ref E ∧ ∀ oe pn hz hf, Classical.choose (hsu a oe d pn hz hf).ex D σ H) hs hf hN hi hln hc takes0 ?_ ?_, fun γ C σ τ Dd D hsm hst h k => ?_⟩
  · intro Ex pn xe h1 h2
    exact ⟨fun pins s σ H D I h => (Classical.choose_spec (hb Ex pn xe h1 h2).ex).1.run pins s σ H D I (h pn xe h1 h2)⟩
  · intro a oe cls d pn hz hf
    refine ⟨fun pins s σ H D I h => ?_⟩
    obtain ⟨rfl, h⟩ := h
    exact (Classical.choose_spec (hsu a oe d pn hz hf).ex).1.run pins s σ H D I (h oe pn hz hf)
  · intro pn xe h1 h2
    refine (Classical.choose_spec (hb _ pn xe h1 h2).ex).2 γ C σ τ _ Dd D hsm hst h k fun C' c d fws σ' τ' hE s' st' he hst' => ?_
    obtain ⟨rfl, hjl, hts⟩ := hE
    refine ⟨true, te, fun _ a ha => ⟨rfl, fun oe pn hz hf => ?_⟩, fun z => Bool.noConfusion z⟩
    have hl : j < σ'.length := by rw [hst'.1]; exact hjl
    refine (Classical.choose_spec (hsu a oe d pn hz hf).ex).2 γ C' _ _ fws _ _ s' (hst'.hide) (List.getElem?_set_self hl) he hts ?_
    have k' := k.step st'
    exact ⟨fun C2 σ2 τ2 h2 s2 st2 r2 => k'.nx C2 _ _ h2 s2 st2 r2.hide, fun C2 v w h2 s2 st2 r2 => k'.rt C2 v w h2 s2 st2 r2, fun C2 σ2 τ2 h2 s2 st2 r2 => k'.bk C2 _ _ h2 s2 st2 r2.hide, fun C2 σ2 τ2 h2 s2 st2 r2 => k'.ct C2 _ _ h2 s2 st2 r2.hide⟩
section
variable {Y : Cx} {a : Addr} {d : Option Addr} {j : Nat} {e b c : Expr} {te tb tc : FW → TD} {pos : Pos}
theorem pde_if (hc : PDE Y a d j c tc) (ha : PDE Y a d j e te) (hb : PDE Y a d j b tb) (he : ∀ whole, isTrue c Y.env whole = (do let v ← whole; standAt c.pos; holding [v] (truthy v)) := by intro _; rfl) :
    PDE Y a d j (.IfExp c e b pos) (fun fws τ S Q => tc fws τ S fun w S1 => match w with
      | .bl v => if v = true then te fws τ S1 Q else tb fws τ S1 Q
      | _ => False) := by
  obtain ⟨t, p, kt⟩ := hc.ex
  obtain ⟨u, q, ku⟩ := ha.ex
  obtain ⟨z, y, kz⟩ := hb.ex
  refine ⟨_, pe_ifExp (pt_val p he) q y, fun γ C σ τ fws Qd Q hs hst hj hE h k => ?_⟩
  refine kt γ C σ τ fws _ _ hs hst hj hE h fun C1 v w h1 s1 st1 r1 => ?_
  cases r1 <;> first | exact False.elim h1 | skip
  rename_i v
  refine ⟨v, rfl, ?_⟩
  cases v with
  | true => exact (if_pos rfl).mpr (ku γ C1 σ τ fws _ _ s1 (hst.step st1) hj (hE.step st1) ((if_pos rfl).mp h1) (k.step st1))
  | false => exact (if_neg Bool.false_ne_true).mpr (kz γ C1 σ τ fws _ _ s1 (hst.step st1) hj (hE.step st1) ((if_neg Bool.false_ne_true).mp h1) (k.step st1))
end
/-! ### a, b, c = x, y, z -/
section
variable {X : Cx} {a b c : Expr} {t : TAD} {pos : Pos}
def sPar3 (i j l : Nat) (t : TAD) : TSD := fun D τ S => t τ S fun ws S1 => match ws with
  | [u, v, w] => D.nx (((τ.set i (some u)).set j (some v)).set l (some w)) S1
  | _ => False
theorem psd_par3 {i j l : Nat} {x y z : Str} {px py pz pt : Pos} {kt k2 pt2} (hc : X.calm = true) (hN : X.N.Nodup) (hi : X.N[i]? = some x) (hj : X.N[j]? = some y) (hl : X.N[l]? = some z) (hij : i ≠ j) (hil : i ≠ l) (hjl : j ≠ l)
    (hx : X.env.scope.names.lookup x = some .local) (hy : X.env.scope.names.lookup y = some .local) (hz : X.env.scope.names.lookup z = some .local) (ha : PAD X [a, b, c] t)
    (hw : swappedStores [.Tuple [.Name x px, .Name y py, .Name z pz] kt pt] (.Tuple [a, b, c] k2 pt2) X.env = pure (some [x, y, z]) := by rfl)
    (hs : swapsWithSole [.Tuple [.Name x px, .Name y py, .Name z pz] kt pt] (.Tuple [a, b, c] k2 pt2) pos.line X.env = pure false := by rfl) :
    PSD X (.Assign [.Tuple [.Name x px, .Name y py, .Name z pz] kt pt] (.Tuple [a, b, c] k2 pt2) pos) (sPar3 i j l t) := by
  obtain ⟨tA, pA, kA⟩ := ha.ex
  refine ⟨_, ps_par3 hc hN hi hj hl hij hil hjl hx hy hz pA hw hs, fun γ C σ τ Dd D hst0 hst h k => kA γ C σ τ _ _ hst0 hst h fun C1 vs ws h1 s1 st1 r1 => ?_⟩
  unfold sPar3 at h1
  split at h1
  · cases r1 with
    | @cons v _ _ _ r1 r2 => cases r2 with
      | @cons w _ _ _ r2 r3 => cases r3 with
        | @cons u _ _ _ r3 r4 =>
          cases r4
          exact ⟨v, w, u, rfl, k.nx C1 _ _ h1 s1 st1 ((((hst.step st1).set r1).set r2).set r3)⟩
  · exact h1.elim
end
end FL
end
section
set_option autoImplicit false
namespace FL
open PySem PySem.Spec PyProof.Rows L2
/-! ### a part of a text -/
section
variable {X : Cx} {a : Expr} {ta : TD} {lo hi : Option Expr} {tl th : TOD} {p2 pos : Pos}
def dSlS (te : TD) (tl th : TOD) : TD := fun τ S Q => te τ S fun x S1 => tl τ S1 fun l S2 => th τ S2 fun u S3 => ∃ z : Str, x = .str z ∧ z.length ≤ sizeLine ∧ Q (.str (cutS z l u)) S3
theorem pd_slS (he : PD X a ta) (hl : POD X lo tl) (hu : POD X hi th) : PD X (.Subscript a (.Slice lo hi none p2) pos) (dSlS ta tl th) := by
  obtain ⟨tA, pa, ka⟩ := he.ex
  obtain ⟨tB, pb, kb⟩ := hl.ex
  obtain ⟨tC, pc, kc⟩ := hu.ex
  refine ⟨_, pe_slice sl_str pa pb pc, fun γ C σ τ Qd Q hs hst h k => ?_⟩
  refine ka γ C σ τ _ _ hs hst h fun C1 v1 w1 h1 s1 st1 r1 => kb γ C1 σ τ _ _ s1 (hst.step st1) h1 fun C2 l h2 s2 st2 => kc γ C2 σ τ _ _ s2 (hst.step (st1.trans st2)) h2 fun C3 u h3 s3 st3 => ?_
  obtain ⟨z, rfl, hz, hq⟩ := h3
  cases r1
  exact ⟨z, rfl, hz, k C3 _ _ hq s3 ((st1.trans st2).trans st3) (.str _)⟩
end
end FL
end
section
set_option autoImplicit false
namespace FL
open PySem PySem.Spec PyProof.Rows L2
/-! ### own errors with two fields -/
def spInit2 (K : PySem.W.Frag) (C : Addr) (f g : Str) : Sp := fun vs H Q _ => ∃ (a : Addr) (v w : V), vs = [.ref a, v, w] ∧ H a = some (exo a C none) ∧ ∀ dx, H dx = none → dx ≠ a → Q .non (upd (upd (upd H dx (exd dx [(f, v)])) a (exo a C (some dx))) dx (exd dx [(g, w), (f, v)]))
structure ErrC2 (K : PySem.W.Frag) (mg : Str → Option Value) (x : Str) (C I : Addr) (fd : FuncData) (ps : List Str) (f g : Str) : Prop extends ErrC K mg x C I fd ps f where
  no2 : PySem.W.findIn K (.ref C) g = some none
theorem ErrC2.snd {K : PySem.W.Frag} {mg : Str → Option Value} {x : Str} {C I : Addr} {fd : FuncData} {ps : List Str} {f g : Str} (E : ErrC2 K mg x C I fd ps f g) : ErrC K mg x C I fd ps g := { E.toErrC with no := E.no2 }
section
variable {P : Program} {w : World} {K : PySem.W.Frag} {mg : Str → Option Value} {base : Heap}
theorem init_ok2 {x q f g : Str} {st : Stmt} {C I : Addr} {fd : FuncData} {p1 p2 p3 p4 q1 q2 q3 q4 : Pos} (F : Fun K "__init__" q st I fd) (S : FnScope ["self", f, g] ["self", f, g] (defScope st))
    (hb : defBody st = [.Assign [.Attribute (.Name "self" p1) f p2] (.Name f p3) p4, .Assign [.Attribute (.Name "self" q1) g q2] (.Name g q3) q4]) (E : ErrC2 K mg x C I fd ["self", f, g] f g)
    (hl : (defScope st).names.lookup f = some .local) (hd : (f == ("__debug__" : Str)) = false) (hcd : (f == ("__classdict__" : Str)) = false) (hl2 : (defScope st).names.lookup g = some .local) (hd2 : (g == ("__debug__" : Str)) = false) (hcd2 : (g == ("__classdict__" : Str)) = false) (hls : (defScope st).names.lookup ("self" : Str) = some .local) :
    FnOk P w K mg base CX0 1 I fd ["self", f, g] (spInit2 K C f g) := by
  refine Fun.ok F S (fun vs H Q E h => ?_) (fun cdv A outer s H vs Q E' hr h => ⟨_, by rw [hb]; exact pss_cons (ps_ost (f := f) (pe_var (i := 0) rfl (.inl hls) (by decide) (by decide)) (pe_var (i := 1) rfl (.inl hl) hd hcd) (by rfl)) (pss_one (ps_ost (f := g) (pe_var (i := 0) rfl (.inl hls) (by decide) (by decide)) (pe_var (i := 2) rfl (.inl hl2) hd2 hcd2) (by rfl))), ?_⟩)
  · obtain ⟨a, v, w, rfl, _⟩ := h
    rfl
  · obtain ⟨a, v, w, rfl, h1, h2⟩ := h
    exact ⟨_, rfl, _, rfl, a, C, rfl, E.oex, E.no, .inl ⟨h1, fun dx hdx hne => ⟨_, rfl, _, rfl, a, C, rfl, E.oex, E.no2, .inr ⟨dx, [(f, v)], upd_same, (upd_ne hne).trans upd_same, by simp, h2 dx hdx hne⟩⟩⟩⟩
end
def sRaise2 (C : Addr) (f g : Str) (te tg : TD) : TSDX := fun Ed D τ S => te τ S fun w S1 => tg τ S1 fun u S2 => Ed C [(g, u), (f, w)] τ S2
section
variable {X : Cx} {Ex : WX} {x f g : Str} {C I : Addr} {fd : FuncData} {e e2 : Expr} {te tg : TD} {p pos pos2 : Pos}
theorem psdx_raise2 (hc : X.calm = true) (tk : Takes X Ex) (E : ErrC2 X.K X.mg x C I fd ["self", f, g] f g) (F1 : FnOk X.prog X.w X.K X.mg X.base CX0 1 I fd ["self", f, g] (spInit2 X.K C f g)) (hr : Room 2 X.A) (he : PD X e te) (he2 : PD X e2 tg) (hg : Gl X x)
    (hdb : (x == ("__debug__" : Str)) = false := by decide) (hse : starEach (e :: [e2]) X.env = (false, eval e X.env) :: starEach [e2] X.env := by rfl) (hse2 : starEach (e2 :: []) X.env = (false, eval e2 X.env) :: starEach [] X.env := by rfl) (hpl : (backTo pos (starEach [e2] X.env)).any (·.1) = false := by rfl) :
    PSDX X Ex (.Raise (some (.Call (.Name x p) [e, e2] [] pos)) none pos2) (sRaise2 C f g te tg) := by
  obtain ⟨tA, pa, ka⟩ := he.ex
  obtain ⟨tB, pb, kb⟩ := he2.ex
  refine ⟨_, ps_raise hc tk (pmk_oex (ds := []) (dvs := []) E.oex E.iC E.tI F1 hr E.b .nil pass0 hg E.m (pa_cons pa (pa_cons pb pa_nil hse2) hse) hdb hse hpl), fun γ C0 σ τ Ed Dd D hs hst h k kx => ?_⟩
  refine ka γ C0 σ τ _ _ hs hst h fun C1 v w h1 s1 st1 r1 => kb γ C1 σ τ _ _ s1 (hst.step st1) h1 fun C2 v2 w2 h2 s2 st2 r2 => ⟨by show 2 ≤ 1000; omega, fun a ha => ⟨a, v, v2, rfl, upd_same, fun dx hdx hne => ?_⟩⟩
  have hdx1 : C2.H dx = none := (upd_ne (o := exo a C none) hne).symm.trans hdx
  have eH : upd (del (upd (upd (upd (upd C2.H a (exo a C none)) dx (exd dx [(f, v)])) a (exo a C (some dx))) dx (exd dx [(g, v2), (f, v)])) a) dx (.xd [(g, v2), (f, v)]) = (C2.put dx (.xd [(g, v2), (f, v)])).H := by
    funext b
    show _ = upd C2.H dx (.xd [(g, v2), (f, v)]) b
    by_cases h1 : b = dx
    · subst h1; rw [upd_same, upd_same]
    · rw [upd_ne h1, upd_ne h1]
      by_cases h2 : b = a
      · subst h2; rw [del_same]; exact ha.symm
      · rw [del_ne h2, upd_ne h1, upd_ne h2, upd_ne h1, upd_ne h2]
  refine ⟨rfl, dx, [(g, v2), (f, v)], ?_, upd_same, hdx1, ?_⟩
  · rw [upd_ne (Ne.symm hne)]; exact upd_same
  · rw [eH]
    have st12 := st1.trans st2
    have st3 : Step γ C2 γ (C2.put dx (.xd [(g, v2), (f, v)])) := Step.new hdx1
    have s3 : Sim X.K γ (C2.put dx (.xd [(g, v2), (f, v)])) := s2.new hdx1
    refine kx (C2.put dx (.xd [(g, v2), (f, v)])) C (some dx) [(g, w2), (f, w)] σ τ h2 s3 (st12.trans st3) ⟨[(g, v2), (f, v)], upd_same, ?_, rfl, .cons (r2.step st3) (.cons ((r1.step st2).step st3) .nil)⟩ (hst.step (st12.trans st3))
    rintro (hm | ⟨n, c, hm, _⟩)
    · exact (s2.gd dx hm).2 hdx1
    · exact s2.there dx (List.mem_of_getElem? hm) hdx1
end
/-! ### if test: return e, and what follows, in the suite of an except clause -/
section
variable {Y : Cx} {a : Addr} {d : Option Addr} {j : Nat} {e c : Expr} {rest : List Stmt} {te tc : FW → TD} {tr : FW → TSD} {pos p : Pos}
theorem pssde_ifr (hc : PDE Y a d j c tc) (ha : PDE Y a d j e te) (hb : PSSDE Y a d j rest tr) (he : ∀ whole, isTrue c Y.env whole = (do let v ← whole; standAt c.pos; holding [v] (truthy v)) := by intro _; rfl) :
    PSSDE Y a d j (.If c [.Return (some e) p] [] pos :: rest) (fun fws D τ S => tc fws τ S fun w S1 => match w with
      | .bl v => if v = true then sRet (te fws) D τ S1 else tr fws D τ S1
      | _ => False) := by
  obtain ⟨t, pc, kt⟩ := hc.ex
  obtain ⟨u, q, ku⟩ := ha.ex
  obtain ⟨z, y, kz⟩ := hb.ex
  refine ⟨_, pss_cons (ps_if (pt_val pc he) (pss_one (ps_ret q)) pss_nil) y, fun γ C σ τ fws Dd D hs hst hj hE h k => ?_⟩
  refine kt γ C σ τ fws _ _ hs hst hj hE h fun C1 v w h1 s1 st1 r1 => ?_
  cases r1 <;> first | exact False.elim h1 | skip
  rename_i v
  refine ⟨v, rfl, ?_⟩
  cases v with
  | true => exact (if_pos rfl).mpr (ku γ C1 σ τ fws _ _ s1 (hst.step st1) hj (hE.step st1) ((if_pos rfl).mp h1) fun C2 v w h2 s2 st2 r2 => k.rt C2 v w h2 s2 (st1.trans st2) r2)
  | false => exact (if_neg Bool.false_ne_true).mpr (kz γ C1 σ τ fws Dd D s1 (hst.step st1) hj (hE.step st1) ((if_neg Bool.false_ne_true).mp h1) (k.step st1))
end
/-! ### except of a class above two own ones -/
def sTry2 (E F : Addr) (j : Nat) (tb : TSDX) (ts tu : FW → TSD) : TSD := fun D τ S => tb (fun c fws τ' S' => j < τ'.length ∧
  ((c = E ∧ ts fws ⟨fun τ2 S2 => D.nx (τ2.set j none) S2, D.rt, fun τ2 S2 => D.bk (τ2.set j none) S2, fun τ2 S2 => D.ct (τ2.set j none) S2⟩ (τ'.set j none) S') ∨
   (c = F ∧ tu fws ⟨fun τ2 S2 => D.nx (τ2.set j none) S2, D.rt, fun τ2 S2 => D.bk (τ2.set j none) S2, fun τ2 S2 => D.ct (τ2.set j none) S2⟩ (τ'.set j none) S'))) D τ S
theorem psd_tryD2 {X : Cx} {E F D0 : Addr} {j : Nat} {x n : Str} {b₀ : Stmt} {body suite : List Stmt} {np pos pos' : Pos} {tb : TSDX} {ts tu : FW → TSD} (hs : X.stack = X.env :: X.outer) (hf : X.env.frame = some X.env.locals) (hN : X.N.Nodup) (hi : X.N[j]? = some n) (hln : X.env.kindOf n = some .local) (hc : Names X x (.ref D0))
    (te : PySem.W.exmOne X.K (.ref E) (.ref D0) = some true) (te2 : PySem.W.exmOne X.K (.ref F) (.ref D0) = some true)
    (hb : ∀ (Ex : WX) (pn : List (Addr × Obj)) (xe : Value → Shared → Prop), Takes (X.tr pn xe) Ex → PassesOwn (model X.prog X.w) X.A X.env xe → PSSDX (X.tr pn xe) Ex body tb)
    (hsu : ∀ (a : Addr) (oe : Obj) (d : Option Addr) (pn : List (Addr × Obj)), Zc (.ref E) d oe → (∃ vs, oe.data = .fields vs) → PSSDE (X.suite a ((a, oe) :: pn)) a d j (b₀ :: suite) ts)
    (hsv : ∀ (a : Addr) (oe : Obj) (d : Option Addr) (pn : List (Addr × Obj)), Zc (.ref F) d oe → (∃ vs, oe.data = .fields vs) → PSSDE (X.suite a ((a, oe) :: pn)) a d j (b₀ :: suite) tu) :
    PSD X (.Try body [.ExceptHandler (some (.Name x np)) (some n) (b₀ :: suite) pos'] [] [] pos) (sTry2 E F j tb ts tu) := by
  refine ⟨_, ps_try_as (i := j) (Wout := fun _ _ _ _ => False) (tb := fun Ex D σ H => ∀ pn xe h1 h2, Classical.choose (hb Ex pn xe h1 h2).ex D σ H) (ts := fun a cls d D σ H => (cls = .ref E ∧ ∀ oe pn hz hf, Classical.choose (hsu a oe d pn hz hf).ex D σ H) ∨ (cls = .ref F ∧ ∀ oe pn hz hf, Classical.choose (hsv a oe d pn hz hf).ex D σ H)) hs hf hN hi hln hc takes0 ?_ ?_, fun γ C σ τ Dd D hsm hst h k => ?_⟩
  · intro Ex pn xe h1 h2
    exact ⟨fun pins s σ H D I h => (Classical.choose_spec (hb Ex pn xe h1 h2).ex).1.run pins s σ H D I (h pn xe h1 h2)⟩
  · intro a oe cls d pn hz hf
    refine ⟨fun pins s σ H D I h => ?_⟩
    rcases h with ⟨rfl, h⟩ | ⟨rfl, h⟩
    · exact (Classical.choose_spec (hsu a oe d pn hz hf).ex).1.run pins s σ H D I (h oe pn hz hf)
    · exact (Classical.choose_spec (hsv a oe d pn hz hf).ex).1.run pins s σ H D I (h oe pn hz hf)
  · intro pn xe h1 h2
    refine (Classical.choose_spec (hb _ pn xe h1 h2).ex).2 γ C σ τ _ Dd D hsm hst h k fun C' c d fws σ' τ' hE s' st' he hst' => ?_
    obtain ⟨hjl, hE⟩ := hE
    have hl : j < σ'.length := by rw [hst'.1]; exact hjl
    have k' := k.step st'
    rcases hE with ⟨rfl, hts⟩ | ⟨rfl, hts⟩
    · refine ⟨true, te, fun _ a ha => .inl ⟨rfl, fun oe pn hz hf => ?_⟩, fun z => Bool.noConfusion z⟩
      refine (Classical.choose_spec (hsu a oe d pn hz hf).ex).2 γ C' _ _ fws _ _ s' (hst'.hide) (List.getElem?_set_self hl) he hts ?_
      exact ⟨fun C2 σ2 τ2 h2 s2 st2 r2 => k'.nx C2 _ _ h2 s2 st2 r2.hide, fun C2 v w h2 s2 st2 r2 => k'.rt C2 v w h2 s2 st2 r2, fun C2 σ2 τ2 h2 s2 st2 r2 => k'.bk C2 _ _ h2 s2 st2 r2.hide, fun C2 σ2 τ2 h2 s2 st2 r2 => k'.ct C2 _ _ h2 s2 st2 r2.hide⟩
    · refine ⟨true, te2, fun _ a ha => .inr ⟨rfl, fun oe pn hz hf => ?_⟩, fun z => Bool.noConfusion z⟩
      refine (Classical.choose_spec (hsv a oe d pn hz hf).ex).2 γ C' _ _ fws _ _ s' (hst'.hide) (List.getElem?_set_self hl) he hts ?_
      exact ⟨fun C2 σ2 τ2 h2 s2 st2 r2 => k'.nx C2 _ _ h2 s2 st2 r2.hide, fun C2 v w h2 s2 st2 r2 => k'.rt C2 v w h2 s2 st2 r2, fun C2 σ2 τ2 h2 s2 st2 r2 => k'.bk C2 _ _ h2 s2 st2 r2.hide, fun C2 σ2 τ2 h2 s2 st2 r2 => k'.ct C2 _ _ h2 s2 st2 r2.hide⟩
end FL
end
section
set_option autoImplicit false
namespace FL
open PySem PySem.Spec PyProof.Rows L2
/-! ### text times number, list backwards -/
section
variable {X : Cx}
theorem op_mulS : OpR X (binaryOp .Mult) (fun x y H Q => ∃ (a : Str) (k : Int), x = .str a ∧ y = .int k ∧ MulOk a k ∧ Q (.str (PySem.Txt.mul a k)) H) := by
  intro pins s σ H x y v u Q I rx ry h
  obtain ⟨a, k, rfl, rfl, hok, q⟩ := h
  obtain ⟨t, rfl⟩ := rx
  obtain ⟨t2, rfl⟩ := ry
  exact SB.mul hok fun t' k => ⟨.str _, H, I.tok _, ⟨_, rfl⟩, q⟩
def rdMulS : R2D := fun x y S Q => match x, y with
  | .str a, .int k => MulOk a k ∧ Q (.str (PySem.Txt.mul a k)) S
  | _, _ => False
theorem opd_mulS : OpD X (binaryOp .Mult) rdMulS := by
  refine ⟨_, op_mulS, fun γ C x y w1 w2 Qd Q hs rx ry h k => ?_⟩
  cases rx <;> cases ry <;> first | exact False.elim h | skip
  exact ⟨_, _, rfl, rfl, h.1, k C _ _ h.2 hs (.refl _ _) (.str _)⟩
def dRevL (te : TD) : TD := fun τ S Q => te τ S fun x S1 => match llOf S1 x with
  | some ws => Q (.lst ws.reverse) S1
  | none => False
theorem pd_revL {a : Expr} {ta : TD} {k : Nat} {p1 p2 p3 pos : Pos} (he : PD X a ta) : PD X (.Subscript a (.Slice none none (some (.UnaryOp .USub (.Constant (.int 1) k p1) p2)) p3) pos) (dRevL ta) := by
  obtain ⟨tA, pa, ka⟩ := he.ex
  refine ⟨_, pe_revL pa, fun γ C σ τ Qd Q hs hst h k => ka γ C σ τ _ _ hs hst h fun C1 v w h1 s1 st1 r1 => ?_⟩
  split at h1
  · rename_i e
    obtain ⟨p, xs, rfl, p1, q1⟩ := llOf_at s1 r1 e
    exact ⟨p, xs, rfl, p1, newLst (k.step st1) s1 q1.reverse h1⟩
  · exact h1.elim
theorem pde_never {Y : Cx} {a : Addr} {d : Option Addr} {j : Nat} {e : Expr} : PDE Y a d j e (fun _ _ _ _ => False) :=
  ⟨fun _ _ _ => False, ⟨fun _ _ _ _ _ _ h => h.elim⟩, fun _ _ _ _ _ _ _ _ _ _ _ h _ => h.elim⟩
end
end FL
end
section
set_option autoImplicit false
set_option maxHeartbeats 4000000
namespace FL
open PySem PySem.Spec PyProof.Rows L2
/-! ### zip of two iterators of any kinds -/
section
variable {prog : Program} {w : World} {A : Around}
/-- what the next step of an iterator does -/
structure ItG (prog : Program) (w : World) (A : Around) (It : Heap → Addr → Addr → Nat → Prop) (Sq : Heap → Addr → Array Value → Prop) : Prop where
  item : ∀ {s : Shared} {it l : Addr} {i : Nat} {items : Array Value} {x : Value} {Q E : Value → Shared → Prop}, It s.heap it l i → Sq s.heap l items → items[i]? = some x →
    (∀ h', It h' it l (i + 1) → Heap.SameBut it s.heap h' → Q x { s with heap := h' }) → wpAny (model prog w) A (Builtin.SmallTypes.nextOf (.ref it)) Q E s
  stop : ∀ {s : Shared} {it l : Addr} {i : Nat} {items : Array Value} {Q E : Value → Shared → Prop}, A.handled = none → It s.heap it l i → Sq s.heap l items → items[i]? = none →
    (∀ h' e, Heap.ExtBut it s.heap h' → (∃ o, h'.get? e = some o ∧ o.cls = .type "StopIteration") → E (.ref e) { s with heap := h' }) → wpAny (model prog w) A (Builtin.SmallTypes.nextOf (.ref it)) Q E s
  ki : ∀ {h h' : Heap} {it l : Addr} {i : Nat}, It h it l i → (∀ o, h.get? it = some o → h'.get? it = some o) → It h' it l i
  ks : ∀ {h h' : Heap} {l : Addr} {items : Array Value}, Sq h l items → (∀ o, h.get? l = some o → h'.get? l = some o) → Sq h' l items
  lt : ∀ {h : Heap} {it l : Addr} {i : Nat}, It h it l i → it < h.objs.size
theorem itg_list : ItG prog w A Heap.IsListIter Heap.IsList := ⟨wpAny_nextOf_list_item, wpAny_nextOf_list_end, Heap.IsListIter.at, Heap.IsList.at, fun ⟨_, e, _⟩ => Heap.lt_size e⟩
theorem itg_tuple : ItG prog w A Heap.IsTupleIter Heap.IsTuple := ⟨RZ.nextOf_tuple_item, RZ.nextOf_tuple_end, Heap.IsTupleIter.at, Heap.IsTuple.at, fun ⟨_, e, _⟩ => Heap.lt_size e⟩
variable {E : Value → Shared → Prop} {s : Shared} {I1 I2 : Heap → Addr → Addr → Nat → Prop} {S1 S2 : Heap → Addr → Array Value → Prop} {z TI TO i1 i2 l1 l2 : Addr} {k1 k2 : Nat} {xs ys : Array Value} {x y a b : Value}
/-- all but the zip's own objects stay -/
def KeptZ (z TO i1 i2 : Addr) (h h' : Heap) : Prop := ∀ c o, c ≠ z → c ≠ TO → c ≠ i1 → c ≠ i2 → h.get? c = some o → h'.get? c = some o
theorem zg_item (N1 : ItG prog w A I1 S1) (N2 : ItG prog w A I2 S2) {Q : Value → Shared → Prop} (D : ZipApart z TI TO i1 i2 l1 l2) (hz : IsZip s.heap z TI TO .none) (hTI : IsPair s.heap TI (.ref i1) (.ref i2)) (hTO : IsPair s.heap TO a b)
    (h1 : I1 s.heap i1 l1 k1) (h2 : I2 s.heap i2 l2 k2) (hl1 : S1 s.heap l1 xs) (hl2 : S2 s.heap l2 ys) (hx : xs[k1]? = some x) (hy : ys[k2]? = some y)
    (hQ : ∀ h', IsZip h' z TI TO (rawInt s.heap.objs.size) → IsPair h' TO x y → I1 h' i1 l1 (k1 + 1) → I2 h' i2 l2 (k2 + 1) → IsPair h' s.heap.objs.size x y → KeptZ z TO i1 i2 s.heap h' → Q (.ref s.heap.objs.size) { s with heap := h' }) :
    wpAny (model prog w) A (Builtin.«zip.__next__» ⟨[.ref z], []⟩) (fun fin s' => ∃ v, fin = .done (.ret v) ∧ Q v s') E s := by
  show wpAny _ _ (field (.ref z) 2 >>= _) _ _ _
  refine wpAny_bind (wpAny_field hz rfl (x := .bool false) rfl ?_)
  show wpAny _ _ (field (.ref z) 3 >>= _) _ _ _
  refine wpAny_bind (wpAny_field hz rfl (x := .ref TI) rfl (wpAny_bind (wpAny_seqItems hTI rfl ?_)))
  show wpAny _ _ (Builtin.SmallTypes.ownedTupleIsFree (.ref z) >>= _) _ _ _
  refine wpAny_bind ?_
  unfold Builtin.SmallTypes.ownedTupleIsFree
  refine wpAny_bind (wpAny_field hz rfl (x := .none) rfl (wpAny_pure ?_))
  simp only [if_true]
  refine wpAny_bind (wpAny_rule (wpAny_bind (wpAny_field hz rfl (x := .ref TO) rfl (wpAny_bind (wpAny_setField_rec hz (by simp) fun ha z1 s1 => ?_)))))
  replace z1 : IsZip ha z TI TO .ellipsis := z1
  have e1 := s1.extBut
  refine wpAny_bind ?_
  simp only [List.zipIdx_cons, List.zipIdx_nil, List.forIn_cons, List.forIn_nil]
  refine wpAny_bind (wpAny_bind (wpAny_onRaise ?_))
  show wpAny _ _ (Builtin.SmallTypes.nextOf (.ref i1) >>= _) _ _ _
  refine wpAny_bind (N1.item (N1.ki h1 fun o q => e1 _ _ D.i1z q) (N1.ks hl1 fun o q => e1 _ _ D.l1z q) hx fun hb j1 s2 => wpAny_pure ?_)
  have e2 := s2.extBut
  have t2 : IsPair hb TO a b := e2 _ _ D.TOi1 (e1 _ _ D.TOz hTO)
  refine wpAny_bind (wpAny_seqItems t2 rfl (wpAny_bind (wpAny_updateSeq_pair t2 fun hc t3 s3 => wpAny_bind (wpAny_letGo (wpAny_pure ?_)))))
  replace t3 : IsPair hc TO x b := t3
  have e3 := s3.extBut
  refine wpAny_bind (wpAny_bind (wpAny_onRaise ?_))
  show wpAny _ _ (Builtin.SmallTypes.nextOf (.ref i2) >>= _) _ _ _
  refine wpAny_bind (N2.item (N2.ki h2 fun o q => e3 _ _ D.TOi2.symm (e2 _ _ D.i12.symm (e1 _ _ D.i2z q))) (N2.ks hl2 fun o q => e3 _ _ D.l2TO (e2 _ _ D.l2i1 (e1 _ _ D.l2z q))) hy fun hd j2 s4 => wpAny_pure ?_)
  have e4 := s4.extBut
  have t4 : IsPair hd TO x b := e4 _ _ D.TOi2 t3
  refine wpAny_bind (wpAny_seqItems t4 rfl (wpAny_bind (wpAny_updateSeq_pair t4 fun he t5 s5 => wpAny_bind (wpAny_letGo (wpAny_pure (wpAny_pure ?_))))))
  replace t5 : IsPair he TO x y := t5
  have e5 := s5.extBut
  refine wpAny_bind (wpAny_seqItems t5 rfl (wpAny_bind (wpAny_newTuple ?_)))
  have hsz : he.objs.size = s.heap.objs.size := by rw [s5.1, s4.1, s3.1, s2.1, s1.1]
  have z5 : IsZip he z TI TO .ellipsis := e5 _ _ D.TOz.symm (e4 _ _ D.i2z.symm (e3 _ _ D.TOz.symm (e2 _ _ D.i1z.symm z1)))
  have hk : KeptZ z TO i1 i2 s.heap he := fun c o c1 c2 c3 c4 q => e5 _ _ c2 (e4 _ _ c4 (e3 _ _ c2 (e2 _ _ c3 (e1 _ _ c1 q))))
  have g1 : I1 he i1 l1 (k1 + 1) := N1.ki j1 fun o q => e5 _ _ D.TOi1.symm (e4 _ _ D.i12 (e3 _ _ D.TOi1.symm q))
  have g2 : I2 he i2 l2 (k2 + 1) := N2.ki j2 fun o q => e5 _ _ D.TOi2.symm q
  have lz : z < he.objs.size := Heap.lt_size z5
  show wpAny _ _ (Builtin.SmallTypes.ownedTupleHandOut (.ref z) (.ref he.objs.size) >>= _) _ _ _
  refine wpAny_bind ?_
  unfold Builtin.SmallTypes.ownedTupleHandOut
  have z6 : IsZip (he.push { cls := .type "tuple", data := .seq #[x, y] }) z TI TO .ellipsis := Heap.get?_push_of_some _ z5
  refine wpAny_bind (wpAny_setField_rec z6 (by simp) fun hf z7 s7 => ?_)
  replace z7 : IsZip hf z TI TO (rawInt he.objs.size) := z7
  refine wpAny_setField_rec z7 (by simp) fun hg z8 s8 => ?_
  replace z8 : IsZip hg z TI TO (rawInt he.objs.size) := z8
  have up : ∀ c o, c ≠ z → he.get? c = some o → hg.get? c = some o := fun c o c1 q => s8.extBut _ _ c1 (s7.extBut _ _ c1 (Heap.get?_push_of_some _ q))
  have t8 : IsPair hg he.objs.size x y := s8.extBut _ _ (Nat.ne_of_gt lz) (s7.extBut _ _ (Nat.ne_of_gt lz) (Heap.get?_push_size _ rfl))
  rw [hsz] at z8 t8
  refine wpAny_pure ⟨_, rfl, ?_⟩
  show Q (.ref he.objs.size) _
  rw [hsz]
  exact hQ hg z8 (up _ _ D.TOz t5) (N1.ki g1 fun o q => up _ o D.i1z q) (N2.ki g2 fun o q => up _ o D.i2z q) t8 fun c o c1 c2 c3 c4 q => up c o c1 (hk c o c1 c2 c3 c4 q)
theorem zg_end (N1 : ItG prog w A I1 S1) (N2 : ItG prog w A I2 S2) {Q : Fin → Shared → Prop} (hh : A.handled = none) (D : ZipApart z TI TO i1 i2 l1 l2) (hz : IsZip s.heap z TI TO .none) (hTI : IsPair s.heap TI (.ref i1) (.ref i2)) (hTO : IsPair s.heap TO a b)
    (h1 : I1 s.heap i1 l1 k1) (h2 : I2 s.heap i2 l2 k2) (hl1 : S1 s.heap l1 xs) (hl2 : S2 s.heap l2 ys) (hend : xs[k1]? = none ∨ ys[k2]? = none)
    (hE : ∀ h' e, KeptZ z TO i1 i2 s.heap h' → (∃ o, h'.get? e = some o ∧ o.cls = .type "StopIteration") → E (.ref e) { s with heap := h' }) :
    wpAny (model prog w) A (Builtin.«zip.__next__» ⟨[.ref z], []⟩) Q E s := by
  show wpAny _ _ (field (.ref z) 2 >>= _) _ _ _
  refine wpAny_bind (wpAny_field hz rfl (x := .bool false) rfl ?_)
  show wpAny _ _ (field (.ref z) 3 >>= _) _ _ _
  refine wpAny_bind (wpAny_field hz rfl (x := .ref TI) rfl (wpAny_bind (wpAny_seqItems hTI rfl ?_)))
  show wpAny _ _ (Builtin.SmallTypes.ownedTupleIsFree (.ref z) >>= _) _ _ _
  refine wpAny_bind ?_
  unfold Builtin.SmallTypes.ownedTupleIsFree
  refine wpAny_bind (wpAny_field hz rfl (x := .none) rfl (wpAny_pure ?_))
  simp only [if_true]
  refine wpAny_bind (wpAny_rule (wpAny_bind (wpAny_field hz rfl (x := .ref TO) rfl (wpAny_bind (wpAny_setField_rec hz (by simp) fun ha z1 s1 => ?_)))))
  replace z1 : IsZip ha z TI TO .ellipsis := z1
  have e1 := s1.extBut
  refine wpAny_bind ?_
  simp only [List.zipIdx_cons, List.zipIdx_nil, List.forIn_cons, List.forIn_nil]
  refine wpAny_bind (wpAny_bind (wpAny_onRaise ?_))
  show wpAny _ _ (Builtin.SmallTypes.nextOf (.ref i1) >>= _) _ _ _
  have q1 := N1.ki (h' := ha) h1 fun o q => e1 _ _ D.i1z q
  have q2 := N1.ks (h' := ha) hl1 fun o q => e1 _ _ D.l1z q
  cases hx : xs[k1]? with
  | none =>
    refine wpAny_bind (N1.stop hh q1 q2 hx fun hb e e2 ⟨oe, hoe, hce⟩ => ?_)
    have z2 : IsZip hb z TI TO .ellipsis := e2 _ _ D.i1z.symm z1
    have hez : e ≠ z := fun q => by subst q; rw [z2] at hoe; cases hoe; simp at hce
    exact wpAny_setField_rec z2 (by simp) fun hc _ s3 => hE hc e (fun c o c1 _ c3 _ q => s3.extBut _ _ c1 (e2 _ _ c3 (e1 _ _ c1 q))) ⟨oe, s3.extBut _ _ hez hoe, hce⟩
  | some x =>
    have hy : ys[k2]? = none := by
      rcases hend with h | h
      · rw [hx] at h; cases h
      · exact h
    refine wpAny_bind (N1.item q1 q2 hx fun hb j1 s2 => wpAny_pure ?_)
    have e2 := s2.extBut
    have t2 : IsPair hb TO a b := e2 _ _ D.TOi1 (e1 _ _ D.TOz hTO)
    refine wpAny_bind (wpAny_seqItems t2 rfl (wpAny_bind (wpAny_updateSeq_pair t2 fun hc t3 s3 => wpAny_bind (wpAny_letGo (wpAny_pure ?_)))))
    have e3 := s3.extBut
    refine wpAny_bind (wpAny_bind (wpAny_onRaise ?_))
    show wpAny _ _ (Builtin.SmallTypes.nextOf (.ref i2) >>= _) _ _ _
    refine wpAny_bind (N2.stop hh (N2.ki h2 fun o q => e3 _ _ D.TOi2.symm (e2 _ _ D.i12.symm (e1 _ _ D.i2z q))) (N2.ks hl2 fun o q => e3 _ _ D.l2TO (e2 _ _ D.l2i1 (e1 _ _ D.l2z q))) hy fun hd e e4 ⟨oe, hoe, hce⟩ => ?_)
    have z4 : IsZip hd z TI TO .ellipsis := e4 _ _ D.i2z.symm (e3 _ _ D.TOz.symm (e2 _ _ D.i1z.symm z1))
    have hez : e ≠ z := fun q => by subst q; rw [z4] at hoe; cases hoe; simp at hce
    exact wpAny_setField_rec z4 (by simp) fun he _ s5 => hE he e (fun c o c1 c2 c3 c4 q => s5.extBut _ _ c1 (e4 _ _ c4 (e3 _ _ c2 (e2 _ _ c3 (e1 _ _ c1 q))))) ⟨oe, s5.extBut _ _ hez hoe, hce⟩
theorem zg_next (N1 : ∀ A, ItG prog w A I1 S1) (N2 : ∀ A, ItG prog w A I2 S2) {Q : Option Value → Shared → Prop} (D : ZipApart z TI TO i1 i2 l1 l2) (hz : IsZip s.heap z TI TO .none) (hTI : IsPair s.heap TI (.ref i1) (.ref i2)) (hTO : IsPair s.heap TO a b)
    (h1 : I1 s.heap i1 l1 k1) (h2 : I2 s.heap i2 l2 k2) (hl1 : S1 s.heap l1 xs) (hl2 : S2 s.heap l2 ys) (hx : xs[k1]? = some x) (hy : ys[k2]? = some y)
    (hQ : ∀ h', IsZip h' z TI TO (rawInt s.heap.objs.size) → IsPair h' TO x y → I1 h' i1 l1 (k1 + 1) → I2 h' i2 l2 (k2 + 1) → IsPair h' s.heap.objs.size x y → KeptZ z TO i1 i2 s.heap h' → Q (some (.ref s.heap.objs.size)) { s with heap := h' }) :
    wpAny (model prog w) A (pyNext (.ref z)) Q E s := by
  have hT : s.TypeIs (.ref z) "zip" := ⟨_, hz, rfl⟩
  unfold pyNext
  exact wpAny_bind (wpAny_attempt (wpAny_callSpecial?_slot (name := Str.ofString "__next__") hT F.slot_zip_next (wpAny_call_entry F.slot_zip_next hT F.entry_zip_next
    (zg_item (N1 _) (N2 _) D hz hTI hTO h1 h2 hl1 hl2 hx hy fun h' a1 a2 a3 a4 a5 a6 => wpAny_pure (hQ h' a1 a2 a3 a4 a5 a6)) (F.args_zip_next_1 _))))
theorem zg_stop (N1 : ∀ A, ItG prog w A I1 S1) (N2 : ∀ A, ItG prog w A I2 S2) {Q : Option Value → Shared → Prop} (hh : A.handled = none) (D : ZipApart z TI TO i1 i2 l1 l2) (hz : IsZip s.heap z TI TO .none) (hTI : IsPair s.heap TI (.ref i1) (.ref i2)) (hTO : IsPair s.heap TO a b)
    (h1 : I1 s.heap i1 l1 k1) (h2 : I2 s.heap i2 l2 k2) (hl1 : S1 s.heap l1 xs) (hl2 : S2 s.heap l2 ys) (hend : xs[k1]? = none ∨ ys[k2]? = none)
    (hQ : ∀ h', KeptZ z TO i1 i2 s.heap h' → Q none { s with heap := h' }) : wpAny (model prog w) A (pyNext (.ref z)) Q E s := by
  have hT : s.TypeIs (.ref z) "zip" := ⟨_, hz, rfl⟩
  unfold pyNext
  refine wpAny_bind (wpAny_attempt (wpAny_callSpecial?_slot (name := Str.ofString "__next__") hT F.slot_zip_next (wpAny_call_entry F.slot_zip_next hT F.entry_zip_next
    (zg_end (N1 _) (N2 _) hh D hz hTI hTO h1 h2 hl1 hl2 hend fun h' e hk ⟨o, ho, hc⟩ => ?_) (F.args_zip_next_1 _))))
  exact wpAny_bind (wpAny_isInstance (T := "StopIteration") (b := true) ⟨o, ho, hc⟩ isSubtype_stop (wpAny_pure (hQ _ hk)))
end
/-! ### zip of a tuple and a list -/
def zq1 (h : Heap) (a : Addr) : Heap := h.push { cls := .type "tuple_iterator", data := .fields #[.ref a, .int 0 0] }
def zq2 (h : Heap) (a b : Addr) : Heap := (zq1 h a).push { cls := .type "list_iterator", data := .fields #[.ref b, .int 0 0] }
def zq3 (h : Heap) (a b : Addr) : Heap := (zq2 h a b).push { cls := .type "tuple", data := .seq #[.ref h.objs.size, .ref (zq1 h a).objs.size] }
def zq4 (h : Heap) (a b : Addr) : Heap := (zq3 h a b).push { cls := .type "tuple", data := .seq #[.none, .none] }
def zq5 (h : Heap) (a b : Addr) : Heap := (zq4 h a b).push { cls := .type "zip", data := .fields #[.none, .bool false, .bool false, .ref (zq2 h a b).objs.size, .ref (zq3 h a b).objs.size] }
theorem meets_zipM (a b : Addr) (xs ys : Array Value) :
    Meets (Builtin.«zip.__new__» ⟨[.type "zip", .ref a, .ref b], []⟩) (fun _ R s => s.heap.IsTuple a xs ∧ s.heap.IsList b ys ∧ R (.ok (.ret (.ref (zq4 s.heap a b).objs.size))) { s with heap := zq5 s.heap a b }) :=
  .of_wp fun prog w A R s h => by
    obtain ⟨hp, g, d, tk, os⟩ := s
    obtain ⟨h1, h2, h⟩ := h
    have hsub := sub_zip
    have q1 : Heap.IsTuple (Shared.heap ⟨hp, g, d, tk, os⟩) a xs := h1
    have q2 : Heap.IsList (Shared.heap ⟨hp.push { cls := .type "tuple_iterator", data := .fields #[.ref a, .int 0 0] }, g, d, tk, os⟩) b ys := Heap.IsList.push h2 _
    wp_walk using wpAny_pyIter_tuple q1, wpAny_pyIter_list q2
    exact ⟨_, rfl, h⟩
theorem call_zipM {prog : Program} {w : World} {A : Around} {E : Value → Shared → Prop} {s : Shared} {a b : Addr} {xs ys : Array Value} {Q : Value → Shared → Prop} (h1 : s.heap.IsTuple a xs) (h2 : s.heap.IsList b ys)
    (h : ∀ h', IsZip h' (s.heap.objs.size + 4) (s.heap.objs.size + 2) (s.heap.objs.size + 3) .none → IsPair h' (s.heap.objs.size + 2) (.ref s.heap.objs.size) (.ref (s.heap.objs.size + 1)) → IsPair h' (s.heap.objs.size + 3) .none .none →
      h'.IsTupleIter s.heap.objs.size a 0 → h'.IsListIter (s.heap.objs.size + 1) b 0 → (∀ c o, s.heap.get? c = some o → h'.get? c = some o) → Q (.ref (s.heap.objs.size + 4)) { s with heap := h' }) :
    wpAny (model prog w) A (call (.type "zip") [.ref a, .ref b]) Q E s := by
  refine callType_new F.called_zip (by decide) (F.typeCall_zip_2 _ _) (F.newCall_zip_2 _ _) (fun obj => F.args_object_init_3 obj _ _) F.entry_zip_new (meets_zipM a b xs ys) ⟨h1, h2, ?_⟩
  have n1 : (zq1 s.heap a).objs.size = s.heap.objs.size + 1 := Heap.size_push ..
  have n2 : (zq2 s.heap a b).objs.size = s.heap.objs.size + 2 := by rw [zq2, Heap.size_push, n1]
  have n3 : (zq3 s.heap a b).objs.size = s.heap.objs.size + 3 := by rw [zq3, Heap.size_push, n2]
  have n4 : (zq4 s.heap a b).objs.size = s.heap.objs.size + 4 := by rw [zq4, Heap.size_push, n3]
  have m5 : ∀ {c : Addr} {o : Obj}, (zq4 s.heap a b).get? c = some o → (zq5 s.heap a b).get? c = some o := fun q => Heap.get?_push_of_some _ q
  have m4 : ∀ {c : Addr} {o : Obj}, (zq3 s.heap a b).get? c = some o → (zq5 s.heap a b).get? c = some o := fun q => m5 (Heap.get?_push_of_some _ q)
  have m3 : ∀ {c : Addr} {o : Obj}, (zq2 s.heap a b).get? c = some o → (zq5 s.heap a b).get? c = some o := fun q => m4 (Heap.get?_push_of_some _ q)
  have m2 : ∀ {c : Addr} {o : Obj}, (zq1 s.heap a).get? c = some o → (zq5 s.heap a b).get? c = some o := fun q => m3 (Heap.get?_push_of_some _ q)
  have g5 : (zq5 s.heap a b).get? (zq4 s.heap a b).objs.size = some _ := Heap.get?_push_size _ rfl
  have g4 : (zq5 s.heap a b).get? (zq3 s.heap a b).objs.size = some _ := m5 (Heap.get?_push_size _ rfl)
  have g3 : (zq5 s.heap a b).get? (zq2 s.heap a b).objs.size = some _ := m4 (Heap.get?_push_size _ rfl)
  have g2 : (zq5 s.heap a b).get? (zq1 s.heap a).objs.size = some _ := m3 (Heap.get?_push_size _ rfl)
  have g1 : (zq5 s.heap a b).get? s.heap.objs.size = some _ := m2 (Heap.get?_push_size _ rfl)
  show _ ∧ _
  rw [n2, n3, n4] at g5
  rw [n1, n2] at g3
  rw [n3] at g4
  rw [n1] at g2
  rw [n4]
  exact ⟨⟨_, g5, rfl⟩, h _ g5 g3 g4 ⟨_, g1, rfl, rfl⟩ ⟨_, g2, rfl, rfl⟩ fun c o q => m2 (Heap.get?_push_of_some _ q)⟩
/-- the tuple at a and the list at b, in new pairs -/
def ItzM (K : PySem.W.Frag) (a b : Addr) : It :=
  ⟨fun i H => ∃ (xs ys : List V) (x y : V), SqT K H a xs ∧ SqL K H b ys ∧ xs[i]? = some x ∧ ys[i]? = some y,
    fun i H v H' => ∃ T x y, v = .ref T ∧ H T = none ∧ H' = upd H T (.tup [x, y]) ∧ (∀ xs, SqT K H a xs → xs[i]? = some x) ∧ ∀ ys, SqL K H b ys → ys[i]? = some y,
    fun i H => ∃ xs ys : List V, SqT K H a xs ∧ SqL K H b ys ∧ (xs.length ≤ i ∨ ys.length ≤ i)⟩
theorem turn_zipM {P : Program} {w : World} {K : PySem.W.Frag} {elts : List Expr} {kk : Nat} {tpos : Pos} {a b z TI TO i1 i2 : Addr} (D : ZipApart z TI TO i1 i2 a b) :
    Turn P w K (.Tuple elts kk tpos) (ItzM K a b) [z, TI, TO, i1, i2] z (fun i h => IsZip h z TI TO .none ∧ IsPair h TI (.ref i1) (.ref i2) ∧ (∃ x y, IsPair h TO x y) ∧ h.IsTupleIter i1 a i ∧ h.IsListIter i2 b i) where
  mem := by simp
  obj := fun i h st c hc => by
    obtain ⟨g1, g2, ⟨x, y, g3⟩, ⟨o1, e1, _, d1⟩, ⟨o2, e2, _, d2⟩⟩ := st
    simp only [List.mem_cons, List.not_mem_nil, or_false] at hc
    rcases hc with rfl | rfl | rfl | rfl | rfl
    · exact ⟨_, g1, fun v q => nomatch q⟩
    · exact ⟨_, g2, fun v q => nomatch q⟩
    · exact ⟨_, g3, fun v q => nomatch q⟩
    · exact ⟨o1, e1, fun v q => by rw [d1] at q; cases q⟩
    · exact ⟨o2, e2, fun v q => by rw [d2] at q; cases q⟩
  keep := fun i h h' ⟨g1, g2, ⟨x, y, g3⟩, g4, g5⟩ k => ⟨k z (by simp) _ g1, k TI (by simp) _ g2, ⟨x, y, k TO (by simp) _ g3⟩, g4.at fun o q => k i1 (by simp) o q, g5.at fun o q => k i2 (by simp) o q⟩
  item := by
    intro X hP hw hK hc i pins s σ H E I hf st hg
    subst hP hw hK
    obtain ⟨g1, g2, ⟨x0, y0, g3⟩, g4, g5⟩ := st
    obtain ⟨xs, ys, x, y, hqx, hqy, hx, hy⟩ := hg
    obtain ⟨its, rv, p, _⟩ := I.tuple hqx
    obtain ⟨its2, rv2, p2, _⟩ := I.list hqy
    obtain ⟨u, hu, ru⟩ := rv.get hx
    obtain ⟨u2, hu2, ru2⟩ := rv2.get hy
    have lz : z < s.heap.objs.size := Heap.lt_size g1
    have far : ∀ {c : Addr} {o : Obj} {h' : Heap}, KeptZ z TO i1 i2 s.heap h' → c ∉ [z, TI, TO, i1, i2] → s.heap.get? c = some o → h'.get? c = some o := fun hk hb q => by
      simp only [List.mem_cons, List.not_mem_nil, or_false, not_or] at hb
      exact hk _ _ hb.1 hb.2.2.1 hb.2.2.2.1 hb.2.2.2.2 q
    refine zg_next (fun _ => itg_tuple) (fun _ => itg_list) D g1 g2 g3 g4 g5 p p2.isList (x := u) (y := u2) (by simpa using hu) (by simpa using hu2) fun h' z' t' j1 j2 hT hk => ?_
    refine ⟨_, rfl, wpAny_letOwnedTupleGo_zip (s := { s with heap := h' }) z' fun h2 z2 sb => ?_⟩
    have hT2 : h2.get? s.heap.objs.size = some { cls := .type "tuple", data := .seq #[u, u2] } := (sb.2 _ (Nat.ne_of_gt lz)).trans hT
    have new : ObjOk X.prog X.w (upd H s.heap.objs.size (.tup [x, y])) h2 s.heap.objs.size (.tup [x, y]) := ⟨by show 2 ≤ sizeLine; decide, [u, u2], .cons ru (.cons ru2 .nil), ⟨_, hT2, rfl, _, rfl⟩⟩
    have I1 : Inv X pins σ (upd H s.heap.objs.size (.tup [x, y])) { s with heap := h2 } :=
      I.turnedNew (t' := s.toks) (ch := [z, TI, TO, i1, i2]) (fun c o hb q => (sb.2 c (fun q' => hb (by simp [q']))).trans (far hk hb q)) hf (Nat.le_refl _) new
    refine ⟨.ref s.heap.objs.size, _, I1, rfl, ⟨_, x, y, rfl, I.hok.fresh (Nat.le_refl _), rfl, (fun l hl => by rw [I.tuple_inj hl hqx]; exact hx), fun l hl => by rw [I.list_inj hl hqy]; exact hy⟩,
      ⟨z2, (sb.2 _ D.TIz).trans (hk _ _ D.TIz D.TITO D.TIi1 D.TIi2 g2), ⟨u, u2, (sb.2 _ D.TOz).trans t'⟩, j1.at fun o q => (sb.2 _ D.i1z).trans q, j2.at fun o q => (sb.2 _ D.i2z).trans q⟩, fun c hcm => ?_⟩
    have hlt : c < s.heap.objs.size := by
      simp only [List.mem_cons, List.not_mem_nil, or_false] at hcm
      rcases hcm with rfl | rfl | rfl | rfl | rfl
      · exact lz
      · exact Heap.lt_size g2
      · exact Heap.lt_size g3
      · exact (itg_tuple (prog := X.prog) (w := X.w) (A := X.A)).lt g4
      · exact (itg_list (prog := X.prog) (w := X.w) (A := X.A)).lt g5
    rw [upd_ne (Nat.ne_of_lt hlt)]
    exact (hf c hcm).1
  done := by
    intro X hP hw hK hc i pins s σ H E I hf st hg
    subst hP hw hK
    obtain ⟨g1, g2, ⟨x0, y0, g3⟩, g4, g5⟩ := st
    obtain ⟨xs, ys, hqx, hqy, hend⟩ := hg
    obtain ⟨its, rv, p, _⟩ := I.tuple hqx
    obtain ⟨its2, rv2, p2, _⟩ := I.list hqy
    have l1 := rv.length
    have l2 := rv2.length
    have he : its.toArray[i]? = none ∨ its2.toArray[i]? = none := by
      rcases hend with q | q
      · exact .inl (by simp; omega)
      · exact .inr (by simp; omega)
    refine zg_stop (fun _ => itg_tuple) (fun _ => itg_list) (I.ok.hd hc) D g1 g2 g3 g4 g5 p p2.isList he fun h' hk => ⟨rfl, I.turnedL (t' := s.toks) (ch := [z, TI, TO, i1, i2]) (fun c o hb q => ?_) hf⟩
    simp only [List.mem_cons, List.not_mem_nil, or_false, not_or] at hb
    exact hk _ _ hb.1 hb.2.2.1 hb.2.2.2.1 hb.2.2.2.2 q
  self := fun A i s Q E st h => wpAny_pyIter_zip st.1 h
def iZipM0 (K : PySem.W.Frag) (ta : TA) : TI := fun σ H R => ta σ H fun vs H1 => ∃ a b xs ys, vs = [.ref a, .ref b] ∧ SqT K H1 a xs ∧ ((SqT K H1 b ys ∧ R (RZ.ItzT K a b) H1) ∨ (SqL K H1 b ys ∧ R (ItzM K a b) H1))
theorem pi_zipM {X : Cx} {e e2 : Expr} {ta : TA} {p pos tpos : Pos} {elts : List Expr} {kk : Nat} (hg : Gl X "zip") (hm : X.mg "zip" = none) (ha : PA X [e, e2] ta)
    (hs : starEach [e, e2] X.env = (false, eval e X.env) :: starEach [e2] X.env := by rfl) (hpl : (backTo pos (starEach [e2] X.env)).any (·.1) = false := by rfl) :
    PI X (.Tuple elts kk tpos) (.Call (.Name "zip" p) [e, e2] [] pos) (iZipM0 X.K ta) := by
  refine ⟨fun pins s σ H R I h => ?_⟩
  refine Call_ (ld_blt I hg hm PyProof.Rows.boot_zip (PyProof.Rows.callWith_type1 (thn (ha.run pos pins s σ H _ I h) fun us s1 ⟨vs, H1, I1, r1, q1⟩ => ?_) hs hpl))
  obtain ⟨a, b, xs, ys, rfl, hqx, q⟩ := q1
  cases r1 with
  | cons r rr =>
    cases rr with
    | cons r' rr =>
      cases rr
      cases r
      cases r'
      have new5 : ∀ c, c ∈ [s1.heap.objs.size + 4, s1.heap.objs.size + 2, s1.heap.objs.size + 3, s1.heap.objs.size, s1.heap.objs.size + 1] → FpOk X pins H1 c := fun c hcm => by
        have hle : s1.heap.objs.size ≤ c := by
          simp only [List.mem_cons, List.not_mem_nil, or_false] at hcm
          omega
        exact I1.fpOk hle (I1.hok.fresh hle)
      obtain ⟨its, rv, p1, _⟩ := I1.tuple hqx
      obtain ⟨o1, ho1, _⟩ := id p1
      rcases q with ⟨hqy, q⟩ | ⟨hqy, q⟩
      · obtain ⟨its2, rv2, p2, _⟩ := I1.tuple hqy
        obtain ⟨o2, ho2, _⟩ := id p2
        refine RZ.call_zipT (show s1.heap.IsTuple a its.toArray from p1) (show s1.heap.IsTuple b its2.toArray from p2) fun h' hz hTI hTO h1 h2 hsz hk => wpAny_pyIter_zip hz ?_
        exact ⟨_, _, _, _, H1, rfl, I1.kept (t' := s1.toks) hk, RZ.turn_zipT (PySem.W.ktu_apart s1.heap.objs.size a b (Heap.lt_size ho1) (Heap.lt_size ho2)), ⟨hz, hTI, ⟨_, _, hTO⟩, h1, h2⟩, new5, q⟩
      · obtain ⟨its2, rv2, p2, _⟩ := I1.list hqy
        refine call_zipM (show s1.heap.IsTuple a its.toArray from p1) p2.isList fun h' hz hTI hTO h1 h2 hk => wpAny_pyIter_zip hz ?_
        exact ⟨_, _, _, _, H1, rfl, I1.kept (t' := s1.toks) hk, turn_zipM (PySem.W.ktu_apart s1.heap.objs.size a b (Heap.lt_size ho1) p2.lt), ⟨hz, hTI, ⟨_, _, hTO⟩, h1, h2⟩, new5, q⟩
theorem walks_zipM {K : PySem.W.Frag} {γ : List Addr} {C : Cfg} {a b : Addr} {xs ys : List V} {us ws : List W} (hx : ∀ γ' C', Step γ C γ' C' → SqT K C'.H a xs) (hy : ∀ γ' C', Step γ C γ' C' → SqL K C'.H b ys) (rx : RVs K γ C xs us) (ry : RVs K γ C ys ws) : Walks K γ C (ItzM K a b) (zipW us ws) := by
  refine ⟨fun i w γ' C' s' st e => ?_, fun i γ' C' s' st hl => ⟨xs, ys, hx _ _ st, hy _ _ st, ?_⟩⟩
  · obtain ⟨u1, u2, e1, e2, rfl⟩ := zipW_at _ _ _ _ e
    obtain ⟨x, x1, x2⟩ := rx.get e1
    obtain ⟨y, y1, y2⟩ := ry.get e2
    refine ⟨⟨xs, ys, x, y, hx _ _ st, hy _ _ st, x1, y1⟩, fun v H' h => ?_⟩
    obtain ⟨T, p, q, rfl, hT, rfl, h1, h2⟩ := h
    have e3 := (h1 xs (hx _ _ st)).symm.trans x1
    have e4 := (h2 ys (hy _ _ st)).symm.trans y1
    cases e3
    cases e4
    exact ⟨C'.put T (.tup [x, y]), rfl, rfl, s'.new hT, Step.new hT, .tup (show SqH _ _ _ from upd_same) (.cons ((x2.step st).step (Step.new hT)) (.cons ((y2.step st).step (Step.new hT)) .nil))⟩
  · rw [zipW_len] at hl
    rw [rx.length, ry.length]
    omega
/-- a tuple or a list that is a tree -/
def ttT : W → Option (List W)
  | .tup ws => some ws
  | .tpf ws => some ws
  | .lst ws => some ws
  | _ => none
section
variable {X : Cx} {a b : Expr} {t : TAD}
/-- zip of a tuple and a tuple or a list -/
def iZipM (t : TAD) : TAD := fun τ S Q => t τ S fun ws S1 => ∃ w1 w2 us1 us2, ws = [w1, w2] ∧ tupT w1 = some us1 ∧ ttT w2 = some us2 ∧ Q (zipW us1 us2) S1
theorem pid_zipM {p pos tpos : Pos} {elts : List Expr} {kk : Nat} (hg : Gl X "zip") (hm : X.mg "zip" = none) (ha : PAD X [a, b] t) (hs : starEach [a, b] X.env = (false, eval a X.env) :: starEach [b] X.env := by rfl) (hs2 : ((backTo pos (starEach [b] X.env)).any (·.1) = false) := by rfl) :
    PID X (.Tuple elts kk tpos) (.Call (.Name "zip" p) [a, b] [] pos) (iZipM t) := by
  obtain ⟨tA, pa, ka⟩ := ha.ex
  refine ⟨_, pi_zipM hg hm pa hs hs2, fun γ C σ τ Qd R hs hst h k => ka γ C σ τ _ _ hs hst h fun C1 vs ws h1 s1 st1 r1 => ?_⟩
  obtain ⟨w1, w2, us1, us2, rfl, e1, e2, hq⟩ := h1
  cases r1 with
  | cons r1 r2 =>
    cases r2 with
    | cons r2 r3 =>
      cases r3
      obtain ⟨p1, xs, rfl, x1, x2⟩ := tupT_at r1 e1
      by_cases ht : tupT w2 = some us2
      · obtain ⟨p2, ys, rfl, y1, y2⟩ := tupT_at r2 ht
        exact ⟨p1, p2, xs, ys, rfl, x1 _ _ (.refl _ _), .inl ⟨y1 _ _ (.refl _ _), k C1 _ _ hq s1 st1 (walks_zip x1 y1 x2 y2)⟩⟩
      · cases r2 <;> first | (cases e2; done) | (cases e2; exact absurd rfl ht) | skip
        rename_i p2 ys ws e3 e4 e5
        cases e2
        exact ⟨p1, p2, xs, ys, rfl, x1 _ _ (.refl _ _), .inr ⟨SqL.of e3, k C1 _ _ hq s1 st1 (walks_zipM x1 (fun γ' C' st => SqL.of (st.keep _ _ e3 (.inr e4))) x2 e5)⟩⟩
end
end FL
end
section
set_option autoImplicit false
namespace FL
open PySem PySem.Spec PyProof.Rows L2
/-! ### sorted(set(xs)), xs a list of tuples of ints, few of them different -/
/-- no more than 60 different ones -/
def Few (ks : List (Addr × List Int)) : Prop := ∀ L : List (Addr × List Int), (∀ p ∈ L, p ∈ ks) → (L.map (·.2)).Nodup → L.length ≤ 60
section
variable {P : Program} {w : World} {A : Around} {E : Value → Shared → Prop} {s : Shared}
theorem set_few {I : Addr} {fp wr : List Addr} {G : Array GenState → Array GenState → Prop} {n : Nat} {Pv : Nat → Value → Prop} {St : Nat → Shared → Prop} {R : Result → Shared → Prop}
    (W : WalksS P w A.in1 I fp wr G n Pv St) (S : Addr) (hSf : S ∉ fp) (ks : List (Addr × List Int)) (hn : n = ks.length) (hF : Few ks) (hval : ∀ i v, Pv i v → ∃ p, ks[i]? = some p ∧ v = .ref p.1)
    (h0 : Heap) (hk : ∀ p ∈ ks, IsT P w h0 p.2 p.1) (hS0 : h0.get? S = none) (hw0 : ∀ b ∈ wr, h0.get? b = none) (hu : A.in1.units < cLine) :
    ∀ (k i : Nat) (s : Shared), n - i = k → i ≤ n → St i s → (∀ b o, h0.get? b = some o → s.heap.get? b = some o) → (∃ L es ep t, SetTR P w s.heap S L es ep t ∧ Got ks i L) →
      (∀ s' L es ep t, Moved (S :: wr) G s s' → SetTR P w s'.heap S L es ep t → Got ks n L → (∀ b o, h0.get? b = some o → s'.heap.get? b = some o) → R (.ok (.ret .none)) s') →
      codeAny (model P w) A (.builtin "set.update.loop" ⟨[.ref S, .ref I], []⟩) R s := by
  have sw : S ∉ wr := fun h => hSf (W.sub _ h)
  have up : ∀ b ∈ wr, b ∈ S :: wr := fun b hb => List.mem_cons_of_mem _ hb
  have go : ∀ {s s' : Shared}, Moved wr G s s' → (∀ b o, h0.get? b = some o → s.heap.get? b = some o) → ∀ b o, h0.get? b = some o → s'.heap.get? b = some o := fun hm kp b o e =>
    hm.heap b o (fun hb => by rw [hw0 b hb] at e; cases e) (kp b o e)
  intro k
  induction k with
  | zero =>
    rintro i s hk' hi hst kp ⟨L, es, ep, t, hS, g⟩ hR
    obtain rfl : i = n := by omega
    refine codeAny_builtin F.entry_set_update_loop ?_
    rw [Around.under_plainId F.plain_set_update_loop _]
    show wpAny _ A.in1 (pyNext (.ref I) >>= _) _ _ s
    refine wpAny_bind (W.done s _ _ hst fun s' hm => ?_)
    show wpAny _ A.in1 (ret Value.none) _ _ s'
    have kp' := go hm kp
    exact wpAny_pure (hR s' L es ep t (hm.mono up) (hS.keep (fun o e => hm.heap S o sw e) fun p hp => isT_keep (hk p (List.mem_of_mem_take (g.sub p hp))) kp') g kp')
  | succ k ih =>
    rintro i s hk' hi hst kp ⟨L, es, ep, t, hS, g⟩ hR
    have hlt : i < n := by omega
    have hfew : L.length + 1 < 64 := by
      have := hF L (fun p hp => List.mem_of_mem_take (g.sub p hp)) hS.nd
      omega
    refine codeAny_builtin F.entry_set_update_loop ?_
    rw [Around.under_plainId F.plain_set_update_loop _]
    show wpAny _ A.in1 (pyNext (.ref I) >>= _) _ _ s
    refine wpAny_bind (W.item i s _ _ hlt hst fun v s' hP hst' hm => ?_)
    obtain ⟨p, hp, rfl⟩ := hval i v hP
    have kp' := go hm kp
    have hS' : SetTR P w s'.heap S L es ep t := hS.keep (fun o e => hm.heap S o sw e) fun q hq => isT_keep (hk q (List.mem_of_mem_take (g.sub q hq))) kp'
    have hx : IsT P w s'.heap p.2 p.1 := isT_keep (hk p (List.mem_of_getElem? hp)) kp'
    show wpAny _ A.in1 (holding [Value.ref p.1] (setAdd S (.ref p.1)) >>= _) _ _ s'
    refine wpAny_bind (wpAny_holding ?_)
    unfold setAdd
    refine wpAny_holding (wpAny_bind (wpAny_pyHash_tuple hu hx ?_))
    refine add_at (s := { s' with toks := s'.toks + (p.2.length + 1) }) hS' hx hu hfew fun b h' L' es' ep' t' sb hS2 c1 c2 => ?_
    have g' : Got ks (i + 1) L' := by
      by_cases c : p.2 ∈ L.map (·.2)
      · rw [c1 c]; exact g.same hp c
      · exact g.more hp (c2 c)
    have kp2 : ∀ b o, h0.get? b = some o → h'.get? b = some o := fun b o e => (sb.2 b (fun z => by rw [z, hS0] at e; cases e)).trans (kp' b o e)
    refine wpAny_pure ⟨plainId_quiet F.plain_set_update_loop _, ih (i + 1) _ (by omega) hlt (W.frame _ s' _ _ hst' (Nat.le_add_right _ _) fun b hb o e => ?_) kp2 ⟨L', es', ep', t', hS2, g'⟩ fun s2 L2 es2 ep2 t2 hm2 hS3 g2 kp3 => ?_⟩
    · rw [sb.2 b (fun h : b = S => hSf (by rw [← h]; exact hb))]; exact e
    · refine hR s2 L2 es2 ep2 t2 (Moved.trans W.gtrans ((hm.mono up).then_heap (Nat.le_add_right _ _) fun b o hb e => ?_) hm2) hS3 g2 kp3
      rw [sb.2 b (fun h : b = S => hb (by rw [h]; exact List.mem_cons_self))]; exact e
set_option maxHeartbeats 3200000 in
theorem set_of_few {t : Addr} {its : Array Value} (ks : List (Addr × List Int)) {Q : Value → Shared → Prop} (h0 : A.handled = none) (ht : s.heap.IsList t its) (hi : its.toList = ks.map fun p => Value.ref p.1)
    (hT : ∀ p ∈ ks, IsT P w s.heap p.2 p.1) (hF : Few ks) (hU : A.units + 3 < cLine)
    (hQ : ∀ z, Filled P w s ks z → Q (.ref s.heap.objs.size) z) :
    wpAny (model P w) A (call (.type "set") [.ref t]) Q E s := by
  have n0 : its.size = ks.length := by rw [← Array.length_toList, hi, List.length_map]
  obtain ⟨mc, mt, em⟩ := F.called_set.mro
  have em1 := F.called_set.made
  have em2 := F.called_set.sub
  refine wpAny_call (codeAny_of_tree ?_)
  show wpAny _ _ (callAny (.type "set") _) _ _ s
  refine wpAny_pure (And.intro (Code.quiet_builtin _ (by decide +kernel)) (codeAny_builtin F.entry_type_call ?_))
  rw [Around.under_plain (weight_type_call_type "set" [.ref t] []) rfl]
  have em3 := F.called_set.notType
  have em4 := F.called_set.canCreate
  have em5 := F.typeCall_set_1 (.ref t)
  repeat any_goals first | assumption | wp_step
  refine codeAny_mono (code_set_led1 (.ref t) (E := E) (Q₁ := fun v z => v = .ref s.heap.objs.size ∧ z = { s with heap := s.heap.push (bareSet w) }) ⟨rfl, rfl⟩) fun r z hr => ?_
  rcases r with e | fl
  · exact hr
  rcases fl with _ | v | _ | _
  case ok.ret =>
    obtain ⟨rfl, rfl⟩ := hr
    have at0 : (s.heap.push (bareSet w)).get? s.heap.objs.size = some (bareSet w) := Heap.get?_push_size _ rfl
    have ty0 : Shared.TypeIs { s with heap := s.heap.push (bareSet w) } (.ref s.heap.objs.size) "set" := ⟨_, at0, rfl⟩
    have em6 := F.called_set.init.lookup
    have em7 := F.called_set.init.bind (.ref s.heap.objs.size)
    repeat any_goals first | assumption | wp_step
    refine codeAny_mono (codeAny_call_builtin (R := wants (fun r z => r = .none ∧ Filled P w s ks z) E) F.called_set.init.plain F.entry_set_init (check_set_init_1 ty0 ?_)) fun r z hr => ?_
    · obtain ⟨⟨ocls, odict, odata, oslots⟩, hol, hcl, nl, hdl⟩ := ht
      simp only at hcl hdl
      subst hcl; subst hdl
      have q0 : (s.heap.push (bareSet w)).get? t = some { cls := .type "list", dict := odict, data := .seq its nl, slots := oslots } := Heap.get?_push_of_some _ hol
      have q1 := F.sub_list_set
      have q2 := F.sub_list_frozenset
      have q3 : (Value.type "list" == Value.type "dict") = false := by decide
      have q4 : (s.heap.push (bareSet w)).IsList t its := ⟨_, q0, rfl, nl, rfl⟩
      unfold Builtin.«set.__init__» noKeywords Builtin.Frozenset.updateFrom
      generalize hPI : pyIter = PI
      wp_walk
      subst hPI
      refine wpAny_pyIter_list q4 ?_
      refine wpAny_bind (wpAny_runValue ?_)
      have lt0 : t < s.heap.objs.size := Heap.lt_size hol
      have hh3 : A.in1.in1.in1.handled = none := by simp [h0]
      have zz : (s.heap.push (bareSet w)).objs.size = s.heap.objs.size + 1 := Heap.size_push ..
      have neI : t ≠ (s.heap.push (bareSet w)).objs.size := by rw [zz]; exact Nat.ne_of_lt (Nat.lt_succ_of_lt lt0)
      have nf : s.heap.objs.size ∉ [(s.heap.push (bareSet w)).objs.size, t] := by
        rw [zz]
        simp only [List.mem_cons, List.not_mem_nil, or_false, not_or]
        exact And.intro (Nat.ne_of_lt (Nat.lt_succ_self _)) (Nat.ne_of_gt lt0)
      have vals : ∀ (i : Nat) (v : Value), its[i]? = some v → ∃ p, ks[i]? = some p ∧ v = .ref p.1 := fun i v hv => by
        rw [← Array.getElem?_toList, hi, List.getElem?_map] at hv
        obtain ⟨p, e1, e2⟩ := Option.map_eq_some_iff.mp hv
        exact ⟨p, e1, e2.symm⟩
      have none_of : ∀ b, s.heap.objs.size ≤ b → s.heap.get? b = none := fun b hb => by
        rcases h : s.heap.get? b with _ | o
        · rfl
        · exact (Nat.lt_irrefl _ (Nat.lt_of_lt_of_le (Heap.lt_size h) hb)).elim
      refine set_few ((Walks.list hh3 _ t neI its).toS) s.heap.objs.size nf ks n0 hF vals s.heap hT (none_of _ (Nat.le_refl _)) (fun b hb => none_of b ?_) hU (its.size - 0) 0 _ (by omega) (Nat.zero_le _)
        (And.intro ⟨_, Heap.get?_push_size _ rfl, rfl, rfl⟩ (q4.push _)) (fun b o e => Heap.get?_push_of_some _ (Heap.get?_push_of_some _ e)) ⟨[], #[], 0, _, setTR_fresh (Heap.get?_push_of_some _ at0), Got.zero ks⟩ ?_
      · rw [List.mem_singleton.mp hb, zz]; exact Nat.le_succ _
      · intro z L es ep tb mv hS g' kp
        obtain ⟨g, g2, d', tk', os'⟩ := z
        obtain rfl : g2 = s.gens := mv.gens
        obtain rfl : d' = s.drawn := mv.drawn
        obtain rfl : os' = s.os := mv.os
        rw [n0] at g'
        show wpAny _ _ _ _ _ _
        refine wpAny_pure ?_
        show wpAny _ _ (ret Value.none) _ _ (Shared.mk ..)
        exact wpAny_pure (And.intro rfl ⟨g, tk', L, es, ep, tb, rfl, hS, g', kp⟩)
    · rcases r with e | fl
      · exact hr
      rcases fl with _ | v | _ | _
      case ok.ret =>
        obtain ⟨rfl, hz⟩ := hr
        have hq := hQ _ hz
        obtain ⟨g, tk, L, es, ep, tb, rfl, hS, g', kp⟩ := hz
        repeat any_goals first | assumption | wp_step
      all_goals exact hr.elim
  all_goals exact hr.elim
end
section
variable {X : Cx}
def stF (K : PySem.W.Frag) (P : Program) (w : World) : List V → Hp → VK → Prop := fun xs H Q => ∃ (t : Addr) (ks : List (Addr × List Int)), xs = [V.ref t] ∧ SqL K H t (ks.map fun p => V.ref p.1) ∧ (∀ p ∈ ks, SqT K H p.1 (p.2.map V.int)) ∧ Few ks ∧
  ∀ (a : Addr) (L : List (Addr × List Int)), H a = none → (∀ p ∈ L, p ∈ ks) → (∀ p ∈ ks, p.2 ∈ L.map (·.2)) → Q (.ref a) (upd H a (SetTO P w a L))
theorem cr_stF {k : Nat} (hr : Room k X.A) (hc : X.calm = true) : CallR X (.type "set") (stF X.K X.prog X.w) := by
  intro pins s σ H xs us Q I r h
  obtain ⟨t, ks, rfl, hl, hk, hf, hq⟩ := h
  have hun := hr.un
  rw [Vals.ref1 r]
  obtain ⟨its, rv, pt, hz⟩ := I.list hl
  have fr : H s.heap.objs.size = none := I.hok.fresh (Nat.le_refl _)
  refine set_of_few (P := X.prog) (w := X.w) ks (I.ok.hd hc) (show s.heap.IsList t its.toArray from pt.isList) (by simpa using refs_of_vals rv) (fun p hp => I.isT (hk p hp)) hf (by omega) fun z hz => ?_
  obtain ⟨g, tk, L, es, ep, tb, rfl, R, gt, kp⟩ := hz
  exact ⟨V.ref s.heap.objs.size, _, I.laid (t' := tk) kp (Nat.le_refl _) (setTO_new R.t0), rfl, hq _ L fr (fun p hp => List.mem_of_mem_take (gt.sub p hp)) fun p hp => gt.all p (by rw [List.take_length]; exact hp)⟩
/-- no more than 60 different words -/
def FewW (c : List (List Int)) : Prop := ∀ d : List (List Int), d.Nodup → (∀ u ∈ d, u ∈ c) → d.length ≤ 60
def dSortSetF (ta : TD) : TAD := fun τ S Q => ta τ S fun w S1 => ∃ c : List (List Int), w = .lst (CB.cw c) ∧ FewW c ∧ ∀ c' : List (List Int), c'.Pairwise (fun p q => HT.lexLt q p = false) → c'.Nodup → (∀ u, u ∈ c' ↔ u ∈ c) → Q (CB.cw c') S1
theorem pdf_sortSetF {k : Nat} (hr : Room k X.A) {a : Expr} {ta : TD} {p p2 pos pos2 : Pos} (hc : X.calm = true) (hg : Gl X "sorted") (hm : X.mg "sorted" = none) (hg2 : Gl X "set") (hm2 : X.mg "set" = none) (ha : PD X a ta)
    (na : starEach [a] X.env = (false, eval a X.env) :: starEach [] X.env := by rfl) (nb : starEach [.Call (.Name "set" p2) [a] [] pos2] X.env = (false, eval (.Call (.Name "set" p2) [a] [] pos2) X.env) :: starEach [] X.env := by rfl) :
    PDF X (.Call (.Name "sorted" p) [.Call (.Name "set" p2) [a] [] pos2] [] pos) (dSortSetF ta) := by
  obtain ⟨tA, pA, kA⟩ := ha.ex
  have p1 := pe_callTy (p := p2) (pos := pos2) (cr_stF hr hc) hg2 hm2 (by decide +kernel) (pa_cons pA pa_nil na) (by decide) (by decide) na (by rfl)
  have p3 := pe_callB (p := p) (pos := pos) (cr_stG hr hc) hg hm (by decide +kernel) (pa_cons p1 pa_nil nb) (by decide) (by decide) nb (by rfl)
  refine ⟨_, p3, fun γ C σ τ Qd Q hs hst h k => ?_⟩
  refine kA γ C σ τ _ _ hs hst h fun C1 v w h1 s1 st1 r1 => ?_
  obtain ⟨c, rfl, hn, hq⟩ := h1
  cases r1 with
  | @lst l xs _ hl nl rs =>
    obtain ⟨ks, rfl, rfl, hk⟩ := rvs_words rs
    have hfew : Few ks := fun L h1 h2 => by
      have := hn (L.map (·.2)) h2 fun u hu => by
        obtain ⟨p, hp, rfl⟩ := List.mem_map.mp hu
        exact List.mem_map.mpr ⟨p, h1 p hp, rfl⟩
      rw [List.length_map] at this
      exact this
    refine ⟨l, ks, rfl, SqL.of hl, fun p hp => (hk p hp).1, hfew, fun a L fa hsub hall => ?_⟩
    have st2 : Step γ C1 γ (C1.put a (SetTO X.prog X.w a L)) := Step.new fa
    have s2 : Sim X.K γ (C1.put a (SetTO X.prog X.w a L)) := s1.new fa
    refine ⟨a, L, rfl, upd_same, fun p hp => st2.sqt (hk p (hsub p hp)).1, fun L' q pm nd few pw fq => ?_⟩
    refine newF (k.step (st1.trans st2)) s2 (rvs_back fun p hp => (hk p (hsub p (pm.subset hp))).2.step st2) (hq _ pw nd fun u => ⟨fun hu => ?_, fun hu => ?_⟩) q fq
    · obtain ⟨p, hp, rfl⟩ := List.mem_map.mp hu
      exact List.mem_map.mpr ⟨p, hsub p (pm.subset hp), rfl⟩
    · obtain ⟨p, hp, rfl⟩ := List.mem_map.mp hu
      exact (pm.map (·.2)).mem_iff.mpr (hall p hp)
end
end FL
end
section
set_option autoImplicit false
namespace FL
open PySem PySem.Spec PyProof.Rows L2
/-! ### >= of int tuples -/
theorem lexGe_eq : ∀ ns ms : List Int, Ob.lexAt (fun j => decide (ns.getD j 0 = ms.getD j 0)) (fun j => decide (ms.getD j 0 ≤ ns.getD j 0)) (decide (ns.length ≥ ms.length)) 0 (min ns.length ms.length) = !HT.lexLt ns ms
  | [], [] => rfl
  | [], m :: ms => rfl
  | n :: ns, [] => rfl
  | n :: ns, m :: ms => by
    have ih := lexGe_eq ns ms
    have e : min (n :: ns).length (m :: ms).length = min ns.length ms.length + 1 := by simp only [List.length_cons]; omega
    rw [e, Ob.lexAt_succ, HT.lexLt_cons]
    simp only [List.getD_cons_zero]
    by_cases h : n = m
    · subst h
      rw [if_pos (decide_eq_true rfl), if_pos rfl, lexAt_shift]
      have e2 : decide ((n :: ns).length ≥ (n :: ms).length) = decide (ns.length ≥ ms.length) := decide_eq_decide.mpr (by simp)
      rw [e2]
      exact ih
    · rw [if_neg (by simpa using h), if_neg h]
      by_cases h2 : n < m
      · rw [decide_eq_true h2, decide_eq_false (by omega)]; rfl
      · rw [decide_eq_false h2, decide_eq_true (by omega)]; rfl
section
variable {X : Cx}
def geH (K : PySem.W.Frag) : R2 := fun x y H Q => ∃ (a b : Addr) (ns ms : List Int), x = .ref a ∧ y = .ref b ∧ SqT K H a (ns.map V.int) ∧ SqT K H b (ms.map V.int) ∧ Q (.bl (!HT.lexLt ns ms)) H
theorem op_geH (hu : X.A.units < cLine) : OpR X (compareOp .GtE) (geH X.K) := by
  intro pins s σ H x y v u Q I rx ry h
  obtain ⟨a, b, ns, ms, rfl, rfl, ha, hb, q⟩ := h
  cases rx
  cases ry
  obtain ⟨us, r1, p1, _⟩ := I.tuple ha
  obtain ⟨ws, r2, p2, _⟩ := I.tuple hb
  have i1 := Vals.ints r1
  have i2 := Vals.ints r2
  have l1 : us.toArray.size = ns.length := List.size_toArray.trans i1.length
  have l2 : ws.toArray.size = ms.length := List.size_toArray.trans i2.length
  have g1 : ∀ j (h : j < us.toArray.size), ∃ t, us.toArray[j] = .int (ns.getD j 0) t := fun j h => IntsAre.int_at i1 _ _ (by simp at h; simp [h])
  have g2 : ∀ j (h : j < ws.toArray.size), ∃ t, ws.toArray[j] = .int (ms.getD j 0) t := fun j h => IntsAre.int_at i2 _ _ (by simp at h; simp [h])
  have main := Ob.RcOp.tuples_ge (A := X.A) (s := s) (e := fun j => decide (ns.getD j 0 = ms.getD j 0)) (r := fun j => decide (ms.getD j 0 ≤ ns.getD j 0)) p1 p2 hu (fun j h1 h2 => by
    obtain ⟨t, et⟩ := g1 j h1
    obtain ⟨t', et'⟩ := g2 j h2
    rw [et, et', show decide (ns.getD j 0 = ms.getD j 0) = (ns.getD j 0 == ms.getD j 0) from (Bool.beq_eq_decide_eq _ _).symm]
    exact SeqAt.EqAt.int_int _ _ _ _) (fun j h1 h2 _ => by
    obtain ⟨t, et⟩ := g1 j h1
    obtain ⟨t', et'⟩ := g2 j h2
    rw [et, et']
    exact Ob.RcOp.ge_int _ _ _ _)
  rw [l1, l2, lexGe_eq] at main
  exact main X.prog X.w X.xe (EP X pins σ Q) ⟨.bl _, H, I, rfl, q⟩
/-- >= of int tuples -/
def rdGeT : R2D := fun x y S Q => match x, y with
  | .tup a, .tup b => (match intsOf a, intsOf b with
    | some ns, some ms => Q (.bl (!HT.lexLt ns ms)) S
    | _, _ => False)
  | _, _ => False
theorem opd_geT {k : Nat} (hr : Room k X.A) : OpD X (compareOp .GtE) rdGeT := by
  refine ⟨_, op_geH hr.units0, fun γ C x y w1 w2 Qd Q hs rx ry h k => ?_⟩
  cases rx <;> cases ry <;> first | exact False.elim h | skip
  rename_i a xs us h1 r1 b ys vs h2 r2
  have h' : (match intsOf us, intsOf vs with
    | some ns, some ms => Qd (.bl (!HT.lexLt ns ms)) C.S
    | _, _ => False) := h
  split at h'
  · rename_i ns ms e1 e2
    rw [intsOf_eq e1] at r1
    rw [intsOf_eq e2] at r2
    rw [r1.ints] at h1
    rw [r2.ints] at h2
    exact ⟨a, b, ns, ms, rfl, rfl, h1, h2, k C _ _ h' hs (.refl _ _) (.bl _)⟩
  · exact h'.elim
end
/-! ### t[:k:-1] of a tuple -/
section
variable {prog : Program} {w : World} {A : Around} {E : Value → Shared → Prop} {s : Shared}
theorem adjust_to {n k : Nat} (hk : k < n) : Builtin.Slice.sliceAdjust none (some ((k : Nat) : Int)) (-1) (n : Int) = ((n : Int) - 1, (k : Int)) := by
  unfold Builtin.Slice.sliceAdjust
  have h1 : (-1 : Int) < 0 := by decide
  have h2 : ¬ ((k : Nat) : Int) < 0 := by omega
  simp only [h1, h2, if_true, if_false]
  rw [show min ((k : Nat) : Int) ((n : Int) - 1) = (k : Int) by omega]
theorem places_to {n k : Nat} (hk : k < n) : Builtin.Slice.slicePlaces ((n : Int) - 1) (k : Int) (-1) = n - (k + 1) := by
  unfold Builtin.Slice.slicePlaces
  have h1 : ¬ ((-1 : Int) > 0) := by omega
  simp only [h1, if_false]
  split
  · rw [show (-(-1) : Int) = 1 by omega, Int.ediv_one]; omega
  · omega
theorem sliceApplied_to {sl : Addr} {vl vu vs : Value} {n k : Nat} {Q : Int × Int × Nat → Shared → Prop} (hk : k < n) (hs : s.heap.IsSliceOf sl vl vu vs) (pl : IsPart vl none) (pu : IsPart vu (some ((k : Nat) : Int))) (ps : IsPart vs (some (-1)))
    (h : Q ((n : Int) - 1, -1, n - (k + 1)) s) : wpAny (model prog w) A (Builtin.Slice.sliceApplied (.ref sl) (pure (n : Int))) Q E s := by
  obtain ⟨os, hos, hcs, hds⟩ := id hs
  unfold Builtin.Slice.sliceApplied Builtin.Slice.sliceFields
  refine wpAny_bind (wpAny_bind (wpAny_field hos hds (x := vl) rfl (wpAny_bind (wpAny_field hos hds (x := vu) rfl (wpAny_bind (wpAny_field hos hds (x := vs) rfl (wpAny_pure ?_)))))))
  refine wpAny_bind (HT.slicePart_ ps ?_)
  show wpAny _ _ (if ((-1 : Int) == 0) = true then _ else _) _ _ s
  rw [if_neg (by decide)]
  refine wpAny_bind (HT.slicePart_ pl (wpAny_bind (HT.slicePart_ pu (wpAny_bind (wpAny_pure ?_)))))
  show wpAny _ _ (match Builtin.Slice.sliceAdjust none (some ((k : Nat) : Int)) (-1) (n : Int) with | (lo, hi) => pure (lo, (-1 : Int), Builtin.Slice.slicePlaces lo hi (-1))) _ _ s
  rw [adjust_to hk]
  show wpAny _ _ (pure ((n : Int) - 1, (-1 : Int), Builtin.Slice.slicePlaces ((n : Int) - 1) (k : Int) (-1))) _ _ s
  rw [places_to hk]
  exact wpAny_pure h
theorem fm_take {α β : Type} (f : α → Option β) : ∀ (l : List α) (j : Nat), (∀ x ∈ l, (f x).isSome = true) → (l.take j).filterMap f = (l.filterMap f).take j
  | [], j, _ => by simp
  | x :: l, 0, _ => by simp
  | x :: l, j + 1, h => by
    obtain ⟨y, hy⟩ := Option.isSome_iff_exists.mp (h x List.mem_cons_self)
    rw [List.take_succ_cons, List.filterMap_cons_some hy, List.filterMap_cons_some hy, List.take_succ_cons, fm_take f l j fun z hz => h z (List.mem_cons_of_mem _ hz)]
theorem pick_to (xs : Array Value) {k : Nat} (hk : k < xs.size) : ((List.range (xs.size - (k + 1))).filterMap fun (m : Nat) => xs[((xs.size : Int) - 1 + (m : Int) * (-1)).toNat]?).toArray = (xs.toList.drop (k + 1)).reverse.toArray := by
  have e : List.range (xs.size - (k + 1)) = (List.range xs.size).take (xs.size - (k + 1)) := by
    rw [List.take_range, Nat.min_eq_left (by omega)]
  have full := congrArg Array.toList (pick_rev xs)
  simp only at full
  rw [e, fm_take _ _ _ fun m hm => ?_, full]
  · rw [List.reverse_drop, Array.length_toList]
  · have := List.mem_range.mp hm
    have h2 : ((xs.size : Int) - 1 + (m : Int) * (-1)).toNat < xs.size := by omega
    rw [Array.getElem?_eq_getElem h2]
    rfl
theorem getItem_tuple_to {t sl : Addr} {items : Array Value} {vl vu vs : Value} {k : Nat} {Q : Value → Shared → Prop} (hk : k < items.size) (ht : IsTup s.heap t items) (hs : s.heap.IsSliceOf sl vl vu vs) (pl : IsPart vl none) (pu : IsPart vu (some ((k : Nat) : Int))) (ps : IsPart vs (some (-1)))
    (h : Q (.ref s.heap.objs.size) { s with heap := s.heap.push { cls := .type "tuple", data := .seq (items.toList.drop (k + 1)).reverse.toArray } })
    (hsz : items.size ≤ sizeLine) : wpAny (model prog w) A (getItem (.ref t) (.ref sl)) Q E s := by
  have htake : sizeOk (.seq (items.toList.drop (k + 1)).reverse.toArray) := by
    show (items.toList.drop (k + 1)).reverse.toArray.size ≤ sizeLine
    rw [List.size_toArray, List.length_reverse, List.length_drop, Array.length_toList]
    omega
  obtain ⟨os, hos, hcs, hds⟩ := id hs
  have hTs : s.TypeIs (.ref sl) "slice" := ⟨os, hos, hcs⟩
  unfold getItem
  try with_reducible refine wpAny_holding ?_
  first | refine wpAny_bind (wpAny_pure ?_) | skip
  refine wpAny_bind (wpAny_sequenceKey ht.typeIs (by decide) ?_)
  refine wpAny_bind (wpAny_callSpecial?_slot (name := Str.ofString "__getitem__") ht.typeIs PyProof.Rows.slot_tuple_getitem
    (wpAny_call_entry PyProof.Rows.slot_tuple_getitem ht.typeIs entry_tuple_getitem ?_ (args_tuple_getitem _ _)))
  show wpAny _ _ (Builtin.Tuple.tupleItemsOf (.ref t) >>= _) _ _ s
  refine wpAny_bind (tupleItemsOf_ ht ?_)
  refine wpAny_bind (wpAny_typeOf hTs ?_)
  rw [if_pos (by decide)]
  refine wpAny_bind (sliceApplied_to hk hs pl pu ps ?_)
  have hno : ¬ ((((items.size : Int) - 1) == 0 && (-1 : Int) == 1 && (items.size - (k + 1)) == items.size) = true) := by
    intro q
    rw [Bool.and_eq_true, Bool.and_eq_true] at q
    exact absurd q.1.2 (by decide)
  show wpAny _ _ (if (((items.size : Int) - 1) == 0 && (-1 : Int) == 1 && (items.size - (k + 1)) == items.size) = true then _ else _) _ _ s
  rw [if_neg hno, pick_to items hk]
  first
    | exact wpAny_bind (m := Builtin.Tuple.tupleExact _) (wpAny_newObj_type (wpAny_pure ⟨_, rfl, wpAny_pure h⟩) htake)
    | exact wpAny_bind (m := Builtin.Tuple.tupleExact _) (wpAny_newObj_type (wpAny_bind (wpAny_pure (wpAny_pure ⟨_, rfl, wpAny_pure h⟩))) htake)
    | exact wpAny_bind (wpAny_bind (m := Builtin.Tuple.tupleExact _) (wpAny_newObj_type (wpAny_pure (wpAny_pure ⟨_, rfl, wpAny_pure h⟩)) htake))
    | exact wpAny_bind (wpAny_bind (m := Builtin.Tuple.tupleExact _) (wpAny_newObj_type (wpAny_pure ⟨_, rfl, wpAny_pure h⟩) htake))
end
section
variable {X : Cx}
def tRevTo (K : PySem.W.Frag) (te : TE) (th : TO) : TE := fun σ H Q => te σ H fun x H1 => th σ H1 fun o H2 => ∃ (a : Addr) (xs : List V) (k : Nat), x = .ref a ∧ o = some ((k : Nat) : Int) ∧ SqT K H2 a xs ∧ k < xs.length ∧ ∀ p, H2 p = none → Q (.ref p) (upd H2 p (.tup (xs.drop (k + 1)).reverse))
theorem pe_revTo {e : Expr} {hi : Option Expr} {te : TE} {th : TO} {k : Nat} {p1 p2 p3 pos : Pos} (he : PE X e te) (hu : PO X hi th) : PE X (.Subscript e (.Slice none hi (some (.UnaryOp .USub (.Constant (.int 1) k p1) p2)) p3) pos) (tRevTo X.K te th) := by
  refine ⟨fun pins s σ H Q I h => ?_⟩
  refine Subscript_ (thn (he.run pins s σ H _ I h) fun v s1 ⟨x, H1, I1, r1, q1⟩ => ?_)
  have hst : PO X (some (.UnaryOp .USub (.Constant (.int 1) k p1) p2)) (tPart (tUn (rU fun i => .int (-i)) (tC (.int 1)))) := po_some (pe_un un_neg pe_int)
  refine wpAny_Slice (thn (po_none.run pins s1 σ H1 (fun o H2 => o = none ∧ H2 = H1) I1 ⟨rfl, rfl⟩) fun vl s2 ⟨l, H2, I2, pl, el, e2⟩ => ?_)
  subst el e2
  refine thn (hu.run pins s2 σ H2 _ I2 q1) fun vu s3 ⟨u, H3, I3, pu, a, xs, kk, ex, eu, hx, hk, q⟩ => ?_
  subst eu ex
  cases r1
  refine thn (hst.run pins s3 σ H3 (fun o H4 => o = some (-1) ∧ H4 = H3) I3 ⟨1, rfl, -1, rfl, rfl, rfl⟩) fun vs s4 ⟨o, H4, I4, ps, eo, e4⟩ => ?_
  subst eo e4
  have I5 : Inv X pins σ H4 { s4 with heap := s4.heap.push { cls := .type "slice", data := .fields #[vl, vu, vs] } } := I4.kept (t' := s4.toks) fun b ob q => Heap.get?_push_of_some _ q
  obtain ⟨its, r, ht, hz⟩ := I5.tuple hx
  have hlen := r.length
  show wpAny (model X.prog X.w) X.A (subscriptTail e (.Slice none hi (some (.UnaryOp .USub (.Constant (.int 1) k p1) p2)) p3) (.ref a) (.ref s4.heap.objs.size)) (EP X pins σ Q) X.xe { s4 with heap := s4.heap.push { cls := .type "slice", data := .fields #[vl, vu, vs] } }
  refine tail_any (ops := [.ref a, .ref s4.heap.objs.size]) ht.typeIs PyProof.Rows.slot_tuple_getitem.lookup ?_ (by with_unfolding_all rfl)
  refine getItem_tuple_to (k := kk) (by rw [List.size_toArray]; omega) ht (Heap.IsSliceOf.new _ vl vu vs) pl pu ps ?_ (by rw [List.size_toArray]; omega)
  refine ⟨.ref _, _, I5.laid (t' := s4.toks) (o := .tup (xs.drop (kk + 1)).reverse) (fun b ob q => Heap.get?_push_of_some _ q) (Nat.le_refl _) ?_, rfl, q _ (I5.hok.fresh (Nat.le_refl _))⟩
  exact ⟨by rw [List.length_reverse, List.length_drop]; omega, _, (r.drop _).reverse, IsTup.new _ _⟩
def dRevTo (te : TD) (th : TOD) : TD := fun τ S Q => te τ S fun x S1 => th τ S1 fun o S2 => ∃ (ws : List W) (k : Nat), x = .tup ws ∧ o = some ((k : Nat) : Int) ∧ k < ws.length ∧ Q (.tup (ws.drop (k + 1)).reverse) S2
theorem pd_revTo {a : Expr} {hi : Option Expr} {ta : TD} {th : TOD} {k : Nat} {p1 p2 p3 pos : Pos} (he : PD X a ta) (hu : POD X hi th) : PD X (.Subscript a (.Slice none hi (some (.UnaryOp .USub (.Constant (.int 1) k p1) p2)) p3) pos) (dRevTo ta th) := by
  obtain ⟨tA, pa, ka⟩ := he.ex
  obtain ⟨tC, pc, kc⟩ := hu.ex
  refine ⟨_, pe_revTo pa pc, fun γ C σ τ Qd Q hs hst h k => ?_⟩
  refine ka γ C σ τ _ _ hs hst h fun C1 v1 w1 h1 s1 st1 r1 => kc γ C1 σ τ _ _ s1 (hst.step st1) h1 fun C2 u h2 s2 st2 => ?_
  obtain ⟨ws, kk, rfl, rfl, hk, hq⟩ := h2
  have r1' := r1.step st2
  cases r1' with
  | tup p1 q1 =>
    rename_i p xs
    exact ⟨p, xs, kk, rfl, rfl, p1, by rw [q1.length]; exact hk, newTup (k.step (st1.trans st2)) s2 (q1.drop _).reverse hq⟩
end
end FL
end
section
set_option autoImplicit false
namespace FL
open PySem PySem.Spec PyProof.Rows L2
/-! ### raising calls inside an index, a pair; a call that doesn't raise here -/
section
variable {X : Cx} {Ex : WX} {a b e : Expr} {ta tb : TD} {tx : TDX} {pos : Pos}
/-- a call that may raise, used where it doesn't -/
theorem pd_ofX (h : PDX X (fun _ _ _ _ => False) e tx) : PD X e (fun τ S Q => tx (fun _ _ _ _ => False) τ S Q) := by
  obtain ⟨tH, p, k⟩ := h.ex
  exact ⟨tH, p, fun γ C σ τ Qd Q hs hst h k1 => k γ C σ τ _ Qd Q hs hst h k1 fun _ _ _ _ _ _ h => h.elim⟩
theorem pdx_ix (ha : PDX X Ex a tx) (hb : PD X b tb) (hs : PlainIx b) : PDX X Ex (.Subscript a b pos) (fun Ed => dOp rdIx (tx Ed) tb) := by
  obtain ⟨tA, pa, ka⟩ := ha.ex
  obtain ⟨tB, pb, kb⟩ := hb.ex
  refine ⟨_, pe_ix (ix_list.or ix_tup) pa pb hs, fun γ C σ τ Ed Qd Q hs hst h k kx => ?_⟩
  refine ka γ C σ τ Ed _ _ hs hst h (fun C1 v1 w1 h1 s1 st1 r1 => kb γ C1 σ τ _ _ s1 (hst.step st1) h1 fun C2 v2 w2 h2 s2 st2 r2 => ?_) kx
  have r1' := r1.step st2
  unfold rdIx at h2
  split at h2
  · rename_i us e1
    split at h2
    · rename_i w e
      obtain ⟨p, xs, rfl, p1, q1⟩ := sqOf_at s2 r1' e1
      cases r2
      obtain ⟨v, e', r'⟩ := q1.atI e
      have q := k C2 v w h2 s2 (st1.trans st2) r'
      exact p1.elim (fun z => .inl ⟨p, xs, _, v, rfl, rfl, z, e', q⟩) fun z => .inr ⟨p, xs, _, v, rfl, rfl, z.1, e', q⟩
    · exact h2.elim
  · exact h2.elim
theorem pdx_tup2 {x1} (ha : PDX X Ex a tx) (hb : PD X b tb) (h1 : starEach [a, b] X.env = (false, eval a X.env) :: starEach [b] X.env := by rfl) (h2 : starEach [b] X.env = (false, eval b X.env) :: starEach [] X.env := by rfl) :
    PDX X Ex (.Tuple [a, b] x1 pos) (fun Ed => dTup (dCons (tx Ed) (dCons tb dNil))) := by
  obtain ⟨tA, pa, ka⟩ := ha.ex
  obtain ⟨tB, pb, kb⟩ := hb.ex
  refine ⟨_, pe_tup (pa_cons pa (pa_cons pb pa_nil h2) h1), fun γ C σ τ Ed Qd Q hs hst h k kx => ?_⟩
  refine ka γ C σ τ Ed _ _ hs hst h (fun C1 v1 w1 q1 s1 st1 r1 => kb γ C1 σ τ _ _ s1 (hst.step st1) q1 fun C2 v2 w2 q2 s2 st2 r2 => ?_) kx
  have rr : RVs X.K γ C2 [v1, v2] [w1, w2] := .cons (r1.step st2) (.cons r2 .nil)
  refine ⟨by rw [rr.length]; exact q2.1, fun q hq => ?_⟩
  have st : Step γ C2 γ (C2.put q (.tup [v1, v2])) := Step.new hq
  exact k (C2.put q (.tup [v1, v2])) _ _ q2.2 (s2.new hq) ((st1.trans st2).trans st) (.tup (show SqH _ _ _ from upd_same) (rr.step st))
end
end FL
end
section
set_option autoImplicit false
namespace FL
open PySem PySem.Spec PyProof.Rows L2
/-! ### a dict comprehension: the new dict is a place of the store in the end -/
theorem putV_keys : ∀ {kvs : List (Key × V)} {k : Key} {v : V} {x : Key}, x ∈ (putV kvs k v).map Prod.fst → x = k ∨ x ∈ kvs.map Prod.fst
  | [], _, _, x, h => by
    rw [show putV [] _ _ = [(_, _)] from rfl, List.map_cons, List.map_nil, List.mem_singleton] at h
    exact .inl h
  | (k', v') :: r, k, v, x, h => by
    by_cases e : k' = k
    · rw [show putV ((k', v') :: r) k v = (k', v) :: r from if_pos e] at h
      exact .inr h
    · rw [show putV ((k', v') :: r) k v = (k', v') :: putV r k v from if_neg e, List.map_cons] at h
      rcases List.mem_cons.mp h with h | h
      · exact .inr (by rw [h, List.map_cons]; exact List.mem_cons_self)
      · rcases putV_keys h with h | h
        · exact .inl h
        · exact .inr (List.mem_cons_of_mem _ h)
theorem putV_nd : ∀ {kvs : List (Key × V)} {k : Key} {v : V}, (kvs.map Prod.fst).Nodup → ((putV kvs k v).map Prod.fst).Nodup
  | [], _, _, _ => by
    show ([_] : List Key).Nodup
    exact List.nodup_cons.mpr ⟨(fun h => nomatch h), List.nodup_nil⟩
  | (k', v') :: r, k, v, h => by
    by_cases e : k' = k
    · rw [show putV ((k', v') :: r) k v = (k', v) :: r from if_pos e]
      exact h
    · rw [show putV ((k', v') :: r) k v = (k', v') :: putV r k v from if_neg e, List.map_cons]
      obtain ⟨h1, h2⟩ := List.nodup_cons.mp h
      refine List.nodup_cons.mpr ⟨fun hm => ?_, putV_nd h2⟩
      rcases putV_keys hm with q | q
      · exact e q
      · exact h1 q
theorem putV_len : ∀ {kvs : List (Key × V)} {k : Key} {v : V}, (putV kvs k v).length ≤ kvs.length + 1
  | [], _, _ => Nat.le_refl _
  | (k', v') :: r, k, v => by
    by_cases e : k' = k
    · rw [show putV ((k', v') :: r) k v = (k', v) :: r from if_pos e]
      exact Nat.le_succ _
    · rw [show putV ((k', v') :: r) k v = (k', v') :: putV r k v from if_neg e]
      exact Nat.succ_le_succ putV_len
section
variable {X : Cx}
def dcI (g : W → EnvD → Option EnvD) (tt : TTD) (tk tv : TD) (τ : EnvD) (items : List W) (S : Store) (Q : List Key → List W → Store → Prop) : Prop :=
  ∃ P : Nat → List Key → List W → Store → Prop, P 0 [] [] S ∧ (∀ i x ks ws S, items[i]? = some x → ks.length ≤ i → P i ks ws S → match g x τ with
    | some τ1 => tt τ1 S fun b S1 => if b = true then tk τ1 S1 fun kw S2 => tv τ1 S2 fun w S3 => match keyW kw with
        | some k => P (i + 1) (putKW ks ws k w).1 (putKW ks ws k w).2 S3
        | none => False
      else P (i + 1) ks ws S1
    | none => False) ∧ ∀ ks ws S, P items.length ks ws S → Q ks ws S
def dDcC (ti : TAD) (g : W → EnvD → Option EnvD) (tt : TTD) (tk tv : TD) (vs : List Nat) : TD := fun τ S Q => ti τ S fun items S1 => items.length ≤ sizeLine ∧ dcI g tt tk tv (wipeD τ vs) items S1 fun ks ws S2 => Q (.loc S2.length) (S2 ++ [some (.dic ks ws)])
theorem dc_ex {kx vx tg iter : Expr} {ifs : List Expr} {scope : Scope} {own : List (Str × Nat)} {is : List Nat} {ti : TAD} {g : W → EnvD → Option EnvD} {tt : TTD} {tk tv : TD} (hi : PID X tg iter ti)
    (hg : ∀ (s : Shared) (H : Hp) (C : Addr) (cl : List (Str × Addr)) (fp : List Addr), PGD (X.blk s H scope (compEnvC scope cl C X.env) fp) tg is g)
    (ht : ∀ (s : Shared) (H : Hp) (C : Addr) (cl : List (Str × Addr)) (fp : List Addr), PTsD (X.blk s H scope (compEnvC scope cl C X.env) fp) ifs tt)
    (hk : ∀ (s : Shared) (H : Hp) (C : Addr) (cl : List (Str × Addr)) (fp : List Addr), PD (X.blk s H scope (compEnvC scope cl C X.env) fp) kx tk)
    (he : ∀ (s : Shared) (H : Hp) (C : Addr) (cl : List (Str × Addr)) (fp : List Addr), PD (X.blk s H scope (compEnvC scope cl C X.env) fp) vx tv)
    (his : ∀ j ∈ is, j ∈ own.map (·.2)) :
    ∃ wi gH tH kH eH, PI X tg iter wi ∧ (∀ (s : Shared) (H : Hp) (C : Addr) (cl : List (Str × Addr)) (fp : List Addr), PG (X.blk s H scope (compEnvC scope cl C X.env) fp) tg gH) ∧ (∀ (s : Shared) (H : Hp) (C : Addr) (cl : List (Str × Addr)) (fp : List Addr), PTs (X.blk s H scope (compEnvC scope cl C X.env) fp) ifs tH) ∧
      (∀ (s : Shared) (H : Hp) (C : Addr) (cl : List (Str × Addr)) (fp : List Addr), PE (X.blk s H scope (compEnvC scope cl C X.env) fp) kx kH) ∧ (∀ (s : Shared) (H : Hp) (C : Addr) (cl : List (Str × Addr)) (fp : List Addr), PE (X.blk s H scope (compEnvC scope cl C X.env) fp) vx eH) ∧
      ∀ γ C σ τ (Qd : List Key → List W → Store → Prop) (Q : VK), Sim X.K γ C → RSt X.K γ C σ τ → (ti τ C.S fun items S1 => items.length ≤ sizeLine ∧ dcI g tt tk tv (wipeD τ (own.map (·.2))) items S1 Qd) →
        (∀ C' p kvs us, Qd (kvs.map Prod.fst) us C'.S → Sim X.K (p :: γ) C' → Step γ C (p :: γ) C' → C'.H p = some (.dK kvs) → RVs X.K (p :: γ) C' (kvs.map Prod.snd) us → Q (.ref p) C'.H) → tDc wi gH tH kH eH (own.map (·.2)) σ C.H Q := by
  obtain ⟨wi, pi, ki⟩ := hi.ex
  refine ⟨wi, fun v σ H Q => ∀ s0 H0 D cl fp, Classical.choose (hg s0 H0 D cl fp).ex v σ H Q, fun σ H Q => ∀ s0 H0 D cl fp, Classical.choose (ht s0 H0 D cl fp).ex σ H Q,
    fun σ H Q => ∀ s0 H0 D cl fp, Classical.choose (hk s0 H0 D cl fp).ex σ H Q, fun σ H Q => ∀ s0 H0 D cl fp, Classical.choose (he s0 H0 D cl fp).ex σ H Q, pi, ?_, ?_, ?_, ?_, fun γ C σ τ Qd Q hsm hst h k => ?_⟩
  · intro s0 H0 D cl fp
    exact ⟨fun pins s σ H v u Q I r h => (Classical.choose_spec (hg s0 H0 D cl fp).ex).1.run pins s σ H v u Q I r (h s0 H0 D cl fp)⟩
  · intro s0 H0 D cl fp
    exact ⟨fun pins s σ H Q I h => (Classical.choose_spec (ht s0 H0 D cl fp).ex).1.run pins s σ H Q I (h s0 H0 D cl fp)⟩
  · intro s0 H0 D cl fp
    exact ⟨fun pins s σ H Q I h => (Classical.choose_spec (hk s0 H0 D cl fp).ex).1.run pins s σ H Q I (h s0 H0 D cl fp)⟩
  · intro s0 H0 D cl fp
    exact ⟨fun pins s σ H Q I h => (Classical.choose_spec (he s0 H0 D cl fp).ex).1.run pins s σ H Q I (h s0 H0 D cl fp)⟩
  refine ki γ C σ τ _ _ hsm hst h fun C1 J ws h1 s1 st1 wk => fun D hD => ?_
  obtain ⟨hlen, P, p0, pstep, pend⟩ := h1
  have hst1 := hst.step st1
  obtain ⟨g1, g2⟩ := s1.ghost (o := .dK []) hD
  have hD0 : C.H D = none := by
    cases z : C.H D with
    | none => rfl
    | some o => exact absurd hD (st1.there D (ne_none z))
  refine ⟨fun i m H => i + m = ws.length ∧ ∃ C2 kvs us, C2.H = H ∧ Sim X.K (D :: γ) C2 ∧ Step γ C1 (D :: γ) C2 ∧ H D = some (.dK kvs) ∧ (kvs.map Prod.fst).Nodup ∧ RVs X.K (D :: γ) C2 (kvs.map Prod.snd) us ∧ kvs.length ≤ i ∧ P i (kvs.map Prod.fst) us C2.S,
    ⟨ws.length, by omega, C1.put D (.dK []), [], [], rfl, g1, g2, upd_same, List.nodup_nil, .nil, Nat.le_refl _, p0⟩, fun i m H hW => ?_⟩
  obtain ⟨em, C2, kvs, us, rfl, s2, st2, eD, hnd, rx, hacc, hl⟩ := hW
  by_cases hi : i < ws.length
  · have ei : ws[i]? = some ws[i] := List.getElem?_eq_getElem hi
    obtain ⟨go, yl⟩ := wk.go i ws[i] (D :: γ) C2 s2 st2 ei
    refine .inr ⟨go, fun H' => i + 1 + (m - 1) = ws.length ∧ ∃ C2 kvs us, C2.H = H' ∧ Sim X.K (D :: γ) C2 ∧ Step γ C1 (D :: γ) C2 ∧ H' D = some (.dK kvs) ∧ (kvs.map Prod.fst).Nodup ∧ RVs X.K (D :: γ) C2 (kvs.map Prod.snd) us ∧ kvs.length ≤ i + 1 ∧ P (i + 1) (kvs.map Prod.fst) us C2.S, fun H' hN => ⟨m - 1, by omega, hN⟩, fun x H' hy => ?_⟩
    obtain ⟨C3, rfl, eS, s3, st3, rv⟩ := yl x H' hy
    have st13 := st2.trans st3
    have hl' := pstep i ws[i] (kvs.map Prod.fst) us C3.S ei (by rw [List.length_map]; exact hacc) (by rw [eS]; exact hl)
    cases eg : g ws[i] (wipeD τ (own.map (·.2))) with
    | none => rw [eg] at hl'; exact hl'.elim
    | some τ1 =>
      rw [eg] at hl'
      intro s0 H0 D0 cl fp
      have hstw : RSt X.K (D :: γ) C3 (L2.wipe σ (own.map (·.2))) (wipeD τ (own.map (·.2))) := (hst1.step st13).wipe _
      refine (Classical.choose_spec (hg s0 H0 D0 cl fp).ex).2 (D :: γ) C3 _ _ x ws[i] τ1 _ s3 hstw rv eg fun σ' hst' hl1 hk1 => ⟨?_, ?_⟩
      · have e1 := wipe_same (vs := own.map (·.2)) hl1 fun j hj => hk1 j fun z => hj (his j z)
        rw [e1]
        exact wipe_same (wipe_length _ _) fun j hj => wipe_out hj
      · intro s0 H0 D0 cl fp
        refine (Classical.choose_spec (ht s0 H0 D0 cl fp).ex).2 (D :: γ) C3 σ' τ1 _ _ s3 hst' hl' fun C4 bb h4 s4 st4 => ?_
        have st14 := st13.trans st4
        have eD4 : C4.H D = some (.dK kvs) := st4.keep D _ (st3.keep D _ eD (.inl List.mem_cons_self)) (.inl List.mem_cons_self)
        cases bb with
        | false =>
          rw [if_neg Bool.false_ne_true] at h4 ⊢
          exact ⟨by omega, C4, kvs, us, rfl, s4, st14, eD4, hnd, rx.step (st3.trans st4), by omega, h4⟩
        | true =>
          rw [if_pos rfl] at h4 ⊢
          intro s0 H0 D0 cl fp
          refine (Classical.choose_spec (hk s0 H0 D0 cl fp).ex).2 (D :: γ) C4 σ' τ1 _ _ s4 (hst'.step st4) h4 fun C5 y kw h5 s5 st5 r5 => ?_
          intro s0 H0 D0 cl fp
          refine (Classical.choose_spec (he s0 H0 D0 cl fp).ex).2 (D :: γ) C5 σ' τ1 _ _ s5 ((hst'.step st4).step st5) h5 fun C6 z w h6 s6 st6 r6 => ?_
          have eD6 : C6.H D = some (.dK kvs) := st6.keep D _ (st5.keep D _ eD4 (.inl List.mem_cons_self)) (.inl List.mem_cons_self)
          split at h6
          · rename_i key ek
            have e4 := keyW_at r5 ek
            subst e4
            have hp : ∃ u, C6.H D = some u ∧ (∀ xs, u ≠ .tup xs) ∧ ∀ o z, u ≠ .frz o z := ⟨_, eD6, fun _ => nofun, fun _ _ => nofun⟩
            have rx' := rx.step (((st3.trans st4).trans st5).trans st6)
            refine ⟨kvs, key, rfl, eD6, by omega, ?_⟩
            rw [putK_eq hnd]
            obtain ⟨q1, q2⟩ := putKW_at (k := key) (r6.gput (o := .dK (putV kvs key z)) s6 hp) (rx'.gput s6 hp)
            refine ⟨by omega, C6.put D (.dK (putV kvs key z)), putV kvs key z, _, rfl, s6.gput hp, ((st14.trans st5).trans st6).gput hD, upd_same, putV_nd hnd, q2, Nat.le_trans putV_len (Nat.succ_le_succ hacc), ?_⟩
            rw [q1]
            exact h6
          · exact h6.elim
  · refine .inl ⟨wk.stop i (D :: γ) C2 s2 st2 (by omega), ?_⟩
    have e : i = ws.length := by omega
    subst e
    exact k C2 D kvs us (pend _ us C2.S hl) s2 (st1.trans st2) eD rx
theorem pd_dcC (hc : X.calm = true) (hN : X.N.Nodup) {pos : Pos} {kx vx tg iter : Expr} {ifs : List Expr} {scope : Scope} {own : List (Str × Nat)} {is : List Nat} {ti : TAD} {g : W → EnvD → Option EnvD} {tt : TTD} {tk tv : TD} (hi : PID X tg iter ti)
    (hg : ∀ (s : Shared) (H : Hp) (C : Addr) (cl : List (Str × Addr)) (fp : List Addr), PGD (X.blk s H scope (compEnvC scope cl C X.env) fp) tg is g)
    (ht : ∀ (s : Shared) (H : Hp) (C : Addr) (cl : List (Str × Addr)) (fp : List Addr), PTsD (X.blk s H scope (compEnvC scope cl C X.env) fp) ifs tt)
    (hk : ∀ (s : Shared) (H : Hp) (C : Addr) (cl : List (Str × Addr)) (fp : List Addr), PD (X.blk s H scope (compEnvC scope cl C X.env) fp) kx tk)
    (he : ∀ (s : Shared) (H : Hp) (C : Addr) (cl : List (Str × Addr)) (fp : List Addr), PD (X.blk s H scope (compEnvC scope cl C X.env) fp) vx tv)
    (his : ∀ j ∈ is, j ∈ own.map (·.2)) (ok : BlkOk X.N X.env.scope scope own) (hs : ∀ x, foldedSetIterable iter X.env x = pure x := by intro _; rfl) :
    PD X (.DictComp kx vx [⟨tg, iter, ifs, 0⟩] scope pos) (dDcC ti g tt tk tv (own.map (·.2))) := by
  obtain ⟨wi, gH, tH, kH, eH, h1, h2, h3, h4, h5, h6⟩ := dc_ex hi hg ht hk he his
  refine ⟨_, pe_dc hc hN h1 ok h2 h3 h4 h5 hs, fun γ C σ τ Qd Q hsm hst h k => ?_⟩
  refine h6 γ C σ τ _ _ hsm hst h fun C2 D kvs us hq s2 st2 eD rx => ?_
  refine k (C2.add D (.dic (kvs.map Prod.fst) us)) _ _ hq (s2.add ⟨kvs, eD, rfl, rx⟩) (st2.add s2 fun _ z => z) (.loc ?_)
  show (C2.ρ ++ [D])[C2.S.length]? = some D
  rw [← s2.len]; simp
/-- name = {..} on one line -/
theorem sw_trueD {kx vx : Expr} {gs : List Comprehension} {scope : Scope} {pos py : Pos} {y : Str} {l : Nat} {env : Env} (hk : env.scope.kind = .function) (hy : env.scope.names.lookup y = some .local) (hl : (py.line == pos.line) = true)
    (ha : (scope.names.any fun (n, k) => n == y && (k == .local || k == .cell)) = false) : swapsWith (.DictComp kx vx gs scope pos) (some (.Name y py)) l env = pure true := by
  have ky : env.kindOf y = some .local := hy
  have hb : env.blockKind = .function := by unfold Env.blockKind; rw [hk]; rfl
  unfold swapsWith
  simp only [hb, ky, ha, Expr.pos, hl]
  rfl
theorem ps_setDc {i : Nat} {y : Str} {py : Pos} {kx vx tg iter : Expr} {ifs : List Expr} {scope : Scope} {own : List (Str × Nat)} {pos spos : Pos} {wi : TI} {g : TG} {tt : TT} {tk tv : TE} (hc : X.calm = true) (hN : X.N.Nodup) (hy : X.N[i]? = some y) (hyl : X.env.scope.names.lookup y = some .local)
    (hsw : swapsWith (.DictComp kx vx [⟨tg, iter, ifs, 0⟩] scope pos) (some (.Name y py)) spos.line X.env = pure true) (hi : PI X tg iter wi) (ok : BlkOk X.N X.env.scope scope own)
    (hg : ∀ (s : Shared) (H : Hp) (C : Addr) (cl : List (Str × Addr)) (fp : List Addr), PG (X.blk s H scope (compEnvC scope cl C X.env) fp) tg g) (ht : ∀ (s : Shared) (H : Hp) (C : Addr) (cl : List (Str × Addr)) (fp : List Addr), PTs (X.blk s H scope (compEnvC scope cl C X.env) fp) ifs tt)
    (hk : ∀ (s : Shared) (H : Hp) (C : Addr) (cl : List (Str × Addr)) (fp : List Addr), PE (X.blk s H scope (compEnvC scope cl C X.env) fp) kx tk)
    (he : ∀ (s : Shared) (H : Hp) (C : Addr) (cl : List (Str × Addr)) (fp : List Addr), PE (X.blk s H scope (compEnvC scope cl C X.env) fp) vx tv) (hs : ∀ x, foldedSetIterable iter X.env x = pure x := by intro _; rfl) :
    PS X (.Assign [.Name y py] (.DictComp kx vx [⟨tg, iter, ifs, 0⟩] scope pos) spos) (tAsg (tDc wi g tt tk tv (own.map (·.2))) (gName i)) := by
  refine ⟨fun pins s σ H D I h => ?_⟩
  rw [exec_Assign_Name_used _ _ _ _ hsw]
  refine wpAny_bind (wpAny_standAt (wpAny_bind ?_))
  show wpAny _ X.A (do let _ ← comprehension (.DictComp kx vx [⟨tg, iter, ifs, 0⟩] scope pos) scope X.env (firstIterPos [⟨tg, iter, ifs, 0⟩] pos) newDict false (eval iter X.env) (some (assign (.Name y py) X.env))) _ _ s
  have h : tDc wi g tt tk tv (own.map (·.2)) σ H (fun x H1 => gName i x σ H1 D.nx) := h
  refine wpAny_bind (thn (dc_core (Qf := fun _ s' => SP X pins D .next s') hc hN I hi ok hg ht hk he hs h fun L C s' m H' I' q hn f => ?_) fun _ s' hq => wpAny_pure (wpAny_pure hq))
  show wpAny _ _ (assign (.Name y py) X.env (.ref L)) _ _ _
  refine wpAny_assign_Name (store_ok2 (v := V.ref L) I' hN hy (.inl hyl) rfl (fun s2 I2 ⟨a, sb, ha⟩ => ?_) (.inr hyl))
  obtain ⟨f0, f1, f2, f3, f4, f5⟩ := f
  have haC : C ≠ a := by
    rcases ha with z | z
    · rw [z]; exact f1
    · exact fun e => f4 y a z e.symm
  refine ⟨m, hn.sameBut sb haC, fun h3 sb3 => ?_⟩
  exact ⟨_, H', I2.turned (t' := s2.toks) (fun b o hb e => (sb3.2 b hb).trans e) f0 f1 f3 f4 f5, q⟩
def sDcC (i : Nat) (t : TD) : TSD := fun D τ S => t τ S fun w S1 => D.nx (τ.set i (some w)) S1
theorem psd_setDcC (hc : X.calm = true) (hN : X.N.Nodup) {i : Nat} {y : Str} {py spos pos : Pos} (hy : X.N[i]? = some y) (hyl : X.env.scope.names.lookup y = some .local) {kx vx tg iter : Expr} {ifs : List Expr} {scope : Scope} {own : List (Str × Nat)} {is : List Nat} {ti : TAD} {g : W → EnvD → Option EnvD} {tt : TTD} {tk tv : TD} (hi : PID X tg iter ti)
    (hg : ∀ (s : Shared) (H : Hp) (C : Addr) (cl : List (Str × Addr)) (fp : List Addr), PGD (X.blk s H scope (compEnvC scope cl C X.env) fp) tg is g)
    (ht : ∀ (s : Shared) (H : Hp) (C : Addr) (cl : List (Str × Addr)) (fp : List Addr), PTsD (X.blk s H scope (compEnvC scope cl C X.env) fp) ifs tt)
    (hk : ∀ (s : Shared) (H : Hp) (C : Addr) (cl : List (Str × Addr)) (fp : List Addr), PD (X.blk s H scope (compEnvC scope cl C X.env) fp) kx tk)
    (he : ∀ (s : Shared) (H : Hp) (C : Addr) (cl : List (Str × Addr)) (fp : List Addr), PD (X.blk s H scope (compEnvC scope cl C X.env) fp) vx tv)
    (his : ∀ j ∈ is, j ∈ own.map (·.2)) (ok : BlkOk X.N X.env.scope scope own) (hsw : swapsWith (.DictComp kx vx [⟨tg, iter, ifs, 0⟩] scope pos) (some (.Name y py)) spos.line X.env = pure true) (hs : ∀ x, foldedSetIterable iter X.env x = pure x := by intro _; rfl) :
    PSD X (.Assign [.Name y py] (.DictComp kx vx [⟨tg, iter, ifs, 0⟩] scope pos) spos) (sDcC i (dDcC ti g tt tk tv (own.map (·.2)))) := by
  obtain ⟨wi, gH, tH, kH, eH, h1, h2, h3, h4, h5, h6⟩ := dc_ex hi hg ht hk he his
  refine ⟨_, ps_setDc hc hN hy hyl hsw h1 ok h2 h3 h4 h5 hs, fun γ C σ τ Dd D hsm hst h k => ?_⟩
  refine h6 γ C σ τ _ _ hsm hst h fun C2 D kvs us hq s2 st2 eD rx => ?_
  have st3 := st2.add (c := .dic (kvs.map Prod.fst) us) s2 fun _ z => z
  refine k.nx (C2.add D (.dic (kvs.map Prod.fst) us)) _ _ hq (s2.add ⟨kvs, eD, rfl, rx⟩) st3 ((hst.step st3).set (.loc ?_))
  show (C2.ρ ++ [D])[C2.S.length]? = some D
  rw [← s2.len]; simp
end
end FL
end
section
set_option autoImplicit false
namespace FL
open PySem PySem.Spec PyProof.Rows L2
/-! ### in, not in of dicts with ints or texts as keys; min of ints, min and max of tuples of ints -/
section
variable {X : Cx}
def rdInD : R2D := fun k d S Q => match dkOf S d, keyW k with
  | some (ks, ws), some k => Q (.bl (getKW ks ws k).isSome) S
  | _, _ => False
def rdNotInD : R2D := fun k d S Q => match dkOf S d, keyW k with
  | some (ks, ws), some k => Q (.bl (!(getKW ks ws k).isSome)) S
  | _, _ => False
theorem getK_some {K : PySem.W.Frag} {γ : List Addr} {C : Cfg} {kvs : List (Key × V)} {ws : List W} {k : Key} (r : RVs K γ C (kvs.map Prod.snd) ws) : (valV kvs k).isSome = (getKW (kvs.map Prod.fst) ws k).isSome := by
  cases e : getKW (kvs.map Prod.fst) ws k with
  | some w =>
    obtain ⟨v, h1, _⟩ := getKW_at r e
    rw [h1]; rfl
  | none =>
    rw [getKW_none r e]; rfl
theorem opd_inD (hu : X.A.units + 1 < cLine) : OpD X (compareOp .In) rdInD := by
  refine ⟨_, op_inT hu, fun γ C x y w1 w2 Qd Q hs rx ry h k => ?_⟩
  unfold rdInD at h
  split at h
  · rename_i ks ws key e1 e2
    obtain ⟨a, kvs, rfl, p1, p2, p3⟩ := dkOf_at hs ry e1
    subst p2
    have e4 := keyW_at rx e2
    subst e4
    rw [← getK_some p3] at h
    exact ⟨a, _, rfl, DGet.k p1, k C _ _ h hs (.refl _ _) (.bl _)⟩
  · exact h.elim
theorem opd_notInD (hu : X.A.units + 1 < cLine) : OpD X (compareOp .NotIn) rdNotInD := by
  refine ⟨_, op_notInT hu, fun γ C x y w1 w2 Qd Q hs rx ry h k => ?_⟩
  unfold rdNotInD at h
  split at h
  · rename_i ks ws key e1 e2
    obtain ⟨a, kvs, rfl, p1, p2, p3⟩ := dkOf_at hs ry e1
    subst p2
    have e4 := keyW_at rx e2
    subst e4
    rw [← getK_some p3] at h
    exact ⟨a, _, rfl, DGet.k p1, k C _ _ h hs (.refl _ _) (.bl _)⟩
  · exact h.elim
def rdMinL : List W → Store → WK → Prop := fun ws S Q => ∃ (w : W) (ns : List Int), ws = [w] ∧ llOf S w = some (ns.map W.int) ∧ 0 < ns.length ∧ ∀ m : Int, m ∈ ns → (∀ y : Int, y ∈ ns → m ≤ y) → Q (.int m) S
theorem cd_minL (hc : X.calm = true) : CallD X (.builtin "min") rdMinL := by
  refine ⟨_, cr_min hc, fun γ C vs ws Qd Q hs r h k => ?_⟩
  obtain ⟨w, ns, rfl, hl, h0, hq⟩ := h
  cases r with
  | cons r1 r2 =>
    cases r2
    obtain ⟨a, xs, rfl, p1, q1⟩ := llOf_at hs r1 hl
    rw [q1.ints] at p1
    exact ⟨a, ns, rfl, p1, h0, fun m hm hy => k C _ _ (hq m hm hy) hs (.refl _ _) (.int _)⟩
def rMaxT (K : PySem.W.Frag) : List V → Hp → VK → Prop := fun vs H Q => ∃ (a : Addr) (ns : List Int), vs = [V.ref a] ∧ SqT K H a (ns.map V.int) ∧ 0 < ns.length ∧ ∀ m : Int, m ∈ ns → (∀ y : Int, y ∈ ns → y ≤ m) → Q (.int m) H
def rMinT (K : PySem.W.Frag) : List V → Hp → VK → Prop := fun vs H Q => ∃ (a : Addr) (ns : List Int), vs = [V.ref a] ∧ SqT K H a (ns.map V.int) ∧ 0 < ns.length ∧ ∀ m : Int, m ∈ ns → (∀ y : Int, y ∈ ns → m ≤ y) → Q (.int m) H
theorem maxOf_ok : ∀ (xs : List Int) (x : Int), PySem.W.maxOf x xs ∈ x :: xs ∧ ∀ y ∈ x :: xs, y ≤ PySem.W.maxOf x xs
  | [], x => ⟨List.mem_cons_self, fun y hy => by rw [List.mem_singleton.mp hy]; exact Int.le_refl _⟩
  | z :: xs, x => by
    have hlt : ∀ a b : Int, PySem.W.DatumOrd.lt a b = decide (a < b) := fun a b => rfl
    show (PySem.W.maxOf (if PySem.W.DatumOrd.lt x z = true then z else x) xs ∈ _) ∧ ∀ y ∈ _, y ≤ PySem.W.maxOf (if PySem.W.DatumOrd.lt x z = true then z else x) xs
    rw [hlt]
    by_cases h : x < z
    · rw [decide_eq_true h, if_pos rfl]
      obtain ⟨a, b⟩ := maxOf_ok xs z
      refine ⟨List.mem_cons_of_mem _ a, fun y hy => ?_⟩
      rcases List.mem_cons.mp hy with rfl | hy
      · have := b z List.mem_cons_self; omega
      · exact b y hy
    · rw [decide_eq_false h, if_neg (by decide)]
      obtain ⟨a, b⟩ := maxOf_ok xs x
      refine ⟨?_, fun y hy => ?_⟩
      · rcases List.mem_cons.mp a with a | a
        · rw [a]; exact List.mem_cons_self
        · exact List.mem_cons_of_mem _ (List.mem_cons_of_mem _ a)
      · rcases List.mem_cons.mp hy with rfl | hy
        · exact b _ List.mem_cons_self
        · rcases List.mem_cons.mp hy with rfl | hy
          · have := b x List.mem_cons_self; omega
          · exact b y (List.mem_cons_of_mem _ hy)
theorem minOf_ok : ∀ (xs : List Int) (x : Int), PySem.W.minOf x xs ∈ x :: xs ∧ ∀ y ∈ x :: xs, PySem.W.minOf x xs ≤ y
  | [], x => ⟨List.mem_cons_self, fun y hy => by rw [List.mem_singleton.mp hy]; exact Int.le_refl _⟩
  | z :: xs, x => by
    have hlt : ∀ a b : Int, PySem.W.DatumOrd.lt a b = decide (a < b) := fun a b => rfl
    show (PySem.W.minOf (if PySem.W.DatumOrd.lt z x = true then z else x) xs ∈ _) ∧ ∀ y ∈ _, PySem.W.minOf (if PySem.W.DatumOrd.lt z x = true then z else x) xs ≤ y
    rw [hlt]
    by_cases h : z < x
    · rw [decide_eq_true h, if_pos rfl]
      obtain ⟨a, b⟩ := minOf_ok xs z
      refine ⟨List.mem_cons_of_mem _ a, fun y hy => ?_⟩
      rcases List.mem_cons.mp hy with rfl | hy
      · have := b z List.mem_cons_self; omega
      · exact b y hy
    · rw [decide_eq_false h, if_neg (by decide)]
      obtain ⟨a, b⟩ := minOf_ok xs x
      refine ⟨?_, fun y hy => ?_⟩
      · rcases List.mem_cons.mp a with a | a
        · rw [a]; exact List.mem_cons_self
        · exact List.mem_cons_of_mem _ (List.mem_cons_of_mem _ a)
      · rcases List.mem_cons.mp hy with rfl | hy
        · exact b _ List.mem_cons_self
        · rcases List.mem_cons.mp hy with rfl | hy
          · have := b x List.mem_cons_self; omega
          · exact b y (List.mem_cons_of_mem _ hy)
theorem holdAll_ints {h : Heap} {vs : List Value} {ns : List Int} (r : IntsAre vs ns) : PySem.W.HoldAll h vs ns := ⟨_, r.reads h⟩
theorem cr_maxT {k : Nat} (hr : Room k X.A) (hc : X.calm = true) : CallR X (.builtin "max") (rMaxT X.K) := by
  intro pins s σ H vs us Q I r h
  obtain ⟨a, ns, rfl, hs, hne, q⟩ := h
  have hun := hr.un
  obtain ⟨its, rv, hl, _⟩ := I.tuple hs
  rw [Vals.ref1 r]
  cases ns with
  | nil => exact absurd hne (Nat.lt_irrefl 0)
  | cons n ns =>
    refine PySem.W.max_tuple_datum (I.ok.hd hc) (x := n) (xs := ns) hl (by simpa using holdAll_ints rv.ints) (by show _ + 1 + 0 < _; omega) fun i v h' tk hi hv hk => ?_
    obtain ⟨as, rd⟩ := hv
    cases rd
    obtain ⟨m1, m2⟩ := maxOf_ok ns n
    exact ⟨.int _, H, I.kept hk, ⟨_, rfl⟩, q _ m1 m2⟩
theorem cr_minT {k : Nat} (hr : Room k X.A) (hc : X.calm = true) : CallR X (.builtin "min") (rMinT X.K) := by
  intro pins s σ H vs us Q I r h
  obtain ⟨a, ns, rfl, hs, hne, q⟩ := h
  have hun := hr.un
  obtain ⟨its, rv, hl, _⟩ := I.tuple hs
  rw [Vals.ref1 r]
  cases ns with
  | nil => exact absurd hne (Nat.lt_irrefl 0)
  | cons n ns =>
    refine PySem.W.min_tuple_datum (I.ok.hd hc) (x := n) (xs := ns) hl (by simpa using holdAll_ints rv.ints) (by show _ + 1 + 0 < _; omega) fun i v h' tk hi hv hk => ?_
    obtain ⟨as, rd⟩ := hv
    cases rd
    obtain ⟨m1, m2⟩ := minOf_ok ns n
    exact ⟨.int _, H, I.kept hk, ⟨_, rfl⟩, q _ m1 m2⟩
def rdMaxTu : List W → Store → WK → Prop := fun ws S Q => ∃ (ns : List Int), ws = [.tup (ns.map W.int)] ∧ 0 < ns.length ∧ ∀ m : Int, m ∈ ns → (∀ y : Int, y ∈ ns → y ≤ m) → Q (.int m) S
def rdMinTu : List W → Store → WK → Prop := fun ws S Q => ∃ (ns : List Int), ws = [.tup (ns.map W.int)] ∧ 0 < ns.length ∧ ∀ m : Int, m ∈ ns → (∀ y : Int, y ∈ ns → m ≤ y) → Q (.int m) S
theorem cd_maxT {k : Nat} (hr : Room k X.A) (hc : X.calm = true) : CallD X (.builtin "max") rdMaxTu := by
  refine ⟨_, cr_maxT hr hc, fun γ C vs ws Qd Q hs r h k => ?_⟩
  obtain ⟨ns, rfl, h0, hq⟩ := h
  cases r with
  | cons r1 r2 =>
    cases r2
    cases r1 with
    | @tup a xs _ hh rr =>
      have e := rr.ints
      subst e
      exact ⟨a, ns, rfl, SqT.of hh, h0, fun m hm hy => k C _ _ (hq m hm hy) hs (.refl _ _) (.int _)⟩
theorem cd_minT {k : Nat} (hr : Room k X.A) (hc : X.calm = true) : CallD X (.builtin "min") rdMinTu := by
  refine ⟨_, cr_minT hr hc, fun γ C vs ws Qd Q hs r h k => ?_⟩
  obtain ⟨ns, rfl, h0, hq⟩ := h
  cases r with
  | cons r1 r2 =>
    cases r2
    cases r1 with
    | @tup a xs _ hh rr =>
      have e := rr.ints
      subst e
      exact ⟨a, ns, rfl, SqT.of hh, h0, fun m hm hy => k C _ _ (hq m hm hy) hs (.refl _ _) (.int _)⟩
end
end FL
end
section
set_option autoImplicit false
namespace FL
open PySem PySem.Spec PyProof.Rows L2
/-! ### lambdas without parameters, handed to a def that calls them -/
section
variable {K : PySem.W.Frag} {γ : List Addr} {C : Cfg}
theorem Sim.fresh_nl (s : Sim K γ C) {a : Addr} (h : C.H a = none) : ¬ Live γ C a := by
  rintro (z | ⟨n, c, z, _⟩)
  · exact (s.gd a z).2 h
  · exact s.there a (List.mem_of_getElem? z) h
theorem set_same {α : Type} {l : List α} {n : Nat} {x : α} (h : l[n]? = some x) : l.set n x = l := by
  refine List.ext_getElem? fun i => ?_
  by_cases hi : n = i
  · subst hi
    rw [List.getElem?_set_self (List.getElem?_eq_some_iff.mp h).1, h]
  · rw [List.getElem?_set_ne hi]
/-- the table takes a new code object -/
theorem Sim.table (s : Sim K γ C) {n : Nat} {P c' : Addr} {q : Str} {ps ps' : Array Value} (hρ : C.ρ[n]? = some P) (hS : C.S[n]? = some (some (.tab P q))) (hP : C.H P = some (.tbl ps)) (ht : TriplesOk ps'.toList)
    (ha : ∀ (p' : Pos) (cv : Value), codeAmong p' ps'.toList = some cv → (∃ c, cv = .ref c ∧ RV K γ C (.ref c) (.cod q)) ∨ cv = .ref c') (hc : C.H c' = none) :
    ∃ C1 : Cfg, C1.S = C.S ∧ C1.H = upd (upd C.H P (.tbl ps')) c' (LamX.CodeO c' q) ∧ Sim K γ C1 ∧ Step γ C γ C1 ∧ RV K γ C1 (.ref c') (.cod q) := by
  have hcP : P ≠ c' := fun z => by rw [z, hc] at hP; exact absurd hP nofun
  have nt : ∀ xs, (HO.tbl ps) ≠ .tup xs := fun xs e => by cases e
  have nz : ∀ o z, (HO.tbl ps) ≠ .frz o z := fun o z e => by cases e
  have s0 : Sim K γ (C.put c' (LamX.CodeO c' q)) := s.new hc
  have t0 : Step γ C γ (C.put c' (LamX.CodeO c' q)) := Step.new hc
  have hP0 : (C.put c' (LamX.CodeO c' q)).H P = some (.tbl ps) := (upd_ne hcP).trans hP
  have hc0 : (C.put c' (LamX.CodeO c' q)).H c' = some (LamX.CodeO c' q) := upd_same
  have hl0 : ¬ Live γ (C.put c' (LamX.CodeO c' q)) c' := s.fresh_nl hc
  have hn0 : ∀ b, b ≠ c' → (C.put c' (LamX.CodeO c' q)).H b = C.H b := fun b hb => upd_ne hb
  have r0 : (C.put c' (LamX.CodeO c' q)).ρ = C.ρ := rfl
  have S0 : (C.put c' (LamX.CodeO c' q)).S = C.S := rfl
  generalize C.put c' (LamX.CodeO c' q) = C0 at *
  have hρ0 : C0.ρ[n]? = some P := by rw [r0]; exact hρ
  have hS0 : C0.S[n]? = some (some (.tab P q)) := by rw [S0]; exact hS
  have t1 : Step γ C0 γ (C0.wr n P (.tbl ps') (.tab P q)) := Step.wr s0 hρ0 ⟨_, hS0⟩ hP0 nt nz
  have rc : RV K γ (C0.wr n P (.tbl ps') (.tab P q)) (.ref c') (.cod q) := (RV.cod hc0 hl0).step t1
  have new : CellAt K γ (C0.wr n P (.tbl ps') (.tab P q)) P (.tab P q) := by
    refine ⟨rfl, ps', upd_same, ht, fun p' cv hcv => ?_⟩
    rcases ha p' cv hcv with ⟨c, e1, r⟩ | z
    · exact ⟨c, e1, r.step (t0.trans t1)⟩
    · exact ⟨c', z, rc⟩
  refine ⟨_, (set_same hS0).trans S0, ?_, Sim.wr s0 hρ0 ⟨_, hS0⟩ hP0 nt nz new, t0.trans t1, rc⟩
  funext a
  show upd C0.H P (.tbl ps') a = _
  by_cases h1 : a = P
  · subst h1
    rw [upd_same, upd_ne hcP, upd_same]
  · rw [upd_ne h1]
    by_cases h2 : a = c'
    · subst h2
      rw [upd_same, hc0]
    · rw [upd_ne h2, upd_ne h1, hn0 a h2]
end
section
variable {X : Cx} {pins : List (Addr × Obj)} {σ : L2.St} {γ : List Addr} {C : Cfg} {s : Shared}
/-- a lambda is made, over data -/
theorem lam_mk {n : Nat} {c P : Addr} {q : Str} {params : Arguments} {body : Expr} {scope : Scope} {pos : Pos} {E : Value → Shared → Prop} {Q : Value → Shared → Prop} (I : Inv X pins σ C.H s) (hs : Sim X.K γ C) (hS : C.S[n]? = some (some (.tab P q)))
    (TB : LamX.TabB X.base X.mg c P) (hcode : X.env.code = .ref c) (hq : q = X.env.qual ++ "<lambda>") (hdef : defaultsOf params X.env = ([], [])) (hfree : ∀ y ∈ scope.names, y.2 = .free → ∃ c, X.env.cells.lookup y.1 = some c)
    (h : ∀ (f c' : Addr) (pm ctv : Value) (C1 : Cfg) (s' : Shared), Inv X pins σ C1.H s' → Sim X.K γ C1 → Step γ C γ C1 → C1.S = C.S → RV X.K γ C1 (.ref c') (.cod q) → C1.H f = none → f ∉ frs X.stack →
      s'.heap.get? f = some (PySem.W.kla_obj "<lambda>" q params body scope (cloFrom X.env.cells scope.names []) pm c' ctv) → Q (.ref f) s') :
    wpAny (model X.prog X.w) X.A (eval (.Lambda params body scope pos) X.env) Q E s := by
  subst hq
  obtain ⟨hl, _⟩ := List.getElem?_eq_some_iff.mp hS
  have hρ : C.ρ[n]? = some (C.ρ[n]'(by rw [hs.len]; exact hl)) := List.getElem?_eq_getElem _
  obtain ⟨e0, ps, hP, ht, ha⟩ := hs.cell n _ _ hρ hS
  rw [e0] at hρ hP
  have hPs : s.heap.get? P = some { cls := .none, data := .fields ps } := I.hok P _ hP
  have bP : s.heap.BuiltinsAt X.mg P := TB.bm.keeps I.bk
  have nofr : ∀ f, s.heap.objs.size ≤ f → f ∉ frs X.stack := fun f hf z => by
    rcases List.mem_cons.mp (I.stkSub _ z) with e | e
    · have h1 := I.lt
      rw [← e] at h1
      exact Nat.lt_irrefl _ (Nat.lt_of_lt_of_le h1 hf)
    · exact I.nofs hf e
  refine PySem.W.kla_eval hdef ?_
  cases hca : codeAmong pos ps.toList with
  | some cv =>
    obtain ⟨c', e, r⟩ := ha pos cv hca
    subst e
    refine PySem.W.kla_makeFunctionHit (closure_ok hfree) I.ok.glob (I.mod.glob.keeps I.bk) hcode (TB.code.keeps I.bk) hPs ht hca bP fun ctv h' tk hx hsz => ?_
    exact h h'.objs.size c' _ ctv C _ (I.kept fun b o e => Heap.get?_push_of_some _ (hx b o e)) hs (.refl _ _) rfl r (I.hok.fresh hsz) (nofr _ hsz) (Heap.get?_push_size _ rfl)
  | none =>
    refine PySem.W.kla_makeFunction (closure_ok hfree) I.ok.glob (I.mod.glob.keeps I.bk) hcode (TB.code.keeps I.bk) hPs ht hca TB.gP bP fun c' ctv h' tk hx hge hlt hrec htb => ?_
    obtain ⟨c2, oc, vs, t, e2, hoc, hd, hv⟩ := hrec
    cases e2
    have hcn : C.H c' = none := I.hok.fresh hge
    have hsz : s.heap.objs.size ≤ h'.objs.size := Nat.le_trans hge (Nat.le_of_lt hlt)
    have eL : (ps ++ #[rawInt pos.line, rawInt pos.col, .ref c']).toList = ps.toList ++ [rawInt pos.line, rawInt pos.col, .ref c'] := by simp
    obtain ⟨C1, e1, e2, s1, st1, rc⟩ := hs.table (ps' := ps ++ #[rawInt pos.line, rawInt pos.col, .ref c']) hρ hS hP (by rw [eL]; exact PySem.TriplesOk_snoc _ _ _ _ ht) (fun p' cv hcv => by
      rw [eL] at hcv
      rcases LamX.among_app _ ht hcv with z | z
      · exact .inl (ha p' cv z)
      · exact .inr z) hcn
    have I1 := LamX.inv_table (t' := tk) (more := #[rawInt pos.line, rawInt pos.col, .ref c']) (h' := h'.push (PySem.W.kla_obj "<lambda>" (X.env.qual ++ "<lambda>") params body scope (cloFrom X.env.cells scope.names []) ((X.mg "__name__").getD .none) c' ctv)) I hP
      (fun b o hb e => Heap.get?_push_of_some _ (hx b o hb e)) (Heap.get?_push_of_some _ htb) hge ⟨oc, vs, t, Heap.get?_push_of_some _ hoc, hd, hv⟩
    refine h h'.objs.size c' _ ctv C1 _ (by rw [e2]; exact I1) s1 st1 e1 rc ?_ (nofr _ hsz) (Heap.get?_push_size _ rfl)
    rw [e2, upd_ne (Nat.ne_of_gt hlt), upd_ne (Nat.ne_of_gt (Nat.lt_of_lt_of_le (Heap.lt_size hPs) hsz))]
    exact I.hok.fresh hsz
end
end FL
namespace FL
open PySem PySem.Spec PyProof.Rows L2
/-- what the lambda's reading asks, at the place where it is called -/
def TLam (K : PySem.W.Frag) (γ : List Addr) (C1 : Cfg) (σ : L2.St) (tx : TDX) : XK → Hp → VK → Prop := fun E HZ Q =>
  ∃ (C' : Cfg) (τ : EnvD) (Ed : Addr → List (Str × W) → Store → Prop) (Qd : WK), C'.H = HZ ∧ Sim K γ C' ∧ Step γ C1 γ C' ∧ RSt K γ C' σ τ ∧ tx (fun c fws _ S' => Ed c fws S') τ C'.S Qd ∧ KE K γ C' Qd Q ∧
    ∀ C2 c d fws, Ed c fws C2.S → Sim K γ C2 → Step γ C' γ C2 → ErrAt K γ C2 d fws → E (.ref c) d C2.H
section
variable {X : Cx} {pins : List (Addr × Obj)} {σ : L2.St} {γ : List Addr} {C1 : Cfg} {s : Shared}
/-- x() in the def that got the lambda -/
theorem lam_act {Ng : List Str} {qg q : Str} {sg : Scope} {g f c' : Addr} {cdg pm ctv : Value} {params : Arguments} {body : Expr} {scope : Scope} {k : Nat} {a : Str} {tx : TDX}
    (I : Inv X pins σ C1.H s) (L : LamX.LamS X.env.scope scope) (hf : s.heap.get? f = some (PySem.W.kla_obj "<lambda>" q params body scope (cloFrom X.env.cells scope.names []) pm c' ctv)) (hq : q = X.env.qual ++ "<lambda>") (hfn : C1.H f = none) (hfr : f ∉ frs X.stack)
    (hbind : bindArgs (PySem.W.kla_fn "<lambda>" q params body scope (cloFrom X.env.cells scope.names []) pm (.ref c') ctv) ⟨[], []⟩ = pure []) (hgd : X.A.guards = some []) (hr : Room (k + 1) (X.A.deeper (envOfC qg sg s.heap.objs.size g cdg)))
    (hbody : ∀ (A : Around) (outer : List Env) (s : Shared) (H : Hp) (E : XK), A.guards = some [] → Room k (A.deeper (LamX.lamEnv X scope s.heap.objs.size f c')) → PDX (LamX.lamCx X A outer s H E scope f c') (fun cls d _ H' => E cls d H') body tx)
    (hN : Ng[0]? = some a) (hv : Vis sg a) (hd : (a == ("__debug__" : Str)) = false) (hcd : (a == ("__classdict__" : Str)) = false)
    (W : WX) (pn : List (Addr × Obj)) (xe : Value → Shared → Prop) (E : XK) (p1 p2 : Pos) (tk : Takes ((cxOf C8.CX0 X.prog X.w X.K X.mg X.base Ng qg sg g cdg X.A X.stack s C1.H C8.E0).tr pn xe) W) (hW : ∀ cls d σ' H', E cls d H' → W cls d σ' H') :
    PE ((cxOf C8.CX0 X.prog X.w X.K X.mg X.base Ng qg sg g cdg X.A X.stack s C1.H C8.E0).tr pn xe) (.Call (.Name a p1) [] [] p2) (fun σZ HZ Q => σZ[0]? = some (some (.ref f)) ∧ HZ c' = some (LamX.CodeO c' q) ∧ TLam X.K γ C1 σ tx E HZ Q) := by
  subst hq
  refine ⟨fun pinsZ sZ σZ HZ Q IZ h => ?_⟩
  obtain ⟨h0, hc, C', τ, Ed, Qd, rfl, sim, st, rst, ht, ke, kx⟩ := h
  refine wpAny_Call_Name_kw (thn ((pe_var (pos := p1) (i := 0) hN hv hd hcd).run pinsZ sZ σZ C'.H (fun v H1 => v = .ref f ∧ H1 = C'.H) IZ ⟨.ref f, h0, rfl, rfl⟩) fun u s1 hu => ?_)
  obtain ⟨v, H1, I1, r1, ev, eH⟩ := hu
  subst ev eH
  obtain rfl : u = Value.ref f := r1
  have un : Un (frs X.stack) [] C1.H C'.H s.heap s1.heap := I1.base
  have of1 := un.keep f _ hf hfn hfr (fun z => nomatch (show f ∈ ([] : List Addr) from z))
  obtain ⟨⟨oc, vs, t, o1, o2, o3⟩, _⟩ := I1.hok c' _ hc
  have ran : codeAny (model X.prog X.w) (X.A.deeper (envOfC qg sg s.heap.objs.size g cdg)) (.call (.ref f) ⟨[], []⟩) (CR (L2.CX X.prog X.w) (envOfC qg sg s.heap.objs.size g cdg :: X.stack) X.prog X.w C'.H s1 Q E) s1 := by
    refine PySem.W.kla_callFunE hr.depth of1 rfl L.co L.gen rfl ⟨c', oc, vs, t, rfl, o1, o2, o3⟩ ?_
    rw [hbind]
    refine wpAny_pure (wpAny_newFunctionEnv (fun y hy => (L.own y hy).2) (fun y hy => absurd hy (by simp)) (fun h₁ hns hsb => ⟨I1.nolimit.fresh _ hsb, ?_⟩) L.kind)
    have J := LamX.lam_start2 (tk := s1.toks + ([] : List (Str × Value)).length) (E := E) (c' := c') (f := f) I L I1.env0 hr.hd un hns (fun b o e => hsb.extBut b o (Nat.ne_of_lt (Heap.lt_size e)) (Heap.get?_push_of_some _ e))
    obtain ⟨tH, pB, kB⟩ := (hbody (X.A.deeper (envOfC qg sg s.heap.objs.size g cdg)) (envOfC qg sg s.heap.objs.size g cdg :: X.stack) s1 C'.H E hgd (hr.deeper _)).ex
    have hB := kB γ C' σ τ (fun c fws _ S' => Ed c fws S') Qd Q sim rst ht ke (fun C2 c d fws σ2 τ2 h2 s2 st2 e2 _ => kx C2 c d fws h2 s2 st2 e2)
    refine PySem.W.kla_codeExpr (wpAny_mono (pB.run [] _ _ _ Q J hB) (fun v s' hv => ?_) fun e s' he => he)
    obtain ⟨w', H', J', rv, hQ⟩ := hv
    exact ⟨w', H', J'.os, J'.bare, J'.base, J'.hok, rv, hQ⟩
  refine PySem.W.callWith_F0 ⟨_, _, _, _, of1⟩ ?_
  refine wpAny_call (codeAny_mono ran fun r s' hres => ?_)
  rcases r with e | fl
  · exact passes_call tk hW pinsZ σZ _ s1 e s' I1 hres
  · cases fl <;> first | exact I1.after hres | exact False.elim hres
end
section
variable {X : Cx}
/-- told(lambda: body), where told tries it and says ret if it raises the error at E: n is the place of the store where the table stands -/
def dTold (n : Nat) (P : Addr) (q : Str) (E : Addr) (ret : Str) (tx : TDX) : TD := fun τ S Q => S[n]? = some (some (.tab P q)) ∧ tx (fun c _ _ S' => c = E ∧ Q (.str ret) S') τ S Q
theorem pd_told {n k j : Nat} {x a e q ret : Str} {st : Stmt} {g c P E : Addr} {fd : FuncData} {Ng : List Str} {params : Arguments} {body : Expr} {scope : Scope} {tx : TDX} {p lpos pos p1 p2 p3 p4 p5 p6 p7 p8 : Pos}
    (F : Fun X.K x x st g fd) (hb : Binds X.K fd [a] []) (hbd : defBody st = [.Try [.Return (some (.Call (.Name a p1) [] [] p2)) p3] [.ExceptHandler (some (.Name e p4)) none [.Return (some (.Constant (.str ret) j p5)) p6] p7] [] [] p8])
    (Sg : FnScope Ng [a] (defScope st)) (hNg : Ng[0]? = some a) (hl : Ng.length = 1) (hva : Vis (defScope st) a) (hge : (defScope st).names.lookup e = some .globalImplicit) (hme : X.mg e = some (.ref E)) (hde : (e == ("__debug__" : Str)) = false) (te : PySem.W.exmOne X.K (.ref E) (.ref E) = some true)
    (hg : Gl X x) (hm : X.mg x = some (.ref g)) (TB : LamX.TabB X.base X.mg c P) (hcode : X.env.code = .ref c) (hq : q = X.env.qual ++ "<lambda>") (hgd : X.A.guards = some []) (hr : Room (k + 2) X.A) (L : LamX.LamS X.env.scope scope) (hdef : defaultsOf params X.env = ([], []))
    (hbind : ∀ (q : Str) (cl : List (Str × Addr)) (pm cv ctv : Value), bindArgs (PySem.W.kla_fn "<lambda>" q params body scope cl pm cv ctv) ⟨[], []⟩ = pure [])
    (hbody : ∀ (A : Around) (outer : List Env) (s : Shared) (H : Hp) (Ex : XK) (f c' : Addr), A.guards = some [] → Room k (A.deeper (LamX.lamEnv X scope s.heap.objs.size f c')) → PDX (LamX.lamCx X A outer s H Ex scope f c') (fun cls d _ H' => Ex cls d H') body tx)
    (hdb : (x == ("__debug__" : Str)) = false := by decide) (hd : (a == ("__debug__" : Str)) = false := by decide) (hcd : (a == ("__classdict__" : Str)) = false := by decide) :
    PD X (.Call (.Name x p) [.Lambda params body scope lpos] [] pos) (dTold n P q E ret tx) := by
  have kp := F.kp
  obtain ⟨oc, od, kV, doc, pm, an, cdv, ct, osl, rfl, lk, hcg⟩ := F.ex
  rw [hbd] at lk hb
  have e1 : Ng = [a] := by
    match Ng, hl, hNg with
    | [b], _, h => simpa using h
  refine ⟨fun σ H Q => ∃ γ C τ Qd, C.H = H ∧ Sim X.K γ C ∧ RSt X.K γ C σ τ ∧ dTold n P q E ret tx τ C.S Qd ∧ KE X.K γ C Qd Q, ⟨fun pins s σ H Q I h => ?_⟩, fun γ C σ τ Qd Q hs hst h k => ⟨γ, C, τ, Qd, rfl, hs, hst, h, k⟩⟩
  obtain ⟨γ, C, τ, Qd, rfl, sim, rst, ⟨hS, htx⟩, ke⟩ := h
  refine wpAny_Call_Name_kw (ld_glob I hg hm ?_ hdb)
  refine PySem.W.callWith_K (h₀ := X.base) I.ok.mod.kin kp ?_ (by rfl) (by rfl)
  show wpAny _ _ (spliced ((false, eval (.Lambda params body scope lpos) X.env) :: backTo pos (starEach [] X.env))) _ _ s
  refine Calls.spliced_cons (lam_mk I sim hS TB hcode hq hdef (L.has I.ok) fun f c' pm' ctv C1 s' I1 s1 st1 eS rc hfn hfr hf => ?_)
  refine Calls.spliced_nil ⟨I1.kIn, ?_⟩
  have hco : C1.H c' = some (LamX.CodeO c' q) := by
    cases rc
    assumption
  have ran : codeAny (model X.prog X.w) X.A (.call (.ref g) ⟨[.ref f], []⟩) (CR C8.CX0 X.stack X.prog X.w C1.H s' Q C8.E0) s' := by
    refine LamX.run_ofS (k := k + 1) (N := Ng) (ps := [a]) (us := [.ref f]) (vs := [.ref f]) lk hcg Sg hr I1.env0 (hb s' [.ref f] I1.kIn rfl) (.cons rfl .nil) rfl fun hr' => ?_
    have G := LamX.told_gives (X := X) (Ng := Ng) (x := x) (a := a) (e := e) (q := q) (ret := ret) (sg := defScope st) (g := g) (CS := E) (cdg := cdv) (j := j) (p1 := p1) (p2 := p2) (p3 := p3) (p4 := p4) (p5 := p5) (p6 := p6) (p7 := p7) (p8 := p8) hge hme hde (fun f => by rw [e1]; rfl)
    obtain ⟨t', h1, h2⟩ := G f c' s' C1.H Q (TLam X.K γ C1 σ tx) (fun W pn xe E' p1 p2 tk hW => lam_act I1 L hf hq hfn hfr (hbind _ _ _ _ _) hgd hr' (fun A outer s H Ex => hbody A outer s H Ex f c') hNg hva hd hcd W pn xe E' p1 p2 tk hW) hco
      ⟨C1, τ, fun c _ S' => c = E ∧ Qd (.str ret) S', Qd, rfl, s1, .refl _ _, rst.step st1, by rw [eS]; exact htx, ke.step st1, fun C2 c d fws hE s2 st2 _ => ⟨true, by rw [hE.1]; exact te, fun _ => ke C2 _ _ hE.2 s2 (st1.trans st2) (.str ret), fun z => Bool.noConfusion z⟩⟩
    exact ⟨t', h1.nox, h2⟩
  refine wpAny_call (codeAny_mono ran fun r s2 hres => ?_)
  rcases r with er | fl
  · exact (show False from hres).elim
  · cases fl <;> first | exact I1.after hres | exact False.elim hres
end
end FL
namespace FL
open PySem PySem.Spec PyProof.Rows L2
/-! ### the law, with its own table of code objects -/
def spLawT (P : Addr) (q : Str) : Spec := fun ws S Q => ∃ ns : List Int, ws = [.scr ns] ∧ ns.length ≤ 63 ∧ S = [some (.tab P q)] ∧ ∀ S', Q (.bl true) S'
theorem spLawT_len {P : Addr} {q : Str} : ∀ ws S Q, spLawT P q ws S Q → ws.length = 1 := by
  rintro ws S Q ⟨ns, rfl, _⟩
  rfl
theorem tab_mk {K : PySem.W.Frag} {x : Str} {f c P : Addr} {fd : FuncData} {oc e : Value} {od dd : Option Addr} {sl sl2 : Array (Option Value)} {vs : Array Value} (a : PySem.W.nsIn K mainGlobals x = some (some (.ref f))) (l : K.lookup f = some ⟨oc, od, .func fd, sl⟩)
    (hc : fd.code = .ref c) (lc : K.lookup c = some ⟨e, dd, .fields vs, sl2⟩) (v : vs[11]? = some (.ref P)) : PySem.W.tabIn K x = some (c, P) := by
  unfold PySem.W.tabIn
  rw [a]
  dsimp only
  rw [l]
  dsimp only
  rw [hc]
  dsimp only
  rw [lc]
  dsimp only
  rw [v]
section
variable {P : Program} {w : World} {K : PySem.W.Frag} {mg : Str → Option Value} {base : Heap}
/-- a def whose code object is known -/
theorem fnGT {x qual : Str} {st : Stmt} {f c : Addr} {fd : FuncData} {N ps : List Str} {k n : Nat} {sp : Spec} (F : Fun K x qual st f fd) (S : FnScope N ps (defScope st)) (hc : fd.code = .ref c) (ar : ps.length = n) (len : ∀ ws S Q, sp ws S Q → ws.length = n)
    (hbody : ∀ (A : Around) (outer : List PySem.Env) (s : Shared) (H : Hp), Room k (A.deeper (envOfC qual (defScope st) s.heap.objs.size f (.ref c))) → A.guards = some [] →
      ∃ t, PSSD (cxOf CX0 P w K mg base N qual (defScope st) f (.ref c) A outer s H E0).nox (defBody st) t ∧ ∀ ws S Q, sp ws S Q → t ⟨fun _ S' => Q .non S', Q, fun _ _ => False, fun _ _ => False⟩ (startD N ws) S) :
    FnG P w K mg base (k + 1) f fd n ps sp := by
  obtain ⟨oc, od, kV, doc, pm, an, cdv, ct, osl, rfl, lk, hcd⟩ := F.ex
  have ec : cdv = .ref c := hc
  subst ec
  refine ⟨ar, len, fun A outer s H args us vs Q hgd hr e0 hb r hsp => ?_⟩
  obtain ⟨γ, C, ws, Qd, rfl, sim, rv, hs, ke⟩ := hsp
  have hl : vs.length = ps.length := by rw [rv.length, len _ _ _ hs, ar]
  have KX : K.In s.heap := e0.mod.kin.keeps fun b o e => (e0.bs b o e).1
  have lim : s.heap.NoLimit := e0.mod.nolimit.keeps fun b o e => (e0.bs b o e).1
  have hkind : ∀ y ∈ ps.zip us, (defScope st).names.lookup y.1 = some .local ∨ ((defScope st).names.lookup y.1 = some .cell ∧ ((cellsFrom (s.heap.objs.size + 1) (defScope st).names []).lookup y.1).isSome = true) := by
    rintro ⟨n, v⟩ hy
    rcases S.par n (List.of_mem_zip hy).1 with q | q
    · exact .inl q
    · exact .inr ⟨q, PySem.W.cellsFrom_some _ _ _ (.inl q)⟩
  refine codeAny_call_function hr.depth (KX _ _ lk) rfl S.co S.gen rfl (PySem.W.codeRec_of KX hcd) (hb _ _ _ _ ?_)
  refine wpAny_newFunctionEnv_cells S.kind hkind fun env he s1 x => ?_
  subst he
  refine ⟨lim.keeps x.toInCall.keep, codeAny_func ?_⟩
  obtain ⟨t, ht, hq⟩ := hbody A outer s C.H (hr.deeper _) hgd
  obtain ⟨tH, pH, kH⟩ := ht.ex
  have I : Inv (cxOf CX0 P w K mg base N qual (defScope st) f (.ref c) A outer s C.H E0) [] (L2.start N vs) C.H s1 := inv_start S hr.hd e0 hl r x
  have hrun := kH γ C (L2.start N vs) (startD N ws) ⟨fun _ S' => Qd .non S', Qd, fun _ _ => False, fun _ _ => False⟩ { nx := fun _ H' => Q .non H', rt := Q } sim (rst_start rv) (hq ws C.S Qd hs)
    ⟨fun C' σ τ h s' st' _ => ke C' _ _ h s' st' .non, fun C' v w h s' st' r' => ke C' v w h s' st' r', fun _ _ _ h _ _ _ => h.elim, fun _ _ _ h _ _ _ => h.elim⟩
  refine wpAny_mono (pH.nox.run [] s1 (L2.start N vs) C.H _ I hrun) (fun fl s' hs => ?_) fun e s' hs => hs
  cases fl with
  | ret u =>
    obtain ⟨v, σ', H', J, rv, q⟩ := hs
    exact ⟨v, H', J.os, J.bare, J.base, J.hok, rv, q⟩
  | next =>
    obtain ⟨σ', H', J, q⟩ := hs
    exact ⟨.non, H', J.os, J.bare, J.base, J.hok, rfl, q⟩
  | brk =>
    obtain ⟨_, _, _, q⟩ := hs
    exact False.elim q
  | cont =>
    obtain ⟨_, _, _, q⟩ := hs
    exact False.elim q
end
theorem law_atT {P : Program} {w : World} {K : PySem.W.Frag} {mg mb : Str → Option Value} {k : Nat} {fa a c TP : Addr} {q : Str} {fd : FuncData} {x : Str} {s₁ : Shared} {vs : List Value} {ns : List Int}
    (KX : K.In s₁.heap) (hns : s₁.heap.Ns mainGlobals mg) (hb : s₁.heap.Ns builtinsNs mb) (hbb : ∀ x : Str, x ≠ "__name__" → mb x = bootBuiltins x) (hlim : s₁.heap.NoLimit) (hg : s₁.gens = #[])
    (Cd : PySem.W.CodeHd s₁.heap c TP) (hT : s₁.heap.get? TP = some (PySem.W.tabObj #[])) (nT : K.lookup TP = none)
    (hbm : ∃ (bm : Addr) (ob : Obj), mg "__builtins__" = some (.ref bm) ∧ bm ≠ builtinsNs ∧ s₁.heap.get? bm = some ob ∧ ob.cls = .type "module" ∧ ob.dict = some builtinsNs ∧ ob.data = .plain)
    (ha : s₁.heap.get? a = some { cls := .type "list", data := .seq vs.toArray }) (hi : IntsAre vs ns) (hl : ns.length ≤ 63) (hr : Room k callerA)
    (F : ∀ base : Heap, K.In base → base.Ns mainGlobals mg → LamX.TabB base mg c TP → FnG P w K mg base k fa fd 1 [x] (spLawT TP q)) (hbind : ∀ (s : Shared) (u : Value), BindsTo s fd ⟨[u], []⟩ [(x, u)]) :
    codeAny (model P w) callerA (.call (.ref fa) ⟨[.ref a], []⟩) (fun r s' => r = .ok (.ret (.bool true)) ∧ OldK s₁.heap s'.heap ∧ s'.os = s₁.os ∧ AllBare s'.gens) s₁ := by
  have rv := vals_ints hi
  have lenV := hi.length
  have hsz : ns.length ≤ sizeLine := Nat.le_trans hl (by rw [sizeLine_eq]; decide)
  have aT : a ≠ TP := fun z => by
    rw [z, hT] at ha
    exact absurd (congrArg Obj.data (Option.some.inj ha)) (fun z => by cases z)
  have main : ∀ H : Hp, H TP = some (.tbl #[]) → (∀ b, b ≠ TP → H b = none ∨ ∃ o xs, H b = some (.frz o (.lst xs))) → ScrAt K H a (ns.map V.int) → HOk P w H s₁.heap → (∀ b, H b ≠ none → b = a ∨ b = TP) → (H a ≠ none → K.lookup a = none) →
      codeAny (model P w) callerA (.call (.ref fa) ⟨[.ref a], []⟩) (fun r s' => r = .ok (.ret (.bool true)) ∧ OldK s₁.heap s'.heap ∧ s'.os = s₁.os ∧ AllBare s'.gens) s₁ := by
    intro H hP hO hS hok hA hK
    have un0 : ∀ {b : Addr} {o : Obj}, s₁.heap.get? b = some o → H b = none → (hidT s₁.heap H).get? b = some o := fun e n => hidT_get e n
    -- what is neither a list nor the table is not tracked
    have free : ∀ {b : Addr} {o : Obj}, s₁.heap.get? b = some o → o.data ≠ .seq vs.toArray → o.data ≠ .fields #[] → H b = none := by
      intro b o e d1 d2
      cases q : H b with
      | none => rfl
      | some u =>
        rcases hA b (ne_none q) with e' | e'
        · subst e'
          rw [ha] at e
          cases e
          exact absurd rfl d1
        · subst e'
          rw [hT] at e
          cases e
          exact absurd rfl d2
    have dn : ∀ {b : Addr} {o : Obj} {es : Array DictEntry} {ep : Nat}, s₁.heap.get? b = some o → o.data = .dict es ep → H b = none := by
      intro b o es ep e d
      exact free e (by rw [d]; exact fun z => by cases z) (by rw [d]; exact fun z => by cases z)
    have nsK : ∀ {b : Addr} {m : Str → Option Value}, s₁.heap.Ns b m → (hidT s₁.heap H).Ns b m := by
      rintro b m ⟨o, es, ep, e, d, r⟩
      exact ⟨o, es, ep, un0 e (dn e d), d, r⟩
    have hKb : K.In (hidT s₁.heap H) := by
      intro b o e
      refine un0 (KX b o e) ?_
      cases q : H b with
      | none => rfl
      | some u =>
        rcases hA b (ne_none q) with e' | e'
        · subst e'
          rw [hK (ne_none q)] at e
          cases e
        · subst e'
          rw [nT] at e
          cases e
    have hM : Mod K mg (hidT s₁.heap H) := ⟨hKb, nsK hns, ⟨mb, nsK hb, hbb⟩, let ⟨mc, h1, h2⟩ := hlim; ⟨mc, nsK h1, h2⟩⟩
    have TB : LamX.TabB (hidT s₁.heap H) mg c TP := by
      refine ⟨?_, ?_, fun z => ?_⟩
      · obtain ⟨o, us, file, tf, flags, tg, inF, text, tt, e1, r1, r2, r3, rr⟩ := Cd
        refine ⟨o, us, file, tf, flags, tg, inF, text, tt, un0 e1 (free e1 ?_ ?_), r1, r2, r3, rr⟩
        · rw [r2]
          exact fun z => by cases z
        · rw [r2]
          intro z
          have z2 : us = #[] := by cases z; rfl
          rw [z2] at r3
          simp at r3
      · obtain ⟨bm, ob, b1, b2, b3, b4, b5, b6⟩ := hbm
        have nG : bm ≠ mainGlobals := fun q => by
          obtain ⟨o, es, ep, e, hd, _⟩ := hns
          rw [q, e] at b3
          cases b3
          rw [hd] at b6
          cases b6
        have nP : bm ≠ TP := fun q => by
          rw [q, hT] at b3
          cases b3
          cases b6
        exact ⟨bm, ob, b1, b2, nG, nP, un0 b3 (free b3 (by rw [b6]; exact fun z => by cases z) (by rw [b6]; exact fun z => by cases z)), b4, b5, b6⟩
      · obtain ⟨o, es, ep, e, hd, _⟩ := hns
        rw [z, hT] at e
        cases e
        cases hd
    have nil_fr : ∀ b, b ∉ frs ([] : List PySem.Env) := fun b hb => by
      have hb' : b ∈ ([] : List Addr) := hb
      cases hb'
    have e0 : Env0 P w K mg (hidT s₁.heap H) callerA [] s₁ H := ⟨rfl, hM, fun b o e => of_hidT e, Nat.le_of_eq (hidT_size _ _), trivial, fun b hb => absurd hb (nil_fr b), hok, .of_eq hg⟩
    have sim0 : Sim K [] ⟨[TP], [some (.tab TP q)], H⟩ := by
      have th0 : ∀ b ∈ [TP], H b ≠ none := fun b hb => by
        rw [List.mem_singleton.mp hb, hP]
        simp
      refine ⟨rfl, List.nodup_cons.mpr ⟨by simp, List.nodup_nil⟩, List.nodup_nil, (by intro b hb; cases hb), th0, fun m b c h1 h2 => ?_⟩
      cases m with
      | succ m => simp at h1
      | zero =>
        have h1' : TP = b := by simpa using h1
        have h2' : Cell.tab TP q = c := by simpa using h2
        subst h1' h2'
        refine ⟨rfl, #[], hP, trivial, fun pos cv hc => ?_⟩
        have z : codeAmong pos [] = some cv := hc
        simp [codeAmong] at z
    have sp0 : spD K (spLawT TP q) [.ref a] H (fun v _ => v = .bl true) E0 := by
      refine ⟨[], ⟨[TP], [some (.tab TP q)], H⟩, [.scr ns], fun w _ => w = .bl true, rfl, sim0, .cons (.scr hS) .nil, ⟨ns, rfl, hl, rfl, fun _ => rfl⟩, fun C' v w h _ _ r => ?_⟩
      subst h
      cases r
      rfl
    refine codeAny_mono ((F _ hKb (nsK hns) TB).run callerA [] s₁ H ⟨[.ref a], []⟩ [.ref a] [.ref a] _ rfl hr e0 (hbind s₁ (.ref a)) (.cons rfl .nil) sp0) ?_
    intro r s' h
    cases r with
    | error e => exact False.elim h
    | ok fl =>
      cases fl with
      | next => exact False.elim h
      | brk => exact False.elim h
      | cont => exact False.elim h
      | ret u =>
        obtain ⟨v, H', os, bare, un, hok', r', q⟩ := h
        have q' : v = .bl true := q
        subst q'
        obtain rfl : u = Value.bool true := r'
        obtain ⟨more, hm⟩ := un.tbls TP #[] hP
        have hm' : s'.heap.get? TP = some { cls := .none, data := .fields more } := by
          rw [Array.empty_append] at hm
          exact hok' TP _ hm
        have key : ∀ b o, b ≠ TP → s₁.heap.get? b = some o → s'.heap.get? b = some o := by
          intro b o nb e
          cases q : H b with
          | none => exact un.keep b o e q (nil_fr b) (fun z => nomatch z)
          | some u =>
            rcases hO b nb with z | ⟨ob, xs, z⟩
            · rw [q] at z; cases z
            · obtain ⟨e1, _⟩ := hok b _ z
              obtain ⟨e2, _⟩ := hok' b _ (un.frzs b ob _ z)
              rw [e] at e1
              cases e1
              exact e2
        refine ⟨rfl, ⟨fun b o e => ?_, fun b o e => ?_⟩, os, bare⟩
        · by_cases hbT : b = TP
          · subst hbT
            rw [hT] at e
            cases e
            exact .inr (.inl ⟨(Cd.tab hT).isCodeTable, rfl, #[], more, rfl, by rw [Array.empty_append]; exact hm'⟩)
          · exact .inl (key b o hbT e)
        · by_cases hbT : b = TP
          · subst hbT
            exact ⟨_, hm'⟩
          · exact ⟨o, key b o hbT e⟩
  cases hk : K.lookup a with
  | some o =>
    have e := KX a o hk
    rw [ha] at e
    cases e
    refine main (fun b => if b = TP then some (.tbl #[]) else none) (if_pos rfl) (fun b hb => .inl (if_neg hb)) (.inr ⟨_, vs.toArray, _, hk, rfl, rfl, rfl, by rw [List.size_toArray, lenV]; exact hsz, by simpa using rv⟩) (fun b u z => ?_) (fun b z => ?_) fun z => absurd (if_neg aT) z
    · by_cases hb : b = TP
      · have z' := (if_pos hb).symm.trans z
        cases z'
        subst hb
        exact hT
      · cases (if_neg hb).symm.trans z
    · by_cases hb : b = TP
      · exact .inr hb
      · exact absurd (if_neg hb) z
  | none =>
    refine main (fun b => if b = a then some (.frz { cls := .type "list", data := .seq vs.toArray } (.lst (ns.map V.int))) else if b = TP then some (.tbl #[]) else none) ((if_neg (Ne.symm aT)).trans (if_pos rfl)) (fun b hb => ?_) (.inl ⟨{ cls := .type "list", data := .seq vs.toArray }, if_pos rfl⟩) (fun b u z => ?_) (fun b z => ?_) fun _ => hk
    · by_cases hba : b = a
      · exact .inr ⟨_, _, if_pos hba⟩
      · exact .inl ((if_neg hba).trans (if_neg hb))
    · by_cases hb : b = a
      · have z' := (if_pos hb).symm.trans z
        cases z'
        subst hb
        exact ⟨ha, by rw [List.length_map]; exact hsz, vs, _, rv, ha⟩
      · have z1 := (if_neg hb).symm.trans z
        by_cases hb2 : b = TP
        · have z' := (if_pos hb2).symm.trans z1
          cases z'
          subst hb2
          exact hT
        · cases (if_neg hb2).symm.trans z1
    · by_cases hb : b = a
      · exact .inl hb
      · by_cases hb2 : b = TP
        · exact .inr hb2
        · exact absurd ((if_neg hb).trans (if_neg hb2)) z
theorem walkGT {l : PySem.W.OpenLaw} {k : Nat} {q : Program} {loose : List Str} {XP : (Str → Option Value) → Heap → Prop} {YP : World → Heap → Prop} {d : DefRec} {K : Params → PySem.W.Frag} {x : Str}
    (hn : l.most = some 63) (hdf : d.params.defaults = []) (hr : Room k callerA) (hrec : ((recsOf q).find? fun e => e.name == d.name).isSome = true) (hY : ∀ (w : World) (h : Heap), YP w h → (K w.params).In h)
    (F : ∀ (w : World) (mg : Str → Option Value) (fa : Addr) (h : Heap), (K w.params).In h → h.Ns mainGlobals mg → mg d.name = some (.ref fa) →
      ∃ (fd : FuncData) (c TP : Addr) (ql : Str), PySem.W.tabIn (K w.params) d.name = some (c, TP) ∧ (K w.params).lookup TP = none ∧ (∀ (s : Shared) (u : Value), BindsTo s fd ⟨[u], []⟩ [(x, u)]) ∧
        ∀ base : Heap, (K w.params).In base → base.Ns mainGlobals mg → LamX.TabB base mg c TP → FnG l.prog w (K w.params) mg base k fa fd 1 [x] (spLawT TP ql)) :
    PySem.W.WalkO q loose XP YP l.row.toRowW d [] (fun f vs => PySem.call f vs) := by
  refine Att.attach_call hn hdf fun w s₀ s₁ mg mb fa o pm cd doc a vs ns G Y ho hd hcd hmg hobj hints hlen hg => ?_
  have KX := hY w _ Y
  obtain ⟨fd, c, TP, ql, ht, nT, hb, hF⟩ := F w mg fa _ KX G.T.g hmg
  obtain ⟨d', hd'⟩ := Option.isSome_iff_exists.mp hrec
  obtain ⟨Cd, hT⟩ := PySem.W.tab_of G.T KX hd' ht
  exact law_atT KX G.T.g G.T.b G.T.builtins G.T.nolimit hg Cd hT nT G.T.bmain hobj hints hlen hr hF hb
end FL
namespace FL
open PySem PySem.Spec PyProof.Rows L2
theorem rst_none {K : PySem.W.Frag} {γ : List Addr} {C : Cfg} {σ : L2.St} {m : Nat} (h : σ.length = m) : RSt K γ C σ (List.replicate m none) := by
  refine ⟨by rw [h, List.length_replicate], fun i w e => ?_⟩
  have := List.mem_of_getElem? e
  simp at this
section
variable {X : Cx}
/-- told(lambda: body), where told tries it and goes on with the suite ts if it raises the error at E; m: how many names told has -/
def dToldE (n : Nat) (P : Addr) (q : Str) (E : Addr) (m : Nat) (ts : FW → TSD) (tx : TDX) : TD := fun τ S Q => S[n]? = some (some (.tab P q)) ∧
  tx (fun c fws _ S' => c = E ∧ ts fws ⟨fun _ S2 => Q .non S2, Q, fun _ _ => False, fun _ _ => False⟩ (List.replicate m none) S') τ S Q
theorem pd_toldE {n k j m : Nat} {x a e en q : Str} {st : Stmt} {g c P E : Addr} {fd : FuncData} {Ng : List Str} {params : Arguments} {body : Expr} {scope : Scope} {tx : TDX} {ts : FW → TSD} {b₀ : Stmt} {suite : List Stmt} {p lpos pos p1 p2 p3 p4 p7 p8 : Pos}
    (F : Fun X.K x x st g fd) (hb : Binds X.K fd [a] []) (hbd : defBody st = [.Try [.Return (some (.Call (.Name a p1) [] [] p2)) p3] [.ExceptHandler (some (.Name e p4)) (some en) (b₀ :: suite) p7] [] [] p8])
    (Sg : FnScope Ng [a] (defScope st)) (hNg : Ng[0]? = some a) (hl : Ng.length = m) (hj : Ng[j]? = some en) (h0 : ∀ f : Addr, (L2.start Ng [V.ref f])[0]? = some (some (V.ref f))) (hva : Vis (defScope st) a) (hln : (defScope st).names.lookup en = some .local) (hge : (defScope st).names.lookup e = some .globalImplicit)
    (hme : X.mg e = some (.ref E)) (hde : (e == ("__debug__" : Str)) = false) (te : PySem.W.exmOne X.K (.ref E) (.ref E) = some true)
    (hg : Gl X x) (hm : X.mg x = some (.ref g)) (TB : LamX.TabB X.base X.mg c P) (hcode : X.env.code = .ref c) (hq : q = X.env.qual ++ "<lambda>") (hgd : X.A.guards = some []) (hr : Room (k + 2) X.A) (L : LamX.LamS X.env.scope scope) (hdef : defaultsOf params X.env = ([], []))
    (hbind : ∀ (q : Str) (cl : List (Str × Addr)) (pm cv ctv : Value), bindArgs (PySem.W.kla_fn "<lambda>" q params body scope cl pm cv ctv) ⟨[], []⟩ = pure [])
    (hbody : ∀ (A : Around) (outer : List Env) (s : Shared) (H : Hp) (Ex : XK) (f c' : Addr), A.guards = some [] → Room k (A.deeper (LamX.lamEnv X scope s.heap.objs.size f c')) → PDX (LamX.lamCx X A outer s H Ex scope f c') (fun cls d _ H' => Ex cls d H') body tx)
    (hsu : ∀ (cdv : Value) (s : Shared) (H : Hp) (a : Addr) (oe : Obj) (d : Option Addr) (pn : List (Addr × Obj)), Zc (.ref E) d oe → (∃ vs, oe.data = .fields vs) → PSSDE ((cxOf C8.CX0 X.prog X.w X.K X.mg X.base Ng x (defScope st) g cdv X.A X.stack s H C8.E0).nox.suite a ((a, oe) :: pn)) a d j (b₀ :: suite) ts)
    (hdb : (x == ("__debug__" : Str)) = false := by decide) (hd : (a == ("__debug__" : Str)) = false := by decide) (hcd : (a == ("__classdict__" : Str)) = false := by decide) :
    PD X (.Call (.Name x p) [.Lambda params body scope lpos] [] pos) (dToldE n P q E m ts tx) := by
  have kp := F.kp
  obtain ⟨oc, od, kV, doc, pm, an, cdv, ct, osl, rfl, lk, hcg⟩ := F.ex
  rw [hbd] at lk hb
  have hjl : j < m := by rw [← hl]; exact (List.getElem?_eq_some_iff.mp hj).1
  refine ⟨fun σ H Q => ∃ γ C τ Qd, C.H = H ∧ Sim X.K γ C ∧ RSt X.K γ C σ τ ∧ dToldE n P q E m ts tx τ C.S Qd ∧ KE X.K γ C Qd Q, ⟨fun pins s σ H Q I h => ?_⟩, fun γ C σ τ Qd Q hs hst h k => ⟨γ, C, τ, Qd, rfl, hs, hst, h, k⟩⟩
  obtain ⟨γ, C, τ, Qd, rfl, sim, rst, ⟨hS, htx⟩, ke⟩ := h
  refine wpAny_Call_Name_kw (ld_glob I hg hm ?_ hdb)
  refine PySem.W.callWith_K (h₀ := X.base) I.ok.mod.kin kp ?_ (by rfl) (by rfl)
  show wpAny _ _ (spliced ((false, eval (.Lambda params body scope lpos) X.env) :: backTo pos (starEach [] X.env))) _ _ s
  refine Calls.spliced_cons (lam_mk I sim hS TB hcode hq hdef (L.has I.ok) fun f c' pm' ctv C1 s' I1 s1 st1 eS rc hfn hfr hf => ?_)
  refine Calls.spliced_nil ⟨I1.kIn, ?_⟩
  have hco : C1.H c' = some (LamX.CodeO c' q) := by
    cases rc
    assumption
  have ran : codeAny (model X.prog X.w) X.A (.call (.ref g) ⟨[.ref f], []⟩) (CR C8.CX0 X.stack X.prog X.w C1.H s' Q C8.E0) s' := by
    refine LamX.run_ofS (k := k + 1) (N := Ng) (ps := [a]) (us := [.ref f]) (vs := [.ref f]) lk hcg Sg hr I1.env0 (hb s' [.ref f] I1.kIn rfl) (.cons rfl .nil) rfl fun hr' => ?_
    have hgl : Gl (cxOf C8.CX0 X.prog X.w X.K X.mg X.base Ng x (defScope st) g cdv X.A X.stack s' C1.H C8.E0).nox e := hge
    refine ⟨_, (pss_one (ps_try_as (X := (cxOf C8.CX0 X.prog X.w X.K X.mg X.base Ng x (defScope st) g cdv X.A X.stack s' C1.H C8.E0).nox) (c := .ref E) (i := j) (Wout := fun _ _ _ _ => False)
      (tb := fun W D σt H => ∃ Ech : XK, (∀ cls d σ' H', Ech cls d H' → W cls d σ' H') ∧ σt[0]? = some (some (.ref f)) ∧ H c' = some (LamX.CodeO c' q) ∧ TLam X.K γ C1 σ tx Ech H D.rt)
      (ts := fun a cls d D σt H => cls = .ref E ∧ ∃ C2 fws Dd, C2.H = H ∧ Sim X.K γ C2 ∧ ErrAt X.K γ C2 d fws ∧ ts fws Dd (List.replicate m none) C2.S ∧ KS X.K γ C2 Dd D ∧ (σt.length = m → σt[j]? = some (some (.ref a))))
      rfl rfl Sg.nd hj (by exact hln) ⟨hgl, hde, .inl hme⟩ LamX.takes0 (fun W pn xe tk _ => ⟨fun pins s2 σt H' D I2 h2 => ?_⟩) (fun a2 oe cls d pn hz hf2 => ⟨fun pins s2 σt H' D I2 h2 => ?_⟩))).nox, ?_⟩
    · obtain ⟨Ech, hW, e1, e2, e3⟩ := h2
      have hp := lam_act (γ := γ) I1 L hf hq hfn hfr (hbind _ _ _ _ _) hgd hr' (fun A outer s H Ex => hbody A outer s H Ex f c') hNg hva hd hcd W pn xe Ech p1 p2 tk hW
      exact (pss_one (ps_ret (pos := p3) hp)).run pins s2 σt H' D I2 ⟨e1, e2, e3⟩
    · obtain ⟨rfl, C2, fws, Dd, rfl, s2', he, hts, hks, hsl⟩ := h2
      have hlen : σt.length = m := by rw [← hl]; exact I2.len
      obtain ⟨tS, pS, kS⟩ := (hsu cdv s' C1.H a2 oe d pn hz hf2).ex
      exact pS.run pins s2 σt _ D I2 (kS γ C2 σt (List.replicate m none) fws Dd D s2' (rst_none hlen) (hsl hlen) he hts hks)
    · refine ⟨fun cls d H' => cls = .ref E ∧ ∃ C2 fws, C2.H = H' ∧ Sim X.K γ C2 ∧ Step γ C1 γ C2 ∧ ErrAt X.K γ C2 d fws ∧ ts fws ⟨fun _ S2 => Qd .non S2, Qd, fun _ _ => False, fun _ _ => False⟩ (List.replicate m none) C2.S, fun cls d σ' H' hE => ?_, h0 f, hco, ?_⟩
      · obtain ⟨rfl, C2, fws, rfl, s2, st2, he, hts⟩ := hE
        refine ⟨true, te, fun _ a2 ha => ⟨rfl, C2, fws, _, rfl, s2, he, hts, ?_, fun hsl => List.getElem?_set_self (by rw [List.length_set] at hsl; rw [hsl]; exact hjl)⟩, fun z => Bool.noConfusion z⟩
        have k2 := ke.step (st1.trans st2)
        exact ⟨fun C3 σ3 τ3 h3 s3 st3 _ => k2 C3 _ _ h3 s3 st3 .non, fun C3 v w h3 s3 st3 r3 => k2 C3 v w h3 s3 st3 r3, fun _ _ _ h3 _ _ _ => h3.elim, fun _ _ _ h3 _ _ _ => h3.elim⟩
      · exact ⟨C1, τ, fun c fws S' => c = E ∧ ts fws ⟨fun _ S2 => Qd .non S2, Qd, fun _ _ => False, fun _ _ => False⟩ (List.replicate m none) S', Qd, rfl, s1, .refl _ _, rst.step st1, by rw [eS]; exact htx, ke.step st1, fun C2 c d fws hE s2 st2 he => ⟨by rw [hE.1], C2, fws, rfl, s2, st2, he, hE.2⟩⟩
  refine wpAny_call (codeAny_mono ran fun r s2 hres => ?_)
  rcases r with er | fl
  · exact (show False from hres).elim
  · cases fl <;> first | exact I1.after hres | exact False.elim hres
end
end FL
end
namespace K08
set_option autoImplicit false
open PySem PySem.Spec PyProof.Rows L2 FL CB
abbrev sp_law_split := CB.sp_law_split
abbrev sp_law_split_len := CB.sp_law_split_len
abbrev sp_law_code := CB.sp_law_code
abbrev sp_law_code_len := CB.sp_law_code_len
abbrev sp_law_words := CB.sp_law_words
abbrev sp_law_words_len := CB.sp_law_words_len
abbrev sp_law_lengths := CB.sp_law_lengths
abbrev sp_law_lengths_len := CB.sp_law_lengths_len
abbrev sp_law_odd := CB.sp_law_odd
abbrev sp_law_odd_len := CB.sp_law_odd_len
abbrev sp_is_whole := FL.sp_is_whole
/-! ### rows of lengths that fit -/
/-- the next word of so many signs behind this one -/
def trimF (sg : Nat) (w : List Int) : List Int := (w.reverse.dropWhile fun x => decide (x = ((sg : Nat) : Int) - 1)).reverse
theorem trim_snoc (sg : Nat) (w : List Int) (x : Int) : trimF sg (w ++ [x]) = if x = ((sg : Nat) : Int) - 1 then trimF sg w else w ++ [x] := by
  unfold trimF
  rw [List.reverse_append]
  show (List.dropWhile _ (x :: w.reverse)).reverse = _
  rw [List.dropWhile_cons]
  by_cases h : x = ((sg : Nat) : Int) - 1
  · rw [if_pos (by simpa using h), if_pos h]
  · rw [if_neg (by simpa using h), if_neg h, List.reverse_cons, List.reverse_reverse]
def nextF (sg : Nat) (w : List Int) (len : Nat) : Option (List Int) :=
  let h := trimF sg (w.take len)
  if h = [] then none else some (h.dropLast ++ [h.getLastD 0 + 1] ++ List.replicate (len - h.length) 0)
def optW : Option (List Int) → W
  | none => .non
  | some u => .tup (iw u)
def sp_nothing_held : FL.Spec := fun ws S Q => ∃ r : List W, ws = [.tup r] ∧ 1 ≤ r.length ∧ r.length ≤ 1000 ∧ Q (.tup (List.replicate r.length .non)) S
theorem sp_nothing_held_len : ∀ ws S Q, sp_nothing_held ws S Q → ws.length = 1 := by rintro _ _ _ ⟨r, rfl, _⟩; rfl
def sp_next_word : FL.Spec := fun ws S Q => ∃ (sg : Nat) (w : List Int) (len : Nat), ws = [.int (sg : Nat), .tup (iw w), .int (len : Nat)] ∧ w.length ≤ 1000 ∧ len ≤ 1000 ∧ Q (optW (nextF sg w len)) S
theorem sp_next_word_len : ∀ ws S Q, sp_next_word ws S Q → ws.length = 3 := by rintro _ _ _ ⟨a, b, c, rfl, _⟩; rfl
theorem nextF_len {sg : Nat} {w v : List Int} {len : Nat} (h : nextF sg w len = some v) : v.length = len := by
  unfold nextF at h
  dsimp only at h
  have hl : (trimF sg (w.take len)).length ≤ len := by
    unfold trimF
    rw [List.length_reverse]
    have := (List.dropWhile_sublist (fun x => decide (x = ((sg : Nat) : Int) - 1)) (l := (w.take len).reverse)).length_le
    rw [List.length_reverse, List.length_take] at this
    omega
  by_cases h0 : trimF sg (w.take len) = []
  · rw [if_pos h0] at h
    cases h
  · rw [if_neg h0] at h
    cases h
    have hp : 0 < (trimF sg (w.take len)).length := List.length_pos_iff.mpr h0
    rw [List.length_append, List.length_append, List.length_dropLast, List.length_replicate]
    show _ + 1 + _ = _
    omega
/-- the least words of these lengths, as far as there are some -/
def leastF (sg : Nat) : Option (List Int) → List Nat → List (List Int)
  | _, [] => []
  | none, l :: r => List.replicate l 0 :: leastF sg (some (List.replicate l 0)) r
  | some u, l :: r => match nextF sg u l with
    | none => []
    | some v => v :: leastF sg (some v) r
def natsW (r : List Nat) : List W := iw (r.map fun (k : Nat) => (k : Int))
def sp_least_words : FL.Spec := fun ws S Q => ∃ (sg : Nat) (r : List Nat) (h : W), ws = [.int (sg : Nat), .tup (natsW r), h] ∧ ttT h = some (List.replicate r.length .non) ∧ (∀ l ∈ r, l ≤ 100) ∧ r.length ≤ 1000 ∧ ∀ S', Pre S S' → Q (.lst (cw (leastF sg none r))) S'
theorem sp_least_words_len : ∀ ws S Q, sp_least_words ws S Q → ws.length = 3 := by rintro _ _ _ ⟨a, b, c, rfl, _⟩; rfl
/-! what is wrong with a row -/
def natsOf (us : List W) : List Nat := us.map fun w => match w with
  | .int i => i.toNat
  | _ => 0
def rowB : W → Bool
  | .tup us => (us.all fun x => isWhole x 0 16) && decide (1 ≤ us.length) && decide (us.length ≤ 16)
  | _ => false
def rowR : W → List Nat
  | .tup us => natsOf us
  | _ => []
def errN (sg : Nat) (r : List Nat) : W := if (leastF sg none r).length = r.length then .non else .int (((leastF sg none r).length : Nat) : Int)
def reW (sg : Nat) (v : W) : W := if rowB v = true then errN sg (rowR v) else .str "row"
theorem nats_of : ∀ {us : List W}, (us.all fun x => isWhole x 0 16) = true → us = natsW (natsOf us) ∧ ∀ l ∈ natsOf us, l ≤ 16
  | [], _ => ⟨rfl, fun _ h => nomatch h⟩
  | u :: us, h => by
    rw [List.all_cons, Bool.and_eq_true] at h
    obtain ⟨h1, h2⟩ := h
    obtain ⟨e, hb⟩ := nats_of h2
    cases u with
    | int i =>
      have hi : 0 ≤ i ∧ i ≤ 16 := of_decide_eq_true h1
      refine ⟨?_, fun l hl => ?_⟩
      · show W.int i :: us = W.int ((i.toNat : Nat) : Int) :: natsW (natsOf us)
        rw [← e, show ((i.toNat : Nat) : Int) = i by omega]
      · rcases List.mem_cons.mp hl with rfl | hl
        · show i.toNat ≤ 16; omega
        · exact hb l hl
    | _ => cases h1
theorem nats_len (r : List Nat) : (natsW r).length = r.length := by unfold natsW; rw [iw_len, List.length_map]
theorem re_row {sg : Nat} {us : List W} (h : (us.all fun x => isWhole x 0 16) = true) (h1 : 1 ≤ us.length) (h2 : us.length ≤ 16) : reW sg (.tup us) = errN sg (natsOf us) := by
  unfold reW
  rw [if_pos (by show ((us.all fun x => isWhole x 0 16) && decide (1 ≤ us.length) && decide (us.length ≤ 16)) = true; rw [h, decide_eq_true h1, decide_eq_true h2]; rfl)]
  rfl
theorem re_bad {sg : Nat} {us : List W} (h : (us.all fun x => isWhole x 0 16) = false ∨ us.length < 1 ∨ 16 < us.length) : reW sg (.tup us) = .str "row" := by
  unfold reW
  rw [if_neg]
  show ¬((us.all fun x => isWhole x 0 16) && decide (1 ≤ us.length) && decide (us.length ≤ 16)) = true
  rcases h with h | h | h
  · rw [h]; simp
  · rw [decide_eq_false (show ¬ 1 ≤ us.length by omega)]; simp
  · rw [decide_eq_false (show ¬ us.length ≤ 16 by omega)]; simp
theorem least_len (sg : Nat) : ∀ (r : List Nat) (p : Option (List Int)), (leastF sg p r).length ≤ r.length
  | [], none => Nat.le_refl _
  | [], some _ => Nat.le_refl _
  | l :: r, none => Nat.succ_le_succ (least_len sg r _)
  | l :: r, some p => by
    show (match nextF sg p l with
      | none => []
      | some v => v :: leastF sg (some v) r).length ≤ r.length + 1
    cases nextF sg p l with
    | none => exact Nat.zero_le _
    | some v => exact Nat.succ_le_succ (least_len sg r _)
def sp_row_error : FL.Spec := fun ws S Q => ∃ (sg : Nat) (v : W), ws = [.int (sg : Nat), v] ∧ 2 ≤ sg ∧ Vl v ∧ ∀ S', Pre S S' → Q (reW sg v) S'
theorem sp_row_error_len : ∀ ws S Q, sp_row_error ws S Q → ws.length = 2 := by rintro _ _ _ ⟨a, b, rfl, _⟩; rfl
abbrev sp_law_row_error := sp_row_error
abbrev sp_law_row_error_len := sp_row_error_len
def sp_law_above : FL.Spec := fun ws S Q => ∃ (sg : Nat) (w : List Int) (len : Nat), ws = [.int (sg : Nat), .tup (iw w), .int (len : Nat)] ∧ 2 ≤ sg ∧ Sg sg w ∧ w.length ≤ 1000 ∧ len ≤ 1000 ∧ ∀ S', Pre S S' → Q (optW (nextF sg w len)) S'
theorem sp_law_above_len : ∀ ws S Q, sp_law_above ws S Q → ws.length = 3 := by rintro _ _ _ ⟨a, b, c, rfl, _⟩; rfl
def sp_law_laid : FL.Spec := fun ws S Q => ∃ (sg : Nat) (r : List Nat), ws = [.int (sg : Nat), .tup (natsW r)] ∧ 2 ≤ sg ∧ (∀ l ∈ r, l ≤ 100) ∧ 1 ≤ r.length ∧ r.length ≤ 1000 ∧ ∀ S', Pre S S' → Q (.lst (cw (leastF sg none r))) S'
theorem sp_law_laid_len : ∀ ws S Q, sp_law_laid ws S Q → ws.length = 2 := by rintro _ _ _ ⟨a, b, rfl, _⟩; rfl
/-- all rows of words, of these lengths, each above the one ahead and not begun by it -/
def goB (a b : List Int) : Bool := HT.lexLt a b && !stB a b
def codesF (sg : Nat) : List Nat → List (List (List Int))
  | [] => []
  | l :: r => r.foldl (fun found l => (found.flatMap fun code => ((wordsF sg l).filter fun w => HT.lexLt (code.getLastD []) w).map fun w => code ++ [w]).filter fun code => !stB (code.dropLast.getLastD []) (code.getLastD [])) ((wordsF sg l).map fun w => [w])
def ccw (cs : List (List (List Int))) : List W := cs.map fun c => .tup (cw c)
def sp_law_codes : FL.Spec := fun ws S Q => ∃ (sg : Nat) (r : List Nat), ws = [.int (sg : Nat), .tup (natsW r)] ∧ 2 ≤ sg ∧ sg ≤ 3 ∧ (∀ l ∈ r, l ≤ 3) ∧ 1 ≤ r.length ∧ r.length ≤ 4 ∧ ∀ S', Pre S S' → Q (.lst (ccw (codesF sg r))) S'
theorem sp_law_codes_len : ∀ ws S Q, sp_law_codes ws S Q → ws.length = 2 := by rintro _ _ _ ⟨a, b, rfl, _⟩; rfl
def sp_law_draw_row : FL.Spec := fun ws S Q => ∃ (d : Nat) (sg many most N : Int), ws = [.loc d, .int sg, .int many, .int most] ∧ 2 ≤ sg ∧ sg ≤ 6 ∧ 1 ≤ many ∧ many ≤ 16 ∧ 0 ≤ most ∧ most ≤ 16 ∧ DeckAt S d N ∧ N ≤ 400000000 ∧
  ∀ r S', 1 ≤ r.length → (r.length : Int) ≤ many → (∀ l : Nat, l ∈ r → ((l : Nat) : Int) ≤ most) → DeckAt S' d (N + 500000) → Ch d S S' → Q (.tup (natsW r)) S'
theorem sp_law_draw_row_len : ∀ ws S Q, sp_law_draw_row ws S Q → ws.length = 4 := by rintro _ _ _ ⟨a, b, c, d, e, rfl, _⟩; rfl
/-! the next word, and the least words -/
theorem snoc_ind {P : List Int → Prop} (h0 : P []) (h1 : ∀ w x, P w → P (w ++ [x])) : ∀ (n : Nat) (w : List Int), w.length = n → P w
  | 0, w, h => by rw [List.eq_nil_of_length_eq_zero h]; exact h0
  | n + 1, w, h => by
    rcases List.eq_nil_or_concat w with rfl | ⟨g, x, rfl⟩
    · cases h
    · rw [List.concat_eq_append] at *
      exact h1 g x (snoc_ind h0 h1 n g (by simpa using h))
theorem trim_pre (sg : Nat) : ∀ w : List Int, ∃ k : Nat, w = trimF sg w ++ List.replicate k (((sg : Nat) : Int) - 1) := by
  intro w
  refine snoc_ind (P := fun w => ∃ k : Nat, w = trimF sg w ++ List.replicate k (((sg : Nat) : Int) - 1)) ?_ ?_ w.length w rfl
  · exact ⟨0, rfl⟩
  · intro w x ih
    rw [trim_snoc]
    by_cases h : x = ((sg : Nat) : Int) - 1
    · rw [if_pos h]
      obtain ⟨k, hk⟩ := ih
      refine ⟨k + 1, ?_⟩
      conv => lhs; rw [hk]
      rw [List.replicate_succ', h, List.append_assoc]
    · rw [if_neg h]
      exact ⟨0, by simp⟩
theorem trim_last (sg : Nat) : ∀ w : List Int, trimF sg w = [] ∨ ∃ g x, trimF sg w = g ++ [x] ∧ x ≠ ((sg : Nat) : Int) - 1 := by
  intro w
  refine snoc_ind (P := fun w => trimF sg w = [] ∨ ∃ g x, trimF sg w = g ++ [x] ∧ x ≠ ((sg : Nat) : Int) - 1) ?_ ?_ w.length w rfl
  · exact .inl rfl
  · intro w x ih
    rw [trim_snoc]
    by_cases h : x = ((sg : Nat) : Int) - 1
    · rw [if_pos h]
      exact ih
    · rw [if_neg h]
      exact .inr ⟨w, x, rfl, h⟩
theorem next_snoc {sg : Nat} {w g : List Int} {x : Int} {len : Nat} (h : trimF sg (w.take len) = g ++ [x]) : nextF sg w len = some (g ++ [x + 1] ++ List.replicate (len - (g.length + 1)) 0) := by
  unfold nextF
  simp only [h]
  rw [if_neg (by simp)]
  simp
theorem next_nil {sg : Nat} {w : List Int} {len : Nat} (h : trimF sg (w.take len) = []) : nextF sg w len = none := by
  unfold nextF
  simp only [h]
  rfl
theorem next_ok {sg : Nat} {w v : List Int} {len : Nat} (h2 : 2 ≤ sg) (hw : Sg sg w) (h : nextF sg w len = some v) : v.length = len ∧ Sg sg v ∧ Bef w v := by
  refine ⟨nextF_len h, ?_⟩
  obtain ⟨k, hk⟩ := trim_pre sg (w.take len)
  rcases trim_last sg (w.take len) with q | ⟨g, x, q, hx⟩
  · rw [next_nil q] at h
    cases h
  · rw [next_snoc q] at h
    cases h
    rw [q] at hk
    have hsub : ∀ y ∈ g ++ [x], 0 ≤ y ∧ y < ((sg : Nat) : Int) := fun y hy => hw y (List.mem_of_mem_take (by rw [hk]; exact List.mem_append.mpr (.inl hy)))
    have hx2 := hsub x (by simp)
    refine ⟨fun y hy => ?_, g, x, List.replicate k (((sg : Nat) : Int) - 1) ++ w.drop len, x + 1, List.replicate (len - (g.length + 1)) 0, ?_, by simp, by omega⟩
    · rcases List.mem_append.mp hy with hy | hy
      · rcases List.mem_append.mp hy with hy | hy
        · exact hsub y (List.mem_append.mpr (.inl hy))
        · have : y = x + 1 := by simpa using hy
          omega
      · have := List.eq_of_mem_replicate hy
        omega
    · conv => lhs; rw [← List.take_append_drop len w]
      rw [hk]
      simp
theorem pad_least {k : Nat} : ∀ {t : List Int}, t.length = k → (∀ y ∈ t, 0 ≤ y) → List.replicate k 0 = t ∨ Bef (List.replicate k 0) t := by
  induction k with
  | zero => intro t h _; exact .inl (List.eq_nil_of_length_eq_zero h).symm
  | succ k ih =>
    intro t h ht
    cases t with
    | nil => cases h
    | cons a t =>
      have ha := ht a List.mem_cons_self
      by_cases e : a = 0
      · subst e
        rcases ih (t := t) (by simpa using h) (fun y hy => ht y (List.mem_cons_of_mem _ hy)) with q | ⟨p, x, s, y, u, e1, e2, hxy⟩
        · left; rw [List.replicate_succ, q]
        · right; exact ⟨0 :: p, x, s, y, u, by rw [List.replicate_succ, e1]; rfl, by rw [e2]; rfl, hxy⟩
      · right
        exact ⟨[], 0, List.replicate k 0, a, t, by rw [List.replicate_succ]; rfl, rfl, by omega⟩
theorem next_least {sg : Nat} {w v : List Int} {len : Nat} (hv : Sg sg v) (hl : v.length = len) (hb : Bef w v) : ∃ u, nextF sg w len = some u ∧ (u = v ∨ Bef u v) := by
  obtain ⟨p, x, s, y, t, rfl, rfl, hxy⟩ := hb
  have hy := hv y (by simp)
  have hlen : p.length < len := by rw [← hl]; simp
  obtain ⟨k, hk⟩ := trim_pre sg ((p ++ x :: s).take len)
  -- the sign x stays
  have htk : (p ++ x :: s).take len = p ++ x :: s.take (len - p.length - 1) := by
    rw [List.take_append, List.take_of_length_le (by omega)]
    obtain ⟨m, hm⟩ : ∃ m, len - p.length = m + 1 := ⟨len - p.length - 1, by omega⟩
    rw [hm, List.take_succ_cons, Nat.add_sub_cancel]
  rcases trim_last sg ((p ++ x :: s).take len) with q | ⟨g, z, q, hz⟩
  · exfalso
    rw [q, List.nil_append, htk] at hk
    have : x ∈ List.replicate k (((sg : Nat) : Int) - 1) := by rw [← hk]; simp
    have := List.eq_of_mem_replicate this
    omega
  · refine ⟨_, next_snoc q, ?_⟩
    rw [q, htk] at hk
    have hgp : p.length ≤ g.length := by
      rcases Nat.lt_or_ge g.length p.length with c | c
      · exfalso
        have e1 : (p ++ x :: s.take (len - p.length - 1))[p.length]? = some x := by simp
        rw [hk, List.getElem?_append_right (by simp; omega)] at e1
        have := List.eq_of_mem_replicate (List.mem_of_getElem? e1)
        omega
      · exact c
    rcases Nat.lt_or_ge p.length g.length with c | c
    · right
      have e1 : g = p ++ x :: (g.drop (p.length + 1)) := by
        have e2 := congrArg (List.take g.length) hk
        rw [List.append_assoc, List.take_left' rfl] at e2
        rw [List.take_append, List.take_of_length_le (by omega)] at e2
        obtain ⟨m, hm⟩ : ∃ m, g.length - p.length = m + 1 := ⟨g.length - p.length - 1, by omega⟩
        rw [hm, List.take_succ_cons] at e2
        have e3 : g.drop (p.length + 1) = (s.take (len - p.length - 1)).take m := by
          rw [← e2, show p ++ x :: (s.take (len - p.length - 1)).take m = (p ++ [x]) ++ (s.take (len - p.length - 1)).take m by simp, List.drop_left' (by simp)]
        rw [e3]
        exact e2.symm
      have e9 : g ++ [z + 1] ++ List.replicate (len - (g.length + 1)) 0 = p ++ x :: (g.drop (p.length + 1) ++ [z + 1] ++ List.replicate (len - (g.length + 1)) 0) := by
        conv => lhs; lhs; lhs; rw [e1]
        simp
      exact ⟨p, x, _, y, t, e9, rfl, hxy⟩
    · have egl : g.length = p.length := by omega
      have e1 : g = p := by
        have e2 := congrArg (List.take g.length) hk
        rw [List.append_assoc, List.take_left' rfl, egl, List.take_left' rfl] at e2
        exact e2.symm
      subst e1
      have e2 : z = x := by
        have e3 := List.append_cancel_left (show g ++ x :: s.take (len - g.length - 1) = g ++ ([z] ++ List.replicate k (((sg : Nat) : Int) - 1)) by rw [hk, List.append_assoc])
        exact ((List.cons.inj e3).1).symm
      subst e2
      have htl : t.length = len - (g.length + 1) := by
        rw [← hl]; simp; omega
      by_cases hy2 : y = z + 1
      · subst hy2
        rcases pad_least htl (fun y hy => (hv y (by simp [hy])).1) with q2 | ⟨p2, x2, s2, y2, t2, f1, f2, f3⟩
        · left; rw [q2]; simp
        · right; exact ⟨g ++ [z + 1] ++ p2, x2, s2, y2, t2, by rw [f1]; simp, by rw [f2]; simp, f3⟩
      · right
        exact ⟨g, z + 1, List.replicate (len - (g.length + 1)) 0, y, t, by simp, rfl, by omega⟩
theorem bef_trans {a b c : List Int} (h : Bef a b) (k : Bef b c) : Bef a c := by
  obtain ⟨p, x, s, y, t, rfl, e, hxy⟩ := h
  obtain ⟨q, z, u, w, v, e2, rfl, hzw⟩ := k
  rw [e] at e2
  rcases Nat.lt_trichotomy p.length q.length with c | c | c
  · obtain ⟨r, hr⟩ : ∃ r, q = p ++ y :: r := by
      have e3 := congrArg (List.take q.length) e2
      rw [List.take_left' rfl, List.take_append, List.take_of_length_le (by omega)] at e3
      obtain ⟨m, hm⟩ : ∃ m, q.length - p.length = m + 1 := ⟨q.length - p.length - 1, by omega⟩
      rw [hm, List.take_succ_cons] at e3
      exact ⟨_, e3.symm⟩
    subst hr
    exact ⟨p, x, s, y, r ++ w :: v, rfl, by simp, hxy⟩
  · obtain ⟨e3, e4⟩ := List.append_inj e2 c
    subst e3
    have e5 := (List.cons.inj e4).1
    exact ⟨p, x, s, w, v, rfl, rfl, by omega⟩
  · obtain ⟨r, hr⟩ : ∃ r, p = q ++ z :: r := by
      have e3 := congrArg (List.take p.length) e2
      rw [List.take_left' rfl, List.take_append, List.take_of_length_le (by omega)] at e3
      obtain ⟨m, hm⟩ : ∃ m, p.length - q.length = m + 1 := ⟨p.length - q.length - 1, by omega⟩
      rw [hm, List.take_succ_cons] at e3
      exact ⟨_, e3⟩
    subst hr
    exact ⟨q, z, r ++ x :: s, w, v, by simp, rfl, hzw⟩
theorem bef_lt {u v : List Int} (h : Bef u v) : u < v := by
  obtain ⟨p, x, s, y, t, rfl, rfl, hxy⟩ := h
  exact List.append_left_lt (List.cons_lt_cons_iff.mpr (.inl hxy))
theorem lt_bef : ∀ {u v : List Int}, u < v → ¬ u <+: v → Bef u v
  | [], v, _, h => absurd List.nil_prefix h
  | x :: u, [], h, _ => by cases h
  | x :: u, y :: v, h, hn => by
    rcases List.cons_lt_cons_iff.mp h with h | ⟨e, h⟩
    · exact ⟨[], x, u, y, v, rfl, rfl, h⟩
    · obtain ⟨p, a, s, b, t, e1, e2, hab⟩ := lt_bef h fun z => hn (List.cons_prefix_cons.mpr ⟨e, z⟩)
      exact ⟨x :: p, a, s, b, t, by rw [e1]; rfl, by rw [e2, e]; rfl, hab⟩
theorem st_iff {u w : List Int} : stB u w = true ↔ u <+: w := by
  unfold stB
  rw [decide_eq_true_eq]
  refine ⟨fun h => ⟨w.drop u.length, ?_⟩, fun h => ?_⟩
  · conv => lhs; lhs; rw [← h]
    exact List.take_append_drop ..
  · exact (List.prefix_iff_eq_take.mp h).symm
/-- words of these lengths, one behind another -/
def Chn (sg : Nat) : Option (List Int) → List Nat → List (List Int) → Prop
  | _, [], [] => True
  | p, l :: r, w :: c => w.length = l ∧ Sg sg w ∧ (∀ u, p = some u → Bef u w) ∧ Chn sg (some w) r c
  | _, _, _ => False
def LeO : Option (List Int) → Option (List Int) → Prop
  | none, none => True
  | some a, some b => a = b ∨ Bef a b
  | _, _ => False
theorem greedy {sg : Nat} (h2 : 2 ≤ sg) : ∀ {r : List Nat} {c : List (List Int)} {p q : Option (List Int)}, Chn sg p r c → LeO q p → (leastF sg q r).length = r.length
  | [], [], none, none, _, _ => rfl
  | [], [], some _, some _, _, _ => rfl
  | [], [], none, some _, _, h => h.elim
  | [], [], some _, none, _, h => h.elim
  | [], _ :: _, none, _, h, _ => h.elim
  | [], _ :: _, some _, _, h, _ => h.elim
  | _ :: _, [], none, _, h, _ => h.elim
  | _ :: _, [], some _, _, h, _ => h.elim
  | l :: r, w :: c, none, none, h, _ => by
    obtain ⟨h1, hs, _, h3⟩ := h
    show (leastF sg (some (List.replicate l 0)) r).length + 1 = r.length + 1
    rw [greedy h2 h3 (q := some (List.replicate l 0)) (pad_least h1 fun y hy => (hs y hy).1)]
  | l :: r, w :: c, some p, some q, h, hq => by
    obtain ⟨h1, hs, hp, h3⟩ := h
    have hb : Bef q w := by
      have hpw := hp p rfl
      rcases hq with rfl | hq
      · exact hpw
      · exact bef_trans hq hpw
    obtain ⟨u, e1, e2⟩ := next_least hs h1 hb
    show (match nextF sg q l with
      | none => []
      | some v => v :: leastF sg (some v) r).length = r.length + 1
    rw [e1]
    show (leastF sg (some u) r).length + 1 = r.length + 1
    rw [greedy h2 h3 (q := some u) e2]
  | _ :: _, _ :: _, none, some _, _, h => h.elim
  | _ :: _, _ :: _, some _, none, _, h => h.elim
theorem zero_sg {sg : Nat} (h2 : 2 ≤ sg) (l : Nat) : Sg sg (List.replicate l 0) := fun x hx => by
  have := List.eq_of_mem_replicate hx
  omega
theorem least_chn {sg : Nat} (h2 : 2 ≤ sg) : ∀ (r : List Nat) (p : Option (List Int)), (∀ u, p = some u → Sg sg u) → (leastF sg p r).length ≤ r.length ∧ Chn sg p (r.take (leastF sg p r).length) (leastF sg p r)
  | [], none, _ => ⟨Nat.le_refl _, trivial⟩
  | [], some _, _ => ⟨Nat.le_refl _, trivial⟩
  | l :: r, none, _ => by
    obtain ⟨a, b⟩ := least_chn h2 r (some (List.replicate l 0)) fun u e => by cases e; exact zero_sg h2 l
    have e : leastF sg none (l :: r) = List.replicate l 0 :: leastF sg (some (List.replicate l 0)) r := rfl
    rw [e, List.length_cons, List.take_succ_cons]
    exact ⟨by simp only [List.length_cons]; omega, List.length_replicate, zero_sg h2 l, (fun u h => nomatch h), b⟩
  | l :: r, some p, hp => by
    have e : leastF sg (some p) (l :: r) = match nextF sg p l with
      | none => []
      | some v => v :: leastF sg (some v) r := rfl
    cases hn : nextF sg p l with
    | none =>
      rw [e, hn]
      exact ⟨Nat.zero_le _, trivial⟩
    | some v =>
      obtain ⟨q1, q2, q3⟩ := next_ok h2 (hp p rfl) hn
      obtain ⟨a, b⟩ := least_chn h2 r (some v) fun u e => by cases e; exact q2
      rw [e, hn]
      dsimp only
      rw [List.length_cons, List.take_succ_cons]
      exact ⟨by simp only [List.length_cons]; omega, q1, q2, (fun u h => by cases h; exact q3), b⟩
theorem least_take (sg : Nat) : ∀ (r : List Nat) (p : Option (List Int)) (n : Nat), leastF sg p (r.take n) = (leastF sg p r).take n
  | [], none, n => by cases n <;> rfl
  | [], some _, n => by cases n <;> rfl
  | _ :: _, none, 0 => rfl
  | _ :: _, some _, 0 => rfl
  | l :: r, none, n + 1 => by
    show List.replicate l 0 :: leastF sg (some (List.replicate l 0)) (r.take n) = List.replicate l 0 :: (leastF sg (some (List.replicate l 0)) r).take n
    rw [least_take]
  | l :: r, some p, n + 1 => by
    show (match nextF sg p l with
      | none => []
      | some v => v :: leastF sg (some v) (r.take n)) = (match nextF sg p l with
      | none => []
      | some v => v :: leastF sg (some v) r).take (n + 1)
    cases nextF sg p l with
    | none => rfl
    | some v => show v :: leastF sg (some v) (r.take n) = v :: (leastF sg (some v) r).take n; rw [least_take]
def stepC (sg : Nat) (found : List (List (List Int))) (l : Nat) : List (List (List Int)) := (found.flatMap fun code => ((wordsF sg l).filter fun w => HT.lexLt (code.getLastD []) w).map fun w => code ++ [w]).filter fun code => !stB (code.dropLast.getLastD []) (code.getLastD [])
theorem codes_eq (sg l : Nat) (r : List Nat) : codesF sg (l :: r) = r.foldl (stepC sg) ((wordsF sg l).map fun w => [w]) := rfl
theorem step_mem {sg : Nat} {found : List (List (List Int))} {l : Nat} {c : List (List Int)} : c ∈ stepC sg found l ↔ ∃ c0 ∈ found, ∃ w, c = c0 ++ [w] ∧ w.length = l ∧ Sg sg w ∧ Bef (c0.getLastD []) w := by
  unfold stepC
  rw [List.mem_filter, List.mem_flatMap]
  constructor
  · rintro ⟨⟨c0, h0, h1⟩, h2⟩
    obtain ⟨w, hw, rfl⟩ := List.mem_map.mp h1
    obtain ⟨hw1, hw2⟩ := List.mem_filter.mp hw
    obtain ⟨hl, hs⟩ := (words_mem l w).mp hw1
    rw [List.dropLast_concat, List.getLastD_concat, Bool.not_eq_true'] at h2
    rw [← lt_lex] at hw2
    refine ⟨c0, h0, w, rfl, hl, hs, lt_bef (of_decide_eq_true hw2) fun z => ?_⟩
    rw [st_iff.mpr z] at h2
    cases h2
  · rintro ⟨c0, h0, w, rfl, hl, hs, hb⟩
    refine ⟨⟨c0, h0, List.mem_map.mpr ⟨w, List.mem_filter.mpr ⟨(words_mem l w).mpr ⟨hl, hs⟩, ?_⟩, rfl⟩⟩, ?_⟩
    · rw [← lt_lex]
      exact decide_eq_true (bef_lt hb)
    · rw [List.dropLast_concat, List.getLastD_concat, Bool.not_eq_true']
      cases h : stB (c0.getLastD []) w with
      | false => rfl
      | true => exact absurd (st_iff.mp h) hb.no.1
theorem fold_mem {sg : Nat} : ∀ {r : List Nat} {found : List (List (List Int))} {c : List (List Int)}, c ∈ r.foldl (stepC sg) found ↔ ∃ c0 ∈ found, ∃ c1, c = c0 ++ c1 ∧ Chn sg (some (c0.getLastD [])) r c1
  | [], found, c => by
    show c ∈ found ↔ _
    refine ⟨fun h => ⟨c, h, [], (List.append_nil c).symm, trivial⟩, fun ⟨c0, h0, c1, e, h1⟩ => ?_⟩
    cases c1 with
    | nil => rw [e, List.append_nil]; exact h0
    | cons _ _ => exact h1.elim
  | l :: r, found, c => by
    show c ∈ r.foldl (stepC sg) (stepC sg found l) ↔ _
    rw [fold_mem]
    constructor
    · rintro ⟨c0, h0, c1, rfl, h1⟩
      obtain ⟨d, hd, w, rfl, hl, hs, hb⟩ := step_mem.mp h0
      rw [List.getLastD_concat] at h1
      exact ⟨d, hd, w :: c1, by simp, hl, hs, (fun u e => by cases e; exact hb), h1⟩
    · rintro ⟨d, hd, c1, rfl, h1⟩
      cases c1 with
      | nil => exact h1.elim
      | cons w c1 =>
        obtain ⟨hl, hs, hb, h2⟩ := h1
        refine ⟨d ++ [w], step_mem.mpr ⟨d, hd, w, rfl, hl, hs, hb _ rfl⟩, c1, by simp, ?_⟩
        rw [List.getLastD_concat]
        exact h2
theorem codes_mem {sg l : Nat} {r : List Nat} {c : List (List Int)} : c ∈ codesF sg (l :: r) ↔ Chn sg none (l :: r) c := by
  rw [codes_eq, fold_mem]
  constructor
  · rintro ⟨c0, h0, c1, rfl, h1⟩
    obtain ⟨w, hw, rfl⟩ := List.mem_map.mp h0
    obtain ⟨hl, hs⟩ := (words_mem l w).mp hw
    exact ⟨hl, hs, (fun u e => nomatch e), h1⟩
  · intro h
    cases c with
    | nil => exact h.elim
    | cons w c =>
      obtain ⟨hl, hs, _, h2⟩ := h
      exact ⟨[w], List.mem_map.mpr ⟨w, (words_mem l w).mpr ⟨hl, hs⟩, rfl⟩, c, rfl, h2⟩
theorem codes_empty {sg : Nat} (h2 : 2 ≤ sg) {r : List Nat} {n : Nat} (h1 : 1 ≤ n) (hn : n ≤ r.length) : (codesF sg (r.take n)).isEmpty = decide ((leastF sg none r).length < n) := by
  obtain ⟨l, r', hr⟩ : ∃ l r', r.take n = l :: r' := by
    cases r with
    | nil => simp at hn; omega
    | cons l r =>
      obtain ⟨m, rfl⟩ : ∃ m, n = m + 1 := ⟨n - 1, by omega⟩
      exact ⟨l, r.take m, List.take_succ_cons⟩
  have ht := least_take sg r none n
  have hlen : (r.take n).length = n := by rw [List.length_take]; omega
  by_cases hm : (leastF sg none r).length < n
  · rw [decide_eq_true hm, List.isEmpty_iff]
    cases hc : codesF sg (r.take n) with
    | nil => rfl
    | cons c cs =>
      have hmem : c ∈ codesF sg (r.take n) := by rw [hc]; exact List.mem_cons_self
      rw [hr, codes_mem, ← hr] at hmem
      have := greedy h2 hmem (q := none) trivial
      rw [ht, hlen, List.length_take] at this
      omega
  · rw [decide_eq_false hm]
    obtain ⟨a, b⟩ := least_chn h2 (r.take n) none (fun u e => nomatch e)
    have e1 : (leastF sg none (r.take n)).length = n := by rw [ht, List.length_take]; omega
    rw [e1, List.take_of_length_le (by omega), hr] at b
    have := codes_mem.mpr b
    rw [← hr] at this
    cases hc : codesF sg (r.take n) with
    | nil => rw [hc] at this; cases this
    | cons _ _ => rfl
theorem while_gen {c : TTD} {tb : TSD} {D : DEnds} {τ : EnvD} {S : Store} (h : ∀ tb', tb' = tb → sWhile c tb' D τ S) : sWhile c tb D τ S := h tb rfl
theorem rdEq_loc {n : Nat} {a b : List W} {S : Store} {Q : WK} (e : S[n]? = some (some (.lst a))) (h1 : eqGs a = true) (h2 : eqGs b = true) (h3 : wDeps a ≤ 40) (h4 : wDeps b ≤ 40) (h : Q (.bl (eqWs a b)) S) : rdEq (.loc n) (.lst b) S Q := by
  have ed : deloc S (.loc n) = .lst a := by unfold deloc; simp only [e]
  refine ⟨by rw [ed]; simpa only [eqG] using h1, by simpa only [deloc, eqG] using h2, by rw [ed]; simp only [wDep]; omega, by simp only [deloc, wDep]; omega, ?_⟩
  rw [ed]
  simpa only [deloc, eqW] using h
def ofC (v : W) : List (List Int) := match v with
  | .tup us => us.map ofW
  | _ => []
theorem ofC_cw (c : List (List Int)) : ofC (.tup (cw c)) = c := by
  show (cw c).map ofW = c
  unfold cw
  rw [List.map_map]
  conv => rhs; rw [← List.map_id c]
  apply List.map_congr_left
  intro w _
  exact ofW_iw w
theorem ccw_len (cs : List (List (List Int))) : (ccw cs).length = cs.length := List.length_map ..
theorem ccw_app (a b : List (List (List Int))) : ccw a ++ ccw b = ccw (a ++ b) := by unfold ccw; rw [List.map_append]
theorem at_last2 (g : List W) (u w : W) : L2.atI (g ++ [u] ++ [w]) (-2) = some u := by
  unfold L2.atI L2.ixN
  rw [if_neg (by decide)]
  have : (g ++ [u] ++ [w]).length = g.length + 2 := by simp
  rw [this, if_pos (by omega)]
  show (g ++ [u] ++ [w])[(-2 + ((g.length + 2 : Nat) : Int)).toNat]? = _
  rw [show (-2 + ((g.length + 2 : Nat) : Int)).toNat = g.length by omega]
  simp
/-- what one code grows into -/
def growC (sg l : Nat) (code : List (List Int)) : List (List (List Int)) := ((wordsF sg l).filter fun w => HT.lexLt (code.getLastD []) w).map fun w => code ++ [w]
theorem step_eq (sg : Nat) (found : List (List (List Int))) (l : Nat) : stepC sg found l = (found.flatMap (growC sg l)).filter fun code => !stB (code.dropLast.getLastD []) (code.getLastD []) := rfl
theorem grow_len (sg l : Nat) (c : List (List Int)) : (growC sg l c).length ≤ (wordsF sg l).length := by
  unfold growC
  rw [List.length_map]
  exact List.length_filter_le ..
theorem flat_len {α β : Type} {f : α → List β} {k : Nat} : ∀ {xs : List α}, (∀ x ∈ xs, (f x).length ≤ k) → (xs.flatMap f).length ≤ xs.length * k
  | [], _ => Nat.zero_le _
  | x :: xs, h => by
    rw [List.flatMap_cons, List.length_append, List.length_cons, Nat.succ_mul]
    have := h x List.mem_cons_self
    have := flat_len (xs := xs) fun y hy => h y (List.mem_cons_of_mem _ hy)
    omega
theorem words_le {sg l : Nat} (h3 : sg ≤ 3) (hl : l ≤ 3) : (wordsF sg l).length ≤ 27 := by
  have : ∀ sg, sg < 4 → ∀ l, l < 4 → (wordsF sg l).length ≤ 27 := by decide +kernel
  exact this sg (by omega) l (by omega)
theorem filt_ccw (cs : List (List (List Int))) (p : W → Bool) (q : List (List Int) → Bool) (h : ∀ c, p (.tup (cw c)) = q c) : (ccw cs).filter p = ccw (cs.filter q) := by
  unfold ccw
  rw [List.filter_map]
  congr 1
  apply List.filter_congr
  intro c _
  exact h c
theorem nats_take (r : List Nat) (n : Nat) : (natsW r).take n = natsW (r.take n) := by
  unfold natsW iw
  rw [List.map_take, List.map_take]
theorem nats_rev (r : List Nat) : (natsW r).reverse = natsW r.reverse := by
  unfold natsW iw
  rw [List.map_reverse, List.map_reverse]
theorem nats_app (a b : List Nat) : natsW a ++ natsW b = natsW (a ++ b) := by
  unfold natsW iw
  rw [List.map_append, List.map_append]
theorem natsOf_nats : ∀ r : List Nat, natsOf (natsW r) = r
  | [] => rfl
  | l :: r => by
    show (((l : Nat) : Int).toNat) :: natsOf (natsW r) = l :: r
    rw [natsOf_nats r, Int.toNat_natCast]
theorem re_nats {sg : Nat} {r : List Nat} (hr : ∀ l : Nat, l ∈ r → l ≤ 16) (h1 : 1 ≤ r.length) (h2 : r.length ≤ 16) : reW sg (.tup (natsW r)) = errN sg r := by
  rw [re_row ?_ (by rw [nats_len]; exact h1) (by rw [nats_len]; exact h2), natsOf_nats]
  rw [List.all_eq_true]
  intro x hx
  unfold natsW iw at hx
  rw [List.map_map] at hx
  obtain ⟨l, hl, rfl⟩ := List.mem_map.mp hx
  have := hr l hl
  show decide ((0 : Int) ≤ ((l : Nat) : Int) ∧ ((l : Nat) : Int) ≤ 16) = true
  exact decide_eq_true ⟨by omega, by omega⟩
theorem ccw_eqG : ∀ cs : List (List (List Int)), eqGs (ccw cs) = true ∧ wDeps (ccw cs) ≤ 2
  | [] => ⟨rfl, Nat.zero_le _⟩
  | c :: cs => by
    obtain ⟨h1, h2⟩ := ccw_eqG cs
    obtain ⟨k1, k2⟩ := cw_eqG c
    refine ⟨?_, ?_⟩
    · show (eqG (.tup (cw c)) && eqGs (ccw cs)) = true
      rw [h1, Bool.and_true]
      simpa only [eqG] using k1
    · show max (wDep (.tup (cw c))) (wDeps (ccw cs)) ≤ 2
      have : wDep (.tup (cw c)) = wDeps (cw c) + 1 := by simp only [wDep]
      omega
theorem ccw_emp (cs : List (List (List Int))) : eqWs (ccw cs) [] = cs.isEmpty := by cases cs <;> rfl
/-- the counts whose rows do not fit -/
def dueN (lf : Nat) : Nat → List Int
  | 0 => []
  | m + 1 => if lf < m + 1 then dueN lf m ++ [((m + 1 : Nat) : Int)] else dueN lf m
theorem due_nil {lf : Nat} : ∀ {m : Nat}, m ≤ lf → dueN lf m = []
  | 0, _ => rfl
  | m + 1, h => by
    show (if lf < m + 1 then _ else _) = _
    rw [if_neg (by omega)]
    exact due_nil (by omega)
theorem due_head {lf : Nat} : ∀ {m : Nat}, lf < m → ∃ t, dueN lf m = ((lf + 1 : Nat) : Int) :: t
  | 0, h => by omega
  | m + 1, h => by
    show ∃ t, (if lf < m + 1 then _ else _) = _
    rw [if_pos h]
    by_cases e : lf < m
    · obtain ⟨t, ht⟩ := due_head e
      exact ⟨t ++ [((m + 1 : Nat) : Int)], by rw [ht]; rfl⟩
    · have : lf = m := by omega
      subst this
      exact ⟨[], by rw [due_nil (Nat.le_refl _)]; rfl⟩
theorem non_itd : ItD .non := ⟨⟨rfl, by decide, by decide, by unfold Unm; rfl⟩, rfl⟩
theorem err_itd {sg : Nat} {r : List Nat} (h : r.length ≤ 16) : ItD (errN sg r) := by
  unfold errN
  have := least_len sg r none
  split
  · exact non_itd
  · exact itN (by omega)
theorem re_ok (sg : Nat) (v : W) : CeOk (reW sg v) := by
  unfold reW
  split
  · rename_i h
    have hl : (rowR v).length ≤ 16 := by
      cases v with
      | tup us =>
        unfold rowB at h
        rw [Bool.and_eq_true] at h
        have := of_decide_eq_true h.2
        show (natsOf us).length ≤ 16
        unfold natsOf
        rw [List.length_map]
        exact this
      | _ => cases h
    unfold errN
    have := least_len sg (rowR v) none
    split
    · exact ⟨rfl, by decide, by decide, rfl⟩
    · obtain ⟨h1, h2⟩ := int_c (i := (((leastF sg none (rowR v)).length : Nat) : Int)) (by omega)
      exact ⟨h1, by omega, by show 0 ≤ 2; omega, rfl⟩
  · exact ⟨by decide +kernel, by decide +kernel, by decide +kernel, rfl⟩
theorem nat_it {r : List Nat} (hr : ∀ l : Nat, l ∈ r → l ≤ 16) : ∀ u ∈ natsW r, itB 400 17 u = true := by
  intro u hu
  unfold natsW iw at hu
  rw [List.map_map] at hu
  obtain ⟨l, hl, rfl⟩ := List.mem_map.mp hu
  have := hr l hl
  have h : ∀ l, l < 17 → itB 400 17 (.int ((l : Nat) : Int)) = true := by decide +kernel
  exact h l (by omega)
theorem vl_it {us : List W} (h : ∀ u ∈ us, itB 400 17 u = true) (hl : us.length ≤ 1000) : Vl (.tup us) := Vl.tup (c := 400) (fun u hu => itB_p (h u hu)) (by omega)
theorem nats_small {r : List Nat} (hr : ∀ l : Nat, l ∈ r → l ≤ 16) : small (r.map fun (k : Nat) => (k : Int)) := by
  intro n hn
  obtain ⟨l, hl, rfl⟩ := List.mem_map.mp hn
  have := hr l hl
  omega
theorem vl_lst {r : List Nat} (hr : ∀ l : Nat, l ∈ r → l ≤ 16) (hl : r.length ≤ 100) : Vl (.lst (natsW r)) := by
  obtain ⟨h1, h2, h3, h4, h5⟩ := iw_ok (nats_small hr)
  rw [List.length_map] at h2
  refine ⟨by simp only [good]; exact h1, ?_, ?_, .inl ?_⟩
  · show wCost (.lst (iw (r.map fun (k : Nat) => (k : Int)))) ≤ _
    simp only [wCost]; omega
  · show wDep (.lst (iw (r.map fun (k : Nat) => (k : Int)))) ≤ _
    simp only [wDep]; omega
  · show Unm (.lst (iw (r.map fun (k : Nat) => (k : Int))))
    unfold Unm; simp only [hD, h4]; rfl
theorem vl_one {r : List Nat} (hr : ∀ l : Nat, l ∈ r → l ≤ 16) (hl : r.length ≤ 100) : Vl (.tup [.tup (natsW r)]) :=
  Vl.tup (c := 72003) (fun u hu => by
    have : u = .tup (natsW r) := by simpa using hu
    subst this
    exact (itI (nats_small hr) (by rw [List.length_map]; omega)).p) (by show 1 * _ + 3 ≤ _; omega)
theorem flat_one (x : W) : ∀ n, (List.replicate n [x]).flatten = List.replicate n x
  | 0 => rfl
  | n + 1 => by rw [List.replicate_succ, List.flatten_cons, flat_one x n]; rfl
theorem vl_rep {n : Nat} {x : W} (h : itB 400 17 x = true) (hn : n ≤ 100) : Vl (.tup (List.replicate n [x]).flatten) := by
  rw [flat_one]
  refine vl_it (fun u hu => ?_) (by rw [List.length_replicate]; omega)
  rw [List.eq_of_mem_replicate hu]
  exact h
theorem for_vals {g : W → EnvD → Option EnvD} {tb : TSD} {D : DEnds} {τ : EnvD} {S : Store} {xs : List W} (h : ∀ v ∈ xs, Vl v) (k : ∀ ys : List W, (∀ v ∈ ys, Vl v) → forI g tb D ys τ S) : forI g tb D xs τ S := k xs h

/-- a code of the row -/
structure Cd (sg : Nat) (r : List Nat) (c : List (List Int)) : Prop where
  l : c.map List.length = r
  s : ∀ w ∈ c, Sg sg w
  p : c.Pairwise Bef
theorem Cd.len {sg : Nat} {r : List Nat} {c : List (List Int)} (h : Cd sg r c) : c.length = r.length := by rw [← h.l, List.length_map]
theorem chn_cd {sg : Nat} : ∀ {r : List Nat} {c : List (List Int)} {p : Option (List Int)}, Chn sg p r c → Cd sg r c ∧ ∀ u, p = some u → ∀ w ∈ c, Bef u w
  | [], [], none, _ => ⟨⟨rfl, (fun _ h => nomatch h), List.Pairwise.nil⟩, fun _ h => nomatch h⟩
  | [], [], some _, _ => ⟨⟨rfl, (fun _ h => nomatch h), List.Pairwise.nil⟩, fun _ _ _ h => nomatch h⟩
  | [], _ :: _, none, h => h.elim
  | [], _ :: _, some _, h => h.elim
  | _ :: _, [], none, h => h.elim
  | _ :: _, [], some _, h => h.elim
  | l :: r, w :: c, p, h => by
    have h' : w.length = l ∧ Sg sg w ∧ (∀ u, p = some u → Bef u w) ∧ Chn sg (some w) r c := by cases p <;> exact h
    obtain ⟨h1, h2, h3, h4⟩ := h'
    obtain ⟨a, b⟩ := chn_cd h4
    have b := b w rfl
    refine ⟨⟨by rw [List.map_cons, h1, a.l], fun v hv => ?_, List.pairwise_cons.mpr ⟨b, a.p⟩⟩, fun u hu v hv => ?_⟩
    · rcases List.mem_cons.mp hv with rfl | hv
      · exact h2
      · exact a.s v hv
    · rcases List.mem_cons.mp hv with rfl | hv
      · exact h3 u hu
      · exact bef_trans (h3 u hu) (b v hv)
theorem cd_chn {sg : Nat} : ∀ {r : List Nat} {c : List (List Int)} {p : Option (List Int)}, Cd sg r c → (∀ u, p = some u → ∀ w ∈ c, Bef u w) → Chn sg p r c
  | [], [], none, _, _ => trivial
  | [], [], some _, _, _ => trivial
  | [], _ :: _, _, h, _ => by have := h.l; simp at this
  | _ :: _, [], _, h, _ => by have := h.l; simp at this
  | l :: r, w :: c, p, h, hp => by
    have hl := h.l
    rw [List.map_cons] at hl
    obtain ⟨l1, l2⟩ := List.cons.inj hl
    obtain ⟨p1, p2⟩ := List.pairwise_cons.mp h.p
    have h' : w.length = l ∧ Sg sg w ∧ (∀ u, p = some u → Bef u w) ∧ Chn sg (some w) r c :=
      ⟨l1, h.s w List.mem_cons_self, fun u hu => hp u hu w List.mem_cons_self, cd_chn ⟨l2, fun v hv => h.s v (List.mem_cons_of_mem _ hv), p2⟩ fun u hu v hv => by cases hu; exact p1 v hv⟩
    cases p <;> exact h'
theorem chn_iff {sg : Nat} {r : List Nat} {c : List (List Int)} : Chn sg none r c ↔ Cd sg r c := ⟨fun h => (chn_cd h).1, fun h => cd_chn h fun _ h => nomatch h⟩
/-- same or ahead -/
def LeB (u v : List Int) : Prop := u = v ∨ Bef u v
/-- the least words are the least of each key -/
theorem least_at {sg : Nat} (h2 : 2 ≤ sg) : ∀ {r : List Nat} {c : List (List Int)} {p q : Option (List Int)}, Chn sg p r c → LeO q p → ∀ (k : Nat) (w : List Int), c[k]? = some w → ∃ u, (leastF sg q r)[k]? = some u ∧ LeB u w
  | _, [], _, _, _, _, k, w, e => by simp at e
  | [], _ :: _, none, _, h, _, _, _, _ => h.elim
  | [], _ :: _, some _, _, h, _, _, _, _ => h.elim
  | _ :: _, _ :: _, none, some _, _, h, _, _, _ => h.elim
  | _ :: _, _ :: _, some _, none, _, h, _, _, _ => h.elim
  | l :: r, w0 :: c, none, none, h, _, k, w, e => by
    obtain ⟨h1, hs, _, h3⟩ := h
    have hl : LeB (List.replicate l 0) w0 := pad_least h1 fun y hy => (hs y hy).1
    cases k with
    | zero =>
      cases e
      exact ⟨_, rfl, hl⟩
    | succ k => exact least_at h2 (q := some (List.replicate l 0)) h3 hl k w e
  | l :: r, w0 :: c, some p, some q, h, hq, k, w, e => by
    obtain ⟨h1, hs, hp, h3⟩ := h
    have hb : Bef q w0 := by
      have hpw := hp p rfl
      rcases hq with rfl | hq
      · exact hpw
      · exact bef_trans hq hpw
    obtain ⟨u, e1, e2⟩ := next_least hs h1 hb
    have el : leastF sg (some q) (l :: r) = u :: leastF sg (some u) r := by
      show (match nextF sg q l with
        | none => []
        | some v => v :: leastF sg (some v) r) = _
      rw [e1]
    rw [el]
    cases k with
    | zero =>
      cases e
      exact ⟨u, rfl, e2⟩
    | succ k => exact least_at h2 (q := some u) h3 e2 k w e
/-- a code there is just if the least words are as many as the row's -/
theorem least_cd {sg : Nat} (h2 : 2 ≤ sg) {r : List Nat} (h : (leastF sg none r).length = r.length) : Cd sg r (leastF sg none r) := by
  have := (least_chn h2 r none fun _ h => nomatch h).2
  rw [h, List.take_length] at this
  exact chn_iff.mp this
theorem cd_full {sg : Nat} (h2 : 2 ≤ sg) {r : List Nat} {c : List (List Int)} (h : Cd sg r c) : (leastF sg none r).length = r.length := greedy h2 (chn_iff.mpr h) (q := none) trivial
/-! ### from the other end -/
def mirW (sg : Nat) (w : List Int) : List Int := w.map fun x => ((sg : Nat) : Int) - 1 - x
theorem mir_mir (sg : Nat) (w : List Int) : mirW sg (mirW sg w) = w := by
  unfold mirW
  rw [List.map_map]
  conv => rhs; rw [← List.map_id w]
  refine List.map_congr_left fun x _ => ?_
  show ((sg : Nat) : Int) - 1 - (((sg : Nat) : Int) - 1 - x) = x
  omega
theorem mir_len (sg : Nat) (w : List Int) : (mirW sg w).length = w.length := List.length_map ..
theorem mir_sg {sg : Nat} {w : List Int} (h : Sg sg w) : Sg sg (mirW sg w) := fun x hx => by
  obtain ⟨y, hy, rfl⟩ := List.mem_map.mp hx
  have := h y hy
  omega
theorem bef_mir {sg : Nat} {u v : List Int} (h : Bef u v) : Bef (mirW sg v) (mirW sg u) := by
  obtain ⟨p, x, s, y, t, rfl, rfl, hxy⟩ := h
  exact ⟨mirW sg p, _, mirW sg t, _, mirW sg s, by unfold mirW; rw [List.map_append, List.map_cons], by unfold mirW; rw [List.map_append, List.map_cons], by omega⟩
def mirC (sg : Nat) (c : List (List Int)) : List (List Int) := (c.map (mirW sg)).reverse
theorem mirC_mirC (sg : Nat) (c : List (List Int)) : mirC sg (mirC sg c) = c := by
  unfold mirC
  rw [List.map_reverse, List.reverse_reverse, List.map_map]
  conv => rhs; rw [← List.map_id c]
  exact List.map_congr_left fun w _ => mir_mir sg w
theorem mirC_len (sg : Nat) (c : List (List Int)) : (mirC sg c).length = c.length := by unfold mirC; rw [List.length_reverse, List.length_map]
theorem cd_mir {sg : Nat} {r : List Nat} {c : List (List Int)} (h : Cd sg r c) : Cd sg r.reverse (mirC sg c) := by
  refine ⟨?_, fun w hw => ?_, ?_⟩
  · unfold mirC
    rw [List.map_reverse, List.map_map, ← h.l]
    congr 1
    exact List.map_congr_left fun w _ => mir_len sg w
  · obtain ⟨v, hv, rfl⟩ := List.mem_map.mp (List.mem_reverse.mp hw)
    exact mir_sg (h.s v hv)
  · unfold mirC
    rw [List.pairwise_reverse, List.pairwise_map]
    exact h.p.imp fun h => bef_mir h
/-- the greatest words -/
def highF (sg : Nat) (r : List Nat) : List (List Int) := mirC sg (leastF sg none r.reverse)
theorem high_cd {sg : Nat} (h2 : 2 ≤ sg) {r : List Nat} {c : List (List Int)} (h : Cd sg r c) : Cd sg r (highF sg r) := by
  have := cd_mir (least_cd h2 (cd_full h2 (cd_mir h)))
  rw [List.reverse_reverse] at this
  exact this
theorem leB_mir {sg : Nat} {u v : List Int} (h : LeB u v) : LeB (mirW sg v) (mirW sg u) := by
  rcases h with rfl | h
  · exact .inl rfl
  · exact .inr (bef_mir h)
theorem mirC_at {sg : Nat} {c : List (List Int)} {k : Nat} (hk : k < c.length) : (mirC sg c)[k]? = (c[c.length - 1 - k]?).map (mirW sg) := by
  unfold mirC
  rw [List.getElem?_reverse (by rw [List.length_map]; exact hk), List.length_map, List.getElem?_map]
theorem high_at {sg : Nat} (h2 : 2 ≤ sg) {r : List Nat} {c : List (List Int)} (h : Cd sg r c) {k : Nat} {w : List Int} (e : c[k]? = some w) : ∃ u, (highF sg r)[k]? = some u ∧ LeB w u := by
  have hk := (List.getElem?_eq_some_iff.mp e).1
  have hm := cd_mir h
  have hml := mirC_len sg c
  have e1 : (mirC sg c)[c.length - 1 - k]? = some (mirW sg w) := by
    rw [mirC_at (by omega), show c.length - 1 - (c.length - 1 - k) = k by omega, e]
    rfl
  obtain ⟨u, u1, u2⟩ := least_at h2 (chn_iff.mpr hm) (q := none) trivial _ _ e1
  have hf := cd_full h2 hm
  have hl : (leastF sg none r.reverse).length = c.length := by rw [hf, List.length_reverse, h.len]
  refine ⟨mirW sg u, ?_, ?_⟩
  · unfold highF
    rw [mirC_at (by omega), hl, u1]
    rfl
  · have := leB_mir (sg := sg) u2
    rw [mir_mir] at this
    exact this
/-- what lies between the least and the greatest word of a key is its word in some code -/
theorem between {sg : Nat} {r : List Nat} {L H : List (List Int)} {k : Nat} {lo hi w : List Int} (hL : Cd sg r L) (hH : Cd sg r H) (e1 : L[k]? = some lo) (e2 : H[k]? = some hi) (hs : Sg sg w) (hl : w.length = lo.length) (h1 : LeB lo w) (h2 : LeB w hi) : Cd sg r (L.take k ++ w :: H.drop (k + 1)) ∧ (L.take k ++ w :: H.drop (k + 1))[k]? = some w := by
  have hk := (List.getElem?_eq_some_iff.mp e1).1
  have hk2 := (List.getElem?_eq_some_iff.mp e2).1
  have tk : (L.take k).length = k := by rw [List.length_take]; omega
  have eL : L = L.take k ++ lo :: L.drop (k + 1) := by
    have e := List.getElem_cons_drop hk
    rw [(List.getElem?_eq_some_iff.mp e1).2] at e
    rw [e, List.take_append_drop]
  have eH : H = H.take k ++ hi :: H.drop (k + 1) := by
    have e := List.getElem_cons_drop hk2
    rw [(List.getElem?_eq_some_iff.mp e2).2] at e
    rw [e, List.take_append_drop]
  have pL := hL.p
  rw [eL] at pL
  have pH := hH.p
  rw [eH] at pH
  obtain ⟨a1, a2, a3⟩ := List.pairwise_append.mp pL
  obtain ⟨b1, b2, b3⟩ := List.pairwise_append.mp pH
  obtain ⟨b4, b5⟩ := List.pairwise_cons.mp b2
  have hw : ∀ a ∈ L.take k, Bef a w := fun a ha => by
    have := a3 a ha lo List.mem_cons_self
    rcases h1 with rfl | h1
    · exact this
    · exact bef_trans this h1
  have hv : ∀ b ∈ H.drop (k + 1), Bef w b := fun b hb => by
    have := b4 b hb
    rcases h2 with rfl | h2
    · exact this
    · exact bef_trans h2 this
  refine ⟨⟨?_, fun v hv => ?_, ?_⟩, ?_⟩
  · rw [List.map_append, List.map_cons, List.map_take, List.map_drop, hL.l, hH.l, hl]
    have e3 : r[k]? = some lo.length := by rw [← hL.l, List.getElem?_map, e1]; rfl
    obtain ⟨hr, e3⟩ := List.getElem?_eq_some_iff.mp e3
    rw [← e3, List.getElem_cons_drop hr, List.take_append_drop]
  · rcases List.mem_append.mp hv with hv | hv
    · exact hL.s v (List.mem_of_mem_take hv)
    rcases List.mem_cons.mp hv with rfl | hv
    · exact hs
    · exact hH.s v (List.mem_of_mem_drop hv)
  · refine List.pairwise_append.mpr ⟨a1, List.pairwise_cons.mpr ⟨hv, b5⟩, fun a ha b hb => ?_⟩
    rcases List.mem_cons.mp hb with rfl | hb
    · exact hw a ha
    · exact bef_trans (hw a ha) (hv b hb)
  · rw [List.getElem?_append_right (by omega), tk, Nat.sub_self]
    rfl
theorem le_leB {u v : List Int} (hl : u.length = v.length) : (u = v ∨ u < v) ↔ LeB u v := by
  refine ⟨fun h => ?_, fun h => ?_⟩
  · rcases h with h | h
    · exact .inl h
    · by_cases hp : u <+: v
      · exact .inl (hp.eq_of_length hl)
      · exact .inr (lt_bef h hp)
  · rcases h with h | h
    · exact .inl h
    · exact .inr (bef_lt h)
/-- the words of a key over all codes -/
theorem words_at {sg : Nat} (h2 : 2 ≤ sg) {r : List Nat} {k : Nat} {lo hi w : List Int} (hf : (leastF sg none r).length = r.length) (e1 : (leastF sg none r)[k]? = some lo) (e2 : (highF sg r)[k]? = some hi) :
    (∃ c, Chn sg none r c ∧ c[k]? = some w) ↔ w.length = lo.length ∧ Sg sg w ∧ LeB lo w ∧ LeB w hi := by
  have hL := least_cd h2 hf
  refine ⟨fun ⟨c, hc, ew⟩ => ?_, fun ⟨a, b, c, d⟩ => ?_⟩
  · have hc' := chn_iff.mp hc
    obtain ⟨u, u1, u2⟩ := least_at h2 hc (q := none) trivial k w ew
    rw [e1] at u1
    cases u1
    obtain ⟨v, v1, v2⟩ := high_at h2 hc' ew
    rw [e2] at v1
    cases v1
    refine ⟨?_, hc'.s w (List.mem_of_getElem? ew), u2, v2⟩
    have q1 : r[k]? = some w.length := by rw [← hc'.l, List.getElem?_map, ew]; rfl
    have q2 : r[k]? = some lo.length := by rw [← hL.l, List.getElem?_map, e1]; rfl
    rw [q1] at q2
    exact Option.some.inj q2
  · obtain ⟨x, y⟩ := between hL (high_cd h2 hL) e1 e2 b a c d
    exact ⟨_, chn_iff.mpr x, y⟩

/-! ### specs of k09 -/
/-- the row of the least words, or the number of the first key that has none -/
def firstF (sg : Nat) (r : List Nat) : List (List Int) := leastF sg none r
def sp_mirrored : FL.Spec := fun ws S Q => ∃ (sg : Nat) (w : List Int), ws = [.int (sg : Nat), .tup (iw w)] ∧ sg ≤ 100 ∧ w.length ≤ 1000 ∧ (∀ x ∈ w, 0 ≤ x ∧ x ≤ 100) ∧ Q (.tup (iw (mirW sg w))) S
theorem sp_mirrored_len : ∀ ws S Q, sp_mirrored ws S Q → ws.length = 2 := by rintro _ _ _ ⟨a, b, rfl, _⟩; rfl
/-- what is asked of the arguments of first_words and so on -/
structure RowIn (sg : Nat) (r : List Nat) : Prop where
  g : 2 ≤ sg
  h : sg ≤ 6
  l : ∀ l ∈ r, l ≤ 16
  n : 1 ≤ r.length
  m : r.length ≤ 16
def fitB (sg : Nat) (r : List Nat) : Bool := decide ((leastF sg none r).length = r.length)
def sp_first_words (C : Addr) : SpecX := fun ws S Q E => ∃ (sg : Nat) (r : List Nat) (h : W), ws = [.int (sg : Nat), .tup (natsW r), h] ∧ ttT h = some (List.replicate r.length .non) ∧ RowIn sg r ∧
  (fitB sg r = true → ∀ S', Pre S S' → Q (.tup (cw (leastF sg none r))) S') ∧ (fitB sg r = false → ∀ S', Pre S S' → E C [("key", .int ((leastF sg none r).length : Nat))] S')
theorem sp_first_words_len (C : Addr) : ∀ ws S Q E, sp_first_words C ws S Q E → ws.length = 3 := by rintro _ _ _ _ ⟨a, b, c, rfl, _⟩; rfl
def sp_last_words (C : Addr) : SpecX := fun ws S Q E => ∃ (sg : Nat) (r : List Nat), ws = [.int (sg : Nat), .tup (natsW r), .tup (List.replicate r.length .non)] ∧ RowIn sg r ∧
  (fitB sg r = true → ∀ S', Pre S S' → Q (.tup (cw (highF sg r))) S') ∧ (fitB sg r = false → ∀ S', Pre S S' → E C [("key", .int ((leastF sg none r).length : Nat))] S')
theorem sp_last_words_len (C : Addr) : ∀ ws S Q E, sp_last_words C ws S Q E → ws.length = 3 := by rintro _ _ _ _ ⟨a, b, rfl, _⟩; rfl
def sp_first_code (C : Addr) : SpecX := fun ws S Q E => ∃ (sg : Nat) (r : List Nat), ws = [.int (sg : Nat), .tup (natsW r)] ∧ RowIn sg r ∧
  (fitB sg r = true → ∀ S', Pre S S' → Q (.tup (cw (leastF sg none r))) S') ∧ (fitB sg r = false → ∀ S', Pre S S' → E C [("key", .int ((leastF sg none r).length : Nat))] S')
theorem sp_first_code_len (C : Addr) : ∀ ws S Q E, sp_first_code C ws S Q E → ws.length = 2 := by rintro _ _ _ _ ⟨a, b, rfl, _⟩; rfl
def sp_last_code (C : Addr) : SpecX := fun ws S Q E => ∃ (sg : Nat) (r : List Nat), ws = [.int (sg : Nat), .tup (natsW r)] ∧ RowIn sg r ∧
  (fitB sg r = true → ∀ S', Pre S S' → Q (.tup (cw (highF sg r))) S') ∧ (fitB sg r = false → ∀ S', Pre S S' → E C [("key", .int ((leastF sg none r).length : Nat))] S')
theorem sp_last_code_len (C : Addr) : ∀ ws S Q E, sp_last_code C ws S Q E → ws.length = 2 := by rintro _ _ _ _ ⟨a, b, rfl, _⟩; rfl
def wdAt (c : List (List Int)) (k : Nat) : List Int := c.getD k []
def sp_words_of (C : Addr) : SpecX := fun ws S Q E => ∃ (sg : Nat) (r : List Nat) (k : Nat), ws = [.int (sg : Nat), .tup (natsW r), .int (k : Nat)] ∧ RowIn sg r ∧ k < r.length ∧
  (fitB sg r = true → ∀ S', Pre S S' → Q (.tup [.tup (iw (wdAt (leastF sg none r) k)), .tup (iw (wdAt (highF sg r) k))]) S') ∧ (fitB sg r = false → ∀ S', Pre S S' → E C [("key", .int ((leastF sg none r).length : Nat))] S')
theorem sp_words_of_len (C : Addr) : ∀ ws S Q E, sp_words_of C ws S Q E → ws.length = 3 := by rintro _ _ _ _ ⟨a, b, c, rfl, _⟩; rfl
def sp_law_told : FL.Spec := fun ws S Q => ∃ (sg : Nat) (r : List Nat) (k : Nat), ws = [.int (sg : Nat), .tup (natsW r), .int (k : Nat)] ∧ RowIn sg r ∧ k < r.length ∧
  ∀ S', Pre S S' → Q (if fitB sg r = true then .tup [.tup (iw (wdAt (leastF sg none r) k)), .tup (iw (wdAt (highF sg r) k))] else .lst [.int ((leastF sg none r).length : Nat)]) S'
theorem sp_law_told_len : ∀ ws S Q, sp_law_told ws S Q → ws.length = 3 := by rintro _ _ _ ⟨a, b, c, rfl, _⟩; rfl
def sp_law_between : FL.Spec := fun ws S Q => ∃ (d sg : Nat) (lo hi : List Int) (N : Int), ws = [.loc d, .int (sg : Nat), .tup (iw lo), .tup (iw hi)] ∧ 2 ≤ sg ∧ sg ≤ 6 ∧ lo.length ≤ 16 ∧ hi.length = lo.length ∧ Sg sg lo ∧ Sg sg hi ∧ LeB lo hi ∧ DeckAt S d N ∧ N ≤ 900000000 ∧
  ∀ w S', w.length = lo.length → Sg sg w → LeB lo w → LeB w hi → DeckAt S' d (N + 100) → Ch d S S' → Q (.tup (iw w)) S'
theorem sp_law_between_len : ∀ ws S Q, sp_law_between ws S Q → ws.length = 4 := by rintro _ _ _ ⟨a, b, c, d, e, rfl, _⟩; rfl
def sp_law_goes : FL.Spec := fun ws S Q => ∃ (sg : Nat) (r : List Nat) (k : Nat) (w : List Int), ws = [.int (sg : Nat), .tup (natsW r), .int (k : Nat), .tup (iw w)] ∧ RowIn sg r ∧ k < r.length ∧ fitB sg r = true ∧ w.length ≤ 16 ∧ Sg sg w ∧
  LeB (wdAt (leastF sg none r) k) w ∧ LeB w (wdAt (highF sg r) k) ∧ ∀ S', Pre S S' → Q (.bl true) S'
theorem sp_law_goes_len : ∀ ws S Q, sp_law_goes ws S Q → ws.length = 4 := by rintro _ _ _ ⟨a, b, c, d, rfl, _⟩; rfl
theorem at_word {c : List (List Int)} {k : Nat} (hk : k < c.length) : L2.atI (cw c) ((k : Nat) : Int) = some (.tup (iw (wdAt c k))) := by
  unfold L2.atI L2.ixN wdAt
  rw [if_pos (by omega), cw_len, if_pos (by omega)]
  unfold cw
  rw [List.getD_eq_getElem?_getD, List.getElem?_eq_getElem hk]
  simp [hk]
def mirE (sg : Nat) : W → W := fun x => .tup (iw (mirW sg (ofW x)))
theorem mirE_map (sg : Nat) (r : List Nat) : (cw (leastF sg none r.reverse)).reverse.map (mirE sg) = cw (highF sg r) := by
  unfold highF mirC cw
  rw [List.map_reverse, List.map_reverse, List.map_map, List.map_map]
  congr 1
  refine List.map_congr_left fun w _ => ?_
  show W.tup (iw (mirW sg (ofW (.tup (iw w))))) = _
  rw [ofW_iw]
  rfl
theorem lex_tri : ∀ u v : List Int, HT.lexLt v u = false → u = v ∨ HT.lexLt u v = true
  | [], [], _ => .inl rfl
  | [], _ :: _, _ => .inr rfl
  | _ :: _, [], h => by cases h
  | x :: u, y :: v, h => by
    rw [HT.lexLt_cons] at h ⊢
    by_cases e : x = y
    · subst e
      rw [if_pos rfl] at h ⊢
      rcases lex_tri u v h with rfl | h
      · exact .inl rfl
      · exact .inr h
    · rw [if_neg fun z => e z.symm] at h
      rw [if_neg e]
      have := of_decide_eq_false h
      exact .inr (decide_eq_true (by omega))
theorem le_lex {u v : List Int} (hl : u.length = v.length) : (!HT.lexLt v u) = true ↔ LeB u v := by
  rw [← le_leB hl]
  constructor
  · intro h
    rcases lex_tri u v (by simpa using h) with h | h
    · exact .inl h
    · rw [← lt_lex] at h
      exact .inr (of_decide_eq_true h)
  · intro h
    rw [← lt_lex]
    rcases h with rfl | h
    · rw [decide_eq_false (fun z => absurd z (List.lt_irrefl _))]; rfl
    · rw [decide_eq_false (fun z => absurd (List.lt_trans h z) (List.lt_irrefl _))]; rfl
theorem intsOf_iw (v : List Int) : intsOf (iw v) = some v := intsOf_map v
theorem nats_drop (r : List Nat) (n : Nat) : (natsW r).drop n = natsW (r.drop n) := by unfold natsW iw; rw [← List.map_drop, ← List.map_drop]
theorem last_left {sg : Nat} {r : List Nat} {L : List (List Int)} {k : Nat} {w : List Int} (hL : Cd sg r L) (hk : k < r.length) (h0 : 0 < k) (h1 : LeB (wdAt L k) w) : ∃ A u, L.take k = A ++ [u] ∧ Bef u w ∧ u ∈ L := by
  have hl := hL.len
  have hk1 : k - 1 < L.length := by omega
  have hk2 : k < L.length := by omega
  refine ⟨L.take (k - 1), L[k - 1], ?_, ?_, List.getElem_mem _⟩
  · have := List.take_succ_eq_append_getElem hk1
    rw [show k - 1 + 1 = k by omega] at this
    exact this
  · have hp := List.pairwise_iff_getElem.mp hL.p (k - 1) k hk1 hk2 (by omega)
    have e : wdAt L k = L[k] := by unfold wdAt; simp [hk2]
    rw [e] at h1
    rcases h1 with h1 | h1
    · rw [← h1]; exact hp
    · exact bef_trans hp h1
theorem mir_wd {sg : Nat} {r : List Nat} {k : Nat} (hl : (leastF sg none r.reverse).length = r.length) (hk : k < r.length) : wdAt (leastF sg none r.reverse) (r.length - (k + 1)) = mirW sg (wdAt (highF sg r) k) := by
  have h1 : (highF sg r)[k]? = ((leastF sg none r.reverse)[(leastF sg none r.reverse).length - 1 - k]?).map (mirW sg) := mirC_at (by omega)
  have hk2 : r.length - (k + 1) < (leastF sg none r.reverse).length := by omega
  have e : (leastF sg none r.reverse)[(leastF sg none r.reverse).length - 1 - k]? = some (leastF sg none r.reverse)[r.length - (k + 1)] := by
    rw [show (leastF sg none r.reverse).length - 1 - k = r.length - (k + 1) by omega]
    exact List.getElem?_eq_getElem hk2
  rw [e] at h1
  unfold wdAt
  rw [List.getD_eq_getElem?_getD, List.getD_eq_getElem?_getD, h1, List.getElem?_eq_getElem hk2]
  show _ = mirW sg (mirW sg _)
  rw [mir_mir]
  rfl
/-! the words of a key over all codes, in order -/
theorem nodup_sub {α : Type} [DecidableEq α] : ∀ {a b : List α}, a.Nodup → (∀ x ∈ a, x ∈ b) → a.length ≤ b.length
  | [], _, _, _ => Nat.zero_le _
  | x :: a, b, hn, hs => by
    obtain ⟨h1, h2⟩ := List.nodup_cons.mp hn
    have hx := hs x List.mem_cons_self
    have h3 := nodup_sub (b := b.erase x) h2 fun y hy => (List.mem_erase_of_ne (fun e : y = x => h1 (by rw [← e]; exact hy))).mpr (hs y (List.mem_cons_of_mem _ hy))
    rw [List.length_erase_of_mem hx] at h3
    have := List.length_pos_of_mem hx
    simp only [List.length_cons]
    omega
theorem words_bef (sg : Nat) : ∀ n, (wordsF sg n).Pairwise Bef
  | 0 => List.pairwise_singleton _ _
  | n + 1 => by
    show ((wordsF sg n).flatMap (extF sg)).Pairwise Bef
    rw [List.pairwise_flatMap]
    refine ⟨fun w _ => ?_, (words_bef sg n).imp fun {u v} h x hx y hy => ?_⟩
    · unfold extF
      rw [List.pairwise_map]
      exact List.pairwise_lt_range.imp fun {i j} hij => ⟨w, i, [], j, [], rfl, rfl, by omega⟩
    · obtain ⟨i, _, rfl⟩ := List.mem_map.mp hx
      obtain ⟨j, _, rfl⟩ := List.mem_map.mp hy
      obtain ⟨p, a, s, b, t, rfl, rfl, hab⟩ := h
      exact ⟨p, a, s ++ [(i : Int)], b, t ++ [(j : Int)], by simp, by simp, hab⟩
theorem asc_eq : ∀ {a b : List (List Int)}, a.Pairwise (· < ·) → b.Pairwise (· < ·) → (∀ x, x ∈ a ↔ x ∈ b) → a = b
  | [], [], _, _, _ => rfl
  | [], y :: b, _, _, h => nomatch (h y).mpr List.mem_cons_self
  | x :: a, [], _, _, h => nomatch (h x).mp List.mem_cons_self
  | x :: a, y :: b, ha, hb, h => by
    obtain ⟨a1, a2⟩ := List.pairwise_cons.mp ha
    obtain ⟨b1, b2⟩ := List.pairwise_cons.mp hb
    have e : x = y := by
      rcases List.mem_cons.mp ((h x).mp List.mem_cons_self) with e | e
      · exact e
      · rcases List.mem_cons.mp ((h y).mpr List.mem_cons_self) with e2 | e2
        · exact e2.symm
        · exact absurd (b1 x e) (List.lt_asymm (a1 y e2))
    subst e
    congr 1
    refine asc_eq a2 b2 fun z => ⟨fun hz => ?_, fun hz => ?_⟩
    · rcases List.mem_cons.mp ((h z).mp (List.mem_cons_of_mem _ hz)) with e | e
      · subst e; exact absurd (a1 z hz) (List.lt_irrefl z)
      · exact e
    · rcases List.mem_cons.mp ((h z).mpr (List.mem_cons_of_mem _ hz)) with e | e
      · subst e; exact absurd (b1 z hz) (List.lt_irrefl z)
      · exact e
theorem sorted_lt {a : List (List Int)} (ha : a.Pairwise fun p q => HT.lexLt q p = false) (hn : a.Nodup) : a.Pairwise (· < ·) := by
  refine (ha.and hn).imp fun {p q} ⟨h1, h2⟩ => ?_
  rw [← lt_lex] at h1
  have h3 := List.not_lt.mp (of_decide_eq_false h1)
  rcases List.le_iff_lt_or_eq.mp h3 with q | q
  · exact q
  · exact absurd q h2
def colF (sg : Nat) (r : List Nat) (k : Nat) : List (List Int) := (codesF sg r).map fun c => wdAt c k
def betF (sg l : Nat) (lo hi : List Int) : List (List Int) := (wordsF sg l).filter fun w => !HT.lexLt w lo && !HT.lexLt hi w
theorem bet_mem {sg l : Nat} {lo hi w : List Int} (h1 : lo.length = l) (h2 : hi.length = l) : w ∈ betF sg l lo hi ↔ w.length = l ∧ Sg sg w ∧ LeB lo w ∧ LeB w hi := by
  unfold betF
  rw [List.mem_filter, words_mem, Bool.and_eq_true]
  constructor
  · rintro ⟨⟨a, b⟩, c, d⟩
    exact ⟨a, b, (le_lex (h1.trans a.symm)).mp c, (le_lex (a.trans h2.symm)).mp d⟩
  · rintro ⟨a, b, c, d⟩
    exact ⟨⟨a, b⟩, (le_lex (h1.trans a.symm)).mpr c, (le_lex (a.trans h2.symm)).mpr d⟩
theorem bet_asc (sg l : Nat) (lo hi : List Int) : (betF sg l lo hi).Pairwise (· < ·) := List.Pairwise.filter _ ((words_bef sg l).imp bef_lt)
theorem col_mem {sg : Nat} {r : List Nat} {k l : Nat} (hi : RowIn sg r) (hf : fitB sg r = true) (hk : r[k]? = some l) (w : List Int) : w ∈ colF sg r k ↔ w.length = l ∧ Sg sg w ∧ LeB (wdAt (leastF sg none r) k) w ∧ LeB w (wdAt (highF sg r) k) := by
  have hf' : (leastF sg none r).length = r.length := of_decide_eq_true hf
  have hL := least_cd hi.g hf'
  have hH := high_cd hi.g hL
  have hkr := (List.getElem?_eq_some_iff.mp hk).1
  have k1 : k < (leastF sg none r).length := by rw [hL.len]; exact hkr
  have k2 : k < (highF sg r).length := by rw [hH.len]; exact hkr
  have e1 : (leastF sg none r)[k]? = some (wdAt (leastF sg none r) k) := by unfold wdAt; rw [List.getD_eq_getElem?_getD, List.getElem?_eq_getElem k1]; rfl
  have e2 : (highF sg r)[k]? = some (wdAt (highF sg r) k) := by unfold wdAt; rw [List.getD_eq_getElem?_getD, List.getElem?_eq_getElem k2]; rfl
  have el : (wdAt (leastF sg none r) k).length = l := by
    have : r[k]? = some (wdAt (leastF sg none r) k).length := by
      conv => lhs; rw [← hL.l, List.getElem?_map, e1]
      rfl
    rw [hk] at this
    exact (Option.some.inj this).symm
  have hw := words_at hi.g (w := w) hf' e1 e2
  rw [el] at hw
  rw [← hw]
  obtain ⟨a, r', rfl⟩ : ∃ a r', r = a :: r' := by
    cases r with
    | nil => exact absurd hi.n (by decide)
    | cons a r => exact ⟨a, r, rfl⟩
  unfold colF
  rw [List.mem_map]
  constructor
  · rintro ⟨c, hc, rfl⟩
    have hc' := codes_mem.mp hc
    refine ⟨c, hc', ?_⟩
    have := (chn_iff.mp hc').len
    unfold wdAt
    rw [List.getD_eq_getElem?_getD, List.getElem?_eq_getElem (by omega)]
    rfl
  · rintro ⟨c, hc, e⟩
    refine ⟨c, codes_mem.mpr hc, ?_⟩
    unfold wdAt
    rw [List.getD_eq_getElem?_getD, e]
    rfl
/-- what is asked of a key's words where the row fits -/
structure KeyW (sg : Nat) (r : List Nat) (k l : Nat) (lo hi : List Int) : Prop where
  e1 : lo.length = l
  e2 : hi.length = l
  s1 : Sg sg lo
  s2 : Sg sg hi
  le : LeB lo hi
theorem key_w {sg : Nat} {r : List Nat} {k l : Nat} (hi : RowIn sg r) (hf : fitB sg r = true) (hk : r[k]? = some l) : KeyW sg r k l (wdAt (leastF sg none r) k) (wdAt (highF sg r) k) := by
  have hf' : (leastF sg none r).length = r.length := of_decide_eq_true hf
  have hL := least_cd hi.g hf'
  have hH := high_cd hi.g hL
  have hkr := (List.getElem?_eq_some_iff.mp hk).1
  have k1 : k < (leastF sg none r).length := by rw [hL.len]; exact hkr
  have k2 : k < (highF sg r).length := by rw [hH.len]; exact hkr
  have e1 : (leastF sg none r)[k]? = some (wdAt (leastF sg none r) k) := by unfold wdAt; rw [List.getD_eq_getElem?_getD, List.getElem?_eq_getElem k1]; rfl
  have e2 : (highF sg r)[k]? = some (wdAt (highF sg r) k) := by unfold wdAt; rw [List.getD_eq_getElem?_getD, List.getElem?_eq_getElem k2]; rfl
  have q1 : r[k]? = some (wdAt (leastF sg none r) k).length := by
    conv => lhs; rw [← hL.l, List.getElem?_map, e1]
    rfl
  have q2 : r[k]? = some (wdAt (highF sg r) k).length := by
    conv => lhs; rw [← hH.l, List.getElem?_map, e2]
    rfl
  rw [hk] at q1 q2
  refine ⟨(Option.some.inj q1).symm, (Option.some.inj q2).symm, hL.s _ (List.mem_of_getElem? e1), hH.s _ (List.mem_of_getElem? e2), ?_⟩
  obtain ⟨u, u1, u2⟩ := least_at hi.g (chn_iff.mpr hH) (q := none) trivial k _ e2
  rw [e1] at u1
  cases u1
  exact u2
theorem asc_head {lo : List Int} : ∀ {a : List (List Int)}, a.Pairwise (· < ·) → lo ∈ a → (∀ x ∈ a, lo = x ∨ lo < x) → a[0]? = some lo
  | [], _, h, _ => nomatch h
  | x :: a, hp, hm, hb => by
    rcases List.mem_cons.mp hm with rfl | hm
    · rfl
    · have h1 := (List.pairwise_cons.mp hp).1 lo hm
      rcases hb x List.mem_cons_self with e | e
      · rw [e]; rfl
      · exact absurd h1 (List.lt_asymm e)
theorem asc_last {hi : List Int} : ∀ {a : List (List Int)}, a.Pairwise (· < ·) → hi ∈ a → (∀ x ∈ a, x = hi ∨ x < hi) → ∃ g, a = g ++ [hi]
  | [], _, h, _ => nomatch h
  | [x], _, hm, _ => ⟨[], by rw [List.mem_singleton.mp hm]; rfl⟩
  | x :: y :: a, hp, hm, hb => by
    obtain ⟨p1, p2⟩ := List.pairwise_cons.mp hp
    have hm' : hi ∈ y :: a := by
      rcases List.mem_cons.mp hm with rfl | hm
      · exfalso
        have h1 := p1 y List.mem_cons_self
        rcases hb y (by simp) with e | e
        · rw [e] at h1; exact List.lt_irrefl _ h1
        · exact absurd h1 (List.lt_asymm e)
      · exact hm
    obtain ⟨g, e⟩ := asc_last p2 hm' fun z hz => hb z (List.mem_cons_of_mem _ hz)
    exact ⟨x :: g, by rw [e]; rfl⟩
theorem bet_ends {sg l : Nat} {r : List Nat} {k : Nat} {lo hi : List Int} (h : KeyW sg r k l lo hi) : (betF sg l lo hi)[0]? = some lo ∧ ∃ g, betF sg l lo hi = g ++ [hi] := by
  have ml : lo ∈ betF sg l lo hi := (bet_mem h.e1 h.e2).mpr ⟨h.e1, h.s1, .inl rfl, h.le⟩
  have mh : hi ∈ betF sg l lo hi := (bet_mem h.e1 h.e2).mpr ⟨h.e2, h.s2, h.le, .inl rfl⟩
  refine ⟨asc_head (bet_asc ..) ml fun x hx => ?_, asc_last (bet_asc ..) mh fun x hx => ?_⟩
  · obtain ⟨a, _, b, _⟩ := (bet_mem h.e1 h.e2).mp hx
    exact (le_leB (h.e1.trans a.symm)).mpr b
  · obtain ⟨a, _, _, b⟩ := (bet_mem h.e1 h.e2).mp hx
    exact (le_leB (a.trans h.e2.symm)).mpr b
theorem few_col {sg : Nat} {r : List Nat} {k l : Nat} (hi : RowIn sg r) (hf : fitB sg r = true) (hk : r[k]? = some l) (h3 : sg ≤ 3) (hl : l ≤ 3) : FewW (colF sg r k) := fun d hd hs => by
  have h1 := nodup_sub (b := wordsF sg l) hd fun u hu => by
    obtain ⟨a, b, _⟩ := (col_mem hi hf hk u).mp (hs u hu)
    exact (words_mem l u).mpr ⟨a, b⟩
  have h2 := words_le h3 hl
  omega
theorem cw_itd {c : List (List Int)} (hc : ∀ w ∈ c, w.length ≤ 16 ∧ ∀ x ∈ w, 0 ≤ x ∧ x ≤ 6) (hl : c.length ≤ 100) : ItD (.tup (cw c)) := by
  have one : ∀ u ∈ cw c, ItP 390 u ∧ hD u = false ∧ wDep u ≤ 1 := fun u hu => by
    obtain ⟨w, hw, rfl⟩ := List.mem_map.mp hu
    obtain ⟨a, b⟩ := hc w hw
    obtain ⟨h1, h2, h3, h4, h5⟩ := iw_ok (ns := w) fun n hn => by have := b n hn; omega
    exact ⟨⟨by simpa only [good] using h1, by simp only [wCost]; omega, by simp only [wDep]; omega, by unfold Unm; simp only [hD, h4]; rfl⟩, by simpa only [hD] using h4, by simp only [wDep]; omega⟩
  obtain ⟨h1, h2, h3⟩ := items_of (c := 390) (us := cw c) fun u hu => (one u hu).1
  have h4 : hDs (cw c) = false := no_dict fun u hu => (one u hu).2.1
  have h5 : wDeps (cw c) ≤ 1 := deps_le fun u hu => (one u hu).2.2
  rw [cw_len] at h2
  have h6 : c.length * (390 + 2) ≤ 100 * 392 := Nat.mul_le_mul hl (by decide)
  exact ⟨⟨by simpa only [good] using h1, by simp only [wCost]; omega, by simp only [wDep]; omega, by unfold Unm; simp only [hD, h4]; rfl⟩, by simpa only [hD] using h4⟩
theorem key_itd {sg : Nat} {r : List Nat} {k l : Nat} {lo hi : List Int} (h : KeyW sg r k l lo hi) (g : sg ≤ 6) (hl : l ≤ 16) : ItD (.tup [.tup (iw lo), .tup (iw hi)]) := by
  refine cw_itd (c := [lo, hi]) (fun w hw => ?_) (by show 2 ≤ 100; decide)
  have a := h.s1
  have b := h.s2
  have c := h.e1
  have d := h.e2
  simp only [List.mem_cons, List.not_mem_nil, or_false] at hw
  rcases hw with rfl | rfl
  · exact ⟨by omega, fun x hx => by have := a x hx; omega⟩
  · exact ⟨by omega, fun x hx => by have := b x hx; omega⟩
theorem ints_lex (u v : List Int) : HT.lexLt u v = HT.lexLt u v := rfl
/-- the list of a key's words, as the law makes it -/
theorem col_cw (sg : Nat) (r : List Nat) (k : Nat) : (ccw (codesF sg r)).map (fun x => W.tup (iw (wdAt (ofC x) k))) = cw (colF sg r k) := by
  unfold ccw colF cw
  rw [List.map_map, List.map_map]
  refine List.map_congr_left fun c _ => ?_
  show W.tup (iw (wdAt (ofC (.tup (cw c))) k)) = _
  rw [ofC_cw]
  rfl
theorem codes_len {sg : Nat} {r : List Nat} (h1 : 1 ≤ r.length) {c : List (List Int)} (hc : c ∈ codesF sg r) : c.length = r.length := by
  obtain ⟨a, r', rfl⟩ : ∃ a r', r = a :: r' := by
    cases r with
    | nil => cases h1
    | cons a r => exact ⟨a, r, rfl⟩
  exact (chn_iff.mp (codes_mem.mp hc)).len
theorem codes_many {sg : Nat} {r : List Nat} (h3 : sg ≤ 3) (hr : ∀ l ∈ r, l ≤ 3) (hl : r.length ≤ 4) : (codesF sg r).length ≤ 27 * 27 * 27 * 27 := by
  cases r with
  | nil => exact Nat.zero_le _
  | cons a r =>
    rw [codes_eq]
    have : ∀ (r : List Nat) (f : List (List (List Int))), (∀ l ∈ r, l ≤ 3) → (r.foldl (stepC sg) f).length ≤ f.length * 27 ^ r.length := by
      intro r
      induction r with
      | nil => intro f _; simp
      | cons b r ih =>
        intro f hb
        show (r.foldl (stepC sg) (stepC sg f b)).length ≤ _
        refine Nat.le_trans (ih _ fun l hl => hb l (List.mem_cons_of_mem _ hl)) ?_
        have h1 : (stepC sg f b).length ≤ f.length * 27 := by
          rw [step_eq]
          refine Nat.le_trans (List.length_filter_le ..) (flat_len fun c _ => Nat.le_trans (grow_len sg b c) (words_le h3 (hb b List.mem_cons_self)))
        rw [List.length_cons, Nat.pow_succ, Nat.mul_comm (27 ^ r.length) 27, ← Nat.mul_assoc]
        exact Nat.mul_le_mul_right _ h1
    have h0 := this r ((wordsF sg a).map fun w => [w]) fun l hl => hr l (List.mem_cons_of_mem _ hl)
    rw [List.length_map] at h0
    have h1 := words_le h3 (hr a List.mem_cons_self)
    have h2 : 27 ^ r.length ≤ 27 ^ 3 := Nat.pow_le_pow_right (by decide) (by simpa using hl)
    exact Nat.le_trans h0 (Nat.le_trans (Nat.mul_le_mul h1 h2) (by decide))
theorem eqWs_cwS : ∀ c : List (List Int), eqWs (cw c) (cw c) = true
  | [] => rfl
  | u :: c => by
    show (eqW (.tup (iw u)) (.tup (iw u)) && eqWs (cw c) (cw c)) = true
    rw [eqWs_cwS c, Bool.and_true]
    simp only [eqW, eqWs_iw, decide_true]
theorem take_last {c : List (List Int)} {k : Nat} (hk : k < c.length) : L2.atI (cw (c.take (k + 1))) (-1) = some (.tup (iw (wdAt c k))) := by
  rw [List.take_succ_eq_append_getElem hk]
  have : cw (c.take k ++ [c[k]]) = cw (c.take k) ++ [W.tup (iw c[k])] := by unfold cw; rw [List.map_append]; rfl
  rw [this, at_last]
  unfold wdAt
  rw [List.getD_eq_getElem?_getD, List.getElem?_eq_getElem hk]
  rfl
/-! first and last codes -/
def TabAt (P : Addr) (q : Str) (S : Store) : Prop := S[0]? = some (some (.tab P q))
theorem TabAt.ch {P : Addr} {q : Str} {S S' : Store} {d : Nat} (h : TabAt P q S) (c : Ch d S S') (hd : 0 ≠ d) : TabAt P q S' := (c.2 0 hd (List.getElem?_eq_some_iff.mp h).1).trans h
theorem TabAt.pre {P : Addr} {q : Str} {S S' : Store} (h : TabAt P q S) (c : Pre S S') : TabAt P q S' := by
  obtain ⟨L, rfl⟩ := c
  exact get_pre h
theorem dpre {S S' : Store} {d : Nat} {N : Int} (h : DeckAt S d N) (c : Pre S S') : DeckAt S' d N := by
  obtain ⟨L, rfl⟩ := c
  exact deck_add h
def sp_law_deck : FL.Spec := fun ws S Q => ∃ ns : List Int, ws = [.scr ns] ∧ ns.length ≤ 63 ∧ ∀ S', DeckAt S' S.length 0 → Pre S S' → Q (.loc S.length) S'
theorem sp_law_deck_len : ∀ ws S Q, sp_law_deck ws S Q → ws.length = 1 := by rintro _ _ _ ⟨ns, rfl, _⟩; rfl
def sp_law_mirrored : FL.Spec := fun ws S Q => ∃ (sg : Nat) (c : List (List Int)), ws = [.int (sg : Nat), .lst (cw c)] ∧ sg ≤ 100 ∧ c.length ≤ 1000 ∧ (∀ w ∈ c, w.length ≤ 1000) ∧ ∀ S', Pre S S' → Q (.tup (cw (mirC sg c))) S'
theorem sp_law_mirrored_len : ∀ ws S Q, sp_law_mirrored ws S Q → ws.length = 2 := by rintro _ _ _ ⟨a, b, rfl, _⟩; rfl
/-- one row of words comes ahead of another -/
def RB (c d : List (List Int)) : Prop := ∃ p u v s t, c = p ++ u :: s ∧ d = p ++ v :: t ∧ Bef u v
theorem rb_app {c d a b : List (List Int)} (h : RB c d) : RB (c ++ a) (d ++ b) := by
  obtain ⟨p, u, v, s, t, rfl, rfl, hb⟩ := h
  exact ⟨p, u, v, s ++ a, t ++ b, by simp, by simp, hb⟩
theorem grow_rb {sg l : Nat} (c : List (List Int)) : (growC sg l c).Pairwise RB := by
  unfold growC
  refine List.pairwise_map.mpr ((List.Pairwise.filter _ (words_bef sg l)).imp fun {a b} h => ⟨c, a, b, [], [], rfl, rfl, h⟩)
theorem step_rb {sg l : Nat} {found : List (List (List Int))} (h : found.Pairwise RB) : (stepC sg found l).Pairwise RB := by
  rw [step_eq]
  refine List.Pairwise.filter _ ?_
  induction found with
  | nil => exact List.Pairwise.nil
  | cons c t ih =>
    obtain ⟨h1, h2⟩ := List.pairwise_cons.mp h
    rw [List.flatMap_cons]
    refine List.pairwise_append.mpr ⟨grow_rb c, ih h2, fun x hx y hy => ?_⟩
    unfold growC at hx
    obtain ⟨a, _, rfl⟩ := List.mem_map.mp hx
    obtain ⟨d, hd, hy⟩ := List.mem_flatMap.mp hy
    unfold growC at hy
    obtain ⟨b, _, rfl⟩ := List.mem_map.mp hy
    exact rb_app (h1 d hd)
theorem codes_rb (sg : Nat) : ∀ r : List Nat, (codesF sg r).Pairwise RB
  | [] => List.Pairwise.nil
  | l :: r => by
    rw [codes_eq]
    have h0 : ((wordsF sg l).map fun w => [w]).Pairwise RB := List.pairwise_map.mpr ((words_bef sg l).imp fun {a b} h => ⟨[], a, b, [], [], rfl, rfl, h⟩)
    generalize ((wordsF sg l).map fun w => [w]) = found at h0
    induction r generalizing found with
    | nil => exact h0
    | cons l2 r ih => exact ih _ (step_rb h0)
theorem bef_no {u v : List Int} (h : Bef u v) (k : LeB v u) : False := by
  have h1 := bef_lt h
  rcases k with rfl | k
  · exact List.lt_irrefl _ h1
  · exact List.lt_asymm h1 (bef_lt k)
theorem rb_at {c d : List (List Int)} (h : RB c d) : ∃ (k : Nat) (u v : List Int), c[k]? = some u ∧ d[k]? = some v ∧ Bef u v := by
  obtain ⟨p, u, v, s, t, rfl, rfl, hb⟩ := h
  exact ⟨p.length, u, v, by simp, by simp, hb⟩
theorem codes_mem' {sg : Nat} {r : List Nat} (h1 : 1 ≤ r.length) {c : List (List Int)} : c ∈ codesF sg r ↔ Cd sg r c := by
  cases r with
  | nil => simp at h1
  | cons l r => rw [codes_mem, chn_iff]
theorem codes_first {sg : Nat} (h2 : 2 ≤ sg) {r : List Nat} (h1 : 1 ≤ r.length) (hf : fitB sg r = true) : ∃ t, codesF sg r = leastF sg none r :: t := by
  have hL := least_cd h2 (of_decide_eq_true hf)
  have hm := (codes_mem' h1).mpr hL
  have hp := codes_rb sg r
  cases e : codesF sg r with
  | nil => rw [e] at hm; cases hm
  | cons c t =>
    rw [e] at hm hp
    rcases List.mem_cons.mp hm with z | z
    · exact ⟨t, by rw [z]⟩
    · have hr := (List.pairwise_cons.mp hp).1 _ z
      obtain ⟨k, u, v, e1, e2, hb⟩ := rb_at hr
      have hc : Cd sg r c := (codes_mem' h1).mp (by rw [e]; exact List.mem_cons_self)
      obtain ⟨w, e3, hle⟩ := least_at h2 (chn_iff.mpr hc) (q := none) trivial k u e1
      rw [e2] at e3
      cases e3
      exact (bef_no hb hle).elim
theorem codes_last {sg : Nat} (h2 : 2 ≤ sg) {r : List Nat} (h1 : 1 ≤ r.length) (hf : fitB sg r = true) : ∃ t, codesF sg r = t ++ [highF sg r] := by
  have hL := least_cd h2 (of_decide_eq_true hf)
  have hH := high_cd h2 hL
  have hm := (codes_mem' h1).mpr hH
  have hp := codes_rb sg r
  rcases List.eq_nil_or_concat (codesF sg r) with e | ⟨t, c, e⟩
  · rw [e] at hm; cases hm
  · rw [List.concat_eq_append] at e
    rw [e] at hm hp
    rcases List.mem_append.mp hm with z | z
    · have hr := (List.pairwise_append.mp hp).2.2 _ z c (List.mem_singleton.mpr rfl)
      obtain ⟨k, u, v, e1, e2, hb⟩ := rb_at hr
      have hc : Cd sg r c := (codes_mem' h1).mp (by rw [e]; exact List.mem_append_right _ (List.mem_singleton.mpr rfl))
      obtain ⟨w, e3, hle⟩ := high_at h2 hc e2
      rw [e1] at e3
      cases e3
      exact (bef_no hb hle).elim
    · exact ⟨t, by rw [e, List.mem_singleton.mp z]⟩
theorem cut_rev {sg : Nat} {c : List (List Int)} : (cw c).reverse.map (fun x => W.tup (iw (mirW sg (ofW x)))) = cw (mirC sg c) := by
  unfold cw mirC
  rw [← List.map_reverse, List.map_map, ← List.map_reverse, List.map_map]
  refine List.map_congr_left fun w _ => ?_
  show W.tup (iw (mirW sg (ofW (.tup (iw w))))) = _
  rw [ofW_iw]
  rfl
theorem pair_itd {n : Nat} (h : n ≤ 16) : ItD (.lst [.int (n : Nat), .bl true]) := by
  have all : ∀ k : Fin 17, (itB 100 17 (.lst [.int ((k.val : Nat) : Int), .bl true]) && !hD (.lst [.int ((k.val : Nat) : Int), .bl true])) = true := by decide +kernel
  have e := all ⟨n, by omega⟩
  obtain ⟨e1, e2⟩ := Bool.and_eq_true_iff.mp e
  have p := itB_p e1
  exact ⟨⟨p.g, Nat.le_trans p.c (by decide), p.d, p.m⟩, by simpa using e2⟩
theorem dl_loc {S : Store} {n : Nat} {ws : List W} (h : S[n]? = some (some (.lst ws))) : deloc S (.loc n) = .lst ws := by
  show (match S[n]? with | some (some (.lst ws)) => W.lst ws | _ => .loc n) = .lst ws
  rw [h]
theorem cell_at {S S' : Store} {ws : List W} (h : Pre (S ++ [some (.lst ws)]) S') : S'[S.length]? = some (some (.lst ws)) := by
  obtain ⟨L, rfl⟩ := h
  exact get_pre (by simp)
theorem cell_lt {S : Store} {n : Nat} {c : Option Cell} (h : S[n]? = some c) : n < S.length := (List.getElem?_eq_some_iff.mp h).1
theorem code_itd {sg : Nat} {r : List Nat} {c : List (List Int)} (hr : RowIn sg r) (h : Cd sg r c) : ItD (.tup (cw c)) := by
  have h1 := hr.h
  have h2 := hr.m
  refine cw_itd (fun w hw => ⟨?_, fun x hx => ?_⟩) (by rw [h.len]; omega)
  · exact hr.l _ (by rw [← h.l]; exact List.mem_map.mpr ⟨w, hw, rfl⟩)
  · have := h.s w hw x hx
    omega
theorem wdeps_cw (c : List (List Int)) : wDep (.tup (cw c)) ≤ 2 := by
  have h := (cw_eqG c).2
  show wDeps (cw c) + 1 ≤ 2
  omega
end K08
/-! ### the text of this law -/
namespace K08
open PySem PySem.Spec PyProof.Rows L2 FL CB
def topS (i : Nat) : Stmt := PySem.Challenge.pw_ordercodes_k08_first_and_last_codes.main.body.getD i (.Pass ⟨0, 0, 0, 0⟩)
abbrev s_nothing_held : Stmt := topS 4
abbrev s_first_words : Stmt := topS 5
abbrev s_last_words : Stmt := topS 6
abbrev s_least_words : Stmt := topS 7
abbrev s_next_word : Stmt := topS 8
abbrev s_mirrored : Stmt := topS 9
abbrev s_first_code : Stmt := topS 11
abbrev s_last_code : Stmt := topS 12
abbrev s__law_deck : Stmt := topS 14
abbrev s__law_take : Stmt := topS 15
abbrev s__law_one : Stmt := topS 16
abbrev s__law_is_whole : Stmt := topS 17
abbrev s__law_starts : Stmt := topS 18
abbrev s__law_split : Stmt := topS 19
abbrev s__law_code : Stmt := topS 20
abbrev s__law_lengths : Stmt := topS 21
abbrev s__law_above : Stmt := topS 22
abbrev s__law_laid : Stmt := topS 23
abbrev s__law_row_error : Stmt := topS 24
abbrev s__law_words : Stmt := topS 25
abbrev s__law_codes : Stmt := topS 26
abbrev s__law_draw_row : Stmt := topS 27
abbrev s__law_told : Stmt := topS 28
abbrev s__law_mirrored : Stmt := topS 29
abbrev s_law : Stmt := topS 30
theorem sc_nothing_held : FnScope ["row"] ["row"] (defScope s_nothing_held) := ⟨rfl, rfl, rfl, by decide +kernel, rfl, by decide +kernel, by decide +kernel⟩
theorem sc_first_words : FnScope ["signs", "row", "held", "words"] ["signs", "row", "held"] (defScope s_first_words) := ⟨rfl, rfl, rfl, by decide +kernel, rfl, by decide +kernel, by decide +kernel⟩
theorem sc_last_words : FnScope ["signs", "row", "held", "turned", "word"] ["signs", "row", "held"] (defScope s_last_words) := ⟨rfl, rfl, rfl, by decide +kernel, rfl, by decide +kernel, by decide +kernel⟩
theorem sc_least_words : FnScope ["signs", "row", "held", "words", "length", "own", "word"] ["signs", "row", "held"] (defScope s_least_words) := ⟨rfl, rfl, rfl, by decide +kernel, rfl, by decide +kernel, by decide +kernel⟩
theorem sc_next_word : FnScope ["signs", "word", "length", "head"] ["signs", "word", "length"] (defScope s_next_word) := ⟨rfl, rfl, rfl, by decide +kernel, rfl, by decide +kernel, by decide +kernel⟩
theorem sc_mirrored : FnScope ["signs", "word", "sign"] ["signs", "word"] (defScope s_mirrored) := ⟨rfl, rfl, rfl, by decide +kernel, rfl, by decide +kernel, by decide +kernel⟩
theorem sc_first_code : FnScope ["signs", "row"] ["signs", "row"] (defScope s_first_code) := ⟨rfl, rfl, rfl, by decide +kernel, rfl, by decide +kernel, by decide +kernel⟩
theorem sc_last_code : FnScope ["signs", "row"] ["signs", "row"] (defScope s_last_code) := ⟨rfl, rfl, rfl, by decide +kernel, rfl, by decide +kernel, by decide +kernel⟩
theorem sc__law_deck : FnScope ["script", "great", "cell"] ["script"] (defScope s__law_deck) := ⟨rfl, rfl, rfl, by decide +kernel, rfl, by decide +kernel, by decide +kernel⟩
theorem sc__law_take : FnScope ["deck", "many", "mixed", "digit", "turn", "cells"] ["deck", "many"] (defScope s__law_take) := ⟨rfl, rfl, rfl, by decide +kernel, rfl, by decide +kernel, by decide +kernel⟩
theorem sc__law_one : FnScope ["deck", "items"] ["deck", "items"] (defScope s__law_one) := ⟨rfl, rfl, rfl, by decide +kernel, rfl, by decide +kernel, by decide +kernel⟩
theorem sc__law_is_whole : FnScope ["value", "low", "high"] ["value", "low", "high"] (defScope s__law_is_whole) := ⟨rfl, rfl, rfl, by decide +kernel, rfl, by decide +kernel, by decide +kernel⟩
theorem sc__law_starts : FnScope ["one", "other"] ["one", "other"] (defScope s__law_starts) := ⟨rfl, rfl, rfl, by decide +kernel, rfl, by decide +kernel, by decide +kernel⟩
theorem sc__law_split : FnScope ["deck", "signs", "words", "many", "deep", "spots", "spot", "left", "most", "own", "sign"] ["deck", "signs", "words", "many", "deep"] (defScope s__law_split) := ⟨rfl, rfl, rfl, by decide +kernel, rfl, by decide +kernel, by decide +kernel⟩
theorem sc__law_code : FnScope ["deck", "signs", "many", "deep", "words", "later"] ["deck", "signs", "many", "deep"] (defScope s__law_code) := ⟨rfl, rfl, rfl, by decide +kernel, rfl, by decide +kernel, by decide +kernel⟩
theorem sc__law_lengths : FnScope ["code", "word"] ["code"] (defScope s__law_lengths) := ⟨rfl, rfl, rfl, by decide +kernel, rfl, by decide +kernel, by decide +kernel⟩
theorem sc__law_above : FnScope ["signs", "word", "length", "found"] ["signs", "word", "length"] (defScope s__law_above) := ⟨rfl, rfl, rfl, by decide +kernel, rfl, by decide +kernel, by decide +kernel⟩
theorem sc__law_laid : FnScope ["signs", "row", "found", "length", "word"] ["signs", "row"] (defScope s__law_laid) := ⟨rfl, rfl, rfl, by decide +kernel, rfl, by decide +kernel, by decide +kernel⟩
theorem sc__law_row_error : FnScope ["signs", "value", "many", "length"] ["signs", "value"] (defScope s__law_row_error) := ⟨rfl, rfl, rfl, by decide +kernel, rfl, by decide +kernel, by decide +kernel⟩
theorem sc__law_words : FnScope ["signs", "length", "found", "turn", "longer", "word", "sign"] ["signs", "length"] (defScope s__law_words) := ⟨rfl, rfl, rfl, by decide +kernel, rfl, by decide +kernel, by decide +kernel⟩
theorem sc__law_codes : FnScope ["signs", "row", "found", "length", "longer", "code", "word"] ["signs", "row"] (defScope s__law_codes) := ⟨rfl, rfl, rfl, by decide +kernel, rfl, by decide +kernel, by decide +kernel⟩
theorem sc__law_draw_row : FnScope ["deck", "signs", "many", "most", "row", "spot", "key"] ["deck", "signs", "many", "most"] (defScope s__law_draw_row) := ⟨rfl, rfl, rfl, by decide +kernel, rfl, by decide +kernel, by decide +kernel⟩
theorem sc__law_told : FnScope ["call", "error"] ["call"] (defScope s__law_told) := ⟨rfl, rfl, rfl, by decide +kernel, rfl, by decide +kernel, by decide +kernel⟩
theorem sc__law_mirrored : FnScope ["signs", "words", "word", "sign"] ["signs", "words"] (defScope s__law_mirrored) := ⟨rfl, rfl, rfl, by decide +kernel, rfl, by decide +kernel, by decide +kernel⟩
theorem sc_law : FnScope ["script", "deck", "turn", "signs", "row", "error", "due", "told", "every"] ["script"] (defScope s_law) := ⟨rfl, rfl, rfl, by decide +kernel, rfl, by decide +kernel, by decide +kernel⟩
def clsSt : Stmt → Nat → Stmt
  | .ClassDef (body := b) .., i => b.getD i (.Pass ⟨0, 0, 0, 0⟩)
  | s, _ => s
abbrev si_NoFit : Stmt := clsSt (topS 2) 0
theorem sci_NoFit : FnScope ["self", "key"] ["self", "key"] (defScope si_NoFit) := ⟨rfl, rfl, rfl, by decide +kernel, rfl, by decide +kernel, by decide +kernel⟩
structure Txt (K : PySem.W.Frag) (mg : Str → Option Value) where
  f_nothing_held : Addr
  fd_nothing_held : FuncData
  F_nothing_held : Fun K "nothing_held" "nothing_held" s_nothing_held f_nothing_held fd_nothing_held
  m_nothing_held : mg "nothing_held" = some (.ref f_nothing_held)
  b_nothing_held : Binds K fd_nothing_held ["row"] []
  f_first_words : Addr
  fd_first_words : FuncData
  F_first_words : Fun K "first_words" "first_words" s_first_words f_first_words fd_first_words
  m_first_words : mg "first_words" = some (.ref f_first_words)
  b_first_words : Binds K fd_first_words ["signs", "row", "held"] []
  f_last_words : Addr
  fd_last_words : FuncData
  F_last_words : Fun K "last_words" "last_words" s_last_words f_last_words fd_last_words
  m_last_words : mg "last_words" = some (.ref f_last_words)
  b_last_words : Binds K fd_last_words ["signs", "row", "held"] []
  f_least_words : Addr
  fd_least_words : FuncData
  F_least_words : Fun K "least_words" "least_words" s_least_words f_least_words fd_least_words
  m_least_words : mg "least_words" = some (.ref f_least_words)
  b_least_words : Binds K fd_least_words ["signs", "row", "held"] []
  f_next_word : Addr
  fd_next_word : FuncData
  F_next_word : Fun K "next_word" "next_word" s_next_word f_next_word fd_next_word
  m_next_word : mg "next_word" = some (.ref f_next_word)
  b_next_word : Binds K fd_next_word ["signs", "word", "length"] []
  f_mirrored : Addr
  fd_mirrored : FuncData
  F_mirrored : Fun K "mirrored" "mirrored" s_mirrored f_mirrored fd_mirrored
  m_mirrored : mg "mirrored" = some (.ref f_mirrored)
  b_mirrored : Binds K fd_mirrored ["signs", "word"] []
  f_first_code : Addr
  fd_first_code : FuncData
  F_first_code : Fun K "first_code" "first_code" s_first_code f_first_code fd_first_code
  m_first_code : mg "first_code" = some (.ref f_first_code)
  b_first_code : Binds K fd_first_code ["signs", "row"] []
  f_last_code : Addr
  fd_last_code : FuncData
  F_last_code : Fun K "last_code" "last_code" s_last_code f_last_code fd_last_code
  m_last_code : mg "last_code" = some (.ref f_last_code)
  b_last_code : Binds K fd_last_code ["signs", "row"] []
  f__law_deck : Addr
  fd__law_deck : FuncData
  F__law_deck : Fun K "_law_deck" "_law_deck" s__law_deck f__law_deck fd__law_deck
  m__law_deck : mg "_law_deck" = some (.ref f__law_deck)
  b__law_deck : Binds K fd__law_deck ["script"] []
  f__law_take : Addr
  fd__law_take : FuncData
  F__law_take : Fun K "_law_take" "_law_take" s__law_take f__law_take fd__law_take
  m__law_take : mg "_law_take" = some (.ref f__law_take)
  b__law_take : Binds K fd__law_take ["deck", "many"] []
  f__law_one : Addr
  fd__law_one : FuncData
  F__law_one : Fun K "_law_one" "_law_one" s__law_one f__law_one fd__law_one
  m__law_one : mg "_law_one" = some (.ref f__law_one)
  b__law_one : Binds K fd__law_one ["deck", "items"] []
  f__law_is_whole : Addr
  fd__law_is_whole : FuncData
  F__law_is_whole : Fun K "_law_is_whole" "_law_is_whole" s__law_is_whole f__law_is_whole fd__law_is_whole
  m__law_is_whole : mg "_law_is_whole" = some (.ref f__law_is_whole)
  b__law_is_whole : Binds K fd__law_is_whole ["value", "low", "high"] []
  f__law_starts : Addr
  fd__law_starts : FuncData
  F__law_starts : Fun K "_law_starts" "_law_starts" s__law_starts f__law_starts fd__law_starts
  m__law_starts : mg "_law_starts" = some (.ref f__law_starts)
  b__law_starts : Binds K fd__law_starts ["one", "other"] []
  f__law_split : Addr
  fd__law_split : FuncData
  F__law_split : Fun K "_law_split" "_law_split" s__law_split f__law_split fd__law_split
  m__law_split : mg "_law_split" = some (.ref f__law_split)
  b__law_split : Binds K fd__law_split ["deck", "signs", "words", "many", "deep"] []
  f__law_code : Addr
  fd__law_code : FuncData
  F__law_code : Fun K "_law_code" "_law_code" s__law_code f__law_code fd__law_code
  m__law_code : mg "_law_code" = some (.ref f__law_code)
  b__law_code : Binds K fd__law_code ["deck", "signs", "many", "deep"] []
  f__law_lengths : Addr
  fd__law_lengths : FuncData
  F__law_lengths : Fun K "_law_lengths" "_law_lengths" s__law_lengths f__law_lengths fd__law_lengths
  m__law_lengths : mg "_law_lengths" = some (.ref f__law_lengths)
  b__law_lengths : Binds K fd__law_lengths ["code"] []
  f__law_above : Addr
  fd__law_above : FuncData
  F__law_above : Fun K "_law_above" "_law_above" s__law_above f__law_above fd__law_above
  m__law_above : mg "_law_above" = some (.ref f__law_above)
  b__law_above : Binds K fd__law_above ["signs", "word", "length"] []
  f__law_laid : Addr
  fd__law_laid : FuncData
  F__law_laid : Fun K "_law_laid" "_law_laid" s__law_laid f__law_laid fd__law_laid
  m__law_laid : mg "_law_laid" = some (.ref f__law_laid)
  b__law_laid : Binds K fd__law_laid ["signs", "row"] []
  f__law_row_error : Addr
  fd__law_row_error : FuncData
  F__law_row_error : Fun K "_law_row_error" "_law_row_error" s__law_row_error f__law_row_error fd__law_row_error
  m__law_row_error : mg "_law_row_error" = some (.ref f__law_row_error)
  b__law_row_error : Binds K fd__law_row_error ["signs", "value"] []
  f__law_words : Addr
  fd__law_words : FuncData
  F__law_words : Fun K "_law_words" "_law_words" s__law_words f__law_words fd__law_words
  m__law_words : mg "_law_words" = some (.ref f__law_words)
  b__law_words : Binds K fd__law_words ["signs", "length"] []
  f__law_codes : Addr
  fd__law_codes : FuncData
  F__law_codes : Fun K "_law_codes" "_law_codes" s__law_codes f__law_codes fd__law_codes
  m__law_codes : mg "_law_codes" = some (.ref f__law_codes)
  b__law_codes : Binds K fd__law_codes ["signs", "row"] []
  f__law_draw_row : Addr
  fd__law_draw_row : FuncData
  F__law_draw_row : Fun K "_law_draw_row" "_law_draw_row" s__law_draw_row f__law_draw_row fd__law_draw_row
  m__law_draw_row : mg "_law_draw_row" = some (.ref f__law_draw_row)
  b__law_draw_row : Binds K fd__law_draw_row ["deck", "signs", "many", "most"] []
  f__law_told : Addr
  fd__law_told : FuncData
  F__law_told : Fun K "_law_told" "_law_told" s__law_told f__law_told fd__law_told
  m__law_told : mg "_law_told" = some (.ref f__law_told)
  b__law_told : Binds K fd__law_told ["call"] []
  f__law_mirrored : Addr
  fd__law_mirrored : FuncData
  F__law_mirrored : Fun K "_law_mirrored" "_law_mirrored" s__law_mirrored f__law_mirrored fd__law_mirrored
  m__law_mirrored : mg "_law_mirrored" = some (.ref f__law_mirrored)
  b__law_mirrored : Binds K fd__law_mirrored ["signs", "words"] []
  f_law : Addr
  fd_law : FuncData
  F_law : Fun K "law" "law" s_law f_law fd_law
  m_law : mg "law" = some (.ref f_law)
  b_law : Binds K fd_law ["script"] []
  C_NoFit : Addr
  m_NoFit : mg "NoFit" = some (.ref C_NoFit)
  C_CodeError : Addr
  m_CodeError : mg "CodeError" = some (.ref C_CodeError)
  I_NoFit : Addr
  fdI_NoFit : FuncData
  FI_NoFit : Fun K "__init__" "NoFit.__init__" si_NoFit I_NoFit fdI_NoFit
  E_NoFit : ErrC K mg "NoFit" C_NoFit I_NoFit fdI_NoFit ["self", "key"] "key"
  EI_NoFit : ErrI K C_NoFit
  ki_NoFit_CodeError : PySem.W.kitOne K (.ref C_NoFit) (.ref C_CodeError) = some true
  ki_NoFit_ValueError : PySem.W.kitOne K (.ref C_NoFit) (.type "ValueError") = some true
  c_law : Addr
  P_law : Addr
  tb_law : fd_law.code = .ref c_law
  z_ValueError : mg "ValueError" = none
  z_abs : mg "abs" = none
  z_all : mg "all" = none
  z_bool : mg "bool" = none
  z_int : mg "int" = none
  z_isinstance : mg "isinstance" = none
  z_len : mg "len" = none
  z_list : mg "list" = none
  z_min : mg "min" = none
  z_range : mg "range" = none
  z_repr : mg "repr" = none
  z_tuple : mg "tuple" = none
  z_zip : mg "zip" = none
local macro_rules | `(tactic| walk_at "dn") => `(tactic| try simp only [sSeq, sNext, sDrop, sRet, sIf, sSet, sPar, sFor, sLcT, sLcC, sAugI, sDSet, dVar, dC, dOp, dTest, dNeg, rdI, dAnd, dOr, dNot, dAndV, dOrV, dNotV, dIf, dNil, dCons, dTup, dLst, dTree, dCell, dCatF, dNoP, dPart, dSl, dSlF, dCB, dCF, dLc, dDGet, dMt0, dMt, dFrz, dDisp, dDicT, dDicC, dDic0, dPairs, dCall, dIsi, dChain, iSeq, iRange1, iRange2, iRangeE, sLPut, dTruth, sFz, dSortSetI, dSortSetT, dSortSetTT, rdIsB, rdGt, sPar3, dSplit, dSlS, dJoin, rdIntS, rdStrI, rdInS, iSigns, rdIxS, rdSortPI, dMaxLen, sRaise0, dTupRg2, dLstRg2, dIfF, dDic0C, iZipD, rdMulB, gdN, gdT, gdNil, gdCons, wipeD,
  rdLen, tg_non, tg_bl, tg_int, tg_str, tg_tup, tg_lst, tg_dic, ln_tup, ln_lst, ln_scr, ls_lst, ll_lst, ll_scr, sq_tup, sq_lst, sq_scr, st_tup, st_lst, st_scr, rdAbs, rdMin2, rdMax2, rdAll, rdAny, rdSum, rdList, rdTuple, rdAdd, rdCatL, dk_dic, rdIx, rdMul, rdLt, rdRepr, rdTupF, sAsg, gdL, rdInC, dTix, sTry, dCallX, sRaise1, sRaise2, iZipM, dDcC, sDcC, rdInD, rdNotInD, rdMinL, rdMaxTu, rdMinTu, dSortSetF, dTold, dToldE, rdGeT, dRevTo, sTry2, dRevL, rdMulS, ln_tpf, sq_tpf, st_tpf, rdMulA, dLc2, dDic0T, dTGet, sTSet, rdInT, rdNotInT, sNever, rdLe, rdNeE, rdReprT, dRevT, iEnumD, FL.isNon, rdApp, rdExt, rdPop, rdPopAt, startD, List.map_cons, List.map_nil, List.length_cons, List.length_nil, List.cons_append, List.nil_append, List.replicate, Nat.reduceAdd, Nat.reduceSub, List.getElem?_cons_zero, List.getElem?_cons_succ, List.set_cons_zero, List.set_cons_succ, Option.bind_some, keysOfW, keyW, Option.map_some, true_and, and_true, if_true, Bool.false_eq_true, if_false, Bool.not_true, Bool.not_false, reduceCtorEq])
section
variable {P : Program} {w : World} {K : PySem.W.Frag} {mg : Str → Option Value} {base : Heap}
set_option maxHeartbeats 4000000 in
theorem ok_nothing_held (T : Txt K mg) : FnG P w K mg base 1 T.f_nothing_held T.fd_nothing_held 1 ["row"] sp_nothing_held := by
  refine fnG T.F_nothing_held sc_nothing_held rfl sp_nothing_held_len (fun cdv A outer s H hr hgd => ⟨_, (pssd_one (psd_ret (pd_op opd_mulB (pd_tup (pad_cons pd_non pad_nil)) (pd_callB cd_len (by rfl) T.z_len (by decide +kernel) (pad_cons (pd_var 0) pad_nil))))), ?_⟩)
  rintro ws S Q ⟨r, rfl, h1, h2, hq⟩
  have sz : 100000 ≤ sizeLine := by rw [sizeLine_eq]; decide
  walk_at "dn"
  have e : (List.replicate (((r.length : Nat) : Int)).toNat [W.non]).flatten = List.replicate r.length .non := by
    rw [show (((r.length : Nat) : Int)).toNat = r.length by omega]
    induction r.length with
    | zero => rfl
    | succ n ih => rw [List.replicate_succ, List.flatten_cons, ih]; rfl
  rw [e]
  exact ⟨by omega, by omega, by omega, by decide, hq⟩
set_option maxHeartbeats 4000000 in
theorem ok_next_word (T : Txt K mg) : FnG P w K mg base 1 T.f_next_word T.fd_next_word 3 ["signs", "word", "length"] sp_next_word := by
  refine fnG T.F_next_word sc_next_word rfl sp_next_word_len (fun cdv A outer s H hr hgd => ⟨_, (pssd_cons (psd_set (i := 3) sc_next_word.nd rfl (by first | exact Or.inl rfl | exact Or.inr rfl) (pd_slice (pd_var 1) pod_none (pod_some (pd_var 2))))
      (pssd_cons (psd_while PassesOwn.never (PWD.pt (pwd_and (ptd_truth (pd_var 3)) (pwd_and1 (ptd_cmp (opd_eq hr) (pd_ix (pd_var 3) (pd_neg pd_int) (fun _ _ => rfl)) (pd_op opd_sub (pd_var 0) pd_int) (nomark _)))))
      (pssd_one (psd_set (i := 3) sc_next_word.nd rfl (by first | exact Or.inl rfl | exact Or.inr rfl) (pd_slice (pd_var 3) pod_none (pod_some (pd_neg pd_int))))))
      (pssd_cons (psd_if (ptd_not (ptd_truth (pd_var 3))) (pssd_one (psd_ret pd_non)) pssd_nil)
      (pssd_one (psd_ret (pd_op opd_add (pd_op opd_add (pd_slice (pd_var 3) pod_none (pod_some (pd_neg pd_int))) (pd_tup (pad_cons (pd_op opd_add (pd_ix (pd_var 3) (pd_neg pd_int) (fun _ _ => rfl)) pd_int) pad_nil))) (pd_op opd_mulB (pd_tup (pad_cons pd_int pad_nil)) (pd_op opd_sub (pd_var 2) (pd_callB cd_len (by rfl) T.z_len (by decide +kernel) (pad_cons (pd_var 3) pad_nil)))))))))), ?_⟩)
  rintro ws S Q ⟨sg, w, len, rfl, hw, hl, hq⟩
  have sz : 100000 ≤ sizeLine := by rw [sizeLine_eq]; decide
  refine seq_gen fun R hR => ?_
  walk_at "dn"
  have ec : cutW (iw w) none (some ((len : Nat) : Int)) = iw (w.take len) := by rw [cut_take]; unfold iw; rw [List.map_take]
  rw [ec]
  subst hR
  refine seq_gen fun R hR => ?_
  unfold sWhile
  refine ⟨fun τ S' => S' = S ∧ ∃ h : List Int, τ = [some (.int (sg : Nat)), some (.tup (iw w)), some (.int (len : Nat)), some (.tup (iw h))] ∧ h.length ≤ len ∧ h.length ≤ w.length ∧ trimF sg h = trimF sg (w.take len), fun τ _ => (match (show Option (Option W) from τ[3]?) with | some (some (.tup us)) => us.length | _ => 0), ⟨rfl, w.take len, rfl, by rw [List.length_take]; omega, by rw [List.length_take]; omega, rfl⟩, ?_⟩
  rintro τ S' ⟨rfl, h, rfl, h1, h2, h3⟩
  walk_at "dn"
  refine ⟨iw h, rfl, ?_⟩
  have fin : trimF sg h = h → R { nx := fun x S' => Q W.non S', rt := Q } [some (.int (sg : Nat)), some (.tup (iw w)), some (.int (len : Nat)), some (.tup (iw h))] S' := by
    intro ht
    subst hR
    walk_at "dn"
    refine ⟨iw h, rfl, ?_⟩
    have hn : nextF sg w len = if h = [] then none else some (h.dropLast ++ [h.getLastD 0 + 1] ++ List.replicate (len - h.length) 0) := by
      unfold nextF
      rw [← h3, ht]
    rw [hn] at hq
    rcases List.eq_nil_or_concat h with rfl | ⟨g, x, rfl⟩
    · have i0 : (!!(iw ([] : List Int)).isEmpty) = true := rfl
      rw [i0, if_pos rfl]
      rw [if_pos rfl] at hq
      exact hq
    · rw [List.concat_eq_append] at hq h1 h2 ⊢
      rw [if_neg (by simp)] at hq
      have i1 : (!!(iw (g ++ [x])).isEmpty) = false := by rw [iw_snoc]; cases iw g <;> rfl
      rw [i1, if_neg (by decide), iw_snoc, at_last, cut_init]
      dsimp only
      have l1 := iw_len g
      have l2 : (g ++ [x]).length = g.length + 1 := by simp
      have l3 : (iw g ++ [W.int x]).length = g.length + 1 := by simp [l1]
      rw [l3]
      have l4 : (((len : Nat) : Int) - ((g.length + 1 : Nat) : Int)).toNat = len - (g.length + 1) := by omega
      rw [l4, flat_zero]
      have e1 : (g ++ [x]).dropLast ++ [(g ++ [x]).getLastD 0 + 1] ++ List.replicate (len - (g ++ [x]).length) 0 = g ++ [x + 1] ++ List.replicate (len - (g.length + 1)) 0 := by simp
      rw [e1] at hq
      have e2 : iw g ++ [W.int (x + 1)] ++ iw (List.replicate (len - (g.length + 1)) 0) = iw (g ++ [x + 1] ++ List.replicate (len - (g.length + 1)) 0) := by rw [← iw_app, iw_snoc]
      refine ⟨by omega, by omega, by omega, by omega, by omega, by decide, ?_, by rw [e2]; exact hq⟩
      rw [List.length_append, iw_len, iw_len, List.length_replicate]
      show g.length + 1 + _ ≤ _
      omega
  rcases List.eq_nil_or_concat h with rfl | ⟨g, x, rfl⟩
  · exact fin rfl
  · rw [List.concat_eq_append] at h1 h2 h3 fin ⊢
    have i1 : (!(iw (g ++ [x])).isEmpty) = true := by rw [iw_snoc]; cases iw g <;> rfl
    rw [i1, if_pos rfl, iw_snoc, at_last, cut_init, ← iw_snoc]
    dsimp only
    refine rdEq_int ?_
    dsimp only
    have l2 : (g ++ [x]).length = g.length + 1 := by simp
    by_cases hx : x = ((sg : Nat) : Int) - 1
    · rw [decide_eq_true hx, if_pos rfl]
      have t := trim_snoc sg g x
      rw [if_pos hx] at t
      refine ⟨⟨rfl, g, rfl, by omega, by omega, by rw [← t]; exact h3⟩, ?_⟩
      rw [iw_len, iw_len]
      omega
    · rw [decide_eq_false hx, if_neg (by decide)]
      have t := trim_snoc sg g x
      rw [if_neg hx] at t
      exact fin t
set_option maxHeartbeats 4000000 in
theorem ok_least_words (T : Txt K mg) : FnG P w K mg base 2 T.f_least_words T.fd_least_words 3 ["signs", "row", "held"] sp_least_words := by
  have G_next_word := ok_next_word (P := P) (w := w) (base := base) T
  refine fnG T.F_least_words sc_least_words rfl sp_least_words_len (fun cdv A outer s H hr hgd => ⟨_, (pssd_cons (psd_set (i := 3) sc_least_words.nd rfl (by first | exact Or.inl rfl | exact Or.inr rfl) (pd_cell (pdf_lst pad_nil)))
      (pssd_cons (psd_for PassesOwn.never rfl (pid_zipM (by rfl) T.z_zip (pad_cons (pd_var 1) (pad_cons (pd_var 2) pad_nil))) (pgd_tup rfl (pgsd_cons (pgd_name (i := 4) sc_least_words.nd rfl (by first | exact Or.inl rfl | exact Or.inr rfl)) (pgsd_cons (pgd_name (i := 5) sc_least_words.nd rfl (by first | exact Or.inl rfl | exact Or.inr rfl)) pgsd_nil)))
      (pssd_cons (psd_set (i := 6) sc_least_words.nd rfl (by first | exact Or.inl rfl | exact Or.inr rfl) (pd_ifExp (ptd_truth (pd_var 3)) (pd_call G_next_word hgd (hr.mono (by decide)) (by rfl) T.m_next_word T.F_next_word.kp T.b_next_word (pad_cons (pd_var 0) (pad_cons (pd_ix (pd_var 3) (pd_neg pd_int) (fun _ _ => rfl)) (pad_cons (pd_var 4) pad_nil)))) (pd_op opd_mulB (pd_tup (pad_cons pd_int pad_nil)) (pd_var 4))))
      (pssd_cons (psd_if (PWD.pt (pwd_or (ptd_cmp opd_isN (pd_var 6) pd_non (nomark _)) (pwd_or1 (PWD.pt (pwd_and (ptd_cmp opd_notN (pd_var 5) pd_non (nomark _)) (pwd_and1 (ptd_cmp (opd_lt hr) (pd_var 5) (pd_var 6) (nomark _)))))))) (pssd_one psd_break) pssd_nil)
      (pssd_one (psd_expr (pd_mt PySem.F.plainAttrs_list PySem.F.slot_list_append PySem.F.type_list_append md_append (pd_var 3) (pad_cons (pd_ifExp (ptd_cmp opd_isN (pd_var 5) pd_non (nomark _)) (pd_var 6) (pd_var 5)) pad_nil)))))))
      (pssd_one (psd_ret (pd_frz 3))))), ?_⟩)
  rintro ws S Q ⟨sg, r, hW, rfl, hWt, hr1, hr2, hq⟩
  have sz : 100000 ≤ sizeLine := by rw [sizeLine_eq]; decide
  refine seq_gen fun R hR => ?_
  walk_at "dn"
  refine ⟨by omega, ?_⟩
  subst hR
  refine seq_gen fun R hR => ?_
  refine for_gen fun B hB => ?_
  walk_at "dn"
  refine ⟨_, _, _, _, rfl, rfl, hWt, ?_⟩
  have fin : ∀ (acc : List (List Int)) (x4 x5 x6 : Option W), acc = leastF sg none r → R { nx := fun x S' => Q W.non S', rt := Q } [some (.int (sg : Nat)), some (.tup (natsW r)), some hW, some (.loc S.length), x4, x5, x6] (S ++ [some (.lst (cw acc))]) := by
    rintro acc x4 x5 x6 rfl
    subst hR
    walk_at "dn"
    have e8 : (S ++ [some (Cell.lst (cw (leastF sg none r)))])[S.length]? = some (some (.lst (cw (leastF sg none r)))) := by simp
    simp only [e8]
    exact hq _ ⟨[none], by simp⟩
  subst hB
  refine forI_inv (fun i τ S' => ∃ (acc : List (List Int)) (x4 x5 x6 : Option W), S' = S ++ [some (.lst (cw acc))] ∧ τ = [some (.int (sg : Nat)), some (.tup (natsW r)), some hW, some (.loc S.length), x4, x5, x6] ∧ acc.length = i ∧ (∀ w ∈ acc, w.length ≤ 100) ∧ acc ++ leastF sg acc.getLast? (r.drop i) = leastF sg none r) ⟨[], _, _, _, rfl, rfl, rfl, (fun _ h => nomatch h), rfl⟩ ?_ ?_
  · rintro i y τ S1 ey ⟨acc, x4, x5, x6, rfl, rfl, hi, hw, hacc⟩
    obtain ⟨a, b, ea, eb, rfl⟩ := zipW_at _ _ _ _ ey
    obtain ⟨l, el, rfl⟩ : ∃ l : Nat, r[i]? = some l ∧ a = .int (l : Nat) := by
      unfold natsW iw at ea
      rw [List.getElem?_map, List.getElem?_map] at ea
      cases h : r[i]? with
      | none => rw [h] at ea; cases ea
      | some l => rw [h] at ea; cases ea; exact ⟨l, rfl, rfl⟩
    obtain rfl : b = .non := by
      have := List.mem_of_getElem? eb
      exact (List.mem_replicate.mp this).2
    have hli := (List.getElem?_eq_some_iff.mp el).1
    have hl100 := hr1 l (List.mem_of_getElem? el)
    have hdrop : r.drop i = l :: r.drop (i + 1) := by
      have q := List.drop_eq_getElem_cons hli
      rw [(List.getElem?_eq_some_iff.mp el).2] at q
      exact q
    rw [hdrop] at hacc
    have e8 : (S ++ [some (Cell.lst (cw acc))])[S.length]? = some (some (.lst (cw acc))) := by simp
    have step : ∀ v : List Int, v.length ≤ 100 → acc ++ (v :: leastF sg (some v) (r.drop (i + 1))) = leastF sg none r → (cw acc).length < sizeLine ∧ ∃ (acc' : List (List Int)) (x4 x5 x6 : Option W), (S ++ [some (Cell.lst (cw acc))]).set S.length (some (.lst (cw acc ++ [.tup (iw v)]))) = S ++ [some (.lst (cw acc'))] ∧ [some (W.int (sg : Nat)), some (.tup (natsW r)), some hW, some (.loc S.length), some (.int (l : Nat)), some .non, some (.tup (iw v))] = [some (W.int (sg : Nat)), some (.tup (natsW r)), some hW, some (.loc S.length), x4, x5, x6] ∧ acc'.length = i + 1 ∧ (∀ w ∈ acc', w.length ≤ 100) ∧ acc' ++ leastF sg acc'.getLast? (r.drop (i + 1)) = leastF sg none r := by
      intro v hv he
      refine ⟨by rw [cw_len]; omega, acc ++ [v], _, _, _, ?_, rfl, by simp [hi], fun w hm => ?_, ?_⟩
      · have : cw acc ++ [W.tup (iw v)] = cw (acc ++ [v]) := by unfold cw; rw [List.map_append]; rfl
        rw [this]
        simp
      · rcases List.mem_append.mp hm with hm | hm
        · exact hw w hm
        · have : w = v := by simpa using hm
          subst this
          exact hv
      · rw [List.getLast?_append, List.append_assoc]
        exact he
    refine ⟨_, rfl, ?_⟩
    walk_at "dn"
    refine ⟨cw acc, sq_loc e8, ?_⟩
    rw [sq_loc e8]
    rcases List.eq_nil_or_concat acc with rfl | ⟨g, u, rfl⟩
    · have i0 : (!(cw ([] : List (List Int))).isEmpty) = false := rfl
      rw [i0, if_neg (by decide)]
      have er : (List.replicate (((l : Nat) : Int)).toNat [W.int 0]).flatten = iw (List.replicate l 0) := by rw [show (((l : Nat) : Int)).toNat = l by omega, flat_zero]
      rw [er]
      refine ⟨by omega, by omega, by omega, by decide, ?_⟩
      walk_at "dn"
      simp only [FL.isNon, ls_loc e8, Option.isSome_some, true_and, e8, Bool.false_eq_true, if_false, if_true, Bool.not_true]
      exact step (List.replicate l 0) (by rw [List.length_replicate]; exact hl100) hacc
    · rw [List.concat_eq_append] at *
      have i0 : (!(cw (g ++ [u])).isEmpty) = true := by unfold cw; rw [List.map_append]; cases g <;> rfl
      rw [i0, if_pos rfl]
      have a1 : L2.atI (cw (g ++ [u])) (-1) = some (.tup (iw u)) := by
        have : cw (g ++ [u]) = cw g ++ [W.tup (iw u)] := by unfold cw; rw [List.map_append]; rfl
        rw [this, at_last]
      simp only [a1]
      refine ⟨sg, u, l, rfl, by have := hw u (by simp); omega, by omega, ?_⟩
      have hlast : (g ++ [u]).getLast? = some u := by simp
      rw [hlast] at hacc
      cases hv : nextF sg u l with
      | none =>
        have hend : leastF sg (some u) (l :: r.drop (i + 1)) = [] := by show (match nextF sg u l with | none => [] | some v => v :: leastF sg (some v) (r.drop (i + 1))) = []; rw [hv]
        rw [hend, List.append_nil] at hacc
        dsimp only [optW]
        rw [if_pos rfl]
        unfold sBreak
        exact fin _ _ _ _ hacc
      | some v =>
        have hgo : leastF sg (some u) (l :: r.drop (i + 1)) = v :: leastF sg (some v) (r.drop (i + 1)) := by show (match nextF sg u l with | none => [] | some v => v :: leastF sg (some v) (r.drop (i + 1))) = _; rw [hv]
        rw [hgo] at hacc
        dsimp only [optW]
        rw [if_neg (by decide)]
        walk_at "dn"
        simp only [FL.isNon, ls_loc e8, Option.isSome_some, true_and, e8, Bool.false_eq_true, if_false, if_true, Bool.not_true]
        exact step v (by rw [nextF_len hv]; exact hl100) hacc
  · rintro τ S1 ⟨acc, x4, x5, x6, rfl, rfl, hi, hw, hacc⟩
    refine fin acc x4 x5 x6 ?_
    have hz : (zipW (natsW r) (List.replicate r.length W.non)).length = r.length := by
      unfold natsW
      rw [zipW_len, iw_len, List.length_map, List.length_replicate, Nat.min_self]
    rw [hz, List.drop_length] at hacc
    rw [← hacc]
    cases acc.getLast? <;> simp [leastF]
set_option maxHeartbeats 4000000 in
theorem ok_first_words (T : Txt K mg) : FnX P w K mg base 3 T.f_first_words T.fd_first_words 3 ["signs", "row", "held"] (sp_first_words T.C_NoFit) := by
  have G_least_words := ok_least_words (P := P) (w := w) (base := base) T
  have GI_NoFit := init_ok (P := P) (w := w) (base := base) T.FI_NoFit sci_NoFit rfl T.E_NoFit rfl (by decide) (by decide) rfl
  refine fnX T.F_first_words sc_first_words rfl (sp_first_words_len _) (fun cdv A outer s H E hr hgd => ⟨_, (pssdx_cons (psdx (psd_set (i := 3) sc_first_words.nd rfl (by first | exact Or.inl rfl | exact Or.inr rfl) (pd_call G_least_words hgd (hr.mono (by decide)) (by rfl) T.m_least_words T.F_least_words.kp T.b_least_words (pad_cons (pd_var 0) (pad_cons (pd_var 1) (pad_cons (pd_var 2) pad_nil))))))
      (pssdx_cons (psdx_if (ptd_cmp (opd_lt hr) (pd_callB cd_len (by rfl) T.z_len (by decide +kernel) (pad_cons (pd_var 3) pad_nil)) (pd_callB cd_len (by rfl) T.z_len (by decide +kernel) (pad_cons (pd_var 1) pad_nil)) (nomark _)) (pssdx_one (psdx_raise1 rfl (takes_of rfl rfl rfl rfl) T.E_NoFit GI_NoFit (hr.mono (by decide)) (pd_callB cd_len (by rfl) T.z_len (by decide +kernel) (pad_cons (pd_var 3) pad_nil)) (by rfl))) pssdx_nil)
      (pssdx_one (psdx (psd_ret (pd_callTy cd_tuple (by rfl) T.z_tuple (by decide +kernel) (pad_cons (pd_var 3) pad_nil))))))), ?_⟩)
  rintro ws S Q Ed ⟨sg, r, h, rfl, hh, hi, hq, he⟩
  have sz : 1000000 ≤ sizeLine := by rw [sizeLine_eq]; decide
  have hm := hi.m
  refine seq_gen fun R hR => ?_
  walk_at "dn"
  refine ⟨sg, r, h, rfl, hh, (fun l hl => by have := hi.l l hl; omega), by omega, fun S1 hp => ?_⟩
  have hl := least_len sg r none
  subst hR
  walk_at "dn"
  rw [cw_len, nats_len]
  by_cases c : (leastF sg none r).length = r.length
  · rw [if_neg (by rw [decide_eq_false (by omega)]; decide)]
    exact hq (decide_eq_true c) S1 hp
  · rw [if_pos (decide_eq_true (by omega))]
    exact he (decide_eq_false c) S1 hp
set_option maxHeartbeats 4000000 in
theorem ok_mirrored (T : Txt K mg) : FnG P w K mg base 1 T.f_mirrored T.fd_mirrored 2 ["signs", "word"] sp_mirrored := by
  refine fnG T.F_mirrored sc_mirrored rfl sp_mirrored_len (fun cdv A outer s H hr hgd => ⟨_, (pssd_one (psd_ret (pd_callTy cd_tuple (by rfl) T.z_tuple (by decide +kernel) (pad_cons (pd_tree (pdf_lc rfl sc_mirrored.nd (own := [("sign", 2)]) (is := [2]) (pid_seq (pd_var 1)) (fun _ _ _ _ _ => (pgd_name (i := 2) sc_mirrored.nd rfl (by first | exact Or.inl rfl | exact Or.inr rfl))) (fun _ _ _ _ _ => ptsd_nil) (fun _ _ _ _ _ => (pd_op opd_sub (pd_op opd_sub (pd_var 0) pd_int) (pd_var 2))) (by decide) (blkOk_by (own := [("sign", 2)]) (N := ["signs", "word", "sign"]) (sc := defScope s_mirrored) (by decide +kernel)))) pad_nil)))), ?_⟩)
  rintro ws S Q ⟨sg, w, rfl, hg, hl, hb, hq⟩
  have sz : 1000000 ≤ sizeLine := by rw [sizeLine_eq]; decide
  walk_at "dn"
  refine ⟨by rw [iw_len]; omega, lcI_pure (fun x => match x with | .int i => .int (((sg : Nat) : Int) - 1 - i) | w => w) (fun x hx => ?_) ?_⟩
  · obtain ⟨d, hd, rfl⟩ := List.mem_map.mp hx
    refine ⟨_, rfl, fun R hR => ?_⟩
    walk_at "dn"
    exact hR
  · have e : (iw w).map (fun x => match x with | .int i => W.int (((sg : Nat) : Int) - 1 - i) | w => w) = iw (mirW sg w) := by
      unfold iw mirW
      rw [List.map_map, List.map_map]
      rfl
    rw [e]
    exact hq
set_option maxHeartbeats 4000000 in
theorem ok_last_words (T : Txt K mg) : FnX P w K mg base 4 T.f_last_words T.fd_last_words 3 ["signs", "row", "held"] (sp_last_words T.C_NoFit) := by
  have G_first_words := ok_first_words (P := P) (w := w) (base := base) T
  have G_mirrored := ok_mirrored (P := P) (w := w) (base := base) T
  refine fnX T.F_last_words sc_last_words rfl (sp_last_words_len _) (fun cdv A outer s H E hr hgd => ⟨_, (pssdx_cons (psdx_expr (pdx_call G_first_words hgd (hr.mono (by decide)) (takes_of rfl rfl rfl rfl) (by rfl) T.m_first_words T.F_first_words.kp T.b_first_words (pad_cons (pd_var 0) (pad_cons (pd_var 1) (pad_cons (pd_var 2) pad_nil)))))
      (pssdx_cons (psdx (psd_setLcT (i := 3) rfl sc_last_words.nd rfl rfl (own := [("word", 4)]) (is := [4]) (pid_seq (pd_rev (pd_var 2))) (fun _ _ _ _ _ => (pgd_name (i := 4) sc_last_words.nd rfl (by first | exact Or.inl rfl | exact Or.inr rfl))) (fun _ _ _ _ _ => ptsd_nil) (fun _ _ _ _ _ => (pd_ifExp (ptd_cmp opd_isN (pd_var 4) pd_non (nomark _)) pd_non (pd_call G_mirrored hgd (hr.mono (by decide)) (by rfl) T.m_mirrored T.F_mirrored.kp T.b_mirrored (pad_cons (pd_var 0) (pad_cons (pd_var 4) pad_nil))))) (by decide) (blkOk_by (own := [("word", 4)]) (N := ["signs", "row", "held", "turned", "word"]) (sc := defScope s_last_words) (by decide +kernel)) (sw_true rfl rfl rfl (by decide +kernel))))
      (pssdx_one (psdx (psd_ret (pd_callTy cd_tuple (by rfl) T.z_tuple (by decide +kernel) (pad_cons (pd_tree (pdf_lc rfl sc_last_words.nd (own := [("word", 4)]) (is := [4]) (pid_seq (pd_rev (pd_ofX (pdx_call G_first_words hgd (hr.mono (by decide)) takes0 (by rfl) T.m_first_words T.F_first_words.kp T.b_first_words (pad_cons (pd_var 0) (pad_cons (pd_rev (pd_var 1)) (pad_cons (pd_var 3) pad_nil))))))) (fun _ _ _ _ _ => (pgd_name (i := 4) sc_last_words.nd rfl (by first | exact Or.inl rfl | exact Or.inr rfl))) (fun _ _ _ _ _ => ptsd_nil) (fun _ _ _ _ _ => (pd_call G_mirrored hgd (hr.mono (by decide)) (by rfl) T.m_mirrored T.F_mirrored.kp T.b_mirrored (pad_cons (pd_var 0) (pad_cons (pd_var 4) pad_nil)))) (by decide) (blkOk_by (own := [("word", 4)]) (N := ["signs", "row", "held", "turned", "word"]) (sc := defScope s_last_words) (by decide +kernel)))) pad_nil))))))), ?_⟩)
  rintro ws S Q Ed ⟨sg, r, rfl, hi, hq, he⟩
  have sz : 1000000 ≤ sizeLine := by rw [sizeLine_eq]; decide
  have hm := hi.m
  refine seq_gen fun R hR => ?_
  walk_at "dn"
  refine ⟨sg, r, _, rfl, rfl, hi, fun hf S1 hp => ?_, fun hf S1 hp => he hf S1 hp⟩
  subst hR
  refine seq_gen fun R hR => ?_
  walk_at "dn"
  refine ⟨by rw [List.length_reverse, List.length_replicate]; omega, lcI_pure (fun _ => .non) (fun x hx => ?_) ?_⟩
  · obtain rfl : x = .non := (List.mem_replicate.mp (List.mem_reverse.mp hx)).2
    refine ⟨_, rfl, fun R4 hR4 => ?_⟩
    walk_at "dn"
    exact hR4
  rw [List.map_const', List.length_reverse, List.length_replicate]
  subst hR
  walk_at "dn"
  have hL := least_cd hi.g (of_decide_eq_true hf)
  have hM := cd_full hi.g (cd_mir hL)
  rw [nats_rev]
  refine ⟨sg, r.reverse, _, rfl, by rw [List.length_reverse]; rfl, ⟨hi.g, hi.h, fun l hl => hi.l l (List.mem_reverse.mp hl), by rw [List.length_reverse]; exact hi.n, by rw [List.length_reverse]; exact hi.m⟩, fun _ S2 hp2 => ?_, fun hf2 => by unfold fitB at hf2; rw [decide_eq_true hM] at hf2; cases hf2⟩
  have hl16 : (leastF sg none r.reverse).length ≤ 16 := by rw [hM, List.length_reverse]; exact hi.m
  have hC := least_cd hi.g hM
  refine ⟨by rw [List.length_reverse, cw_len]; omega, lcI_pure (mirE sg) (fun x hx => ?_) ?_⟩
  · obtain ⟨w, hw, rfl⟩ := List.mem_map.mp (List.mem_reverse.mp hx)
    refine ⟨_, rfl, fun R4 hR4 => ?_⟩
    walk_at "dn"
    have hlw : w.length ≤ 16 := by
      have h1 : w.length ∈ r.reverse := by rw [← hC.l]; exact List.mem_map.mpr ⟨w, hw, rfl⟩
      exact hi.l _ (List.mem_reverse.mp h1)
    have hg := hi.h
    refine ⟨sg, w, rfl, by omega, by omega, fun x hx => by have := hC.s w hw x hx; omega, ?_⟩
    unfold mirE at hR4
    rw [ofW_iw] at hR4
    exact hR4
  · rw [mirE_map]
    exact hq hf _ (hp.trans hp2)
set_option maxHeartbeats 4000000 in
theorem ok_first_code (T : Txt K mg) : FnX P w K mg base 4 T.f_first_code T.fd_first_code 2 ["signs", "row"] (sp_first_code T.C_NoFit) := by
  have G_first_words := ok_first_words (P := P) (w := w) (base := base) T
  have G_nothing_held := ok_nothing_held (P := P) (w := w) (base := base) T
  refine fnX T.F_first_code sc_first_code rfl (sp_first_code_len _) (fun cdv A outer s H E hr hgd => ⟨_, (pssdx_one (psdx_ret (pdx_call G_first_words hgd (hr.mono (by decide)) (takes_of rfl rfl rfl rfl) (by rfl) T.m_first_words T.F_first_words.kp T.b_first_words (pad_cons (pd_var 0) (pad_cons (pd_var 1) (pad_cons (pd_call G_nothing_held hgd (hr.mono (by decide)) (by rfl) T.m_nothing_held T.F_nothing_held.kp T.b_nothing_held (pad_cons (pd_var 1) pad_nil)) pad_nil)))))), ?_⟩)
  rintro ws S Q Ed ⟨sg, r, rfl, hi, hq, he⟩
  walk_at "dn"
  refine ⟨natsW r, rfl, by rw [nats_len]; exact hi.n, by rw [nats_len]; have := hi.m; omega, ?_⟩
  rw [nats_len]
  exact ⟨sg, r, _, rfl, rfl, hi, hq, he⟩
set_option maxHeartbeats 4000000 in
theorem ok_last_code (T : Txt K mg) : FnX P w K mg base 5 T.f_last_code T.fd_last_code 2 ["signs", "row"] (sp_last_code T.C_NoFit) := by
  have G_last_words := ok_last_words (P := P) (w := w) (base := base) T
  have G_nothing_held := ok_nothing_held (P := P) (w := w) (base := base) T
  refine fnX T.F_last_code sc_last_code rfl (sp_last_code_len _) (fun cdv A outer s H E hr hgd => ⟨_, (pssdx_one (psdx_ret (pdx_call G_last_words hgd (hr.mono (by decide)) (takes_of rfl rfl rfl rfl) (by rfl) T.m_last_words T.F_last_words.kp T.b_last_words (pad_cons (pd_var 0) (pad_cons (pd_var 1) (pad_cons (pd_call G_nothing_held hgd (hr.mono (by decide)) (by rfl) T.m_nothing_held T.F_nothing_held.kp T.b_nothing_held (pad_cons (pd_var 1) pad_nil)) pad_nil)))))), ?_⟩)
  rintro ws S Q Ed ⟨sg, r, rfl, hi, hq, he⟩
  walk_at "dn"
  refine ⟨natsW r, rfl, by rw [nats_len]; exact hi.n, by rw [nats_len]; have := hi.m; omega, ?_⟩
  rw [nats_len]
  exact ⟨sg, r, rfl, hi, hq, he⟩
set_option maxHeartbeats 4000000 in
theorem ok__law_deck (T : Txt K mg) : FnG P w K mg base 1 T.f__law_deck T.fd__law_deck 1 ["script"] sp_law_deck := by
  refine fnG T.F__law_deck sc__law_deck rfl sp_law_deck_len (fun cdv A outer s H hr hgd => ⟨_, (pssd_cons (psd_set (i := 1) sc__law_deck.nd rfl (by first | exact Or.inl rfl | exact Or.inr rfl) pd_int)
      (pssd_cons (psd_for PassesOwn.never rfl (pid_seq (pd_slice (pd_var 0) pod_none (pod_some pd_int))) (pgd_name (i := 2) sc__law_deck.nd rfl (by first | exact Or.inl rfl | exact Or.inr rfl))
      (pssd_one (psd_if (ptd_cmp opd_geI (pd_callB cd_abs (by rfl) T.z_abs (by decide +kernel) (pad_cons (pd_var 2) pad_nil)) (pd_op opd_pow pd_int pd_int) (nomark _)) (pssd_one (psd_set (i := 1) sc__law_deck.nd rfl (by first | exact Or.inl rfl | exact Or.inr rfl) (pd_op opd_add (pd_op opd_mulB (pd_var 1) pd_int) (pd_callB cd_abs (by rfl) T.z_abs (by decide +kernel) (pad_cons (pd_var 2) pad_nil))))) pssd_nil)))
      (pssd_one (psd_ret (pd_dicC (ppd_cons pd_str (pd_op opd_add (pd_tree (pdf_callTy cf_list (by rfl) T.z_list (by decide +kernel) (pad_cons (pd_slice (pd_var 0) pod_none (pod_some pd_int)) pad_nil))) (pd_tree (pdf_lst (pad_cons (pd_op opd_add (pd_callB cd_len (by rfl) T.z_len (by decide +kernel) (pad_cons (pd_var 0) pad_nil)) pd_int) pad_nil)))) (ppd_cons pd_str pd_int (ppd_cons pd_str (pd_var 1) ppd_nil)))))))), ?_⟩)
  rintro ws S Q ⟨ns, rfl, hl, hq⟩
  walk_at "dn"
  have c0 : cutW (ns.map W.int) none (some 57) = (ns.take 57).map W.int := by rw [show (57 : Int) = ((57 : Nat) : Int) from rfl, cut_take, List.map_take]
  simp only [ll_scr, c0, st_lst]
  refine forI_inv (fun _ τ S' => S' = S ∧ ∃ g c, τ = [some (.scr ns), some (.int g), c] ∧ 0 ≤ g) ⟨rfl, 0, _, rfl, Int.le_refl _⟩ ?_ ?_
  · rintro i x τ S' e ⟨rfl, g, c, rfl, hg⟩
    obtain ⟨y, _, rfl⟩ := List.mem_map.mp (List.mem_of_getElem? e)
    refine ⟨_, rfl, ?_⟩
    walk_at "dn"
    have hz : 0 ≤ (if y < 0 then -y else y) := by split <;> omega
    generalize (if y < 0 then -y else y) = z at hz ⊢
    refine ⟨⟨by decide, by decide, by decide⟩, ?_⟩
    split
    · refine ⟨.inr ⟨by decide, by decide⟩, _, _, rfl, ?_⟩
      have h1 : 0 ≤ g * 83 := Int.mul_nonneg hg (by decide)
      omega
    · exact ⟨_, _, rfl, hg⟩
  · rintro τ S' ⟨rfl, g, c, rfl, hg⟩
    walk_at "dn"
    simp only [ll_scr, c0, sq_lst, ln_scr, ls_lst, List.length_map, List.length_take]
    refine ⟨by rw [sizeLine_eq]; decide, by rw [sizeLine_eq]; simp; omega, by decide +kernel, by decide, hq _ ⟨ns.take 57 ++ [(ns.length : Int) + 23], 0, g, ?_, by simp, by simp; omega, by decide, by decide, hg⟩ ⟨_, rfl⟩⟩
    simp
set_option maxHeartbeats 4000000 in
theorem ok__law_take (T : Txt K mg) : FnG P w K mg base 1 T.f__law_take T.fd__law_take 2 ["deck", "many"] sp_law_take := by
  refine fnG T.F__law_take sc__law_take rfl sp_law_take_len (fun cdv A outer s H hr hgd => ⟨_, (pssd_cons (psd_dput (hu_of hr) (pd_var 0) pd_str (pd_op opd_add (pd_dget (hu_of hr) (pd_var 0) pd_str (fun _ _ => rfl)) pd_int) rfl)
      (pssd_cons (psd_if (ptd_cmp opd_gtI (pd_dget (hu_of hr) (pd_var 0) pd_str (fun _ _ => rfl)) pd_int (nomark _)) (pssd_cons (psd_set (i := 3) sc__law_take.nd rfl (by first | exact Or.inl rfl | exact Or.inr rfl) (pd_op opd_mod (pd_dget (hu_of hr) (pd_var 0) pd_str (fun _ _ => rfl)) (pd_var 1)))
      (pssd_cons (psd_dput (hu_of hr) (pd_var 0) pd_str (pd_op opd_fdiv (pd_dget (hu_of hr) (pd_var 0) pd_str (fun _ _ => rfl)) (pd_var 1)) rfl)
      (pssd_one (psd_ret (pd_var 3))))) pssd_nil)
      (pssd_cons (psd_par (i := 4) (j := 5) rfl sc__law_take.nd rfl rfl (by decide) (pad_cons (pd_dget (hu_of hr) (pd_var 0) pd_str (fun _ _ => rfl)) (pad_cons (pd_dget (hu_of hr) (pd_var 0) pd_str (fun _ _ => rfl)) pad_nil)) (fun ta pa => ps_par rfl sc__law_take.nd rfl rfl (by decide) rfl rfl pa (by rfl)))
      (pssd_cons (psd_set (i := 2) sc__law_take.nd rfl (by first | exact Or.inl rfl | exact Or.inr rfl) (pd_op opd_mod (pd_op opd_pow (pd_op opd_add (pd_op opd_add (pd_op opd_mod (pd_ix (pd_var 5) (pd_op opd_mod (pd_var 4) (pd_callB cd_len (by rfl) T.z_len (by decide +kernel) (pad_cons (pd_var 5) pad_nil))) (fun _ _ => rfl)) pd_int) (pd_op opd_mulB pd_int (pd_var 4))) pd_int) pd_int) pd_int))
      (pssd_one (psd_ret (pd_op opd_mod (pd_op opd_fdiv (pd_op opd_mod (pd_op opd_add (pd_op opd_mulB (pd_var 2) pd_int) (pd_op opd_mulB (pd_op opd_mulB pd_int (pd_var 4)) (pd_var 4))) pd_int) pd_int) (pd_var 1)))))))), ?_⟩)
  rintro ws S Q ⟨d, many, N, rfl, h1, h2, hd, hN, hq⟩
  have hl := hd.lt
  obtain ⟨ns, t, g, e, n1, n2, t0, t1, g0⟩ := hd
  walk_at "dn"
  simp only [dk_loc e, e, gk_turn, pk_turn, pk_great, gk_great, gk_cells, dk_set hl, set_at hl, List.set_set, deck_nd, deck_ln, true_and]
  split
  · exact ⟨h1, ⟨h1, h2⟩, hq _ _ (Int.emod_nonneg _ (by omega)) (Int.emod_lt_of_pos _ h1) ⟨ns, t + 1, g / many, set_at hl, n1, n2, by omega, by omega, Int.ediv_nonneg g0 (by omega)⟩ ch_set⟩
  · simp only [ln_lst, sq_lst, List.length_map]
    have nl : (0 : Int) < (ns.length : Nat) := by omega
    have i0 : 0 ≤ (t + 1) % ((ns.length : Nat) : Int) := Int.emod_nonneg _ (by omega)
    have i1 : (t + 1) % ((ns.length : Nat) : Int) < ((ns.length : Nat) : Int) := Int.emod_lt_of_pos _ nl
    obtain ⟨x, hx, hm, _⟩ := atI_of (xs := ns.map W.int) i0 (by rw [List.length_map]; exact i1)
    obtain ⟨y, _, rfl⟩ := List.mem_map.mp hm
    refine ⟨nl, ?_⟩
    rw [hx]
    have y0 : 0 ≤ y % 2147483399 := Int.emod_nonneg _ (by decide)
    have y1 : y % 2147483399 < 2147483399 := Int.emod_lt_of_pos _ (by decide)
    refine ⟨by decide, .inl ⟨by decide, by decide⟩, ⟨by decide, by decide, by omega⟩, by decide, .inr ⟨by decide, by decide⟩, .inl ⟨by decide, by decide⟩, .inl ⟨by omega, by omega⟩, by decide, ⟨by decide, by decide +kernel⟩, h1, ?_⟩
    exact hq _ _ (Int.emod_nonneg _ (by omega)) (Int.emod_lt_of_pos _ h1) ⟨ns, t + 1, g, set_at hl, n1, n2, by omega, by omega, g0⟩ ch_set
set_option maxHeartbeats 4000000 in
theorem ok__law_one (T : Txt K mg) : FnG P w K mg base 2 T.f__law_one T.fd__law_one 2 ["deck", "items"] sp_law_one := by
  have G__law_take := ok__law_take (P := P) (w := w) (base := base) T
  refine fnG T.F__law_one sc__law_one rfl sp_law_one_len (fun cdv A outer s H hr hgd => ⟨_, (pssd_one (psd_ret (pd_ix (pd_var 1) (pd_call G__law_take hgd (hr.mono (by decide)) (by rfl) T.m__law_take T.F__law_take.kp T.b__law_take (pad_cons (pd_var 0) (pad_cons (pd_callB cd_len (by rfl) T.z_len (by decide +kernel) (pad_cons (pd_var 1) pad_nil)) pad_nil))) (fun _ _ => rfl)))), ?_⟩)
  rintro ws S Q ⟨d, it, us, N, rfl, hs, hn, h1, h2, hd, hN, hq⟩
  walk_at "dn"
  simp only [sq_eq_of hs]
  refine ⟨d, us.length, N, rfl, by omega, ?_, hd, hN, fun n S' n0 n1 hd' hc => ?_⟩
  · have : us.length.log2 < 20 := by
      by_cases hz : us.length = 0
      · omega
      · exact (Nat.log2_lt hz).mpr (by omega)
    show ((us.length : Int)).natAbs.log2 < 9000
    rw [Int.natAbs_natCast]
    omega
  · have e : sqOf S' it = some us := by
      cases it with
      | loc m => exact absurd rfl (hn m)
      | _ => exact hs
    simp only [e]
    obtain ⟨x, hx, hm, _⟩ := atI_of (xs := us) n0 n1
    rw [hx]
    exact hq x S' hm hd' hc
set_option maxHeartbeats 4000000 in
theorem ok__law_is_whole (T : Txt K mg) : FnG P w K mg base 1 T.f__law_is_whole T.fd__law_is_whole 3 ["value", "low", "high"] sp_law_is_whole := by
  refine fnG T.F__law_is_whole sc__law_is_whole rfl sp_law_is_whole_len (fun cdv A outer s H hr hgd => ⟨_, (pssd_one (psd_ret (pd_and (pd_isi Tg.int (by decide) (pd_var 0) (by rfl) T.z_isinstance (by decide +kernel) (by rfl) T.z_int (by decide +kernel)) (pd_and (pd_not (pd_isi Tg.bool (by decide) (pd_var 0) (by rfl) T.z_isinstance (by decide +kernel) (by rfl) T.z_bool (by decide +kernel))) (pd_one (pd_chain (opd_le hr) (opd_le hr) (pd_var 1) (pd_var 0) (pd_var 2))))))), ?_⟩)
  rintro ws S Q ⟨w, lo, hi, rfl, hk, hq⟩
  walk_at "dn"
  obtain ⟨t, ht⟩ := Option.isSome_iff_exists.mp hk
  simp only [ht]
  cases w <;> first | (cases ht; done) | (cases ht; simp only [isT, decide_false, decide_true, if_true, Bool.not_false, Bool.not_true, Bool.false_eq_true, if_false, isWhole, reduceCtorEq] at hq ⊢; first | exact hq | done) | skip
  · cases ht
    simp only [isT, decide_false, decide_true, if_true, Bool.not_false, isWhole, reduceCtorEq] at hq ⊢
    rename_i i
    by_cases h1 : lo ≤ i
    · simp only [h1, decide_true, if_true, true_and] at hq ⊢; exact hq
    · simp only [h1, decide_false, Bool.false_eq_true, if_false, false_and] at hq ⊢; exact hq
  · have hn : t = .list ∨ t = .dict := by
      have ht' := ht
      unfold tgOf at ht'
      dsimp only at ht'
      split at ht' <;> cases ht' <;> simp
    rcases hn with rfl | rfl <;> (simp only [isT, decide_false, Bool.not_false, if_true, Bool.false_eq_true, if_false, isWhole, reduceCtorEq] at hq ⊢; exact hq)
set_option maxHeartbeats 4000000 in
theorem ok__law_starts (T : Txt K mg) : FnG P w K mg base 1 T.f__law_starts T.fd__law_starts 2 ["one", "other"] sp_law_starts := by
  refine fnG T.F__law_starts sc__law_starts rfl sp_law_starts_len (fun cdv A outer s H hr hgd => ⟨_, (pssd_one (psd_ret (pd_and (pd_cmp (opd_le hr) (pd_callB cd_len (by rfl) T.z_len (by decide +kernel) (pad_cons (pd_var 0) pad_nil)) (pd_callB cd_len (by rfl) T.z_len (by decide +kernel) (pad_cons (pd_var 1) pad_nil)) (nomark _)) (pd_one (pd_cmp (opd_eq hr) (pd_tree (pdf_callTy cf_list (by rfl) T.z_list (by decide +kernel) (pad_cons (pd_var 0) pad_nil))) (pd_tree (pdf_callTy cf_list (by rfl) T.z_list (by decide +kernel) (pad_cons (pd_slice (pd_var 1) pod_none (pod_some (pd_callB cd_len (by rfl) T.z_len (by decide +kernel) (pad_cons (pd_var 0) pad_nil)))) pad_nil))) (nomark _)))))), ?_⟩)
  rintro ws S Q ⟨ns, ms, rfl, h1, h2, hq⟩
  walk_at "dn"
  have e : cutW (iw ms) none (some (((iw ns).length : Nat) : Int)) = iw (ms.take ns.length) := by rw [cut_take]; unfold iw; rw [List.map_take, List.length_map]
  simp only [ln_tup, e, sq_tup]
  by_cases hl : ns.length ≤ ms.length
  · rw [if_pos (decide_eq_true (by unfold iw; rw [List.length_map, List.length_map]; omega))]
    refine rdEq_lst (eqGs_iw _) (eqGs_iw _) (by rw [deps_iw]; omega) (by rw [deps_iw]; omega) ?_
    rw [eqWs_iw]
    have e2 : decide (ns = ms.take ns.length) = decide (ms.take ns.length = ns) := decide_eq_decide.mpr ⟨Eq.symm, Eq.symm⟩
    rw [e2]
    exact hq
  · rw [if_neg (by simp [iw]; omega)]
    have e2 : decide (ms.take ns.length = ns) = false := decide_eq_false fun z => by
      have := congrArg List.length z
      rw [List.length_take] at this
      omega
    rw [e2] at hq
    exact hq
set_option hygiene false in
local macro_rules | `(tactic| walk_at "k3r1") => `(tactic| (
  walk_at "dn"
  refine ⟨by omega, by omega, ?_⟩
  unfold sWhile
  have hdl := hd3.lt
  refine ⟨fun τ S' => ∃ os : List Int, τ = [some (.loc d), some (.int sg), some (.lst (cw c)), some (.int many), some (.int deep), some (.lst (a :: as)), some (.int (k : Nat)), some (.int left), some (.int (1 : Int)), some (.loc SB.length), none] ∧ S'[SB.length]? = some (some (.lst (iw os))) ∧ DeckAt S' d (N + 3 + (sg - os.length)) ∧ Ch d S0 S' ∧ (left ≤ os.length ∨ (1 : Int) ≤ os.length) ∧ (os.length : Int) ≤ sg ∧ (∀ x ∈ os, 0 ≤ x ∧ x < sg) ∧ os.Pairwise (· < ·), fun _ S' => lenAt SB.length S', ?_, ?_⟩
  · refine ⟨(List.range sg.toNat).map fun (i : Nat) => (0 : Int) + (i : Nat), ?_, ?_, ?_, ch_add hc3, ?_, ?_, ?_⟩
    · rfl
    · rw [List.getElem?_append_right (Nat.le_refl _), Nat.sub_self, List.getElem?_cons_zero]
      unfold iw rangeW
      rw [List.map_map]
      rfl
    · rw [List.length_map, List.length_range]
      exact (deck_add hd3).mono (by omega)
    · rw [List.length_map, List.length_range]; omega
    · rw [List.length_map, List.length_range]; omega
    · refine ⟨fun x hx => ?_, List.Pairwise.map _ (fun a b hab => by omega) List.pairwise_lt_range⟩
      obtain ⟨i, hi, rfl⟩ := List.mem_map.mp hx
      have := List.mem_range.mp hi
      omega
  · rintro τ SD ⟨os, rfl, e4, hd4, hc4, hmin, hle, hb, hnd⟩
    walk_at "dn"
    simp only [ln_loc e4, iw_len]
    by_cases hlt : (if left < (1 : Int) then left else (1 : Int)) < (os.length : Int)
    · simp only [hlt, decide_true, if_true, ls_loc e4, Option.isSome_some, true_and]
      have hol : 0 < os.length := by
        have : (0 : Int) < (if left < (1 : Int) then left else (1 : Int)) := by split <;> omega
        omega
      refine ⟨d, os.length, _, rfl, by omega, log2_small (by omega), hd4, by omega, fun n SE n0 n1 hd5 hc5 => ?_⟩
      have hml : SB.length < SD.length := (List.getElem?_eq_some_iff.mp e4).1
      have e5 : SE[SB.length]? = some (some (.lst (iw os))) := (hc5.2 _ (by omega) hml).trans e4
      simp only [e5, rdPopAt]
      have hnl : n.toNat < os.length := by omega
      refine ⟨n.toNat, .int os[n.toNat], by omega, by omega, by unfold iw; rw [List.getElem?_map, List.getElem?_eq_getElem hnl]; rfl, ?_⟩
      have hel := List.length_eraseIdx_of_lt hnl
      have hml5 : SB.length < SE.length := (List.getElem?_eq_some_iff.mp e5).1
      have e6 : (SE.set SB.length (some (.lst ((iw os).eraseIdx n.toNat))))[SB.length]? = some (some (.lst (iw (os.eraseIdx n.toNat)))) := by rw [List.getElem?_set_self hml5, iw_erase]
      refine ⟨⟨os.eraseIdx n.toNat, e6, (deck_ne hd5 (by omega)).mono (by omega), ch_hi (hc4.trans hc5) hc3.1, ?_, by omega, fun x hx => hb x (List.mem_of_mem_eraseIdx hx), hnd.sublist (List.eraseIdx_sublist ..)⟩, ?_⟩
      · split at hlt <;> omega
      · rw [lenAt_of e6, lenAt_of e4, iw_len, iw_len]; omega
    · simp only [hlt, decide_false, Bool.false_eq_true, if_false]
      walk_at "dn"
      have hk : k ≤ c.length := by have := (List.getElem?_eq_some_iff.mp ew).1; omega
      have c1 : cutW (cw c) none (some (k : Int)) = cw (c.take k) := by rw [cut_take, cw_take]
      have c2 : cutW (cw c) (some ((k : Int) + 1)) none = cw (c.drop (k + 1)) := by rw [show ((k : Int) + 1) = ((k + 1 : Nat) : Int) by omega, cut_drop, cw_drop]
      simp only [e4, st_lst, c1, c2]
      have hos : os.length ≤ 6 := by omega
      have szw : w.length ≤ 16 := by omega
      have sz : 1000 ≤ sizeLine := by rw [sizeLine_eq]; decide
      refine ⟨Nat.le_trans (by rw [iw_len]; omega) sz, lcI_pure (fun x => .tup (iw w ++ [x])) (fun x hm => ⟨_, rfl, fun R hR => ?_⟩) ?_⟩
      · walk_at "dn"
        simp only [at_cw ew rfl]
        have := iw_len w
        exact ⟨Nat.le_trans (by decide) sz, Nat.le_trans (by simp; omega) sz, hR⟩
      · have c3 : (iw os).map (fun x => W.tup (iw w ++ [x])) = cw (os.map fun o => w ++ [o]) := by
          unfold cw iw
          rw [List.map_map, List.map_map]
          apply List.map_congr_left
          intro o _
          show W.tup (w.map W.int ++ [.int o]) = W.tup ((w ++ [o]).map W.int)
          rw [List.map_append]
          rfl
        simp only [c3, rdCatL, ls_lst, cw_app]
        have hsl := split_len (os := os) ew
        have hol : 0 < os.length := by rcases hmin with h | h <;> omega
        have h0 : os.length ≤ 6 := by omega
        refine ⟨Nat.le_trans (by simp only [cw_len, List.length_take, List.length_map]; omega) sz, Nat.le_trans (by simp only [cw_len, List.length_append, List.length_take, List.length_map, List.length_drop]; omega) sz, ?_⟩
        refine (hq _ ((deck_ne hd4 (by omega)).mono (by omega)) (ch_hi hc4 hc3.1)).2 (splitF c k w os) (split_ws hW ew hw hb hnd) ?_ ?_
        · have : (os.length : Int) ≤ left := by split at hlt <;> omega
          omega
        · by_cases h1 : os.length = 1
          · exact .inr ⟨by omega, split_tot ew h1⟩
          · exact .inl (by omega)))
set_option hygiene false in
local macro_rules | `(tactic| walk_at "k3r2") => `(tactic| (
  walk_at "dn"
  refine ⟨by omega, by omega, ?_⟩
  unfold sWhile
  have hdl := hd3.lt
  refine ⟨fun τ S' => ∃ os : List Int, τ = [some (.loc d), some (.int sg), some (.lst (cw c)), some (.int many), some (.int deep), some (.lst (a :: as)), some (.int (k : Nat)), some (.int left), some (.int most), some (.loc SB.length), none] ∧ S'[SB.length]? = some (some (.lst (iw os))) ∧ DeckAt S' d (N + 3 + (sg - os.length)) ∧ Ch d S0 S' ∧ (left ≤ os.length ∨ most ≤ os.length) ∧ (os.length : Int) ≤ sg ∧ (∀ x ∈ os, 0 ≤ x ∧ x < sg) ∧ os.Pairwise (· < ·), fun _ S' => lenAt SB.length S', ?_, ?_⟩
  · refine ⟨(List.range sg.toNat).map fun (i : Nat) => (0 : Int) + (i : Nat), ?_, ?_, ?_, ch_add hc3, ?_, ?_, ?_⟩
    · rfl
    · rw [List.getElem?_append_right (Nat.le_refl _), Nat.sub_self, List.getElem?_cons_zero]
      unfold iw rangeW
      rw [List.map_map]
      rfl
    · rw [List.length_map, List.length_range]
      exact (deck_add hd3).mono (by omega)
    · rw [List.length_map, List.length_range]; omega
    · rw [List.length_map, List.length_range]; omega
    · refine ⟨fun x hx => ?_, List.Pairwise.map _ (fun a b hab => by omega) List.pairwise_lt_range⟩
      obtain ⟨i, hi, rfl⟩ := List.mem_map.mp hx
      have := List.mem_range.mp hi
      omega
  · rintro τ SD ⟨os, rfl, e4, hd4, hc4, hmin, hle, hb, hnd⟩
    walk_at "dn"
    simp only [ln_loc e4, iw_len]
    by_cases hlt : (if left < most then left else most) < (os.length : Int)
    · simp only [hlt, decide_true, if_true, ls_loc e4, Option.isSome_some, true_and]
      have hol : 0 < os.length := by
        have : (0 : Int) < (if left < most then left else most) := by split <;> omega
        omega
      refine ⟨d, os.length, _, rfl, by omega, log2_small (by omega), hd4, by omega, fun n SE n0 n1 hd5 hc5 => ?_⟩
      have hml : SB.length < SD.length := (List.getElem?_eq_some_iff.mp e4).1
      have e5 : SE[SB.length]? = some (some (.lst (iw os))) := (hc5.2 _ (by omega) hml).trans e4
      simp only [e5, rdPopAt]
      have hnl : n.toNat < os.length := by omega
      refine ⟨n.toNat, .int os[n.toNat], by omega, by omega, by unfold iw; rw [List.getElem?_map, List.getElem?_eq_getElem hnl]; rfl, ?_⟩
      have hel := List.length_eraseIdx_of_lt hnl
      have hml5 : SB.length < SE.length := (List.getElem?_eq_some_iff.mp e5).1
      have e6 : (SE.set SB.length (some (.lst ((iw os).eraseIdx n.toNat))))[SB.length]? = some (some (.lst (iw (os.eraseIdx n.toNat)))) := by rw [List.getElem?_set_self hml5, iw_erase]
      refine ⟨⟨os.eraseIdx n.toNat, e6, (deck_ne hd5 (by omega)).mono (by omega), ch_hi (hc4.trans hc5) hc3.1, ?_, by omega, fun x hx => hb x (List.mem_of_mem_eraseIdx hx), hnd.sublist (List.eraseIdx_sublist ..)⟩, ?_⟩
      · split at hlt <;> omega
      · rw [lenAt_of e6, lenAt_of e4, iw_len, iw_len]; omega
    · simp only [hlt, decide_false, Bool.false_eq_true, if_false]
      walk_at "dn"
      have hk : k ≤ c.length := by have := (List.getElem?_eq_some_iff.mp ew).1; omega
      have c1 : cutW (cw c) none (some (k : Int)) = cw (c.take k) := by rw [cut_take, cw_take]
      have c2 : cutW (cw c) (some ((k : Int) + 1)) none = cw (c.drop (k + 1)) := by rw [show ((k : Int) + 1) = ((k + 1 : Nat) : Int) by omega, cut_drop, cw_drop]
      simp only [e4, st_lst, c1, c2]
      have hos : os.length ≤ 6 := by omega
      have szw : w.length ≤ 16 := by omega
      have sz : 1000 ≤ sizeLine := by rw [sizeLine_eq]; decide
      refine ⟨Nat.le_trans (by rw [iw_len]; omega) sz, lcI_pure (fun x => .tup (iw w ++ [x])) (fun x hm => ⟨_, rfl, fun R hR => ?_⟩) ?_⟩
      · walk_at "dn"
        simp only [at_cw ew rfl]
        have := iw_len w
        exact ⟨Nat.le_trans (by decide) sz, Nat.le_trans (by simp; omega) sz, hR⟩
      · have c3 : (iw os).map (fun x => W.tup (iw w ++ [x])) = cw (os.map fun o => w ++ [o]) := by
          unfold cw iw
          rw [List.map_map, List.map_map]
          apply List.map_congr_left
          intro o _
          show W.tup (w.map W.int ++ [.int o]) = W.tup ((w ++ [o]).map W.int)
          rw [List.map_append]
          rfl
        simp only [c3, rdCatL, ls_lst, cw_app]
        have hsl := split_len (os := os) ew
        have hol : 0 < os.length := by rcases hmin with h | h <;> omega
        have h0 : os.length ≤ 6 := by omega
        refine ⟨Nat.le_trans (by simp only [cw_len, List.length_take, List.length_map]; omega) sz, Nat.le_trans (by simp only [cw_len, List.length_append, List.length_take, List.length_map, List.length_drop]; omega) sz, ?_⟩
        refine (hq _ ((deck_ne hd4 (by omega)).mono (by omega)) (ch_hi hc4 hc3.1)).2 (splitF c k w os) (split_ws hW ew hw hb hnd) ?_ ?_
        · have : (os.length : Int) ≤ left := by split at hlt <;> omega
          omega
        · by_cases h1 : os.length = 1
          · exact .inr ⟨by omega, split_tot ew h1⟩
          · exact .inl (by omega)))
set_option maxHeartbeats 4000000 in
theorem ok__law_split (T : Txt K mg) : FnG P w K mg base 3 T.f__law_split T.fd__law_split 5 ["deck", "signs", "words", "many", "deep"] sp_law_split := by
  have G__law_one := ok__law_one (P := P) (w := w) (base := base) T
  have G__law_take := ok__law_take (P := P) (w := w) (base := base) T
  refine fnG T.F__law_split sc__law_split rfl sp_law_split_len (fun cdv A outer s H hr hgd => ⟨_, (pssd_cons (psd_setLcT (i := 5) rfl sc__law_split.nd rfl rfl (own := [("spot", 6)]) (is := [6]) (pid_range1 (by rfl) T.z_range (pad_cons (pd_callB cd_len (by rfl) T.z_len (by decide +kernel) (pad_cons (pd_var 2) pad_nil)) pad_nil)) (fun _ _ _ _ _ => (pgd_name (i := 6) sc__law_split.nd rfl (by first | exact Or.inl rfl | exact Or.inr rfl))) (fun _ _ _ _ _ => (ptsd_one (ptd_cmp (opd_lt hr) (pd_callB cd_len (by rfl) T.z_len (by decide +kernel) (pad_cons (pd_ix (pd_var 2) (pd_var 6) (fun _ _ => rfl)) pad_nil)) (pd_var 4) (nomark _)))) (fun _ _ _ _ _ => (pd_var 6)) (by decide) (blkOk_by (own := [("spot", 6)]) (N := ["deck", "signs", "words", "many", "deep", "spots", "spot", "left", "most", "own", "sign"]) (sc := defScope s__law_split) (by decide +kernel)) (sw_true rfl rfl rfl (by decide +kernel)))
      (pssd_cons (psd_if (ptd_cmp (opd_eq hr) (pd_var 5) (pd_tree (pdf_lst pad_nil)) (nomark _)) (pssd_one (psd_ret pd_non)) pssd_nil)
      (pssd_cons (psd_set (i := 6) sc__law_split.nd rfl (by first | exact Or.inl rfl | exact Or.inr rfl) (pd_call G__law_one hgd (hr.mono (by decide)) (by rfl) T.m__law_one T.F__law_one.kp T.b__law_one (pad_cons (pd_var 0) (pad_cons (pd_var 5) pad_nil))))
      (pssd_cons (psd_set (i := 7) sc__law_split.nd rfl (by first | exact Or.inl rfl | exact Or.inr rfl) (pd_callB (cd_min2 rfl) (by rfl) T.z_min (by decide +kernel) (pad_cons (pd_var 1) (pad_cons (pd_op opd_add (pd_op opd_sub (pd_var 3) (pd_callB cd_len (by rfl) T.z_len (by decide +kernel) (pad_cons (pd_var 2) pad_nil))) pd_int) pad_nil))))
      (pssd_cons (psd_set (i := 8) sc__law_split.nd rfl (by first | exact Or.inl rfl | exact Or.inr rfl) (pd_ifExp (ptd_cmp (opd_eq hr) (pd_call G__law_take hgd (hr.mono (by decide)) (by rfl) T.m__law_take T.F__law_take.kp T.b__law_take (pad_cons (pd_var 0) (pad_cons pd_int pad_nil))) pd_int (nomark _)) pd_int (pd_op opd_add pd_int (pd_call G__law_take hgd (hr.mono (by decide)) (by rfl) T.m__law_take T.F__law_take.kp T.b__law_take (pad_cons (pd_var 0) (pad_cons (pd_op opd_sub (pd_var 7) pd_int) pad_nil))))))
      (pssd_cons (psd_set (i := 9) sc__law_split.nd rfl (by first | exact Or.inl rfl | exact Or.inr rfl) (pd_cell (pdf_listRg1 rfl (by rfl) T.z_list (by rfl) T.z_range (pd_var 1))))
      (pssd_cons (psd_while PassesOwn.never (ptd_cmp opd_gtI (pd_callB cd_len (by rfl) T.z_len (by decide +kernel) (pad_cons (pd_var 9) pad_nil)) (pd_callB (cd_min2 rfl) (by rfl) T.z_min (by decide +kernel) (pad_cons (pd_var 8) (pad_cons (pd_var 7) pad_nil))) (nomark _))
      (pssd_one (psd_expr (pd_mt PySem.F.plainAttrs_list PySem.F.slot_list_pop PySem.F.type_list_pop md_popAt (pd_var 9) (pad_cons (pd_call G__law_take hgd (hr.mono (by decide)) (by rfl) T.m__law_take T.F__law_take.kp T.b__law_take (pad_cons (pd_var 0) (pad_cons (pd_callB cd_len (by rfl) T.z_len (by decide +kernel) (pad_cons (pd_var 9) pad_nil)) pad_nil))) pad_nil)))))
      (pssd_one (psd_ret (pd_op opd_add (pd_op opd_add (pd_slice (pd_var 2) pod_none (pod_some (pd_var 6))) (pd_tree (pdf_lc rfl sc__law_split.nd (own := [("sign", 10)]) (is := [10]) (pid_seq (pd_frz 9)) (fun _ _ _ _ _ => (pgd_name (i := 10) sc__law_split.nd rfl (by first | exact Or.inl rfl | exact Or.inr rfl))) (fun _ _ _ _ _ => ptsd_nil) (fun _ _ _ _ _ => (pd_op opd_add (pd_ix (pd_var 2) (pd_var 6) (fun _ _ => rfl)) (pd_tup (pad_cons (pd_var 10) pad_nil)))) (by decide) (blkOk_by (own := [("sign", 10)]) (N := ["deck", "signs", "words", "many", "deep", "spots", "spot", "left", "most", "own", "sign"]) (sc := defScope s__law_split) (by decide +kernel))))) (pd_slice (pd_var 2) (pod_some (pd_op opd_add (pd_var 6) pd_int)) pod_none))))))))))), ?_⟩)
  rintro ws S Q ⟨d, sg, many, deep, N, c, rfl, g0, g1, m1, p0, p1, l0, l1, hW, hd, hN, hq⟩
  walk_at "dn"
  simp only [cw_len]
  have clen : c.length ≤ 16 := by omega
  refine ⟨by omega, by omega, sz_le (by rw [rangeW_length]; omega), fun i acc S' => S' = S ∧ acc.length ≤ i ∧ ∀ x ∈ acc, ∃ (k : Nat) (w : List Int), x = .int (k : Nat) ∧ c[k]? = some w ∧ w.length < deep.toNat, ⟨rfl, Nat.le_refl _, fun _ h => nomatch h⟩, ?_, ?_⟩
  · rintro i x acc S1 e _ ⟨rfl, hal, ha⟩
    obtain ⟨hi, rfl⟩ := rangeW_at e
    have hi' : i < c.length := by omega
    have ew : c[i]? = some c[i] := List.getElem?_eq_getElem hi'
    generalize c[i] = w at ew
    walk_at "dn"
    simp only [at_cw ew (show (0 : Int) + (i : Nat) = (i : Nat) by omega)]
    walk_at "dn"
    by_cases hw : ((iw w).length : Int) < deep
    · simp only [hw, decide_true, if_true]
      rw [iw_len] at hw
      refine ⟨by simp; omega, fun x hx => ?_⟩
      rcases List.mem_append.mp hx with hx | hx
      · exact ha x hx
      · have : x = .int (0 + (i : Nat)) := by simpa using hx
        exact ⟨i, w, by rw [this, Int.zero_add], ew, by omega⟩
    · simp only [hw, decide_false, Bool.false_eq_true, if_false]
      exact ⟨by omega, ha⟩
  · rintro acc S0 ⟨rfl, hal, ha⟩
    walk_at "dn"
    rw [rangeW_length] at hal
    obtain ⟨q1, q2⟩ := ints_eqG (acc := acc) fun x hx => by obtain ⟨k, w, rfl, _⟩ := ha x hx; exact ⟨_, rfl⟩
    refine ⟨Nat.le_trans (by decide) (by rw [sizeLine_eq]; decide : 1000 ≤ sizeLine), rdEq_lst q1 rfl (by omega) (by show 0 ≤ 40; omega) ?_⟩
    cases acc with
    | nil =>
      simp only [eqWs, List.isEmpty_nil, if_true]
      exact (hq S0 (hd.mono (by omega)) (Ch.refl _ _)).1
    | cons a as =>
      simp only [eqWs, Bool.false_eq_true, if_false]
      refine ⟨d, .lst (a :: as), a :: as, N, rfl, rfl, (fun n h => nomatch h), by simp, by omega, hd, by omega, fun x S2 hx hd1 hc1 => ?_⟩
      obtain ⟨k, w, rfl, ew, hw⟩ := ha x hx
      walk_at "dn"
      try simp only [cw_len]
      have hleft : ∃ left : Int, left = (if many - (c.length : Int) + 1 < sg then many - (c.length : Int) + 1 else sg) ∧ 2 ≤ left ∧ left ≤ sg ∧ left ≤ many - c.length + 1 := ⟨_, rfl, by split <;> omega, by split <;> omega, by split <;> omega⟩
      obtain ⟨left, el, hl2, hl3, hl4⟩ := hleft
      rw [← el]
      refine ⟨d, 5, _, rfl, by decide, by decide +kernel, hd1, by omega, fun t S3 t0 t1 hd2 hc2 => rdEq_int ?_⟩
      by_cases ht : t = 0
      · simp only [ht, decide_true, if_true]
        have hmost : (1 : Int) ≤ 1 := by omega
        have hd3 : DeckAt S3 d (N + 3) := hd2.mono (by omega)
        have hc3 : Ch d S0 S3 := hc1.trans hc2
        have hSB : ∃ SB, SB = S3 := ⟨_, rfl⟩
        obtain ⟨SB, rfl⟩ := hSB
        walk_at "k3r1"
      · simp only [ht, decide_false, Bool.false_eq_true, if_false]
        refine ⟨d, left - 1, _, rfl, by omega, log2_small (by omega), hd2, by omega, fun b S5 b0 b1 hd3' hc3' => ?_⟩
        walk_at "dn"
        have hmost : 1 ≤ 2 + b := by omega
        generalize 2 + b = most at hmost ⊢
        have hd3 : DeckAt S5 d (N + 3) := hd3'.mono (by omega)
        have hc3 : Ch d S0 S5 := (hc1.trans hc2).trans hc3'
        have hSB : ∃ SB, SB = S5 := ⟨_, rfl⟩
        obtain ⟨SB, rfl⟩ := hSB
        walk_at "k3r2"
set_option maxHeartbeats 4000000 in
theorem ok__law_code (T : Txt K mg) : FnG P w K mg base 4 T.f__law_code T.fd__law_code 4 ["deck", "signs", "many", "deep"] sp_law_code := by
  have G__law_split := ok__law_split (P := P) (w := w) (base := base) T
  refine fnG T.F__law_code sc__law_code rfl sp_law_code_len (fun cdv A outer s H hr hgd => ⟨_, (pssd_cons (psd_set (i := 4) sc__law_code.nd rfl (by first | exact Or.inl rfl | exact Or.inr rfl) (pd_tree (pdf_lst (pad_cons (pd_tup pad_nil) pad_nil))))
      (pssd_cons (psd_while PassesOwn.never (ptd_cmp (opd_lt hr) (pd_callB cd_len (by rfl) T.z_len (by decide +kernel) (pad_cons (pd_var 4) pad_nil)) (pd_var 2) (nomark _))
      (pssd_cons (psd_set (i := 5) sc__law_code.nd rfl (by first | exact Or.inl rfl | exact Or.inr rfl) (pd_call G__law_split hgd (hr.mono (by decide)) (by rfl) T.m__law_split T.F__law_split.kp T.b__law_split (pad_cons (pd_var 0) (pad_cons (pd_var 1) (pad_cons (pd_var 4) (pad_cons (pd_var 2) (pad_cons (pd_var 3) pad_nil)))))))
      (pssd_cons (psd_if (ptd_cmp opd_isN (pd_var 5) pd_non (nomark _)) (pssd_one (psd_ret (pd_callTy cd_tuple (by rfl) T.z_tuple (by decide +kernel) (pad_cons (pd_var 4) pad_nil)))) pssd_nil)
      (pssd_one (psd_set (i := 4) sc__law_code.nd rfl (by first | exact Or.inl rfl | exact Or.inr rfl) (pd_var 5))))))
      (pssd_one (psd_ret (pd_callTy cd_tuple (by rfl) T.z_tuple (by decide +kernel) (pad_cons (pd_var 4) pad_nil)))))), ?_⟩)
  rintro ws S Q ⟨d, sg, many, deep, N, rfl, g0, g1, m0, m1, p0, p1, hd, hN, hq⟩
  walk_at "dn"
  have sz : 1000 ≤ sizeLine := by rw [sizeLine_eq]; decide
  refine ⟨Nat.le_trans (by decide) sz, Nat.le_trans (by decide) sz, ?_⟩
  unfold sWhile
  have bnd : ∀ c : List (List Int), Ws sg deep.toNat c → (c.length : Int) ≤ many → totF c ≤ 256 := fun c h1 h2 => by
    have h3 := tot_le h1
    have h4 : c.length * deep.toNat ≤ 16 * 16 := Nat.mul_le_mul (by omega) (by omega)
    omega
  refine ⟨fun τ S' => ∃ (c : List (List Int)) (x5 : Option W), τ = [some (.loc d), some (.int sg), some (.int many), some (.int deep), some (.lst (cw c)), x5] ∧ Ws sg deep.toNat c ∧ 1 ≤ c.length ∧ (c.length : Int) ≤ many ∧ DeckAt S' d (N + 20 * (20000 - (((16 - c.length) * 1000 + (256 - totF c) : Nat) : Int))) ∧ Ch d S S', fun τ _ => muW τ, ?_, ?_⟩
  · refine ⟨[[]], none, rfl, ?_, by decide, by show (1 : Int) ≤ many; exact m0, hd.mono ?_, Ch.refl _ _⟩
    · refine ⟨fun w hw => ?_, List.pairwise_singleton _ _⟩
      have : w = [] := by simpa using hw
      subst this
      exact ⟨Nat.zero_le _, fun _ h => nomatch h⟩
    · show N ≤ N + 20 * (20000 - (((16 - 1) * 1000 + (256 - 0) : Nat) : Int))
      omega
  · rintro τ S1 ⟨c, x5, rfl, hW, c1, c2, hd1, hc1⟩
    have ht := bnd c hW c2
    have emu : ∀ (c' : List (List Int)) (x : Option W), muW [some (.loc d), some (.int sg), some (.int many), some (.int deep), some (.lst (cw c')), x] = (16 - c'.length) * 1000 + (256 - totF c') := fun c' x => by
      show (16 - (cw c').length) * 1000 + (256 - totW (cw c')) = _
      rw [cw_len, totW_cw]
    walk_at "dn"
    simp only [cw_len]
    by_cases hlt : (c.length : Int) < many
    · simp only [hlt, decide_true, if_true]
      refine ⟨d, sg, many, deep, _, c, rfl, g0, g1, m1, p0, p1, c1, hlt, hW, hd1, by omega, fun S2 hd2 hc2 => ⟨?_, fun c' hW' hl' hmore => ?_⟩⟩
      · walk_at "dn"
        exact hq c S2 hW c1 c2 (hd2.mono (by omega)) (hc1.trans hc2)
      · walk_at "dn"
        have ht' := bnd c' hW' hl'
        refine ⟨⟨c', _, rfl, hW', by omega, hl', hd2.mono (by omega), hc1.trans hc2⟩, ?_⟩
        rw [emu, emu]
        omega
    · simp only [hlt, decide_false, Bool.false_eq_true, if_false]
      walk_at "dn"
      exact hq c S1 hW c1 c2 (hd1.mono (by omega)) hc1
set_option maxHeartbeats 4000000 in
theorem ok__law_lengths (T : Txt K mg) : FnG P w K mg base 1 T.f__law_lengths T.fd__law_lengths 1 ["code"] sp_law_lengths := by
  refine fnG T.F__law_lengths sc__law_lengths rfl sp_law_lengths_len (fun cdv A outer s H hr hgd => ⟨_, (pssd_one (psd_ret (pd_callTy cd_tuple (by rfl) T.z_tuple (by decide +kernel) (pad_cons (pd_tree (pdf_lc rfl sc__law_lengths.nd (own := [("word", 1)]) (is := [1]) (pid_seq (pd_var 0)) (fun _ _ _ _ _ => (pgd_name (i := 1) sc__law_lengths.nd rfl (by first | exact Or.inl rfl | exact Or.inr rfl))) (fun _ _ _ _ _ => ptsd_nil) (fun _ _ _ _ _ => (pd_callB cd_len (by rfl) T.z_len (by decide +kernel) (pad_cons (pd_var 1) pad_nil))) (by decide) (blkOk_by (own := [("word", 1)]) (N := ["code", "word"]) (sc := defScope s__law_lengths) (by decide +kernel)))) pad_nil)))), ?_⟩)
  rintro ws S Q ⟨c, rfl, hl, hq⟩
  walk_at "dn"
  refine ⟨by unfold cw; rw [List.length_map]; exact sz_le hl, lcI_pure (fun x => match x with | .tup us => .int us.length | _ => .non) (fun x hm => ?_) ?_⟩
  · obtain ⟨w, _, rfl⟩ := List.mem_map.mp hm
    exact ⟨_, rfl, fun R hR => by walk_at "dn"; exact hR⟩
  · walk_at "dn"
    have e : (cw c).map (fun x => match x with | .tup us => W.int us.length | _ => .non) = iw (c.map fun w => (w.length : Int)) := by
      unfold cw iw
      rw [List.map_map, List.map_map]
      apply List.map_congr_left
      intro w _
      show W.int ((w.map W.int).length : Int) = W.int (w.length : Int)
      rw [List.length_map]
    rw [e]
    exact hq
set_option maxHeartbeats 4000000 in
theorem ok__law_above (T : Txt K mg) : FnG P w K mg base 1 T.f__law_above T.fd__law_above 3 ["signs", "word", "length"] sp_law_above := by
  refine fnG T.F__law_above sc__law_above rfl sp_law_above_len (fun cdv A outer s H hr hgd => ⟨_, (pssd_cons (psd_set (i := 3) sc__law_above.nd rfl (by first | exact Or.inl rfl | exact Or.inr rfl) (pd_cell (pdf_callTy cf_list (by rfl) T.z_list (by decide +kernel) (pad_cons (pd_slice (pd_var 1) pod_none (pod_some (pd_var 2))) pad_nil))))
      (pssd_cons (psd_while PassesOwn.never (ptd_cmp (opd_ne hr) (pd_var 3) (pd_tree (pdf_lst pad_nil)) (nomark _))
      (pssd_cons (psd_if (ptd_cmp (opd_lt hr) (pd_ix (pd_var 3) (pd_neg pd_int) (fun _ _ => rfl)) (pd_op opd_sub (pd_var 0) pd_int) (nomark _)) (pssd_cons (psd_lputD (pd_var 3) (pd_neg pd_int) (pd_op opd_add (pd_ix (pd_var 3) (pd_neg pd_int) (fun _ _ => rfl)) pd_int))
      (pssd_cons (psd_set (i := 3) sc__law_above.nd rfl (by first | exact Or.inl rfl | exact Or.inr rfl) (pd_cell (pdf_cat (pd_var 3) (pd_op opd_mulB (pd_tree (pdf_lst (pad_cons pd_int pad_nil))) (pd_op opd_sub (pd_callB (cd_min2 rfl) (by rfl) T.z_min (by decide +kernel) (pad_cons (pd_var 2) (pad_cons (pd_callB cd_len (by rfl) T.z_len (by decide +kernel) (pad_cons (pd_var 1) pad_nil)) pad_nil))) (pd_callB cd_len (by rfl) T.z_len (by decide +kernel) (pad_cons (pd_var 3) pad_nil)))))))
      (pssd_one (psd_ret (pd_callTy cd_tuple (by rfl) T.z_tuple (by decide +kernel) (pad_cons (pd_op opd_add (pd_var 3) (pd_op opd_mulB (pd_tree (pdf_lst (pad_cons pd_int pad_nil))) (pd_op opd_sub (pd_var 2) (pd_callB cd_len (by rfl) T.z_len (by decide +kernel) (pad_cons (pd_var 3) pad_nil))))) pad_nil)))))) pssd_nil)
      (pssd_one (psd_expr (pd_mt0 PySem.F.plainAttrs_list PySem.F.slot_list_pop PySem.F.type_list_pop md_pop (pd_var 3))))))
      (pssd_one (psd_ret pd_non)))), ?_⟩)
  rintro ws S Q ⟨sg, w, len, rfl, h2, hs, hw, hl, hq⟩
  have sz : 100000 ≤ sizeLine := by rw [sizeLine_eq]; decide
  refine seq_gen fun R hR => ?_
  walk_at "dn"
  have ec : cutW (iw w) none (some ((len : Nat) : Int)) = iw (w.take len) := by rw [cut_take]; unfold iw; rw [List.map_take]
  rw [ec]
  subst hR
  refine seq_gen fun R hR => ?_
  show sWhile _ _ _ _ _
  refine while_gen fun B hB => ?_
  unfold sWhile
  refine ⟨fun τ S' => ∃ h : List Int, S' = S ++ [some (.lst (iw h))] ∧ τ = [some (.int (sg : Nat)), some (.tup (iw w)), some (.int (len : Nat)), some (.loc S.length)] ∧ h.length ≤ len ∧ h.length ≤ w.length ∧ (∀ x ∈ h, 0 ≤ x ∧ x < ((sg : Nat) : Int)) ∧ trimF sg h = trimF sg (w.take len), fun _ S' => lenAt S.length S', ⟨w.take len, rfl, rfl, by rw [List.length_take]; omega, by rw [List.length_take]; omega, fun x hx => hs x (List.mem_of_mem_take hx), rfl⟩, ?_⟩
  rintro τ S' ⟨h, rfl, rfl, h1, h3, h4, h5⟩
  have el : (S ++ [some (Cell.lst (iw h))])[S.length]? = some (some (.lst (iw h))) := by simp
  walk_at "dn"
  refine ⟨Nat.zero_le _, ?_⟩
  show rdEq _ _ _ _
  refine rdEq_loc el (eqGs_iw h) rfl (by rw [deps_iw]; decide) (by decide) ?_
  dsimp only
  rcases List.eq_nil_or_concat h with rfl | ⟨g, x, rfl⟩
  · rw [if_neg (by decide)]
    subst hR
    walk_at "dn"
    rw [next_nil (by rw [← h5]; rfl)] at hq
    exact hq _ ⟨_, rfl⟩
  · rw [List.concat_eq_append] at *
    rw [iw_snoc] at *
    have en : eqWs (iw g ++ [W.int x]) [] = false := by cases iw g <;> rfl
    rw [en, if_pos (show (!false) = true from rfl)]
    subst hB
    refine seq_gen fun B hB => ?_
    walk_at "dn"
    simp only [sq_loc el, at_last]
    have hxb := h4 x (by simp)
    have hg : (g ++ [x]).length = g.length + 1 := by simp
    rw [hg] at h1 h3
    have ts := trim_snoc sg g x
    by_cases hx : x < ((sg : Nat) : Int) - 1
    · rw [if_neg (by omega)] at ts
      rw [next_snoc (h5.symm.trans ts)] at hq
      rw [if_pos (decide_eq_true hx)]
      have ix : L2.ixN (iw g ++ [W.int x]).length (-1) = some g.length := by
        unfold L2.ixN
        rw [if_neg (by decide), List.length_append, iw_len, if_pos (by show -((g.length + 1 : Nat) : Int) ≤ -1; omega)]
        congr 1
        show (-1 + ((g.length + 1 : Nat) : Int)).toNat = g.length
        omega
      have e1 : (iw g ++ [W.int x]).set g.length (.int (x + 1)) = iw (g ++ [x + 1]) := by
        rw [iw_snoc, List.set_append_right _ _ (by rw [iw_len]; exact Nat.le_refl _), iw_len, Nat.sub_self]
        rfl
      have e2 : ∀ c c' : Option Cell, (S ++ [c]).set S.length c' = S ++ [c'] := fun c c' => by simp
      have e3 : (if ((iw w).length : Int) < (len : Int) then ((iw w).length : Int) else (len : Int)) = ((min len w.length : Nat) : Int) := by
        rw [iw_len]
        split <;> omega
      simp only [el, ix, e1, e2, e3]
      have el2 : (S ++ [some (Cell.lst (iw (g ++ [x + 1])))])[S.length]? = some (some (.lst (iw (g ++ [x + 1])))) := by simp
      simp only [ln_loc el2, ls_loc el2, iw_len]
      have hg2 : (g ++ [x + 1]).length = g.length + 1 := by simp
      have e4 : (((min len w.length : Nat) : Int) - ((g ++ [x + 1]).length : Int)).toNat = min len w.length - (g.length + 1) := by rw [hg2]; omega
      rw [e4, flat_zero]
      have e5 : iw (g ++ [x + 1]) ++ iw (List.replicate (min len w.length - (g.length + 1)) 0) = iw (g ++ [x + 1] ++ List.replicate (min len w.length - (g.length + 1)) 0) := by rw [iw_app]
      simp only [e5]
      generalize hM : g ++ [x + 1] ++ List.replicate (min len w.length - (g.length + 1)) 0 = M
      have hMl : M.length = min len w.length := by rw [← hM, List.length_append, hg2, List.length_replicate]; omega
      have el3 : (S ++ [some (Cell.lst (iw (g ++ [x + 1])))] ++ [some (Cell.lst (iw M))])[(S ++ [some (Cell.lst (iw (g ++ [x + 1])))]).length]? = some (some (.lst (iw M))) := by simp
      simp only [ln_loc el3, ls_loc el3, iw_len, hMl]
      have e6 : ((len : Int) - ((min len w.length : Nat) : Int)).toNat = len - min len w.length := by omega
      rw [e6, flat_zero]
      have e7 : iw M ++ iw (List.replicate (len - min len w.length) 0) = iw (g ++ [x + 1] ++ List.replicate (len - (g.length + 1)) 0) := by
        rw [iw_app, ← hM, List.append_assoc _ (List.replicate _ _), List.replicate_append_replicate]
        congr 3
        omega
      refine ⟨by omega, by omega, by omega, by omega, by rw [hg2, List.length_replicate]; omega, by omega, by omega, by omega, by omega, by rw [iw_len, List.length_replicate]; omega, ?_⟩
      rw [e7]
      exact hq _ ⟨[_, _], by rw [List.append_assoc]; rfl⟩
    · rw [if_pos (by omega)] at ts
      rw [if_neg (by rw [decide_eq_false hx]; decide)]
      subst hB
      walk_at "dn"
      have elast : (iw g ++ [W.int x]).getLast? = some (.int x) := by simp
      simp only [el, elast, List.dropLast_concat]
      refine ⟨⟨g, by simp, by omega, by omega, fun y hy => h4 y (List.mem_append.mpr (.inl hy)), ?_⟩, ?_⟩
      · rw [← ts]; exact h5
      · have el4 : ((S ++ [some (Cell.lst (iw g ++ [W.int x]))]).set S.length (some (Cell.lst (iw g))))[S.length]? = some (some (.lst (iw g))) := by simp
        exact Nat.lt_of_le_of_lt (Nat.le_of_eq (lenAt_of el4)) (Nat.lt_of_lt_of_le (by simp) (Nat.le_of_eq (lenAt_of el).symm))
set_option maxHeartbeats 4000000 in
theorem ok__law_laid (T : Txt K mg) : FnG P w K mg base 2 T.f__law_laid T.fd__law_laid 2 ["signs", "row"] sp_law_laid := by
  have G__law_above := ok__law_above (P := P) (w := w) (base := base) T
  refine fnG T.F__law_laid sc__law_laid rfl sp_law_laid_len (fun cdv A outer s H hr hgd => ⟨_, (pssd_cons (psd_set (i := 2) sc__law_laid.nd rfl (by first | exact Or.inl rfl | exact Or.inr rfl) (pd_cell (pdf_lst (pad_cons (pd_op opd_mulB (pd_tup (pad_cons pd_int pad_nil)) (pd_ix (pd_var 1) pd_int (fun _ _ => rfl))) pad_nil))))
      (pssd_cons (psd_for PassesOwn.never rfl (pid_seq (pd_slice (pd_var 1) (pod_some pd_int) pod_none)) (pgd_name (i := 3) sc__law_laid.nd rfl (by first | exact Or.inl rfl | exact Or.inr rfl))
      (pssd_cons (psd_set (i := 4) sc__law_laid.nd rfl (by first | exact Or.inl rfl | exact Or.inr rfl) (pd_call G__law_above hgd (hr.mono (by decide)) (by rfl) T.m__law_above T.F__law_above.kp T.b__law_above (pad_cons (pd_var 0) (pad_cons (pd_ix (pd_var 2) (pd_neg pd_int) (fun _ _ => rfl)) (pad_cons (pd_var 3) pad_nil)))))
      (pssd_cons (psd_if (ptd_cmp opd_isN (pd_var 4) pd_non (nomark _)) (pssd_one (psd_ret (pd_frz 2))) pssd_nil)
      (pssd_one (psd_expr (pd_mt PySem.F.plainAttrs_list PySem.F.slot_list_append PySem.F.type_list_append md_append (pd_var 2) (pad_cons (pd_var 4) pad_nil)))))))
      (pssd_one (psd_ret (pd_frz 2))))), ?_⟩)
  rintro ws S Q ⟨sg, r, rfl, h2, hr, h1, hl, hq⟩
  have sz : 100000 ≤ sizeLine := by rw [sizeLine_eq]; decide
  refine seq_gen fun R hR => ?_
  walk_at "dn"
  obtain ⟨l, r, rfl⟩ : ∃ l r', r = l :: r' := by
    cases r with
    | nil => cases h1
    | cons l r => exact ⟨l, r, rfl⟩
  have a0 : L2.atI (natsW (l :: r)) 0 = some (.int ((l : Nat) : Int)) := at_nat (i := 0) rfl rfl
  simp only [a0]
  have hl0 := hr l List.mem_cons_self
  refine ⟨by omega, by omega, by omega, by decide, by omega, ?_⟩
  have er : (List.replicate (((l : Nat) : Int)).toNat [W.int 0]).flatten = iw (List.replicate l 0) := by rw [show (((l : Nat) : Int)).toNat = l by omega, flat_zero]
  rw [er]
  subst hR
  refine seq_gen fun R hR => ?_
  refine for_gen fun B hB => ?_
  walk_at "dn"
  have ec : cutW (natsW (l :: r)) (some 1) none = natsW r := by
    unfold cutW
    have e1 : HT.sIx (natsW (l :: r)).length 0 (some 1) = 1 := by
      show min 1 (natsW (l :: r)).length = 1
      rw [nats_len, List.length_cons]
      omega
    have e2 : HT.sIx (natsW (l :: r)).length (natsW (l :: r)).length none = r.length + 1 := nats_len _
    rw [e1, e2]
    show List.take (r.length + 1 - 1) (natsW r) = _
    rw [List.take_of_length_le (by rw [nats_len]; omega)]
  rw [ec]
  have fin : ∀ (acc : List (List Int)) (L : Store) (x3 x4 : Option W), acc = leastF sg none (l :: r) → R { nx := fun x S' => Q W.non S', rt := Q } [some (.int (sg : Nat)), some (.tup (natsW (l :: r))), some (.loc S.length), x3, x4] (S ++ [some (.lst (cw acc))] ++ L) := by
    rintro acc L x3 x4 rfl
    subst hR
    walk_at "dn"
    have e8 : (S ++ [some (Cell.lst (cw (leastF sg none (l :: r))))] ++ L)[S.length]? = some (some (.lst (cw (leastF sg none (l :: r))))) := by simp
    simp only [e8]
    exact hq _ ⟨none :: L, by simp⟩
  subst hB
  refine forI_inv (fun i τ S' => ∃ (acc : List (List Int)) (L : Store) (x3 x4 : Option W), S' = S ++ [some (.lst (cw acc))] ++ L ∧ τ = [some (.int (sg : Nat)), some (.tup (natsW (l :: r))), some (.loc S.length), x3, x4] ∧ acc.length = i + 1 ∧ (∀ w ∈ acc, w.length ≤ 100 ∧ Sg sg w) ∧ acc ++ leastF sg acc.getLast? (r.drop i) = leastF sg none (l :: r)) ⟨[List.replicate l 0], [], _, _, (List.append_nil _).symm, rfl, rfl, fun w hw => ?_, rfl⟩ ?_ ?_
  · have : w = List.replicate l 0 := by simpa using hw
    subst this
    exact ⟨by rw [List.length_replicate]; exact hl0, zero_sg h2 l⟩
  · rintro i y τ S1 ey ⟨acc, L, x3, x4, rfl, rfl, hi, hw, hacc⟩
    obtain ⟨k, el, rfl⟩ : ∃ k : Nat, r[i]? = some k ∧ y = .int (k : Nat) := by
      unfold natsW iw at ey
      rw [List.getElem?_map, List.getElem?_map] at ey
      cases h : r[i]? with
      | none => rw [h] at ey; cases ey
      | some l => rw [h] at ey; cases ey; exact ⟨l, rfl, rfl⟩
    have hli := (List.getElem?_eq_some_iff.mp el).1
    have hk100 := hr k (List.mem_cons_of_mem _ (List.mem_of_getElem? el))
    have hdrop : r.drop i = k :: r.drop (i + 1) := by
      have q := List.drop_eq_getElem_cons hli
      rw [(List.getElem?_eq_some_iff.mp el).2] at q
      exact q
    rw [hdrop] at hacc
    have e8 : (S ++ [some (Cell.lst (cw acc))] ++ L)[S.length]? = some (some (.lst (cw acc))) := by simp
    refine ⟨_, rfl, ?_⟩
    refine seq_gen fun R2 hR2 => ?_
    walk_at "dn"
    simp only [sq_loc e8]
    rcases List.eq_nil_or_concat acc with rfl | ⟨g, u, rfl⟩
    · cases hi
    rw [List.concat_eq_append] at *
    have a1 : L2.atI (cw (g ++ [u])) (-1) = some (.tup (iw u)) := by
      have : cw (g ++ [u]) = cw g ++ [W.tup (iw u)] := by unfold cw; rw [List.map_append]; rfl
      rw [this, at_last]
    simp only [a1]
    obtain ⟨hu1, hu2⟩ := hw u (by simp)
    refine ⟨sg, u, k, rfl, h2, hu2, by omega, by omega, fun S' hp => ?_⟩
    obtain ⟨L', rfl⟩ := hp
    have hlast : (g ++ [u]).getLast? = some u := by simp
    rw [hlast] at hacc
    subst hR2
    walk_at "dn"
    cases hv : nextF sg u k with
    | none =>
      have hend : leastF sg (some u) (k :: r.drop (i + 1)) = [] := by show (match nextF sg u k with | none => [] | some v => v :: leastF sg (some v) (r.drop (i + 1))) = []; rw [hv]
      rw [hend, List.append_nil] at hacc
      dsimp only [optW]
      have f1 := fin _ (L ++ L') (some (.int (k : Nat))) (some .non) hacc
      rw [hR] at f1
      rw [← List.append_assoc] at f1
      exact f1
    | some v =>
      have hgo : leastF sg (some u) (k :: r.drop (i + 1)) = v :: leastF sg (some v) (r.drop (i + 1)) := by show (match nextF sg u k with | none => [] | some v => v :: leastF sg (some v) (r.drop (i + 1))) = _; rw [hv]
      rw [hgo] at hacc
      obtain ⟨v1, v2, _⟩ := next_ok h2 hu2 hv
      dsimp only [optW]
      have e9 : (S ++ [some (Cell.lst (cw (g ++ [u])))] ++ L ++ L')[S.length]? = some (some (.lst (cw (g ++ [u])))) := by simp
      simp only [Bool.false_eq_true, if_false, ls_loc e9, Option.isSome_some, true_and, e9]
      have e10 : cw (g ++ [u]) ++ [W.tup (iw v)] = cw (g ++ [u] ++ [v]) := by rw [← cw_app (g ++ [u]) [v]]; rfl
      have hll : (l :: r).length = r.length + 1 := rfl
      refine ⟨by rw [cw_len]; omega, g ++ [u] ++ [v], L ++ L', _, _, ?_, rfl, by rw [List.length_append, hi]; rfl, fun w hm => ?_, ?_⟩
      · rw [e10]
        simp [List.set_append]
      · rcases List.mem_append.mp hm with hm | hm
        · exact hw w hm
        · have : w = v := by simpa using hm
          subst this
          exact ⟨by omega, v2⟩
      · rw [List.getLast?_append, List.append_assoc]
        exact hacc
  · rintro τ S1 ⟨acc, L, x3, x4, rfl, rfl, hi, hw, hacc⟩
    refine fin acc L x3 x4 ?_
    rw [nats_len, List.drop_length] at hacc
    rw [← hacc]
    cases acc.getLast? <;> simp [leastF]
set_option maxHeartbeats 4000000 in
theorem ok__law_row_error (T : Txt K mg) : FnG P w K mg base 3 T.f__law_row_error T.fd__law_row_error 2 ["signs", "value"] sp_law_row_error := by
  have G__law_laid := ok__law_laid (P := P) (w := w) (base := base) T
  have G__law_is_whole := ok__law_is_whole (P := P) (w := w) (base := base) T
  refine fnG T.F__law_row_error sc__law_row_error rfl sp_law_row_error_len (fun cdv A outer s H hr hgd => ⟨_, (pssd_cons (psd_if (PWD.pt (pwd_or (ptd_not (ptd_val (pd_isi Tg.tuple (by decide) (pd_var 1) (by rfl) T.z_isinstance (by decide +kernel) (by rfl) T.z_tuple (by decide +kernel)))) (pwd_or1 (ptd_not (ptd_chain (opd_le hr) (opd_le hr) pd_int (pd_callB cd_len (by rfl) T.z_len (by decide +kernel) (pad_cons (pd_var 1) pad_nil)) pd_int))))) (pssd_one (psd_ret pd_str)) pssd_nil)
      (pssd_cons (psd_if (ptd_not (ptd_val (pd_callB (cd_all rfl) (by rfl) T.z_all (by decide +kernel) (pad_cons (pd_tree (pdf_lc rfl sc__law_row_error.nd (own := [("length", 3)]) (is := [3]) (pid_seq (pd_var 1)) (fun _ _ _ _ _ => (pgd_name (i := 3) sc__law_row_error.nd rfl (by first | exact Or.inl rfl | exact Or.inr rfl))) (fun _ _ _ _ _ => ptsd_nil) (fun _ _ _ _ _ => (pd_call G__law_is_whole hgd (hr.mono (by decide)) (by rfl) T.m__law_is_whole T.F__law_is_whole.kp T.b__law_is_whole (pad_cons (pd_var 3) (pad_cons pd_int (pad_cons pd_int pad_nil))))) (by decide) (blkOk_by (own := [("length", 3)]) (N := ["signs", "value", "many", "length"]) (sc := defScope s__law_row_error) (by decide +kernel)))) pad_nil)))) (pssd_one (psd_ret pd_str)) pssd_nil)
      (pssd_cons (psd_set (i := 2) sc__law_row_error.nd rfl (by first | exact Or.inl rfl | exact Or.inr rfl) (pd_callB cd_len (by rfl) T.z_len (by decide +kernel) (pad_cons (pd_call G__law_laid hgd (hr.mono (by decide)) (by rfl) T.m__law_laid T.F__law_laid.kp T.b__law_laid (pad_cons (pd_var 0) (pad_cons (pd_var 1) pad_nil))) pad_nil)))
      (pssd_one (psd_ret (pd_ifExp (ptd_cmp (opd_eq hr) (pd_var 2) (pd_callB cd_len (by rfl) T.z_len (by decide +kernel) (pad_cons (pd_var 1) pad_nil)) (nomark _)) pd_non (pd_var 2))))))), ?_⟩)
  rintro ws S Q ⟨sg, v, rfl, h2, hv, hq⟩
  have sz : 100000 ≤ sizeLine := by rw [sizeLine_eq]; decide
  obtain ⟨t, ht, hti⟩ := tg_tupW hv.g S
  refine seq_gen fun R hR => ?_
  walk_at "dn"
  simp only [ht, hti]
  cases hw : isTupW v with
  | false =>
    simp only [Bool.not_false, if_true]
    have e : reW sg v = .str "row" := by cases v <;> first | rfl | cases hw
    rw [e] at hq
    exact hq S (Pre.refl S)
  | true =>
    obtain ⟨us, rfl⟩ := tupW_iff hw
    simp only [Bool.not_true, Bool.false_eq_true, if_false, ln_tup]
    by_cases h1 : (1 : Int) ≤ (us.length : Nat)
    · by_cases h3 : ((us.length : Nat) : Int) ≤ 16
      · simp only [h1, h3, decide_true, if_true, Bool.not_true, Bool.false_eq_true, if_false]
        subst hR
        refine seq_gen fun R hR => ?_
        walk_at "dn"
        refine ⟨by omega, lcI_pure (fun x => .bl (isWhole x 0 16)) (fun x hx => ⟨_, rfl, fun R hR => ?_⟩) ?_⟩
        · walk_at "dn"
          exact ⟨_, _, _, rfl, ((hv.knd S).2 us rfl x hx).1, hR⟩
        have e : us.map (fun x => W.bl (isWhole x 0 16)) = (us.map fun x => isWhole x 0 16).map W.bl := by rw [List.map_map]; rfl
        simp only [e, ll_lst, Option.bind_some, boolsOf_map]
        rw [List.all_map]
        cases hw' : (us.all (id ∘ fun x => isWhole x 0 16)) with
        | false =>
          simp only [Bool.not_false, if_true]
          rw [re_bad (.inl hw')] at hq
          exact hq S (Pre.refl S)
        | true =>
          simp only [Bool.not_true, Bool.false_eq_true, if_false]
          rw [re_row hw' (by omega) (by omega)] at hq
          obtain ⟨e, hb⟩ := nats_of hw'
          generalize natsOf us = r at e hb hq
          subst e
          rw [nats_len] at h1 h3
          subst hR
          refine seq_gen fun R hR => ?_
          walk_at "dn"
          refine ⟨sg, r, rfl, h2, fun l hl => by have := hb l hl; omega, by omega, by omega, fun S' hp => ?_⟩
          have hle := least_len sg r none
          subst hR
          walk_at "dn"
          rw [nats_len, cw_len]
          refine rdEq_int ?_
          unfold errN at hq
          by_cases h4 : (leastF sg none r).length = r.length
          · rw [if_pos h4] at hq
            rw [decide_eq_true (by omega)]
            exact hq S' hp
          · rw [if_neg h4] at hq
            rw [decide_eq_false (by omega)]
            exact hq S' hp
      · simp only [h1, h3, decide_true, decide_false, Bool.not_false, if_true]
        rw [re_bad (.inr (.inr (by omega)))] at hq
        exact hq S (Pre.refl S)
    · simp only [h1, decide_false, Bool.not_false, if_true, Bool.false_eq_true, if_false]
      rw [re_bad (.inr (.inl (by omega)))] at hq
      exact hq S (Pre.refl S)
set_option maxHeartbeats 4000000 in
theorem ok__law_words (T : Txt K mg) : FnG P w K mg base 1 T.f__law_words T.fd__law_words 2 ["signs", "length"] sp_law_words := by
  refine fnG T.F__law_words sc__law_words rfl sp_law_words_len (fun cdv A outer s H hr hgd => ⟨_, (pssd_cons (psd_set (i := 2) sc__law_words.nd rfl (by first | exact Or.inl rfl | exact Or.inr rfl) (pd_tree (pdf_lst (pad_cons (pd_tup pad_nil) pad_nil))))
      (pssd_cons (psd_for PassesOwn.never rfl (pid_range1 (by rfl) T.z_range (pad_cons (pd_var 1) pad_nil)) (pgd_name (i := 3) sc__law_words.nd rfl (by first | exact Or.inl rfl | exact Or.inr rfl))
      (pssd_cons (psd_set (i := 4) sc__law_words.nd rfl (by first | exact Or.inl rfl | exact Or.inr rfl) (pd_cell (pdf_lst pad_nil)))
      (pssd_cons (psd_for PassesOwn.never rfl (pid_seq (pd_var 2)) (pgd_name (i := 5) sc__law_words.nd rfl (by first | exact Or.inl rfl | exact Or.inr rfl))
      (pssd_one (psd_expr (pd_mt PySem.F.plainAttrs_list PySem.F.slot_list_extend PySem.F.type_list_extend md_extend (pd_var 4) (pad_cons (pd_tree (pdf_lc rfl sc__law_words.nd (own := [("sign", 6)]) (is := [6]) (pid_range1 (by rfl) T.z_range (pad_cons (pd_var 0) pad_nil)) (fun _ _ _ _ _ => (pgd_name (i := 6) sc__law_words.nd rfl (by first | exact Or.inl rfl | exact Or.inr rfl))) (fun _ _ _ _ _ => ptsd_nil) (fun _ _ _ _ _ => (pd_op opd_add (pd_var 5) (pd_tup (pad_cons (pd_var 6) pad_nil)))) (by decide) (blkOk_by (own := [("sign", 6)]) (N := ["signs", "length", "found", "turn", "longer", "word", "sign"]) (sc := defScope s__law_words) (by decide +kernel)))) pad_nil)))))
      (pssd_one (psd_set (i := 2) sc__law_words.nd rfl (by first | exact Or.inl rfl | exact Or.inr rfl) (pd_frz 4))))))
      (pssd_one (psd_ret (pd_var 2))))), ?_⟩)
  rintro ws S Q ⟨sg, n, rfl, hsg, hn, hq⟩
  walk_at "dn"
  have sz : 100000 ≤ sizeLine := by rw [sizeLine_eq]; decide
  refine ⟨Nat.le_trans (by decide) sz, Nat.le_trans (by decide) sz, by omega, by omega, ?_⟩
  refine forI_inv (fun i τ S' => Pre S S' ∧ ∃ x3 x4 x5 x6, τ = [some (.int (sg : Nat)), some (.int (n : Nat)), some (.lst (cw (wordsF sg i))), x3, x4, x5, x6]) ⟨⟨[], (List.append_nil _).symm⟩, _, _, _, _, rfl⟩ ?_ ?_
  · rintro i x τ S1 e ⟨hp, x3, x4, x5, x6, rfl⟩
    have hi : i < n := by have := (rangeW_at e).1; omega
    refine ⟨_, rfl, ?_⟩
    walk_at "dn"
    have wl : (wordsF sg (i + 1)).length ≤ 256 := words_cnt sg hsg (i + 1) (by omega)
    refine ⟨Nat.le_trans (by decide) sz, ?_⟩
    refine forI_inv (fun j τ S' => S' = S1 ++ [some (.lst (cw (((wordsF sg i).take j).flatMap (extF sg))))] ∧ ∃ x5 x6, τ = [some (.int (sg : Nat)), some (.int (n : Nat)), some (.lst (cw (wordsF sg i))), some x, some (.loc S1.length), x5, x6]) ⟨rfl, _, _, rfl⟩ ?_ ?_
    · rintro j y τ S2 ey ⟨rfl, y5, y6, rfl⟩
      obtain ⟨w, ew, rfl⟩ : ∃ w, (wordsF sg i)[j]? = some w ∧ y = .tup (iw w) := by
        unfold cw at ey
        rw [List.getElem?_map] at ey
        obtain ⟨w, h1, h2⟩ := Option.map_eq_some_iff.mp ey
        exact ⟨w, h1, h2.symm⟩
      refine ⟨_, rfl, ?_⟩
      walk_at "dn"
      have el : (S1 ++ [some (Cell.lst (cw (((wordsF sg i).take j).flatMap (extF sg))))])[S1.length]? = some (some (Cell.lst (cw (((wordsF sg i).take j).flatMap (extF sg))))) := by simp
      simp only [ls_loc el, Option.isSome_some, true_and, el]
      have wsz : w.length ≤ 100 := by
        have := ((words_mem i w).mp (List.mem_of_getElem? ew)).1
        omega
      refine ⟨by omega, by omega, Nat.le_trans (by rw [rangeW_length]; omega) sz, lcI_pure (fun x => .tup (iw w ++ [x])) (fun x hm => ⟨_, rfl, fun R hR => ?_⟩) ?_⟩
      · walk_at "dn"
        refine ⟨Nat.le_trans (by decide) sz, Nat.le_trans (by have := iw_len w; simp; omega) sz, ?_⟩
        exact hR
      · rw [ext_range]
        simp only [ls_lst, el]
        have e3 : (wordsF sg i).take (j + 1) = (wordsF sg i).take j ++ [w] := by rw [List.take_add_one, ew]; rfl
        have e4 : cw (((wordsF sg i).take j).flatMap (extF sg)) ++ cw (extF sg w) = cw (((wordsF sg i).take (j + 1)).flatMap (extF sg)) := by
          rw [e3, List.flatMap_append]
          unfold cw
          rw [List.map_append]
          simp
        refine ⟨?_, ?_, _, _, rfl⟩
        · rw [← List.length_append, e4]
          unfold cw
          rw [List.length_map]
          refine Nat.le_trans ?_ sz
          have : (((wordsF sg i).take (j + 1)).flatMap (extF sg)).length ≤ (wordsF sg (i + 1)).length := by
            show _ ≤ ((wordsF sg i).flatMap (extF sg)).length
            conv => rhs; rw [← List.take_append_drop (j + 1) (wordsF sg i)]
            rw [List.flatMap_append, List.length_append]
            omega
          omega
        · rw [e4]; simp
    · rintro τ S2 ⟨rfl, y5, y6, rfl⟩
      walk_at "dn"
      have elen : (cw (wordsF sg i)).length = (wordsF sg i).length := by unfold cw; rw [List.length_map]
      simp only [List.getElem?_append_right (Nat.le_refl S1.length), Nat.sub_self, List.getElem?_cons_zero]
      have e9 : ((wordsF sg i).take (cw (wordsF sg i)).length).flatMap (extF sg) = wordsF sg (i + 1) := by rw [elen, List.take_length]; rfl
      simp only [e9]
      obtain ⟨L, rfl⟩ := hp
      exact ⟨⟨L ++ [none], by simp⟩, _, _, _, _, rfl⟩
  · rintro τ S1 ⟨hp, x3, x4, x5, x6, rfl⟩
    walk_at "dn"
    have e0 : (rangeW 0 ((n : Nat) : Int).toNat).length = n := by rw [rangeW_length]; omega
    rw [e0]
    exact hq S1 hp
set_option maxHeartbeats 4000000 in
theorem ok__law_codes (T : Txt K mg) : FnG P w K mg base 2 T.f__law_codes T.fd__law_codes 2 ["signs", "row"] sp_law_codes := by
  have G__law_words := ok__law_words (P := P) (w := w) (base := base) T
  have G__law_starts := ok__law_starts (P := P) (w := w) (base := base) T
  refine fnG T.F__law_codes sc__law_codes rfl sp_law_codes_len (fun cdv A outer s H hr hgd => ⟨_, (pssd_cons (psd_setLcT (i := 2) rfl sc__law_codes.nd rfl rfl (own := [("word", 6)]) (is := [6]) (pid_seq (pd_call G__law_words hgd (hr.mono (by decide)) (by rfl) T.m__law_words T.F__law_words.kp T.b__law_words (pad_cons (pd_var 0) (pad_cons (pd_ix (pd_var 1) pd_int (fun _ _ => rfl)) pad_nil)))) (fun _ _ _ _ _ => (pgd_name (i := 6) sc__law_codes.nd rfl (by first | exact Or.inl rfl | exact Or.inr rfl))) (fun _ _ _ _ _ => ptsd_nil) (fun _ _ _ _ _ => (pd_tup (pad_cons (pd_var 6) pad_nil))) (by decide) (blkOk_by (own := [("word", 6)]) (N := ["signs", "row", "found", "length", "longer", "code", "word"]) (sc := defScope s__law_codes) (by decide +kernel)) (sw_true rfl rfl rfl (by decide +kernel)))
      (pssd_cons (psd_for PassesOwn.never rfl (pid_seq (pd_slice (pd_var 1) (pod_some pd_int) pod_none)) (pgd_name (i := 3) sc__law_codes.nd rfl (by first | exact Or.inl rfl | exact Or.inr rfl))
      (pssd_cons (psd_set (i := 4) sc__law_codes.nd rfl (by first | exact Or.inl rfl | exact Or.inr rfl) (pd_cell (pdf_lst pad_nil)))
      (pssd_cons (psd_for PassesOwn.never rfl (pid_seq (pd_var 2)) (pgd_name (i := 5) sc__law_codes.nd rfl (by first | exact Or.inl rfl | exact Or.inr rfl))
      (pssd_one (psd_expr (pd_mt PySem.F.plainAttrs_list PySem.F.slot_list_extend PySem.F.type_list_extend md_extend (pd_var 4) (pad_cons (pd_tree (pdf_lc rfl sc__law_codes.nd (own := [("word", 6)]) (is := [6]) (pid_seq (pd_call G__law_words hgd (hr.mono (by decide)) (by rfl) T.m__law_words T.F__law_words.kp T.b__law_words (pad_cons (pd_var 0) (pad_cons (pd_var 3) pad_nil)))) (fun _ _ _ _ _ => (pgd_name (i := 6) sc__law_codes.nd rfl (by first | exact Or.inl rfl | exact Or.inr rfl))) (fun _ _ _ _ _ => (ptsd_one (ptd_cmp (opd_gt hr) (pd_var 6) (pd_ix (pd_var 5) (pd_neg pd_int) (fun _ _ => rfl)) (nomark _)))) (fun _ _ _ _ _ => (pd_op opd_add (pd_var 5) (pd_tup (pad_cons (pd_var 6) pad_nil)))) (by decide) (blkOk_by (own := [("word", 6)]) (N := ["signs", "row", "found", "length", "longer", "code", "word"]) (sc := defScope s__law_codes) (by decide +kernel)))) pad_nil)))))
      (pssd_one (psd_setLcT (i := 2) rfl sc__law_codes.nd rfl rfl (own := [("code", 5)]) (is := [5]) (pid_seq (pd_frz 4)) (fun _ _ _ _ _ => (pgd_name (i := 5) sc__law_codes.nd rfl (by first | exact Or.inl rfl | exact Or.inr rfl))) (fun _ _ _ _ _ => (ptsd_one (ptd_not (ptd_val (pd_call G__law_starts hgd (hr.mono (by decide)) (by rfl) T.m__law_starts T.F__law_starts.kp T.b__law_starts (pad_cons (pd_ix (pd_var 5) (pd_neg pd_int) (fun _ _ => rfl)) (pad_cons (pd_ix (pd_var 5) (pd_neg pd_int) (fun _ _ => rfl)) pad_nil))))))) (fun _ _ _ _ _ => (pd_var 5)) (by decide) (blkOk_by (own := [("code", 5)]) (N := ["signs", "row", "found", "length", "longer", "code", "word"]) (sc := defScope s__law_codes) (by decide +kernel)) (sw_true rfl rfl rfl (by decide +kernel)))))))
      (pssd_one (psd_ret (pd_var 2))))), ?_⟩)
  rintro ws S Q ⟨sg, r, rfl, h2, h3, hr, h1, h4, hq⟩
  have sz : 1000000 ≤ sizeLine := by rw [sizeLine_eq]; decide
  obtain ⟨l, r, rfl⟩ : ∃ l r', r = l :: r' := by
    cases r with
    | nil => cases h1
    | cons l r => exact ⟨l, r, rfl⟩
  have a0 : L2.atI (natsW (l :: r)) 0 = some (.int ((l : Nat) : Int)) := at_nat (i := 0) rfl rfl
  have hl0 := hr l List.mem_cons_self
  refine seq_gen fun R hR => ?_
  walk_at "dn"
  simp only [a0]
  refine ⟨sg, l, rfl, by omega, by omega, fun S1 hp1 => ?_⟩
  have hw0 := words_le h3 hl0
  refine ⟨by rw [cw_len]; omega, lcI_pure (fun x => .tup [x]) (fun x hx => ⟨_, rfl, fun R2 hR2 => by walk_at "dn"; exact ⟨by omega, hR2⟩⟩) ?_⟩
  have e1 : (cw (wordsF sg l)).map (fun x => W.tup [x]) = ccw ((wordsF sg l).map fun w => [w]) := by
    unfold cw ccw
    rw [List.map_map, List.map_map]
    rfl
  rw [e1]
  subst hR
  refine seq_gen fun R hR => ?_
  refine for_gen fun B hB => ?_
  walk_at "dn"
  have ec : cutW (natsW (l :: r)) (some 1) none = natsW r := by
    unfold cutW
    have e1 : HT.sIx (natsW (l :: r)).length 0 (some 1) = 1 := by
      show min 1 (natsW (l :: r)).length = 1
      rw [nats_len, List.length_cons]
      omega
    have e2 : HT.sIx (natsW (l :: r)).length (natsW (l :: r)).length none = r.length + 1 := nats_len _
    rw [e1, e2]
    show List.take (r.length + 1 - 1) (natsW r) = _
    rw [List.take_of_length_le (by rw [nats_len]; omega)]
  rw [ec]
  refine forI_inv (fun i τ S' => Pre S S' ∧ ∃ x3 x4 x5 x6, ((r.take i).foldl (stepC sg) ((wordsF sg l).map fun w => [w])).length ≤ 27 ^ (i + 1) ∧ (∀ c ∈ (r.take i).foldl (stepC sg) ((wordsF sg l).map fun w => [w]), c.length = i + 1 ∧ ∀ w ∈ c, w.length ≤ 3) ∧ τ = [some (.int (sg : Nat)), some (.tup (natsW (l :: r))), some (.lst (ccw ((r.take i).foldl (stepC sg) ((wordsF sg l).map fun w => [w])))), x3, x4, x5, x6]) ⟨hp1, _, _, _, _, by rw [List.take_zero]; show (List.map _ _).length ≤ _; rw [List.length_map]; exact hw0, fun c hc => ?_, rfl⟩ ?_ ?_
  · obtain ⟨w, hw, rfl⟩ := List.mem_map.mp hc
    refine ⟨rfl, fun v hv => ?_⟩
    have : v = w := by simpa using hv
    subst this
    have := ((words_mem l v).mp hw).1
    omega
  · rintro i y τ S2 ey ⟨hp2, x3, x4, x5, x6, hF1, hF2, rfl⟩
    obtain ⟨k, el, rfl⟩ : ∃ k : Nat, r[i]? = some k ∧ y = .int (k : Nat) := by
      unfold natsW iw at ey
      rw [List.getElem?_map, List.getElem?_map] at ey
      cases h : r[i]? with
      | none => rw [h] at ey; cases ey
      | some l => rw [h] at ey; cases ey; exact ⟨l, rfl, rfl⟩
    have hli := (List.getElem?_eq_some_iff.mp el).1
    have hk3 := hr k (List.mem_cons_of_mem _ (List.mem_of_getElem? el))
    have hrl : r.length ≤ 3 := by simpa using h4
    have htake : r.take (i + 1) = r.take i ++ [k] := by rw [List.take_add_one, el]; rfl
    rw [htake, List.foldl_append]
    show _
    generalize (r.take i).foldl (stepC sg) ((wordsF sg l).map fun w => [w]) = F at hF1 hF2 ⊢
    have hFb : F.length ≤ 19683 := Nat.le_trans hF1 (Nat.le_trans (Nat.pow_le_pow_right (by decide) (show i + 1 ≤ 3 by omega)) (by decide))
    have hwk := words_le h3 hk3
    subst hB
    refine ⟨_, rfl, ?_⟩
    refine ends_gen fun D2 hD2 => ?_
    refine seq_gen fun R2 hR2 => ?_
    walk_at "dn"
    refine ⟨by omega, ?_⟩
    subst hR2
    refine seq_gen fun R2 hR2 => ?_
    refine for_gen fun B hB => ?_
    walk_at "dn"
    rw [hR2]
    clear hR2
    subst hB
    have hsz : ∀ j, (ccw ((F.take j).flatMap (growC sg k))).length ≤ 19683 * 27 := fun j => by
      rw [ccw_len]
      refine Nat.le_trans (flat_len (k := 27) fun c _ => Nat.le_trans (grow_len sg k c) hwk) ?_
      refine Nat.mul_le_mul ?_ (Nat.le_refl _)
      rw [List.length_take]
      omega
    refine forI_inv (fun j τ S' => ∃ (L : Store) (x5 x6 : Option W), S' = S2 ++ [some (.lst (ccw ((F.take j).flatMap (growC sg k))))] ++ L ∧ τ = [some (.int (sg : Nat)), some (.tup (natsW (l :: r))), some (.lst (ccw F)), some (.int (k : Nat)), some (.loc S2.length), x5, x6]) ⟨[], _, _, (List.append_nil _).symm, rfl⟩ ?_ ?_
    · rintro j y τ S3 ey ⟨L, y5, y6, rfl, rfl⟩
      obtain ⟨c, ec1, rfl⟩ : ∃ c, F[j]? = some c ∧ y = .tup (cw c) := by
        unfold ccw at ey
        rw [List.getElem?_map] at ey
        obtain ⟨c, h1, h2⟩ := Option.map_eq_some_iff.mp ey
        exact ⟨c, h1, h2.symm⟩
      obtain ⟨q1, q2⟩ := hF2 c (List.mem_of_getElem? ec1)
      rcases List.eq_nil_or_concat c with rfl | ⟨c0, u, rfl⟩
      · cases q1
      rw [List.concat_eq_append] at *
      have hu := q2 u (by simp)
      have el3 : (S2 ++ [some (Cell.lst (ccw ((F.take j).flatMap (growC sg k))))] ++ L)[S2.length]? = some (some (.lst (ccw ((F.take j).flatMap (growC sg k))))) := by simp
      refine ⟨_, rfl, ?_⟩
      refine ends_gen fun D3 hD3 => ?_
      walk_at "dn"
      simp only [ls_loc el3, Option.isSome_some, true_and]
      refine ⟨sg, k, rfl, by omega, by omega, fun S4 hp4 => ?_⟩
      obtain ⟨L', rfl⟩ := hp4
      dsimp only [seqT]
      refine ⟨by rw [cw_len]; omega, lcI_filt (fun x => HT.lexLt u (ofW x)) (fun x => .tup (cw (c0 ++ [u]) ++ [x])) (fun x hx => ?_) ?_⟩
      · obtain ⟨w, hw, rfl⟩ := List.mem_map.mp hx
        have hwl := ((words_mem k w).mp hw).1
        refine ⟨_, rfl, fun R hR => ?_, fun _ R hR => ?_⟩
        · walk_at "dn"
          have a1 : L2.atI (cw (c0 ++ [u])) (-1) = some (.tup (iw u)) := by rw [show cw (c0 ++ [u]) = cw c0 ++ [W.tup (iw u)] by rw [← cw_app]; rfl, at_last]
          simp only [a1]
          rw [show intsOf (iw w) = some w from intsOf_map w, show intsOf (iw u) = some u from intsOf_map u]
          dsimp only
          rw [ofW_iw] at hR
          exact hR
        · walk_at "dn"
          refine ⟨by omega, by rw [cw_len, q1]; show i + 1 + 1 ≤ sizeLine; omega, hR⟩
      · have el4 : (S2 ++ [some (Cell.lst (ccw ((F.take j).flatMap (growC sg k))))] ++ L ++ L')[S2.length]? = some (some (.lst (ccw ((F.take j).flatMap (growC sg k))))) := by simp
        have e2 : ccw ((F.take j).flatMap (growC sg k)) ++ ((cw (wordsF sg k)).filter fun x => HT.lexLt u (ofW x)).map (fun x => W.tup (cw (c0 ++ [u]) ++ [x])) = ccw ((F.take (j + 1)).flatMap (growC sg k)) := by
          have e3 : F.take (j + 1) = F.take j ++ [c0 ++ [u]] := by rw [List.take_add_one, ec1]; rfl
          rw [e3, List.flatMap_append, ← ccw_app]
          congr 1
          rw [filt_cw _ _ (fun w => HT.lexLt u w) (fun w => by rw [ofW_iw])]
          rw [List.flatMap_cons, List.flatMap_nil, List.append_nil]
          unfold growC ccw
          rw [List.getLastD_concat, List.map_map]
          unfold cw
          rw [List.map_map]
          apply List.map_congr_left
          intro w _
          show W.tup (cw (c0 ++ [u]) ++ [.tup (iw w)]) = W.tup (cw (c0 ++ [u] ++ [w]))
          rw [← cw_app (c0 ++ [u]) [w]]
          rfl
        simp only [el4]
        refine ⟨?_, ?_⟩
        · rw [← List.length_append, e2]
          exact Nat.le_trans (hsz _) (Nat.le_trans (by decide) sz)
        · rw [e2]
          subst hD3
          exact ⟨L ++ L', _, _, by simp [List.set_append], rfl⟩
    · rintro τ S3 ⟨L, y5, y6, rfl, rfl⟩
      rw [ccw_len, List.take_length]
      have el3 : (S2 ++ [some (Cell.lst (ccw (F.flatMap (growC sg k))))] ++ L)[S2.length]? = some (some (.lst (ccw (F.flatMap (growC sg k))))) := by simp
      have hszF : (F.flatMap (growC sg k)).length ≤ F.length * 27 := flat_len (k := 27) fun c _ => Nat.le_trans (grow_len sg k c) hwk
      have hszG : F.length * 27 ≤ 27 ^ (i + 1 + 1) := by rw [Nat.pow_succ 27 (i + 1)]; exact Nat.mul_le_mul hF1 (Nat.le_refl _)
      have hstr : ∀ c ∈ F.flatMap (growC sg k), ∃ (g : List (List Int)) (u w : List Int), c = g ++ [u] ++ [w] ∧ c.length = i + 1 + 1 ∧ ∀ v ∈ c, v.length ≤ 3 := by
        intro c hc
        obtain ⟨c0, h0, hc⟩ := List.mem_flatMap.mp hc
        obtain ⟨w, hw, rfl⟩ := List.mem_map.mp hc
        have hw := ((words_mem k w).mp (List.mem_filter.mp hw).1).1
        obtain ⟨q1, q2⟩ := hF2 c0 h0
        rcases List.eq_nil_or_concat c0 with rfl | ⟨g, u, rfl⟩
        · cases q1
        · rw [List.concat_eq_append] at *
          refine ⟨g, u, w, rfl, by rw [List.length_append, q1]; rfl, fun v hv => ?_⟩
          rcases List.mem_append.mp hv with hv | hv
          · exact q2 v hv
          · have : v = w := by simpa using hv
            subst this
            omega
      dsimp only
      walk_at "dn"
      simp only [el3]
      refine ⟨by rw [ccw_len]; omega, lcI_filt (fun x => !stB ((ofC x).dropLast.getLastD []) ((ofC x).getLastD [])) (fun x => x) (fun x hx => ?_) ?_⟩
      · obtain ⟨c, hc, rfl⟩ := List.mem_map.mp hx
        obtain ⟨g, u, w, rfl, _, hb⟩ := hstr c hc
        have hu := hb u (by simp)
        have hw := hb w (by simp)
        refine ⟨_, rfl, fun R hR => ?_, fun _ R hR => ?_⟩
        · rw [ofC_cw, List.dropLast_concat, List.getLastD_concat, List.getLastD_concat] at hR
          have ecw : cw (g ++ [u] ++ [w]) = cw g ++ [W.tup (iw u)] ++ [W.tup (iw w)] := by rw [← cw_app, ← cw_app]; rfl
          walk_at "dn"
          rw [ecw, at_last2, at_last]
          dsimp only
          exact ⟨u, w, rfl, by omega, by omega, hR⟩
        · walk_at "dn"
          exact hR
      · have e4 : ((ccw (F.flatMap (growC sg k))).filter fun x => !stB ((ofC x).dropLast.getLastD []) ((ofC x).getLastD [])).map (fun x => x) = ccw (stepC sg F k) := by
          rw [List.map_id', step_eq]
          exact filt_ccw _ _ _ fun c => by rw [ofC_cw]
        have hsub : ∀ c ∈ stepC sg F k, c ∈ F.flatMap (growC sg k) := fun c hc => (List.mem_filter.mp hc).1
        have hln : (stepC sg F k).length ≤ (F.flatMap (growC sg k)).length := List.length_filter_le ..
        subst hD2
        obtain ⟨L0, rfl⟩ := hp2
        dsimp only
        rw [e4]
        refine ⟨⟨L0 ++ [none] ++ L, by simp [List.set_append]⟩, _, _, _, _, ?_, ?_, rfl⟩
        · exact Nat.le_trans hln (Nat.le_trans hszF hszG)
        · intro c hc
          obtain ⟨_, _, _, _, h1, h2⟩ := hstr c (hsub c hc)
          exact ⟨h1, h2⟩
  · rintro τ S2 ⟨hp2, x3, x4, x5, x6, _, _, rfl⟩
    rw [nats_len, List.take_length]
    subst hR
    walk_at "dn"
    exact hq S2 hp2
set_option maxHeartbeats 4000000 in
theorem ok__law_draw_row (T : Txt K mg) : FnG P w K mg base 5 T.f__law_draw_row T.fd__law_draw_row 4 ["deck", "signs", "many", "most"] sp_law_draw_row := by
  have G__law_lengths := ok__law_lengths (P := P) (w := w) (base := base) T
  have G__law_take := ok__law_take (P := P) (w := w) (base := base) T
  have G__law_code := ok__law_code (P := P) (w := w) (base := base) T
  refine fnG T.F__law_draw_row sc__law_draw_row rfl sp_law_draw_row_len (fun cdv A outer s H hr hgd => ⟨_, (pssd_cons (psd_set (i := 4) sc__law_draw_row.nd rfl (by first | exact Or.inl rfl | exact Or.inr rfl) (pd_cell (pdf_callTy cf_list (by rfl) T.z_list (by decide +kernel) (pad_cons (pd_call G__law_lengths hgd (hr.mono (by decide)) (by rfl) T.m__law_lengths T.F__law_lengths.kp T.b__law_lengths (pad_cons (pd_call G__law_code hgd (hr.mono (by decide)) (by rfl) T.m__law_code T.F__law_code.kp T.b__law_code (pad_cons (pd_var 0) (pad_cons (pd_var 1) (pad_cons (pd_var 2) (pad_cons (pd_var 3) pad_nil))))) pad_nil)) pad_nil))))
      (pssd_cons (psd_if (ptd_cmp (opd_eq hr) (pd_call G__law_take hgd (hr.mono (by decide)) (by rfl) T.m__law_take T.F__law_take.kp T.b__law_take (pad_cons (pd_var 0) (pad_cons pd_int pad_nil))) pd_int (nomark _)) (pssd_cons (psd_set (i := 5) sc__law_draw_row.nd rfl (by first | exact Or.inl rfl | exact Or.inr rfl) (pd_call G__law_take hgd (hr.mono (by decide)) (by rfl) T.m__law_take T.F__law_take.kp T.b__law_take (pad_cons (pd_var 0) (pad_cons (pd_callB cd_len (by rfl) T.z_len (by decide +kernel) (pad_cons (pd_var 4) pad_nil)) pad_nil))))
      (pssd_one (psd_lputD (pd_var 4) (pd_var 5) (pd_call G__law_take hgd (hr.mono (by decide)) (by rfl) T.m__law_take T.F__law_take.kp T.b__law_take (pad_cons (pd_var 0) (pad_cons (pd_op opd_add (pd_var 3) pd_int) pad_nil)))))) pssd_nil)
      (pssd_cons (psd_if (ptd_cmp (opd_eq hr) (pd_call G__law_take hgd (hr.mono (by decide)) (by rfl) T.m__law_take T.F__law_take.kp T.b__law_take (pad_cons (pd_var 0) (pad_cons pd_int pad_nil))) pd_int (nomark _)) (pssd_one (psd_setLcC (i := 4) rfl sc__law_draw_row.nd rfl rfl (own := [("key", 6)]) (is := [6]) (pid_range1 (by rfl) T.z_range (pad_cons (pd_var 2) pad_nil)) (fun _ _ _ _ _ => (pgd_name (i := 6) sc__law_draw_row.nd rfl (by first | exact Or.inl rfl | exact Or.inr rfl))) (fun _ _ _ _ _ => ptsd_nil) (fun _ _ _ _ _ => (pd_call G__law_take hgd (hr.mono (by decide)) (by rfl) T.m__law_take T.F__law_take.kp T.b__law_take (pad_cons (pd_var 0) (pad_cons (pd_op opd_add (pd_var 3) pd_int) pad_nil)))) (by decide) (blkOk_by (own := [("key", 6)]) (N := ["deck", "signs", "many", "most", "row", "spot", "key"]) (sc := defScope s__law_draw_row) (by decide +kernel)) (sw_true rfl rfl rfl (by decide +kernel)))) pssd_nil)
      (pssd_one (psd_ret (pd_callTy cd_tuple (by rfl) T.z_tuple (by decide +kernel) (pad_cons (pd_var 4) pad_nil))))))), ?_⟩)
  rintro ws S Q ⟨d, sg, many, most, N, rfl, h2, h6, m1, m16, o0, o16, hd, hN, hq⟩
  have sz : 1000000 ≤ sizeLine := by rw [sizeLine_eq]; decide
  refine seq_gen fun R hR => ?_
  walk_at "dn"
  refine ⟨d, sg, many, most, N, rfl, h2, h6, m1, m16, o0, o16, hd, by omega, fun c S1 hW c1 c2 hd1 hc1 => ?_⟩
  walk_at "dn"
  refine ⟨c, rfl, by omega, ?_⟩
  have e1 : iw (c.map fun w => (w.length : Int)) = natsW (c.map fun w => w.length) := by
    unfold natsW
    rw [List.map_map]
    rfl
  rw [e1]
  show R _ _ _
  generalize hr0 : (c.map fun w => w.length) = r0
  have r1 : 1 ≤ r0.length := by rw [← hr0, List.length_map]; exact c1
  have r2 : ((r0.length : Nat) : Int) ≤ many := by rw [← hr0, List.length_map]; exact c2
  have r3 : ∀ l : Nat, l ∈ r0 → ((l : Nat) : Int) ≤ most := fun l hl => by
    rw [← hr0] at hl
    obtain ⟨w, hw, rfl⟩ := List.mem_map.mp hl
    have := (hW.1 w hw).1
    omega
  subst hR
  refine seq_gen fun R hR => ?_
  have fin : ∀ (m : Nat) (r : List Nat) (y5 y6 : Option W) (S' : Store), m ≠ d → m < S'.length → S'[m]? = some (some (.lst (natsW r))) → 1 ≤ r.length → ((r.length : Nat) : Int) ≤ many → (∀ l : Nat, l ∈ r → ((l : Nat) : Int) ≤ most) → DeckAt S' d (N + 450000) → Ch d S S' → R { nx := fun x S' => Q W.non S', rt := Q } [some (.loc d), some (.int sg), some (.int many), some (.int most), some (.loc m), y5, y6] S' := by
    intro m r y5 y6 S' hmd hml em q1 q2 q3 hd' hc'
    subst hR
    refine seq_gen fun R hR => ?_
    walk_at "dn"
    refine ⟨d, 4, _, rfl, by decide, by decide +kernel, hd', by omega, fun t S2 t0 t1 hd2 hc2 => rdEq_int ?_⟩
    have em2 : S2[m]? = some (some (.lst (natsW r))) := by rw [hc2.2 m hmd hml]; exact em
    by_cases ht : t = 0
    · rw [decide_eq_true ht]
      dsimp only
      rw [if_pos rfl]
      refine ⟨by omega, by omega, by rw [rangeW_length]; omega, fun i acc S5 => ∃ r' : List Nat, acc = natsW r' ∧ r'.length = i ∧ (∀ l : Nat, l ∈ r' → ((l : Nat) : Int) ≤ most) ∧ DeckAt S5 d (N + 450001 + (i : Nat)) ∧ Ch d S2 S5, ⟨[], rfl, rfl, (fun _ h => nomatch h), hd2.mono (by omega), Ch.refl _ _⟩, ?_, ?_⟩
      · rintro i x acc S5 ex _ ⟨r', rfl, hi, hb, hd5, hc5⟩
        obtain ⟨hi2, rfl⟩ := rangeW_at ex
        walk_at "dn"
        refine ⟨d, most + 1, _, rfl, by omega, log2_small (by omega), hd5, by omega, fun n S6 n0 n1 hd6 hc6 => ?_⟩
        refine ⟨r' ++ [n.toNat], ?_, by simp [hi], fun l hl => ?_, hd6.mono (by omega), hc5.trans hc6⟩
        · unfold natsW iw
          rw [List.map_append, List.map_append]
          show _ = _ ++ [W.int ((n.toNat : Nat) : Int)]
          rw [show ((n.toNat : Nat) : Int) = n by omega]
        · rcases List.mem_append.mp hl with hl | hl
          · exact hb l hl
          · have : l = n.toNat := by simpa using hl
            omega
      · rintro acc S5 ⟨r', rfl, hi, hb, hd5, hc5⟩
        rw [rangeW_length] at hi hd5
        have em5 : (S5 ++ [some (Cell.lst (natsW r'))])[S5.length]? = some (some (.lst (natsW r'))) := by simp
        subst hR
        walk_at "dn"
        simp only [sq_loc em5]
        exact hq r' _ (by omega) (by omega) hb (deck_add (hd5.mono (by omega))) (ch_add ((hc'.trans hc2).trans hc5))
    · rw [decide_eq_false ht]
      dsimp only
      rw [if_neg (by decide)]
      subst hR
      walk_at "dn"
      simp only [sq_loc em2]
      exact hq r S2 q1 q2 q3 (hd2.mono (by omega)) (hc'.trans hc2)
  walk_at "dn"
  have hl1 : S1.length ≠ d := by have := hd1.lt; omega
  have em1 : (S1 ++ [some (Cell.lst (natsW r0))])[S1.length]? = some (some (.lst (natsW r0))) := by simp
  refine ⟨d, 3, _, rfl, by decide, by decide +kernel, deck_add hd1, by omega, fun t S2 t0 t1 hd2 hc2 => rdEq_int ?_⟩
  have hlt1 : S1.length < (S1 ++ [some (Cell.lst (natsW r0))]).length := by simp
  have em2 : S2[S1.length]? = some (some (.lst (natsW r0))) := by rw [hc2.2 S1.length hl1 hlt1]; exact em1
  by_cases ht : t = 0
  · rw [decide_eq_true ht]
    dsimp only
    rw [if_pos rfl]
    simp only [ln_loc em2, nats_len]
    refine ⟨d, _, _, rfl, by omega, log2_small (by omega), hd2, by omega, fun a S3 a0 a1 hd3 hc3 => ?_⟩
    refine ⟨d, most + 1, _, rfl, by omega, log2_small (by omega), hd3, by omega, fun b S4 b0 b1 hd4 hc4 => ?_⟩
    have hlt2 := Nat.lt_of_lt_of_le hlt1 hc2.1
    have hlt3 := Nat.lt_of_lt_of_le hlt2 hc3.1
    have hlt4 := Nat.lt_of_lt_of_le hlt3 hc4.1
    have em4 : S4[S1.length]? = some (some (.lst (natsW r0))) := by rw [hc4.2 S1.length hl1 hlt3, hc3.2 S1.length hl1 hlt2]; exact em2
    have ix : L2.ixN r0.length a = some a.toNat := by
      unfold L2.ixN
      rw [if_pos a0, if_pos a1]
    dsimp only
    simp only [em4, nats_len, ix]
    have es : (natsW r0).set a.toNat (.int b) = natsW (r0.set a.toNat b.toNat) := by
      unfold natsW iw
      rw [List.map_set, List.map_set]
      show _ = List.set _ _ (W.int ((b.toNat : Nat) : Int))
      rw [show ((b.toNat : Nat) : Int) = b by omega]
    rw [es]
    refine fin S1.length (r0.set a.toNat b.toNat) _ _ _ hl1 (by rw [List.length_set]; exact hlt4) (List.getElem?_set_self hlt4) (by rw [List.length_set]; exact r1) (by rw [List.length_set]; exact r2) (fun l hl => ?_) (deck_ne (hd4.mono (by omega)) hl1) (ch_hi ((((ch_add hc1).trans hc2).trans hc3).trans hc4) hc1.1)
    rcases List.mem_or_eq_of_mem_set hl with hl | rfl
    · exact r3 l hl
    · omega
  · rw [decide_eq_false ht]
    dsimp only
    rw [if_neg (by decide)]
    exact fin S1.length r0 _ _ S2 hl1 (Nat.lt_of_lt_of_le hlt1 hc2.1) em2 r1 r2 r3 (hd2.mono (by omega)) ((ch_add hc1).trans hc2)
set_option maxHeartbeats 4000000 in
theorem ok__law_mirrored (T : Txt K mg) : FnG P w K mg base 1 T.f__law_mirrored T.fd__law_mirrored 2 ["signs", "words"] sp_law_mirrored := by
  refine fnG T.F__law_mirrored sc__law_mirrored rfl sp_law_mirrored_len (fun cdv A outer s H hr hgd => ⟨_, (pssd_one (psd_ret (pd_callTy cd_tuple (by rfl) T.z_tuple (by decide +kernel) (pad_cons (pd_tree (pdf_lc rfl sc__law_mirrored.nd (own := [("word", 2)]) (is := [2]) (pid_seq (pd_revL (pd_var 1))) (fun _ _ _ _ _ => (pgd_name (i := 2) sc__law_mirrored.nd rfl (by first | exact Or.inl rfl | exact Or.inr rfl))) (fun _ _ _ _ _ => ptsd_nil) (fun _ _ _ _ _ => (pd_callTy cd_tuple (by rfl) T.z_tuple (by decide +kernel) (pad_cons (pd_tree (pdf_lc rfl sc__law_mirrored.nd (own := [("sign", 3)]) (is := [3]) (pid_seq (pd_var 2)) (fun _ _ _ _ _ => (pgd_name (i := 3) sc__law_mirrored.nd rfl (by first | exact Or.inl rfl | exact Or.inr rfl))) (fun _ _ _ _ _ => ptsd_nil) (fun _ _ _ _ _ => (pd_op opd_sub (pd_op opd_sub (pd_var 0) pd_int) (pd_var 3))) (by decide) (blkOk_by (own := [("sign", 3)]) (N := ["signs", "words", "word", "sign"]) (sc := ({ kind := .function, names := [(".0", .local), ("word", .local), ("tuple", .globalImplicit), ("signs", .cell)], isGenerator := false, isCoroutine := false } : Scope)) (by decide +kernel)))) pad_nil))) (by decide) (blkOk_by (own := [("word", 2)]) (N := ["signs", "words", "word", "sign"]) (sc := defScope s__law_mirrored) (by decide +kernel)))) pad_nil)))), ?_⟩)
  rintro ws S Q ⟨sg, c, rfl, hg, hl, hw, hq⟩
  have sz : 1000000 ≤ sizeLine := by rw [sizeLine_eq]; decide
  walk_at "dn"
  refine ⟨by rw [List.length_reverse, cw_len]; omega, lcI_pure (fun x => W.tup (iw (mirW sg (ofW x)))) (fun x hx => ?_) ?_⟩
  · obtain ⟨w, hw2, rfl⟩ := List.mem_map.mp (List.mem_reverse.mp hx)
    have hwl := hw w hw2
    refine ⟨_, rfl, fun R hR => ?_⟩
    rw [ofW_iw] at hR
    walk_at "dn"
    refine ⟨by rw [iw_len]; omega, lcI_pure (fun x => match x with | .int i => .int (((sg : Nat) : Int) - 1 - i) | w => w) (fun x hx => ?_) ?_⟩
    · obtain ⟨d, hd, rfl⟩ := List.mem_map.mp hx
      refine ⟨_, rfl, fun R4 hR4 => ?_⟩
      walk_at "dn"
      exact hR4
    · have e : (iw w).map (fun x => match x with | .int i => W.int (((sg : Nat) : Int) - 1 - i) | w => w) = iw (mirW sg w) := by
        unfold iw mirW
        rw [List.map_map, List.map_map]
        rfl
      rw [e]
      exact hR
  · rw [cut_rev]
    exact hq S (.refl S)
set_option maxHeartbeats 4000000 in
theorem ok_law (T : Txt K mg) (TB : LamX.TabB base mg T.c_law T.P_law) : FnG P w K mg base 8 T.f_law T.fd_law 1 ["script"] (spLawT T.P_law (("law" : Str) ++ ".<locals>." ++ "<lambda>")) := by
  have G__law_deck := ok__law_deck (P := P) (w := w) (base := base) T
  have G__law_draw_row := ok__law_draw_row (P := P) (w := w) (base := base) T
  have G__law_row_error := ok__law_row_error (P := P) (w := w) (base := base) T
  have G__law_take := ok__law_take (P := P) (w := w) (base := base) T
  have G__law_codes := ok__law_codes (P := P) (w := w) (base := base) T
  have G__law_one := ok__law_one (P := P) (w := w) (base := base) T
  have G__law_mirrored := ok__law_mirrored (P := P) (w := w) (base := base) T
  have G__law_laid := ok__law_laid (P := P) (w := w) (base := base) T
  have G_first_code := ok_first_code (P := P) (w := w) (base := base) T
  have G_last_code := ok_last_code (P := P) (w := w) (base := base) T
  refine fnGT T.F_law sc_law T.tb_law rfl spLawT_len (fun A outer s H hr hgd => ⟨_, (pssd_cons (psd_set (i := 1) sc_law.nd rfl (by first | exact Or.inl rfl | exact Or.inr rfl) (pd_call G__law_deck hgd (hr.mono (by decide)) (by rfl) T.m__law_deck T.F__law_deck.kp T.b__law_deck (pad_cons (pd_var 0) pad_nil)))
      (pssd_cons (psd_for PassesOwn.never rfl (pid_range1 (by rfl) T.z_range (pad_cons pd_int pad_nil)) (pgd_name (i := 2) sc_law.nd rfl (by first | exact Or.inl rfl | exact Or.inr rfl))
      (pssd_cons (psd_set (i := 3) sc_law.nd rfl (by first | exact Or.inl rfl | exact Or.inr rfl) (pd_op opd_add pd_int (pd_call G__law_take hgd (hr.mono (by decide)) (by rfl) T.m__law_take T.F__law_take.kp T.b__law_take (pad_cons (pd_var 1) (pad_cons (pd_ifExp (ptd_cmp (opd_lt hr) (pd_var 2) pd_int (nomark _)) pd_int pd_int) pad_nil)))))
      (pssd_cons (psd_set (i := 4) sc_law.nd rfl (by first | exact Or.inl rfl | exact Or.inr rfl) (pd_call G__law_draw_row hgd (hr.mono (by decide)) (by rfl) T.m__law_draw_row T.F__law_draw_row.kp T.b__law_draw_row (pad_cons (pd_var 1) (pad_cons (pd_var 3) (pad_cons (pd_op opd_add pd_int (pd_call G__law_take hgd (hr.mono (by decide)) (by rfl) T.m__law_take T.F__law_take.kp T.b__law_take (pad_cons (pd_var 1) (pad_cons (pd_ifExp (ptd_cmp (opd_lt hr) (pd_var 2) pd_int (nomark _)) pd_int pd_int) pad_nil)))) (pad_cons (pd_ifExp (ptd_cmp (opd_lt hr) (pd_var 2) pd_int (nomark _)) pd_int (pd_call G__law_one hgd (hr.mono (by decide)) (by rfl) T.m__law_one T.F__law_one.kp T.b__law_one (pad_cons (pd_var 1) (pad_cons (pd_tree (pdf_lst (pad_cons pd_int (pad_cons pd_int (pad_cons pd_int pad_nil))))) pad_nil)))) pad_nil))))))
      (pssd_cons (psd_set (i := 5) sc_law.nd rfl (by first | exact Or.inl rfl | exact Or.inr rfl) (pd_call G__law_row_error hgd (hr.mono (by decide)) (by rfl) T.m__law_row_error T.F__law_row_error.kp T.b__law_row_error (pad_cons (pd_var 3) (pad_cons (pd_var 4) pad_nil))))
      (pssd_cons (psd_set (i := 6) sc_law.nd rfl (by first | exact Or.inl rfl | exact Or.inr rfl) (pd_op opd_mulB (pd_tree (pdf_lst (pad_cons (pd_tree (pdf_lst (pad_cons (pd_var 5) (pad_cons pd_bl pad_nil)))) pad_nil))) pd_int))
      (pssd_cons (psd_if (ptd_cmp opd_isN (pd_var 5) pd_non (nomark _)) (pssd_one (psd_set (i := 6) sc_law.nd rfl (by first | exact Or.inl rfl | exact Or.inr rfl) (pd_tree (pdf_lst (pad_cons (pd_callTy cd_tuple (by rfl) T.z_tuple (by decide +kernel) (pad_cons (pd_call G__law_laid hgd (hr.mono (by decide)) (by rfl) T.m__law_laid T.F__law_laid.kp T.b__law_laid (pad_cons (pd_var 3) (pad_cons (pd_var 4) pad_nil))) pad_nil)) (pad_cons (pd_call G__law_mirrored hgd (hr.mono (by decide)) (by rfl) T.m__law_mirrored T.F__law_mirrored.kp T.b__law_mirrored (pad_cons (pd_var 3) (pad_cons (pd_call G__law_laid hgd (hr.mono (by decide)) (by rfl) T.m__law_laid T.F__law_laid.kp T.b__law_laid (pad_cons (pd_var 3) (pad_cons (pd_rev (pd_var 4)) pad_nil))) pad_nil))) pad_nil)))))) pssd_nil)
      (pssd_cons (psd_if (PWD.pt (pwd_and (ptd_cmp (opd_lt hr) (pd_var 2) pd_int (nomark _)) (pwd_and1 (ptd_cmp opd_isN (pd_var 5) pd_non (nomark _))))) (pssd_cons (psd_set (i := 8) sc_law.nd rfl (by first | exact Or.inl rfl | exact Or.inr rfl) (pd_call G__law_codes hgd (hr.mono (by decide)) (by rfl) T.m__law_codes T.F__law_codes.kp T.b__law_codes (pad_cons (pd_var 3) (pad_cons (pd_var 4) pad_nil))))
      (pssd_one (psd_if (ptd_cmp (opd_ne hr) (pd_var 6) (pd_tree (pdf_lst (pad_cons (pd_ix (pd_var 8) pd_int (fun _ _ => rfl)) (pad_cons (pd_ix (pd_var 8) (pd_neg pd_int) (fun _ _ => rfl)) pad_nil)))) (nomark _)) (pssd_one (psd_ret pd_bl)) pssd_nil))) pssd_nil)
      (pssd_cons (psd_set (i := 7) sc_law.nd rfl (by first | exact Or.inl rfl | exact Or.inr rfl) (pd_cell (pdf_lst (pad_cons (pd_toldE (n := 0) (k := 4) (j := 1) T.F__law_told T.b__law_told rfl sc__law_told rfl rfl rfl (fun _ => rfl) (Or.inl rfl) rfl rfl T.m_NoFit (by decide) T.E_NoFit.te (by rfl) T.m__law_told TB rfl rfl hgd (hr.mono (by decide)) (LamX.lamS_by (sc := defScope s_law) (by decide +kernel)) rfl (fun _ _ _ _ _ => rfl) (fun A outer s H Ex f c hgd hr => (pdx_call G_first_code hgd (hr.mono (by decide)) (takes_of rfl rfl rfl rfl) (by rfl) T.m_first_code T.F_first_code.kp T.b_first_code (pad_cons (pd_var 3) (pad_cons (pd_var 4) pad_nil)))) (fun cdv s H a oe d pn hz hf => (pssde_ret (pde_lst (pade_cons (pde_field (j := 1) T.E_NoFit hz hf) (pade_cons (pde_and (pde_isO (j := 1) T.E_NoFit.xf T.EI_NoFit hz hf (fun u h => by exact h) T.ki_NoFit_CodeError (pe_glob (by rfl) T.m_CodeError (show L2.RelV (.ref _) (.ref _) from rfl)) (by rfl) T.z_isinstance) (pde_one (pde_isO (j := 1) T.E_NoFit.xf T.EI_NoFit hz hf (fun u h => by exact h) T.ki_NoFit_ValueError (pe_bltn (by rfl) T.z_ValueError (by decide +kernel) (show L2.RelV (.ty "ValueError") (.type "ValueError") from rfl)) (by rfl) T.z_isinstance))) pade_nil)))))) pad_nil))))
      (pssd_cons (psd_expr (pd_mt PySem.F.plainAttrs_list PySem.F.slot_list_append PySem.F.type_list_append md_append (pd_var 7) (pad_cons (pd_toldE (n := 0) (k := 5) (j := 1) T.F__law_told T.b__law_told rfl sc__law_told rfl rfl rfl (fun _ => rfl) (Or.inl rfl) rfl rfl T.m_NoFit (by decide) T.E_NoFit.te (by rfl) T.m__law_told TB rfl rfl hgd (hr.mono (by decide)) (LamX.lamS_by (sc := defScope s_law) (by decide +kernel)) rfl (fun _ _ _ _ _ => rfl) (fun A outer s H Ex f c hgd hr => (pdx_call G_last_code hgd (hr.mono (by decide)) (takes_of rfl rfl rfl rfl) (by rfl) T.m_last_code T.F_last_code.kp T.b_last_code (pad_cons (pd_var 3) (pad_cons (pd_var 4) pad_nil)))) (fun cdv s H a oe d pn hz hf => (pssde_ret (pde_lst (pade_cons (pde_field (j := 1) T.E_NoFit hz hf) (pade_cons (pde_and (pde_isO (j := 1) T.E_NoFit.xf T.EI_NoFit hz hf (fun u h => by exact h) T.ki_NoFit_CodeError (pe_glob (by rfl) T.m_CodeError (show L2.RelV (.ref _) (.ref _) from rfl)) (by rfl) T.z_isinstance) (pde_one (pde_isO (j := 1) T.E_NoFit.xf T.EI_NoFit hz hf (fun u h => by exact h) T.ki_NoFit_ValueError (pe_bltn (by rfl) T.z_ValueError (by decide +kernel) (show L2.RelV (.ty "ValueError") (.type "ValueError") from rfl)) (by rfl) T.z_isinstance))) pade_nil)))))) pad_nil)))
      (pssd_one (psd_if (ptd_cmp (opd_ne hr) (pd_callB (cd_reprT hgd hr) (by rfl) T.z_repr (by decide +kernel) (pad_cons (pd_var 7) pad_nil)) (pd_callB (cd_reprT hgd hr) (by rfl) T.z_repr (by decide +kernel) (pad_cons (pd_var 6) pad_nil)) (nomark _)) (pssd_one (psd_ret pd_bl)) pssd_nil)))))))))))
      (pssd_one (psd_ret pd_bl)))), ?_⟩)
  rintro ws S Q ⟨ns, rfl, hl, rfl, hq⟩
  have sz : 1000000 ≤ sizeLine := by rw [sizeLine_eq]; decide
  refine seq_gen fun R hR => ?_
  walk_at "dn"
  refine ⟨ns, rfl, hl, fun S0 hd0 hp0 => ?_⟩
  have hd0 : DeckAt S0 1 0 := hd0
  have ht0 : TabAt T.P_law (("law" : Str) ++ ".<locals>." ++ "<lambda>") S0 := TabAt.pre (S := [some (.tab T.P_law (("law" : Str) ++ ".<locals>." ++ "<lambda>"))]) rfl hp0
  subst hR
  refine seq_gen fun R hR => ?_
  refine for_gen fun B hB => ?_
  walk_at "dn"
  subst hB
  refine ⟨by decide, by decide, ?_⟩
  refine forI_inv (fun i τ S => DeckAt S 1 (2000000 * i) ∧ TabAt T.P_law (("law" : Str) ++ ".<locals>." ++ "<lambda>") S ∧ ∃ x2 x3 x4 x5 x6 x7 x8, τ = [some (.scr ns), some (.loc 1), x2, x3, x4, x5, x6, x7, x8]) ⟨hd0.mono (by omega), ht0, _, _, _, _, _, _, _, rfl⟩ ?_ ?_
  · rintro i x τ S2 e ⟨hd2, ht2, x2, x3, x4, x5, x6, x7, x8, rfl⟩
    obtain ⟨hi, rfl⟩ := rangeW_at e
    have hi : i < 14 := hi
    refine ⟨_, rfl, ?_⟩
    clear e
    refine ends_gen fun D hD => ?_
    refine seq_gen fun R2 hR2 => ?_
    have cA : ∀ (sg : Nat) (S3 : Store), 2 ≤ sg → sg ≤ 6 → (i < 5 → sg ≤ 3) → DeckAt S3 1 (2000000 * i + 1) → TabAt T.P_law (("law" : Str) ++ ".<locals>." ++ "<lambda>") S3 → R2 D [some (.scr ns), some (.loc 1), some (.int (0 + ((i : Nat) : Int))), some (.int ((sg : Nat) : Int)), x4, x5, x6, x7, x8] S3 := by
      intro sg S3 g0 g1 g2 hd3 ht3
      subst hR2
      refine seq_gen fun R2 hR2 => ?_
      have cB : ∀ (r : List Nat) (S4 : Store), RowIn sg r → (i < 5 → r.length ≤ 4 ∧ ∀ l ∈ r, l ≤ 3) → DeckAt S4 1 (2000000 * i + 600000) → TabAt T.P_law (("law" : Str) ++ ".<locals>." ++ "<lambda>") S4 → R2 D [some (.scr ns), some (.loc 1), some (.int (0 + ((i : Nat) : Int))), some (.int ((sg : Nat) : Int)), some (.tup (natsW r)), x5, x6, x7, x8] S4 := by
        intro r S4 hr r4 hd4 ht4
        have r1 := hr.n
        have r2 := hr.m
        have r3 := hr.l
        subst hR2
        refine seq_gen fun R2 hR2 => ?_
        walk_at "dn"
        refine ⟨sg, .tup (natsW r), rfl, g0, vl_it (nat_it r3) (by rw [nats_len]; omega), fun S6 hp6 => ?_⟩
        rw [re_nats r3 r1 r2]
        have hd6 := dpre hd4 hp6
        have ht6 := ht4.pre hp6
        clear hp6 hd4 ht4
        subst hR2
        refine seq_gen fun R2 hR2 => ?_
        walk_at "dn"
        refine ⟨Nat.le_trans (by decide) sz, Nat.le_trans (by decide) sz, by decide, by decide, Nat.le_trans (by decide) sz, ?_⟩
        rw [show (List.replicate (Int.toNat 2) [W.lst [errN sg r, W.bl true]]).flatten = [W.lst [errN sg r, W.bl true], W.lst [errN sg r, W.bl true]] from rfl]
        have hll := least_len sg r none
        cases hf : fitB sg r with
        | false =>
          have hne := of_decide_eq_false hf
          have he : errN sg r = .int ((leastF sg none r).length : Nat) := by unfold errN; rw [if_neg hne]
          have el : List.lookup (Str.ofString "key") [(Str.ofString "key", W.int ((leastF sg none r).length : Nat))] = some (W.int ((leastF sg none r).length : Nat)) := by simp [List.lookup]
          rw [he]
          subst hR2
          refine seq_gen fun R2 hR2 => ?_
          walk_at "dn"
          subst hR2
          refine seq_gen fun R2 hR2 => ?_
          walk_at "dn"
          suffices hs : R2 D [some (.scr ns), some (.loc 1), some (.int (0 + ((i : Nat) : Int))), some (.int ((sg : Nat) : Int)), some (.tup (natsW r)), some (.int ((leastF sg none r).length : Nat)), some (.lst [.lst [.int ((leastF sg none r).length : Nat), .bl true], .lst [.int ((leastF sg none r).length : Nat), .bl true]]), x7, x8] S6 by
            by_cases h5 : (0 : Int) + ((i : Nat) : Int) < 5 <;> simp only [h5, decide_true, decide_false, if_true, if_false, Bool.false_eq_true] <;> exact hs
          subst hR2
          refine seq_gen fun R2 hR2 => ?_
          walk_at "dn"
          refine ⟨ht6, sg, r, rfl, hr, fun z => (by rw [hf] at z; cases z), fun _ S7 hp7 => ?_⟩
          refine ⟨rfl, ?_⟩
          rw [el]
          refine ⟨List.cons_ne_nil _ _, List.cons_ne_nil _ _, Nat.le_trans (by decide) sz, Nat.le_trans (by decide) sz, ?_⟩
          have hd7 := dpre hd6 hp7
          have ht7 := ht6.pre hp7
          subst hR2
          refine seq_gen fun R2 hR2 => ?_
          walk_at "dn"
          have hc7 : (S7 ++ [some (Cell.lst [W.lst [W.int ((leastF sg none r).length : Nat), W.bl true]])])[S7.length]? = some (some (.lst [W.lst [W.int ((leastF sg none r).length : Nat), W.bl true]])) := by simp
          rw [ls_loc hc7]
          refine ⟨rfl, ht7.pre ⟨_, rfl⟩, sg, r, rfl, hr, fun z => (by rw [hf] at z; cases z), fun _ S8 hp8 => ?_⟩
          refine ⟨rfl, ?_⟩
          rw [el]
          refine ⟨List.cons_ne_nil _ _, List.cons_ne_nil _ _, Nat.le_trans (by decide) sz, ?_⟩
          have hd8 := dpre (dpre hd7 ⟨_, rfl⟩) hp8
          have ht8 := (ht7.pre ⟨_, rfl⟩).pre hp8
          have hc8 := cell_at hp8
          simp only [hc8]
          refine ⟨(show 1 < sizeLine from Nat.lt_of_lt_of_le (by decide) sz), ?_⟩
          have lt7 : 1 < S7.length := DeckAt.lt hd7
          have hd9 : DeckAt (List.set S8 S7.length (some (.lst [W.lst [W.int ((leastF sg none r).length : Nat), W.bl true], W.lst [W.int ((leastF sg none r).length : Nat), W.bl true]]))) 1 (2000000 * i + 600000) := deck_ne hd8 (by omega)
          have ht9 : TabAt T.P_law (("law" : Str) ++ ".<locals>." ++ "<lambda>") (List.set S8 S7.length (some (.lst [W.lst [W.int ((leastF sg none r).length : Nat), W.bl true], W.lst [W.int ((leastF sg none r).length : Nat), W.bl true]]))) := (List.getElem?_set_ne (by omega)).trans ht8
          have hc9 : (List.set S8 S7.length (some (Cell.lst [W.lst [W.int ((leastF sg none r).length : Nat), W.bl true], W.lst [W.int ((leastF sg none r).length : Nat), W.bl true]])))[S7.length]? = some (some (.lst [W.lst [W.int ((leastF sg none r).length : Nat), W.bl true], W.lst [W.int ((leastF sg none r).length : Nat), W.bl true]])) := List.getElem?_set_self (cell_lt hc8)
          rw [show ([W.lst [W.int ((leastF sg none r).length : Nat), W.bl true]] ++ [W.lst [W.int ((leastF sg none r).length : Nat), W.bl true]] : List W) = [W.lst [W.int ((leastF sg none r).length : Nat), W.bl true], W.lst [W.int ((leastF sg none r).length : Nat), W.bl true]] from rfl]
          generalize (List.set S8 S7.length (some (Cell.lst [W.lst [W.int ((leastF sg none r).length : Nat), W.bl true], W.lst [W.int ((leastF sg none r).length : Nat), W.bl true]]))) = S9 at hd9 ht9 hc9 ⊢
          subst hR2
          walk_at "dn"
          rw [dl_loc hc9]
          have hI : ItD (W.lst [W.int ((leastF sg none r).length : Nat), W.bl true]) := pair_itd (by omega)
          have hrep := repL (us := [W.lst [W.int ((leastF sg none r).length : Nat), W.bl true], W.lst [W.int ((leastF sg none r).length : Nat), W.bl true]]) (fun u hu => by
            simp only [List.mem_cons, List.not_mem_nil, or_false, or_self] at hu
            rw [hu]
            exact hI) (by show 2 ≤ 10; decide) S9
          refine ⟨.inl hrep, .inl hrep, rdNe_str ?_⟩
          rw [del_lst]
          generalize shw (W.lst [W.lst [W.int ((leastF sg none r).length : Nat), W.bl true], W.lst [W.int ((leastF sg none r).length : Nat), W.bl true]]) = x0
          rw [decide_eq_true rfl]
          dsimp only
          rw [if_neg (by decide)]
          subst hD
          exact ⟨hd9.mono (by omega), ht9, _, _, _, _, _, _, _, rfl⟩
        | true =>
          have he : errN sg r = .non := by unfold errN; rw [if_pos (of_decide_eq_true hf)]
          rw [he]
          have hL := least_cd hr.g (of_decide_eq_true hf)
          have hM := cd_full hr.g (cd_mir hL)
          have hH := high_cd hr.g hL
          subst hR2
          refine seq_gen fun R2 hR2 => ?_
          walk_at "dn"
          refine ⟨sg, r, rfl, g0, (fun l hl => by have := r3 l hl; omega), r1, by omega, fun S7 hp7 => ?_⟩
          dsimp only
          rw [nats_rev]
          refine ⟨sg, r.reverse, rfl, g0, (fun l hl => by have := r3 l (List.mem_reverse.mp hl); omega), by rw [List.length_reverse]; omega, by rw [List.length_reverse]; omega, fun S8 hp8 => ?_⟩
          refine ⟨sg, _, rfl, by omega, by rw [hM, List.length_reverse]; omega, fun w hw => ?_, fun S9 hp9 => ?_⟩
          · have h1 : w.length ∈ r.reverse := by rw [← (least_cd hr.g hM).l]; exact List.mem_map.mpr ⟨w, hw, rfl⟩
            have := r3 _ (List.mem_reverse.mp h1)
            omega
          refine ⟨Nat.le_trans (by decide) sz, ?_⟩
          rw [show mirC sg (leastF sg none r.reverse) = highF sg r from rfl]
          have hd9 := dpre (dpre (dpre hd6 hp7) hp8) hp9
          have ht9 := ((ht6.pre hp7).pre hp8).pre hp9
          subst hR2
          refine seq_gen fun R2 hR2 => ?_
          walk_at "dn"
          have hs : ∀ x8 S10, Pre S9 S10 → R2 D [some (.scr ns), some (.loc 1), some (.int (0 + ((i : Nat) : Int))), some (.int ((sg : Nat) : Int)), some (.tup (natsW r)), some .non, some (.lst [.tup (cw (leastF sg none r)), .tup (cw (highF sg r))]), x7, x8] S10 := by
            intro x8 S10 hp10
            have hd10 := dpre hd9 hp10
            have ht10 := ht9.pre hp10
            subst hR2
            refine seq_gen fun R2 hR2 => ?_
            walk_at "dn"
            refine ⟨ht10, sg, r, rfl, hr, fun _ S11 hp11 => ?_, fun z => (by rw [hf] at z; cases z)⟩
            refine ⟨Nat.le_trans (by decide) sz, ?_⟩
            have hd11 := dpre hd10 hp11
            have ht11 := ht10.pre hp11
            subst hR2
            refine seq_gen fun R2 hR2 => ?_
            walk_at "dn"
            have hc11 : (S11 ++ [some (Cell.lst [W.tup (cw (leastF sg none r))])])[S11.length]? = some (some (.lst [W.tup (cw (leastF sg none r))])) := by simp
            rw [ls_loc hc11]
            refine ⟨rfl, ht11.pre ⟨_, rfl⟩, sg, r, rfl, hr, fun _ S12 hp12 => ?_, fun z => (by rw [hf] at z; cases z)⟩
            have hd12 := dpre (dpre hd11 ⟨_, rfl⟩) hp12
            have ht12 := (ht11.pre ⟨_, rfl⟩).pre hp12
            have hc12 := cell_at hp12
            simp only [hc12]
            refine ⟨(show 1 < sizeLine from Nat.lt_of_lt_of_le (by decide) sz), ?_⟩
            have lt7 : 1 < S11.length := DeckAt.lt hd11
            have hd9 : DeckAt (List.set S12 S11.length (some (.lst [W.tup (cw (leastF sg none r)), W.tup (cw (highF sg r))]))) 1 (2000000 * i + 600000) := deck_ne hd12 (by omega)
            have ht9 : TabAt T.P_law (("law" : Str) ++ ".<locals>." ++ "<lambda>") (List.set S12 S11.length (some (.lst [W.tup (cw (leastF sg none r)), W.tup (cw (highF sg r))]))) := (List.getElem?_set_ne (by omega)).trans ht12
            have hc9 : (List.set S12 S11.length (some (Cell.lst [W.tup (cw (leastF sg none r)), W.tup (cw (highF sg r))])))[S11.length]? = some (some (.lst [W.tup (cw (leastF sg none r)), W.tup (cw (highF sg r))])) := List.getElem?_set_self (cell_lt hc12)
            rw [show ([W.tup (cw (leastF sg none r))] ++ [W.tup (cw (highF sg r))] : List W) = [W.tup (cw (leastF sg none r)), W.tup (cw (highF sg r))] from rfl]
            generalize (List.set S12 S11.length (some (Cell.lst [W.tup (cw (leastF sg none r)), W.tup (cw (highF sg r))]))) = S9 at hd9 ht9 hc9 ⊢
            subst hR2
            walk_at "dn"
            rw [dl_loc hc9]
            have i1 := code_itd hr hL
            have i2 := code_itd hr hH
            have hrep := repL (us := [W.tup (cw (leastF sg none r)), W.tup (cw (highF sg r))]) (fun u hu => by
              simp only [List.mem_cons, List.not_mem_nil, or_false] at hu
              rcases hu with rfl | rfl
              · exact i1
              · exact i2) (by show 2 ≤ 10; decide) S9
            refine ⟨.inl hrep, .inl hrep, rdNe_str ?_⟩
            rw [del_lst]
            generalize shw (W.lst [W.tup (cw (leastF sg none r)), W.tup (cw (highF sg r))]) = x0
            rw [decide_eq_true rfl]
            dsimp only
            rw [if_neg (by decide)]
            subst hD
            exact ⟨hd9.mono (by omega), ht9, _, _, _, _, _, _, _, rfl⟩
          by_cases h5 : (0 : Int) + ((i : Nat) : Int) < 5
          · simp only [h5, decide_true, if_true]
            have g3 := g2 (by omega)
            obtain ⟨r5, r6⟩ := r4 (by omega)
            refine ⟨sg, r, rfl, g0, g3, r6, r1, r5, fun S10 hp10 => ?_⟩
            obtain ⟨t1, et1⟩ := codes_first g0 r1 hf
            obtain ⟨t2, et2⟩ := codes_last g0 r1 hf
            have q1 : L2.atI (ccw (codesF sg r)) 0 = some (.tup (cw (leastF sg none r))) := at_nat (i := 0) (by rw [et1]; rfl) rfl
            have q2 : L2.atI (ccw (codesF sg r)) (-1) = some (.tup (cw (highF sg r))) := by
              have : ccw (t2 ++ [highF sg r]) = ccw t2 ++ [W.tup (cw (highF sg r))] := by unfold ccw; rw [List.map_append]; rfl
              rw [et2, this, at_last]
            try dsimp only
            rw [sq_lst]
            try dsimp only
            rw [q1]
            try dsimp only
            rw [q2]
            try dsimp only
            refine ⟨Nat.le_trans (by decide) sz, ?_⟩
            obtain ⟨w1, w2⟩ := ccw_eqG [leastF sg none r, highF sg r]
            have w3 : eqWs [W.tup (cw (leastF sg none r)), W.tup (cw (highF sg r))] [W.tup (cw (leastF sg none r)), W.tup (cw (highF sg r))] = true := by
              simp only [eqWs, eqW, eqWs_cwS, Bool.and_self]
              rfl
            show rdEq _ _ _ _
            refine rdEq_lst w1 w1 (Nat.le_trans w2 (by decide)) (Nat.le_trans w2 (by decide)) ?_
            rw [w3]
            dsimp only
            rw [if_neg (by decide)]
            exact hs _ _ hp10
          · simp only [h5, decide_false, if_false, Bool.false_eq_true]
            exact hs _ _ (.refl _)
      walk_at "dn"
      by_cases h5 : (0 : Int) + ((i : Nat) : Int) < 5
      · simp only [h5, decide_true, if_true]
        refine ⟨1, 4, _, rfl, by decide, by decide +kernel, hd3, by omega, fun z S4 z0 z1 hd4 c4 => ?_⟩
        have g3 := g2 (by omega)
        refine ⟨1, ((sg : Nat) : Int), 1 + z, 3, _, rfl, by omega, by omega, by omega, by omega, by omega, by omega, hd4, by omega, fun r S5 q1 q2 q3 hd5 c5 => ?_⟩
        exact cB r S5 ⟨g0, g1, fun l hl => by have := q3 l hl; omega, q1, by omega⟩ (fun _ => ⟨by omega, fun l hl => by have := q3 l hl; omega⟩) (hd5.mono (by omega)) ((ht3.ch c4 (by decide)).ch c5 (by decide))
      · simp only [h5, decide_false, Bool.false_eq_true, if_false]
        refine ⟨1, 16, _, rfl, by decide, by decide +kernel, hd3, by omega, fun z S4 z0 z1 hd4 c4 => ?_⟩
        refine ⟨Nat.le_trans (by decide) sz, 1, _, _, _, rfl, rfl, (fun n h => nomatch h), (by show 0 < 3; decide), (by show 3 ≤ 1000000; decide), hd4, by omega, fun w S5 hw hd5 c5 => ?_⟩
        obtain ⟨most, rfl, p0, p1⟩ : ∃ most : Int, w = .int most ∧ 0 ≤ most ∧ most ≤ 16 := by
          simp only [List.mem_cons, List.not_mem_nil, or_false] at hw
          rcases hw with rfl | rfl | rfl
          · exact ⟨4, rfl, by decide, by decide⟩
          · exact ⟨9, rfl, by decide, by decide⟩
          · exact ⟨16, rfl, by decide, by decide⟩
        refine ⟨1, ((sg : Nat) : Int), 1 + z, most, _, rfl, by omega, by omega, by omega, by omega, p0, p1, hd5, by omega, fun r S6 q1 q2 q3 hd6 c6 => ?_⟩
        exact cB r S6 ⟨g0, g1, fun l hl => by have := q3 l hl; omega, q1, by omega⟩ (fun h => absurd h (by omega)) (hd6.mono (by omega)) (((ht3.ch c4 (by decide)).ch c5 (by decide)).ch c6 (by decide))
    walk_at "dn"
    by_cases h5 : (0 : Int) + ((i : Nat) : Int) < 5
    · simp only [h5, decide_true, if_true]
      refine ⟨1, 2, _, rfl, by decide, by decide +kernel, hd2, by omega, fun a S3 a0 a1 hd3 c3 => ?_⟩
      obtain ⟨sg, esg⟩ : ∃ sg : Nat, ((sg : Nat) : Int) = 2 + a := ⟨(2 + a).toNat, by omega⟩
      dsimp only
      rw [← esg]
      exact cA sg S3 (by omega) (by omega) (fun _ => by omega) hd3 (ht2.ch c3 (by decide))
    · simp only [h5, decide_false, Bool.false_eq_true, if_false]
      refine ⟨1, 5, _, rfl, by decide, by decide +kernel, hd2, by omega, fun a S3 a0 a1 hd3 c3 => ?_⟩
      obtain ⟨sg, esg⟩ : ∃ sg : Nat, ((sg : Nat) : Int) = 2 + a := ⟨(2 + a).toNat, by omega⟩
      dsimp only
      rw [← esg]
      exact cA sg S3 (by omega) (by omega) (fun h => absurd h (by omega)) hd3 (ht2.ch c3 (by decide))
  · rintro τ S3 ⟨hd3, ht3, x2, x3, x4, x5, x6, x7, x8, rfl⟩
    subst hR
    walk_at "dn"
    exact hq _
end
theorem all_mk {l : PySem.W.OpenLaw} {w : World} {K : PySem.W.Frag} {h : Heap} {mg : Str → Option Value} {fa : Addr} (X : K.In h) (G : h.Ns mainGlobals mg) (hfa : mg "law" = some (.ref fa))
    {f0 f1 f2 f3 f4 f5 f6 f7 f8 f9 f10 f11 f12 f13 f14 f15 f16 f17 f18 f19 f20 f21 f22 f23 f24 : Addr} {od0 an0 od1 an1 od2 an2 od3 an3 od4 an4 od5 an5 od6 an6 od7 an7 od8 an8 od9 an9 od10 an10 od11 an11 od12 an12 od13 an13 od14 an14 od15 an15 od16 an16 od17 an17 od18 an18 od19 an19 od20 an20 od21 an21 od22 an22 od23 an23 od24 an24 : Option Addr} {sl0 sl1 sl2 sl3 sl4 sl5 sl6 sl7 sl8 sl9 sl10 sl11 sl12 sl13 sl14 sl15 sl16 sl17 sl18 sl19 sl20 sl21 sl22 sl23 sl24 : Array (Option Value)} {oc0 kV0 dc0 pm0 cd0 ct0 oc1 kV1 dc1 pm1 cd1 ct1 oc2 kV2 dc2 pm2 cd2 ct2 oc3 kV3 dc3 pm3 cd3 ct3 oc4 kV4 dc4 pm4 cd4 ct4 oc5 kV5 dc5 pm5 cd5 ct5 oc6 kV6 dc6 pm6 cd6 ct6 oc7 kV7 dc7 pm7 cd7 ct7 oc8 kV8 dc8 pm8 cd8 ct8 oc9 kV9 dc9 pm9 cd9 ct9 oc10 kV10 dc10 pm10 cd10 ct10 oc11 kV11 dc11 pm11 cd11 ct11 oc12 kV12 dc12 pm12 cd12 ct12 oc13 kV13 dc13 pm13 cd13 ct13 oc14 kV14 dc14 pm14 cd14 ct14 oc15 kV15 dc15 pm15 cd15 ct15 oc16 kV16 dc16 pm16 cd16 ct16 oc17 kV17 dc17 pm17 cd17 ct17 oc18 kV18 dc18 pm18 cd18 ct18 oc19 kV19 dc19 pm19 cd19 ct19 oc20 kV20 dc20 pm20 cd20 ct20 oc21 kV21 dc21 pm21 cd21 ct21 oc22 kV22 dc22 pm22 cd22 ct22 oc23 kV23 dc23 pm23 cd23 ct23 oc24 kV24 dc24 pm24 cd24 ct24 : Value} 
    {CNoFit CCodeError INoFit : Addr}
    {nmNoFit : Str} {qNoFit : Str} {NNoFit : Addr} {bsNoFit : List Value} {snNoFit : List Str} {subNoFit : List Value} {abNoFit : Bool} {colNoFit : Option Bool} {ddNoFit : Option Addr} {k0NoFit k1NoFit k2NoFit k3NoFit k5NoFit : Option Value} {oINoFit kVINoFit dcINoFit pmINoFit cdINoFit ctINoFit : Value} {odINoFit anINoFit : Option Addr} {slINoFit : Array (Option Value)}
    {tc tP : Addr} {tE : Value} {tD : Option Addr} {tV : Array Value} {tS : Array (Option Value)}
    (a0 : PySem.W.nsIn K mainGlobals "nothing_held" = some (some (.ref f0)))
    (l0 : K.lookup f0 = some ⟨oc0, od0, .func (PySem.W.fnOf "nothing_held" "nothing_held" (defArgs s_nothing_held) (defBody s_nothing_held) (defScope s_nothing_held) .none kV0 dc0 pm0 an0 cd0 ct0), sl0⟩)
    (c0 : PySem.W.codeIn K cd0 "nothing_held" = true) (k0 : PySem.W.keepIn K (.ref f0) = true)
    (a1 : PySem.W.nsIn K mainGlobals "first_words" = some (some (.ref f1)))
    (l1 : K.lookup f1 = some ⟨oc1, od1, .func (PySem.W.fnOf "first_words" "first_words" (defArgs s_first_words) (defBody s_first_words) (defScope s_first_words) .none kV1 dc1 pm1 an1 cd1 ct1), sl1⟩)
    (c1 : PySem.W.codeIn K cd1 "first_words" = true) (k1 : PySem.W.keepIn K (.ref f1) = true)
    (a2 : PySem.W.nsIn K mainGlobals "last_words" = some (some (.ref f2)))
    (l2 : K.lookup f2 = some ⟨oc2, od2, .func (PySem.W.fnOf "last_words" "last_words" (defArgs s_last_words) (defBody s_last_words) (defScope s_last_words) .none kV2 dc2 pm2 an2 cd2 ct2), sl2⟩)
    (c2 : PySem.W.codeIn K cd2 "last_words" = true) (k2 : PySem.W.keepIn K (.ref f2) = true)
    (a3 : PySem.W.nsIn K mainGlobals "least_words" = some (some (.ref f3)))
    (l3 : K.lookup f3 = some ⟨oc3, od3, .func (PySem.W.fnOf "least_words" "least_words" (defArgs s_least_words) (defBody s_least_words) (defScope s_least_words) .none kV3 dc3 pm3 an3 cd3 ct3), sl3⟩)
    (c3 : PySem.W.codeIn K cd3 "least_words" = true) (k3 : PySem.W.keepIn K (.ref f3) = true)
    (a4 : PySem.W.nsIn K mainGlobals "next_word" = some (some (.ref f4)))
    (l4 : K.lookup f4 = some ⟨oc4, od4, .func (PySem.W.fnOf "next_word" "next_word" (defArgs s_next_word) (defBody s_next_word) (defScope s_next_word) .none kV4 dc4 pm4 an4 cd4 ct4), sl4⟩)
    (c4 : PySem.W.codeIn K cd4 "next_word" = true) (k4 : PySem.W.keepIn K (.ref f4) = true)
    (a5 : PySem.W.nsIn K mainGlobals "mirrored" = some (some (.ref f5)))
    (l5 : K.lookup f5 = some ⟨oc5, od5, .func (PySem.W.fnOf "mirrored" "mirrored" (defArgs s_mirrored) (defBody s_mirrored) (defScope s_mirrored) .none kV5 dc5 pm5 an5 cd5 ct5), sl5⟩)
    (c5 : PySem.W.codeIn K cd5 "mirrored" = true) (k5 : PySem.W.keepIn K (.ref f5) = true)
    (a6 : PySem.W.nsIn K mainGlobals "first_code" = some (some (.ref f6)))
    (l6 : K.lookup f6 = some ⟨oc6, od6, .func (PySem.W.fnOf "first_code" "first_code" (defArgs s_first_code) (defBody s_first_code) (defScope s_first_code) .none kV6 dc6 pm6 an6 cd6 ct6), sl6⟩)
    (c6 : PySem.W.codeIn K cd6 "first_code" = true) (k6 : PySem.W.keepIn K (.ref f6) = true)
    (a7 : PySem.W.nsIn K mainGlobals "last_code" = some (some (.ref f7)))
    (l7 : K.lookup f7 = some ⟨oc7, od7, .func (PySem.W.fnOf "last_code" "last_code" (defArgs s_last_code) (defBody s_last_code) (defScope s_last_code) .none kV7 dc7 pm7 an7 cd7 ct7), sl7⟩)
    (c7 : PySem.W.codeIn K cd7 "last_code" = true) (k7 : PySem.W.keepIn K (.ref f7) = true)
    (a8 : PySem.W.nsIn K mainGlobals "_law_deck" = some (some (.ref f8)))
    (l8 : K.lookup f8 = some ⟨oc8, od8, .func (PySem.W.fnOf "_law_deck" "_law_deck" (defArgs s__law_deck) (defBody s__law_deck) (defScope s__law_deck) .none kV8 dc8 pm8 an8 cd8 ct8), sl8⟩)
    (c8 : PySem.W.codeIn K cd8 "_law_deck" = true) (k8 : PySem.W.keepIn K (.ref f8) = true)
    (a9 : PySem.W.nsIn K mainGlobals "_law_take" = some (some (.ref f9)))
    (l9 : K.lookup f9 = some ⟨oc9, od9, .func (PySem.W.fnOf "_law_take" "_law_take" (defArgs s__law_take) (defBody s__law_take) (defScope s__law_take) .none kV9 dc9 pm9 an9 cd9 ct9), sl9⟩)
    (c9 : PySem.W.codeIn K cd9 "_law_take" = true) (k9 : PySem.W.keepIn K (.ref f9) = true)
    (a10 : PySem.W.nsIn K mainGlobals "_law_one" = some (some (.ref f10)))
    (l10 : K.lookup f10 = some ⟨oc10, od10, .func (PySem.W.fnOf "_law_one" "_law_one" (defArgs s__law_one) (defBody s__law_one) (defScope s__law_one) .none kV10 dc10 pm10 an10 cd10 ct10), sl10⟩)
    (c10 : PySem.W.codeIn K cd10 "_law_one" = true) (k10 : PySem.W.keepIn K (.ref f10) = true)
    (a11 : PySem.W.nsIn K mainGlobals "_law_is_whole" = some (some (.ref f11)))
    (l11 : K.lookup f11 = some ⟨oc11, od11, .func (PySem.W.fnOf "_law_is_whole" "_law_is_whole" (defArgs s__law_is_whole) (defBody s__law_is_whole) (defScope s__law_is_whole) .none kV11 dc11 pm11 an11 cd11 ct11), sl11⟩)
    (c11 : PySem.W.codeIn K cd11 "_law_is_whole" = true) (k11 : PySem.W.keepIn K (.ref f11) = true)
    (a12 : PySem.W.nsIn K mainGlobals "_law_starts" = some (some (.ref f12)))
    (l12 : K.lookup f12 = some ⟨oc12, od12, .func (PySem.W.fnOf "_law_starts" "_law_starts" (defArgs s__law_starts) (defBody s__law_starts) (defScope s__law_starts) .none kV12 dc12 pm12 an12 cd12 ct12), sl12⟩)
    (c12 : PySem.W.codeIn K cd12 "_law_starts" = true) (k12 : PySem.W.keepIn K (.ref f12) = true)
    (a13 : PySem.W.nsIn K mainGlobals "_law_split" = some (some (.ref f13)))
    (l13 : K.lookup f13 = some ⟨oc13, od13, .func (PySem.W.fnOf "_law_split" "_law_split" (defArgs s__law_split) (defBody s__law_split) (defScope s__law_split) .none kV13 dc13 pm13 an13 cd13 ct13), sl13⟩)
    (c13 : PySem.W.codeIn K cd13 "_law_split" = true) (k13 : PySem.W.keepIn K (.ref f13) = true)
    (a14 : PySem.W.nsIn K mainGlobals "_law_code" = some (some (.ref f14)))
    (l14 : K.lookup f14 = some ⟨oc14, od14, .func (PySem.W.fnOf "_law_code" "_law_code" (defArgs s__law_code) (defBody s__law_code) (defScope s__law_code) .none kV14 dc14 pm14 an14 cd14 ct14), sl14⟩)
    (c14 : PySem.W.codeIn K cd14 "_law_code" = true) (k14 : PySem.W.keepIn K (.ref f14) = true)
    (a15 : PySem.W.nsIn K mainGlobals "_law_lengths" = some (some (.ref f15)))
    (l15 : K.lookup f15 = some ⟨oc15, od15, .func (PySem.W.fnOf "_law_lengths" "_law_lengths" (defArgs s__law_lengths) (defBody s__law_lengths) (defScope s__law_lengths) .none kV15 dc15 pm15 an15 cd15 ct15), sl15⟩)
    (c15 : PySem.W.codeIn K cd15 "_law_lengths" = true) (k15 : PySem.W.keepIn K (.ref f15) = true)
    (a16 : PySem.W.nsIn K mainGlobals "_law_above" = some (some (.ref f16)))
    (l16 : K.lookup f16 = some ⟨oc16, od16, .func (PySem.W.fnOf "_law_above" "_law_above" (defArgs s__law_above) (defBody s__law_above) (defScope s__law_above) .none kV16 dc16 pm16 an16 cd16 ct16), sl16⟩)
    (c16 : PySem.W.codeIn K cd16 "_law_above" = true) (k16 : PySem.W.keepIn K (.ref f16) = true)
    (a17 : PySem.W.nsIn K mainGlobals "_law_laid" = some (some (.ref f17)))
    (l17 : K.lookup f17 = some ⟨oc17, od17, .func (PySem.W.fnOf "_law_laid" "_law_laid" (defArgs s__law_laid) (defBody s__law_laid) (defScope s__law_laid) .none kV17 dc17 pm17 an17 cd17 ct17), sl17⟩)
    (c17 : PySem.W.codeIn K cd17 "_law_laid" = true) (k17 : PySem.W.keepIn K (.ref f17) = true)
    (a18 : PySem.W.nsIn K mainGlobals "_law_row_error" = some (some (.ref f18)))
    (l18 : K.lookup f18 = some ⟨oc18, od18, .func (PySem.W.fnOf "_law_row_error" "_law_row_error" (defArgs s__law_row_error) (defBody s__law_row_error) (defScope s__law_row_error) .none kV18 dc18 pm18 an18 cd18 ct18), sl18⟩)
    (c18 : PySem.W.codeIn K cd18 "_law_row_error" = true) (k18 : PySem.W.keepIn K (.ref f18) = true)
    (a19 : PySem.W.nsIn K mainGlobals "_law_words" = some (some (.ref f19)))
    (l19 : K.lookup f19 = some ⟨oc19, od19, .func (PySem.W.fnOf "_law_words" "_law_words" (defArgs s__law_words) (defBody s__law_words) (defScope s__law_words) .none kV19 dc19 pm19 an19 cd19 ct19), sl19⟩)
    (c19 : PySem.W.codeIn K cd19 "_law_words" = true) (k19 : PySem.W.keepIn K (.ref f19) = true)
    (a20 : PySem.W.nsIn K mainGlobals "_law_codes" = some (some (.ref f20)))
    (l20 : K.lookup f20 = some ⟨oc20, od20, .func (PySem.W.fnOf "_law_codes" "_law_codes" (defArgs s__law_codes) (defBody s__law_codes) (defScope s__law_codes) .none kV20 dc20 pm20 an20 cd20 ct20), sl20⟩)
    (c20 : PySem.W.codeIn K cd20 "_law_codes" = true) (k20 : PySem.W.keepIn K (.ref f20) = true)
    (a21 : PySem.W.nsIn K mainGlobals "_law_draw_row" = some (some (.ref f21)))
    (l21 : K.lookup f21 = some ⟨oc21, od21, .func (PySem.W.fnOf "_law_draw_row" "_law_draw_row" (defArgs s__law_draw_row) (defBody s__law_draw_row) (defScope s__law_draw_row) .none kV21 dc21 pm21 an21 cd21 ct21), sl21⟩)
    (c21 : PySem.W.codeIn K cd21 "_law_draw_row" = true) (k21 : PySem.W.keepIn K (.ref f21) = true)
    (a22 : PySem.W.nsIn K mainGlobals "_law_told" = some (some (.ref f22)))
    (l22 : K.lookup f22 = some ⟨oc22, od22, .func (PySem.W.fnOf "_law_told" "_law_told" (defArgs s__law_told) (defBody s__law_told) (defScope s__law_told) .none kV22 dc22 pm22 an22 cd22 ct22), sl22⟩)
    (c22 : PySem.W.codeIn K cd22 "_law_told" = true) (k22 : PySem.W.keepIn K (.ref f22) = true)
    (a23 : PySem.W.nsIn K mainGlobals "_law_mirrored" = some (some (.ref f23)))
    (l23 : K.lookup f23 = some ⟨oc23, od23, .func (PySem.W.fnOf "_law_mirrored" "_law_mirrored" (defArgs s__law_mirrored) (defBody s__law_mirrored) (defScope s__law_mirrored) .none kV23 dc23 pm23 an23 cd23 ct23), sl23⟩)
    (c23 : PySem.W.codeIn K cd23 "_law_mirrored" = true) (k23 : PySem.W.keepIn K (.ref f23) = true)
    (a24 : PySem.W.nsIn K mainGlobals "law" = some (some (.ref f24)))
    (l24 : K.lookup f24 = some ⟨oc24, od24, .func (PySem.W.fnOf "law" "law" (defArgs s_law) (defBody s_law) (defScope s_law) .none kV24 dc24 pm24 an24 cd24 ct24), sl24⟩)
    (c24 : PySem.W.codeIn K cd24 "law" = true) (k24 : PySem.W.keepIn K (.ref f24) = true)
    (eNoFit : PySem.W.nsIn K mainGlobals "NoFit" = some (some (.ref CNoFit)))
    (eCodeError : PySem.W.nsIn K mainGlobals "CodeError" = some (some (.ref CCodeError)))
    (xLNoFit : K.lookup CNoFit = some (excClassObj nmNoFit qNoFit CNoFit NNoFit bsNoFit [.ref CCodeError, .type "ValueError", .type "Exception", .type "BaseException", .type "object"] true snNoFit subNoFit abNoFit colNoFit ddNoFit k0NoFit k1NoFit k2NoFit k3NoFit k5NoFit "ValueError.__new__"))
    (saNoFit : PySem.W.findIn K (.ref CNoFit) "__setattr__" = some (some (.builtin "object.__setattr__")))
    (gaNoFit : PySem.W.findIn K (.ref CNoFit) "__getattribute__" = some (some (.builtin "BaseException.__getattribute__")))
    (ggNoFit : PySem.W.findIn K (.ref CNoFit) "__getattr__" = some none)
    (noNoFit : PySem.W.findIn K (.ref CNoFit) "key" = some none)
    (iCNoFit : PySem.W.findIn K (.ref CNoFit) "__init__" = some (some (.ref INoFit)))
    (tINoFit : PySem.W.typeIn K (.ref INoFit) = some (.type "function"))
    (lINoFit : K.lookup INoFit = some ⟨oINoFit, odINoFit, .func (PySem.W.fnOf "__init__" "NoFit.__init__" (defArgs si_NoFit) (defBody si_NoFit) (defScope si_NoFit) .none kVINoFit dcINoFit pmINoFit anINoFit cdINoFit ctINoFit), slINoFit⟩)
    (cINoFit : PySem.W.codeIn K cdINoFit "NoFit.__init__" = true)
    (kINoFit : PySem.W.keepIn K (.ref INoFit) = true)
    (kCNoFit : PySem.W.keepIn K (.ref CNoFit) = true)
    (eCNoFit : PySem.W.subIn K (.ref CNoFit) (.type "BaseException") = some true)
    (tCNoFit : PySem.W.typeIn K (.ref CNoFit) = some (.type "type"))
    (hCNoFit : PySem.W.hasDictIn K CNoFit = true)
    (sCNoFit : PySem.W.subIn K (.ref CNoFit) (.ref CNoFit) = some true)
    (clNoFit : PySem.W.isClsIn K CNoFit = true)
    (acNoFit : PySem.W.findIn K (.ref CNoFit) "__class__" = some (some (.builtin "object.__class__")))
    (spNoFit : PySem.W.specialIn K (.builtin "object.__class__") "__get__" = some (some (.builtin "getset_descriptor.__get__")))
    (tkNoFit : PySem.W.takesIn K (.builtin "object.__class__") = some true)
    (mrNoFit : PySem.W.mroIn K CNoFit (.type "object") = some true)
    (kiNoFitCodeError : PySem.W.kitOne K (.ref CNoFit) (.ref CCodeError) = some true)
    (kiNoFitValueError : PySem.W.kitOne K (.ref CNoFit) (.type "ValueError") = some true)
    (z0 : PySem.W.nsIn K mainGlobals "ValueError" = some none)
    (z1 : PySem.W.nsIn K mainGlobals "abs" = some none)
    (z2 : PySem.W.nsIn K mainGlobals "all" = some none)
    (z3 : PySem.W.nsIn K mainGlobals "bool" = some none)
    (z4 : PySem.W.nsIn K mainGlobals "int" = some none)
    (z5 : PySem.W.nsIn K mainGlobals "isinstance" = some none)
    (z6 : PySem.W.nsIn K mainGlobals "len" = some none)
    (z7 : PySem.W.nsIn K mainGlobals "list" = some none)
    (z8 : PySem.W.nsIn K mainGlobals "min" = some none)
    (z9 : PySem.W.nsIn K mainGlobals "range" = some none)
    (z10 : PySem.W.nsIn K mainGlobals "repr" = some none)
    (z11 : PySem.W.nsIn K mainGlobals "tuple" = some none)
    (z12 : PySem.W.nsIn K mainGlobals "zip" = some none)
    (tbc : cd24 = .ref tc) (tbl : K.lookup tc = some ⟨tE, tD, .fields tV, tS⟩) (tbv : tV[11]? = some (.ref tP)) (tbn : K.lookup tP = none)
    : ∃ (fd : FuncData) (c TP : Addr) (ql : Str), PySem.W.tabIn K "law" = some (c, TP) ∧ K.lookup TP = none ∧ (∀ (s : Shared) (v : Value), BindsTo s fd ⟨[v], []⟩ [("script", v)]) ∧ ∀ base : Heap, K.In base → base.Ns mainGlobals mg → LamX.TabB base mg c TP → FnG l.prog w K mg base 8 fa fd 1 ["script"] (spLawT TP ql) := by
  have e := hfa.symm.trans (PySem.W.mg_of X G a24)
  cases e
  have F0 := fun_mk (st := s_nothing_held) l0 c0 k0
  have b0 := F0.binds (ps := ["row"]) fun _ _ _ _ _ _ us hl => match us, hl with | [_], _ => rfl
  have F1 := fun_mk (st := s_first_words) l1 c1 k1
  have b1 := F1.binds (ps := ["signs", "row", "held"]) fun _ _ _ _ _ _ us hl => match us, hl with | [_, _, _], _ => rfl
  have F2 := fun_mk (st := s_last_words) l2 c2 k2
  have b2 := F2.binds (ps := ["signs", "row", "held"]) fun _ _ _ _ _ _ us hl => match us, hl with | [_, _, _], _ => rfl
  have F3 := fun_mk (st := s_least_words) l3 c3 k3
  have b3 := F3.binds (ps := ["signs", "row", "held"]) fun _ _ _ _ _ _ us hl => match us, hl with | [_, _, _], _ => rfl
  have F4 := fun_mk (st := s_next_word) l4 c4 k4
  have b4 := F4.binds (ps := ["signs", "word", "length"]) fun _ _ _ _ _ _ us hl => match us, hl with | [_, _, _], _ => rfl
  have F5 := fun_mk (st := s_mirrored) l5 c5 k5
  have b5 := F5.binds (ps := ["signs", "word"]) fun _ _ _ _ _ _ us hl => match us, hl with | [_, _], _ => rfl
  have F6 := fun_mk (st := s_first_code) l6 c6 k6
  have b6 := F6.binds (ps := ["signs", "row"]) fun _ _ _ _ _ _ us hl => match us, hl with | [_, _], _ => rfl
  have F7 := fun_mk (st := s_last_code) l7 c7 k7
  have b7 := F7.binds (ps := ["signs", "row"]) fun _ _ _ _ _ _ us hl => match us, hl with | [_, _], _ => rfl
  have F8 := fun_mk (st := s__law_deck) l8 c8 k8
  have b8 := F8.binds (ps := ["script"]) fun _ _ _ _ _ _ us hl => match us, hl with | [_], _ => rfl
  have F9 := fun_mk (st := s__law_take) l9 c9 k9
  have b9 := F9.binds (ps := ["deck", "many"]) fun _ _ _ _ _ _ us hl => match us, hl with | [_, _], _ => rfl
  have F10 := fun_mk (st := s__law_one) l10 c10 k10
  have b10 := F10.binds (ps := ["deck", "items"]) fun _ _ _ _ _ _ us hl => match us, hl with | [_, _], _ => rfl
  have F11 := fun_mk (st := s__law_is_whole) l11 c11 k11
  have b11 := F11.binds (ps := ["value", "low", "high"]) fun _ _ _ _ _ _ us hl => match us, hl with | [_, _, _], _ => rfl
  have F12 := fun_mk (st := s__law_starts) l12 c12 k12
  have b12 := F12.binds (ps := ["one", "other"]) fun _ _ _ _ _ _ us hl => match us, hl with | [_, _], _ => rfl
  have F13 := fun_mk (st := s__law_split) l13 c13 k13
  have b13 := F13.binds (ps := ["deck", "signs", "words", "many", "deep"]) fun _ _ _ _ _ _ us hl => match us, hl with | [_, _, _, _, _], _ => rfl
  have F14 := fun_mk (st := s__law_code) l14 c14 k14
  have b14 := F14.binds (ps := ["deck", "signs", "many", "deep"]) fun _ _ _ _ _ _ us hl => match us, hl with | [_, _, _, _], _ => rfl
  have F15 := fun_mk (st := s__law_lengths) l15 c15 k15
  have b15 := F15.binds (ps := ["code"]) fun _ _ _ _ _ _ us hl => match us, hl with | [_], _ => rfl
  have F16 := fun_mk (st := s__law_above) l16 c16 k16
  have b16 := F16.binds (ps := ["signs", "word", "length"]) fun _ _ _ _ _ _ us hl => match us, hl with | [_, _, _], _ => rfl
  have F17 := fun_mk (st := s__law_laid) l17 c17 k17
  have b17 := F17.binds (ps := ["signs", "row"]) fun _ _ _ _ _ _ us hl => match us, hl with | [_, _], _ => rfl
  have F18 := fun_mk (st := s__law_row_error) l18 c18 k18
  have b18 := F18.binds (ps := ["signs", "value"]) fun _ _ _ _ _ _ us hl => match us, hl with | [_, _], _ => rfl
  have F19 := fun_mk (st := s__law_words) l19 c19 k19
  have b19 := F19.binds (ps := ["signs", "length"]) fun _ _ _ _ _ _ us hl => match us, hl with | [_, _], _ => rfl
  have F20 := fun_mk (st := s__law_codes) l20 c20 k20
  have b20 := F20.binds (ps := ["signs", "row"]) fun _ _ _ _ _ _ us hl => match us, hl with | [_, _], _ => rfl
  have F21 := fun_mk (st := s__law_draw_row) l21 c21 k21
  have b21 := F21.binds (ps := ["deck", "signs", "many", "most"]) fun _ _ _ _ _ _ us hl => match us, hl with | [_, _, _, _], _ => rfl
  have F22 := fun_mk (st := s__law_told) l22 c22 k22
  have b22 := F22.binds (ps := ["call"]) fun _ _ _ _ _ _ us hl => match us, hl with | [_], _ => rfl
  have F23 := fun_mk (st := s__law_mirrored) l23 c23 k23
  have b23 := F23.binds (ps := ["signs", "words"]) fun _ _ _ _ _ _ us hl => match us, hl with | [_, _], _ => rfl
  have F24 := fun_mk (st := s_law) l24 c24 k24
  have b24 := F24.binds (ps := ["script"]) fun _ _ _ _ _ _ us hl => match us, hl with | [_], _ => rfl
  have FINoFit := fun_mk (st := si_NoFit) lINoFit cINoFit kINoFit
  have bINoFit := FINoFit.binds (ps := ["self", "key"]) fun _ _ _ _ _ _ us hl => match us, hl with | [_, _], _ => rfl
  let T : Txt K mg := {
    c_law := tc, P_law := tP, tb_law := tbc,
    C_NoFit := CNoFit, m_NoFit := PySem.W.mg_of X G eNoFit,
    C_CodeError := CCodeError, m_CodeError := PySem.W.mg_of X G eCodeError,
    I_NoFit := INoFit, fdI_NoFit := _, FI_NoFit := FINoFit,
    E_NoFit := { oex := ⟨⟨_, _, _, _, _, _, _, _, _, _, _, _, _, _, _, xLNoFit, rfl⟩, saNoFit, eCNoFit, tCNoFit, kCNoFit⟩, xf := ⟨gaNoFit, ggNoFit, eCNoFit, hCNoFit⟩, no := noNoFit, iC := iCNoFit, tI := tINoFit, m := PySem.W.mg_of X G eNoFit, b := bINoFit, te := PySem.W.exm_ref eCNoFit hCNoFit tCNoFit sCNoFit },
    EI_NoFit := ⟨clNoFit, acNoFit, spNoFit, tkNoFit, mrNoFit⟩,
    ki_NoFit_CodeError := kiNoFitCodeError,
    ki_NoFit_ValueError := kiNoFitValueError,
    f_nothing_held := f0, fd_nothing_held := _, F_nothing_held := F0, m_nothing_held := PySem.W.mg_of X G a0, b_nothing_held := b0,
    f_first_words := f1, fd_first_words := _, F_first_words := F1, m_first_words := PySem.W.mg_of X G a1, b_first_words := b1,
    f_last_words := f2, fd_last_words := _, F_last_words := F2, m_last_words := PySem.W.mg_of X G a2, b_last_words := b2,
    f_least_words := f3, fd_least_words := _, F_least_words := F3, m_least_words := PySem.W.mg_of X G a3, b_least_words := b3,
    f_next_word := f4, fd_next_word := _, F_next_word := F4, m_next_word := PySem.W.mg_of X G a4, b_next_word := b4,
    f_mirrored := f5, fd_mirrored := _, F_mirrored := F5, m_mirrored := PySem.W.mg_of X G a5, b_mirrored := b5,
    f_first_code := f6, fd_first_code := _, F_first_code := F6, m_first_code := PySem.W.mg_of X G a6, b_first_code := b6,
    f_last_code := f7, fd_last_code := _, F_last_code := F7, m_last_code := PySem.W.mg_of X G a7, b_last_code := b7,
    f__law_deck := f8, fd__law_deck := _, F__law_deck := F8, m__law_deck := PySem.W.mg_of X G a8, b__law_deck := b8,
    f__law_take := f9, fd__law_take := _, F__law_take := F9, m__law_take := PySem.W.mg_of X G a9, b__law_take := b9,
    f__law_one := f10, fd__law_one := _, F__law_one := F10, m__law_one := PySem.W.mg_of X G a10, b__law_one := b10,
    f__law_is_whole := f11, fd__law_is_whole := _, F__law_is_whole := F11, m__law_is_whole := PySem.W.mg_of X G a11, b__law_is_whole := b11,
    f__law_starts := f12, fd__law_starts := _, F__law_starts := F12, m__law_starts := PySem.W.mg_of X G a12, b__law_starts := b12,
    f__law_split := f13, fd__law_split := _, F__law_split := F13, m__law_split := PySem.W.mg_of X G a13, b__law_split := b13,
    f__law_code := f14, fd__law_code := _, F__law_code := F14, m__law_code := PySem.W.mg_of X G a14, b__law_code := b14,
    f__law_lengths := f15, fd__law_lengths := _, F__law_lengths := F15, m__law_lengths := PySem.W.mg_of X G a15, b__law_lengths := b15,
    f__law_above := f16, fd__law_above := _, F__law_above := F16, m__law_above := PySem.W.mg_of X G a16, b__law_above := b16,
    f__law_laid := f17, fd__law_laid := _, F__law_laid := F17, m__law_laid := PySem.W.mg_of X G a17, b__law_laid := b17,
    f__law_row_error := f18, fd__law_row_error := _, F__law_row_error := F18, m__law_row_error := PySem.W.mg_of X G a18, b__law_row_error := b18,
    f__law_words := f19, fd__law_words := _, F__law_words := F19, m__law_words := PySem.W.mg_of X G a19, b__law_words := b19,
    f__law_codes := f20, fd__law_codes := _, F__law_codes := F20, m__law_codes := PySem.W.mg_of X G a20, b__law_codes := b20,
    f__law_draw_row := f21, fd__law_draw_row := _, F__law_draw_row := F21, m__law_draw_row := PySem.W.mg_of X G a21, b__law_draw_row := b21,
    f__law_told := f22, fd__law_told := _, F__law_told := F22, m__law_told := PySem.W.mg_of X G a22, b__law_told := b22,
    f__law_mirrored := f23, fd__law_mirrored := _, F__law_mirrored := F23, m__law_mirrored := PySem.W.mg_of X G a23, b__law_mirrored := b23,
    f_law := fa, fd_law := _, F_law := F24, m_law := PySem.W.mg_of X G a24, b_law := b24,
    z_ValueError := PySem.W.mg_none_of X G z0,
    z_abs := PySem.W.mg_none_of X G z1,
    z_all := PySem.W.mg_none_of X G z2,
    z_bool := PySem.W.mg_none_of X G z3,
    z_int := PySem.W.mg_none_of X G z4,
    z_isinstance := PySem.W.mg_none_of X G z5,
    z_len := PySem.W.mg_none_of X G z6,
    z_list := PySem.W.mg_none_of X G z7,
    z_min := PySem.W.mg_none_of X G z8,
    z_range := PySem.W.mg_none_of X G z9,
    z_repr := PySem.W.mg_none_of X G z10,
    z_tuple := PySem.W.mg_none_of X G z11,
    z_zip := PySem.W.mg_none_of X G z12 }
  exact ⟨_, _, _, _, tab_mk a24 l24 tbc tbl tbv, tbn, fun s v => .of_eq rfl, fun base _ _ TB => ok_law T TB⟩
end K08
open PySem PySem.W PyProof.Rows
set_option maxHeartbeats 0 in
set_option maxRecDepth 100000 in
theorem PySem.Challenge.cw_ordercodes_k08_first_and_last_codes_holds : PySem.Challenge.rw_ordercodes_k08_first_and_last_codes.Holds := by
  w_on; o_law; k_head; (case hw => w_witness2)
  k_fill
  refine FL.walkGT (l := PySem.Challenge.rw_ordercodes_k08_first_and_last_codes) (k := 8) (x := "script") rfl rfl ⟨rfl, by decide, by decide⟩ (by decide +kernel) (fun w h Y => PySem.W.km_in_of Y) ?F
  case F =>
    intro w mg fa h KX G hmg
    refine' K08.all_mk KX G hmg ?a0 ?l0 ?c0 ?k0 ?a1 ?l1 ?c1 ?k1 ?a2 ?l2 ?c2 ?k2 ?a3 ?l3 ?c3 ?k3 ?a4 ?l4 ?c4 ?k4 ?a5 ?l5 ?c5 ?k5 ?a6 ?l6 ?c6 ?k6 ?a7 ?l7 ?c7 ?k7 ?a8 ?l8 ?c8 ?k8 ?a9 ?l9 ?c9 ?k9 ?a10 ?l10 ?c10 ?k10 ?a11 ?l11 ?c11 ?k11 ?a12 ?l12 ?c12 ?k12 ?a13 ?l13 ?c13 ?k13 ?a14 ?l14 ?c14 ?k14 ?a15 ?l15 ?c15 ?k15 ?a16 ?l16 ?c16 ?k16 ?a17 ?l17 ?c17 ?k17 ?a18 ?l18 ?c18 ?k18 ?a19 ?l19 ?c19 ?k19 ?a20 ?l20 ?c20 ?k20 ?a21 ?l21 ?c21 ?k21 ?a22 ?l22 ?c22 ?k22 ?a23 ?l23 ?c23 ?k23 ?a24 ?l24 ?c24 ?k24 ?eNoFit ?eCodeError ?xLNoFit ?saNoFit ?gaNoFit ?ggNoFit ?noNoFit ?iCNoFit ?tINoFit ?lINoFit ?cINoFit ?kINoFit ?kCNoFit ?eCNoFit ?tCNoFit ?hCNoFit ?sCNoFit ?clNoFit ?acNoFit ?spNoFit ?tkNoFit ?mrNoFit ?kiNoFitCodeError ?kiNoFitValueError ?z0 ?z1 ?z2 ?z3 ?z4 ?z5 ?z6 ?z7 ?z8 ?z9 ?z10 ?z11 ?z12 ?tbc ?tbl ?tbv ?tbn
    (case a0 => k_is)
    (case l0 => k_is)
    (case c0 => k_is)
    (case k0 => k_is)
    (case a1 => k_is)
    (case l1 => k_is)
    (case c1 => k_is)
    (case k1 => k_is)
    (case a2 => k_is)
    (case l2 => k_is)
    (case c2 => k_is)
    (case k2 => k_is)
    (case a3 => k_is)
    (case l3 => k_is)
    (case c3 => k_is)
    (case k3 => k_is)
    (case a4 => k_is)
    (case l4 => k_is)
    (case c4 => k_is)
    (case k4 => k_is)
    (case a5 => k_is)
    (case l5 => k_is)
    (case c5 => k_is)
    (case k5 => k_is)
    (case a6 => k_is)
    (case l6 => k_is)
    (case c6 => k_is)
    (case k6 => k_is)
    (case a7 => k_is)
    (case l7 => k_is)
    (case c7 => k_is)
    (case k7 => k_is)
    (case a8 => k_is)
    (case l8 => k_is)
    (case c8 => k_is)
    (case k8 => k_is)
    (case a9 => k_is)
    (case l9 => k_is)
    (case c9 => k_is)
    (case k9 => k_is)
    (case a10 => k_is)
    (case l10 => k_is)
    (case c10 => k_is)
    (case k10 => k_is)
    (case a11 => k_is)
    (case l11 => k_is)
    (case c11 => k_is)
    (case k11 => k_is)
    (case a12 => k_is)
    (case l12 => k_is)
    (case c12 => k_is)
    (case k12 => k_is)
    (case a13 => k_is)
    (case l13 => k_is)
    (case c13 => k_is)
    (case k13 => k_is)
    (case a14 => k_is)
    (case l14 => k_is)
    (case c14 => k_is)
    (case k14 => k_is)
    (case a15 => k_is)
    (case l15 => k_is)
    (case c15 => k_is)
    (case k15 => k_is)
    (case a16 => k_is)
    (case l16 => k_is)
    (case c16 => k_is)
    (case k16 => k_is)
    (case a17 => k_is)
    (case l17 => k_is)
    (case c17 => k_is)
    (case k17 => k_is)
    (case a18 => k_is)
    (case l18 => k_is)
    (case c18 => k_is)
    (case k18 => k_is)
    (case a19 => k_is)
    (case l19 => k_is)
    (case c19 => k_is)
    (case k19 => k_is)
    (case a20 => k_is)
    (case l20 => k_is)
    (case c20 => k_is)
    (case k20 => k_is)
    (case a21 => k_is)
    (case l21 => k_is)
    (case c21 => k_is)
    (case k21 => k_is)
    (case a22 => k_is)
    (case l22 => k_is)
    (case c22 => k_is)
    (case k22 => k_is)
    (case a23 => k_is)
    (case l23 => k_is)
    (case c23 => k_is)
    (case k23 => k_is)
    (case a24 => k_is)
    (case l24 => k_is)
    (case c24 => k_is)
    (case k24 => k_is)
    (case eNoFit => k_is)
    (case eCodeError => k_is)
    (case xLNoFit => k_is)
    (case saNoFit => k_is)
    (case gaNoFit => k_is)
    (case ggNoFit => k_is)
    (case noNoFit => k_is)
    (case iCNoFit => k_is)
    (case tINoFit => k_is)
    (case lINoFit => k_is)
    (case cINoFit => k_is)
    (case kINoFit => k_is)
    (case kCNoFit => k_is)
    (case eCNoFit => k_is)
    (case tCNoFit => k_is)
    (case hCNoFit => k_is)
    (case sCNoFit => first | k_is | rfl)
    (case clNoFit => k_is)
    (case acNoFit => k_is)
    (case spNoFit => k_is)
    (case tkNoFit => k_is)
    (case mrNoFit => k_is)
    (case kiNoFitCodeError => first | k_is | rfl)
    (case kiNoFitValueError => first | k_is | rfl)
    (case z0 => k_is)
    (case z1 => k_is)
    (case z2 => k_is)
    (case z3 => k_is)
    (case z4 => k_is)
    (case z5 => k_is)
    (case z6 => k_is)
    (case z7 => k_is)
    (case z8 => k_is)
    (case z9 => k_is)
    (case z10 => k_is)
    (case z11 => k_is)
    (case z12 => k_is)
    (case tbc => rfl)
    (case tbl => k_is)
    (case tbv => rfl)
    (case tbn => first | k_is | rfl)

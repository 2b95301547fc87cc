import PyProof.Rows.All
import Wide.All
import OpenK.AllK
import Wide.FinOn
import HandS.Base
import HandS.Call
import HandS.List
import HandS.Comp
import HandS.Words
import HandS.Flow
import HandS.Iter
import HandS.WordsList
import HandS.Text
import HandS.TupAny
import HandS.TupLe
import HandS.Wide
import HandS.IsInst
import HandS.Deep
import HandS.Style
import HandS.StrMore
import HandS.WordsDict
import PyProof.StrBlock2
import PyProof.Rows.RegStrFacts
import HandS.Ends
import HandS.Dict
import PyProof.StrLawsIn
import PySem.Challenge.RW_mayrest_k01_path_forms
set_option Elab.async false
set_option linter.all false
set_option maxRecDepth 100000
/-! DL: a layer of data over HandS: values as trees, one state of what may change, and readings that speak of data alone. -/
namespace DL
open PySem PySem.Spec PyProof.Rows L2

/-- data: what a value is, all the way down -/
inductive D where
  | non | bl (b : Bool) | int (i : Int) | str (x : Str) | lst (xs : List D) | tup (xs : List D)
  | dic (ks : List Key) (vs : List D) | ins (C : Addr) (ns : List Str) (vs : List D) | any (v : V) | fz (xs : List D)

/-- the texts that are spoken of -/
abbrev strLim : Nat := 1000000
def sOk (x : Str) : Bool := decide (x.length ≤ strLim) && x.cps.toList.all (fun c => decide (c < 0x110000))
theorem sOk_len {x : Str} (h : sOk x = true) : x.length ≤ strLim := by
  unfold sOk at h
  rw [Bool.and_eq_true] at h
  exact of_decide_eq_true h.1
theorem sOk_cps {x : Str} (h : sOk x = true) : ∀ c ∈ x.cps.toList, c < 0x110000 := fun c hc => by
  unfold sOk at h
  rw [Bool.and_eq_true] at h
  exact of_decide_eq_true (List.all_eq_true.mp h.2 c hc)
theorem sOk_of {x : Str} (h : x.length ≤ strLim) (k : ∀ c ∈ x.cps.toList, c < 0x110000) : sOk x = true := by
  unfold sOk
  rw [Bool.and_eq_true]
  exact ⟨decide_eq_true h, List.all_eq_true.mpr fun c hc => decide_eq_true (k c hc)⟩
theorem strLim_line : strLim + 2 ≤ sizeLine := by decide
mutual
/-- the value v is the data d, by what stands in F (which never changes) -/
def Rep (K : PySem.W.Frag) (F : Hp) : D → V → Prop
  | .non, v => v = .non
  | .bl b, v => v = .bl b
  | .int i, v => v = .int i
  | .str x, v => v = .str x ∧ sOk x = true
  | .lst ds, v => ∃ a vs, v = .ref a ∧ F a = some (.lst vs) ∧ vs.length ≤ sizeLine ∧ Reps K F ds vs
  | .tup ds, v => ∃ a vs, v = .ref a ∧ SqT K F a vs ∧ vs.length ≤ sizeLine ∧ Reps K F ds vs
  | .dic ks ds, v => ∃ a kvs, v = .ref a ∧ F a = some (.dK kvs) ∧ kvs.length ≤ sizeLine ∧ kvs.map (·.1) = ks ∧ Reps K F ds (kvs.map (·.2))
  | .ins C ns ds, v => ∃ a dx fs, v = .ref a ∧ F a = some (.ins C dx fs) ∧ fs.map (·.1) = ns ∧ Reps K F ds (fs.map (·.2))
  | .any w, v => v = w
  | .fz ds, v => ∃ a vs, v = .ref a ∧ SqL K F a vs ∧ vs.length ≤ sizeLine ∧ Reps K F ds vs
def Reps (K : PySem.W.Frag) (F : Hp) : List D → List V → Prop
  | [], vs => vs = []
  | d :: ds, vs => ∃ v r, vs = v :: r ∧ Rep K F d v ∧ Reps K F ds r
end

theorem Same.seqT {K : PySem.W.Frag} {H H' : Hp} {a : Addr} {xs : List V} (e : Same H H') (h : SqT K H a xs) : SqT K H' a xs := by
  rcases h with (h | ⟨o, h⟩) | h
  · exact .inl (.inl (e _ _ h))
  · exact .inl (.inr ⟨o, e _ _ h⟩)
  · exact .inr h
mutual
theorem Rep.mono {K : PySem.W.Frag} {F F' : Hp} (s : Same F F') : ∀ (d : D) (v : V), Rep K F d v → Rep K F' d v
  | .non, _, h => h
  | .bl _, _, h => h
  | .int _, _, h => h
  | .str _, _, h => h
  | .lst ds, _, ⟨a, vs, e, h, l, r⟩ => ⟨a, vs, e, s _ _ h, l, Reps.mono s ds _ r⟩
  | .tup ds, _, ⟨a, vs, e, h, l, r⟩ => ⟨a, vs, e, Same.seqT s h, l, Reps.mono s ds _ r⟩
  | .dic _ ds, _, ⟨a, kvs, e, h, l, k, r⟩ => ⟨a, kvs, e, s _ _ h, l, k, Reps.mono s ds _ r⟩
  | .ins _ _ ds, _, ⟨a, dx, fs, e, h, k, r⟩ => ⟨a, dx, fs, e, s _ _ h, k, Reps.mono s ds _ r⟩
  | .any _, _, h => h
  | .fz ds, _, ⟨a, vs, e, h, l, r⟩ => ⟨a, vs, e, Same.seq s h, l, Reps.mono s ds _ r⟩
theorem Reps.mono {K : PySem.W.Frag} {F F' : Hp} (s : Same F F') : ∀ (ds : List D) (vs : List V), Reps K F ds vs → Reps K F' ds vs
  | [], _, h => h
  | d :: ds, _, ⟨v, r, e, h, t⟩ => ⟨v, r, e, Rep.mono s d v h, Reps.mono s ds r t⟩
end
theorem Reps.length {K : PySem.W.Frag} {F : Hp} : ∀ {ds : List D} {vs : List V}, Reps K F ds vs → vs.length = ds.length
  | [], _, h => by cases h; rfl
  | d :: ds, _, ⟨v, r, e, _, t⟩ => by subst e; rw [List.length_cons, List.length_cons, Reps.length t]
theorem Reps.nil {K : PySem.W.Frag} {F : Hp} : Reps K F [] [] := rfl
theorem Reps.cons {K : PySem.W.Frag} {F : Hp} {d : D} {ds : List D} {v : V} {vs : List V} (h : Rep K F d v) (t : Reps K F ds vs) : Reps K F (d :: ds) (v :: vs) := ⟨v, vs, rfl, h, t⟩
theorem Reps.get {K : PySem.W.Frag} {F : Hp} : ∀ {ds : List D} {vs : List V} {i : Nat} {d : D}, Reps K F ds vs → ds[i]? = some d → ∃ v, vs[i]? = some v ∧ Rep K F d v
  | [], _, _, _, _, e => by simp at e
  | x :: ds, _, 0, d, ⟨v, r, e, h, _⟩, q => by
    subst e
    have q' : x = d := by simpa using q
    subst q'
    exact ⟨v, rfl, h⟩
  | x :: ds, _, i + 1, d, ⟨v, r, e, _, t⟩, q => by
    subst e
    have q' : ds[i]? = some d := by simpa using q
    obtain ⟨w, h1, h2⟩ := Reps.get t q'
    exact ⟨w, by simpa using h1, h2⟩
theorem Reps.getV {K : PySem.W.Frag} {F : Hp} {ds : List D} {vs : List V} {i : Nat} {v : V} (h : Reps K F ds vs) (e : vs[i]? = some v) : ∃ d, ds[i]? = some d ∧ Rep K F d v := by
  have hl := h.length
  have hi : i < vs.length := (List.getElem?_eq_some_iff.mp e).1
  have hi' : i < ds.length := by omega
  obtain ⟨w, h1, h2⟩ := h.get (List.getElem?_eq_getElem hi')
  rw [e] at h1
  cases h1
  exact ⟨_, List.getElem?_eq_getElem hi', h2⟩
theorem Reps.append {K : PySem.W.Frag} {F : Hp} : ∀ {ds es : List D} {vs ws : List V}, Reps K F ds vs → Reps K F es ws → Reps K F (ds ++ es) (vs ++ ws)
  | [], _, _, _, h, t => by cases h; exact t
  | d :: ds, _, _, _, ⟨v, r, e, h, t⟩, u => by subst e; exact ⟨v, _, rfl, h, Reps.append t u⟩
theorem Reps.one {K : PySem.W.Frag} {F : Hp} {d : D} {v : V} (h : Rep K F d v) : Reps K F [d] [v] := .cons h .nil
theorem Reps.take {K : PySem.W.Frag} {F : Hp} : ∀ {ds : List D} {vs : List V} (n : Nat), Reps K F ds vs → Reps K F (ds.take n) (vs.take n)
  | _, _, 0, _ => by simp; exact .nil
  | [], _, _ + 1, h => by cases h; simp; exact .nil
  | d :: ds, _, n + 1, ⟨v, r, e, h, t⟩ => by subst e; exact .cons h (Reps.take n t)
theorem Reps.drop {K : PySem.W.Frag} {F : Hp} : ∀ {ds : List D} {vs : List V} (n : Nat), Reps K F ds vs → Reps K F (ds.drop n) (vs.drop n)
  | _, _, 0, h => h
  | [], _, _ + 1, h => by cases h; simp; exact .nil
  | d :: ds, _, n + 1, ⟨v, r, e, h, t⟩ => by subst e; exact Reps.drop n t
theorem Reps.set {K : PySem.W.Frag} {F : Hp} {d : D} {v : V} (h : Rep K F d v) : ∀ {ds : List D} {vs : List V} (i : Nat), Reps K F ds vs → Reps K F (ds.set i d) (vs.set i v)
  | [], _, _, t => by cases t; exact .nil
  | _ :: _, _, 0, ⟨w, r, e, _, t⟩ => by subst e; exact .cons h t
  | _ :: _, _, i + 1, ⟨w, r, e, h', t⟩ => by subst e; exact .cons h' (Reps.set h i t)
theorem Reps.reverse {K : PySem.W.Frag} {F : Hp} : ∀ {ds : List D} {vs : List V}, Reps K F ds vs → Reps K F ds.reverse vs.reverse
  | [], _, h => by cases h; exact .nil
  | d :: ds, _, ⟨v, r, e, h, t⟩ => by
    subst e
    rw [List.reverse_cons, List.reverse_cons]
    exact (Reps.reverse t).append (.one h)
theorem Reps.split {K : PySem.W.Frag} {F : Hp} {x : D} : ∀ {pre post : List D} {vs : List V}, Reps K F (pre ++ x :: post) vs → ∃ v, vs[pre.length]? = some v ∧ Rep K F x v := fun h => h.get (by simp)
theorem reps_ints {K : PySem.W.Frag} {F : Hp} : ∀ {ns : List Int} {vs : List V}, Reps K F (ns.map D.int) vs → vs = ns.map V.int
  | [], _, h => by cases h; rfl
  | n :: ns, _, ⟨v, r, e, h, t⟩ => by subst e; cases h; rw [reps_ints t]; rfl
theorem reps_of_ints {K : PySem.W.Frag} {F : Hp} : ∀ (ns : List Int), Reps K F (ns.map D.int) (ns.map V.int)
  | [] => .nil
  | n :: ns => .cons rfl (reps_of_ints ns)
theorem reps_strs {K : PySem.W.Frag} {F : Hp} : ∀ {ns : List Str} {vs : List V}, Reps K F (ns.map D.str) vs → vs = ns.map V.str ∧ ∀ x ∈ ns, sOk x = true
  | [], _, h => by cases h; exact ⟨rfl, by simp⟩
  | n :: ns, _, ⟨v, r, e, h, t⟩ => by
    subst e
    obtain ⟨h1, h2⟩ := h
    obtain ⟨h3, h4⟩ := reps_strs t
    subst h1 h3
    exact ⟨rfl, fun x hx => by rcases List.mem_cons.mp hx with e | hx; · subst e; exact h2
                               · exact h4 x hx⟩
theorem reps_of_strs {K : PySem.W.Frag} {F : Hp} : ∀ (ns : List Str), (∀ x ∈ ns, sOk x = true) → Reps K F (ns.map D.str) (ns.map V.str)
  | [], _ => .nil
  | n :: ns, h => .cons ⟨rfl, h n List.mem_cons_self⟩ (reps_of_strs ns fun x hx => h x (List.mem_cons_of_mem _ hx))
theorem reps_of_bls {K : PySem.W.Frag} {F : Hp} : ∀ (ns : List Bool), Reps K F (ns.map D.bl) (ns.map V.bl)
  | [] => .nil
  | n :: ns => .cons rfl (reps_of_bls ns)
theorem reps_bls {K : PySem.W.Frag} {F : Hp} : ∀ {ns : List Bool} {vs : List V}, Reps K F (ns.map D.bl) vs → vs = ns.map V.bl
  | [], _, h => by cases h; rfl
  | n :: ns, _, ⟨v, r, e, h, t⟩ => by subst e; cases h; rw [reps_bls t]; rfl

/-! ### what may change -/
/-- what a law's defs change: its state, how the heap bears it, where it lies -/
structure Mem where
  S : Type
  M : S → Hp → Prop
  R : S → Addr → Prop
  loc : ∀ s H H', M s H → (∀ a, R s a → H' a = H a) → M s H'
  there : ∀ s H a, M s H → R s a → H a ≠ none
/-- nothing -/
def Mem.nil : Mem := ⟨Unit, fun _ _ => True, fun _ _ => False, fun _ _ _ _ _ => trivial, fun _ _ _ _ h => h.elim⟩

/-- an object that a def has made and alone knows: it may be changed -/
inductive Ob where
  | lst (ds : List D)
  | dic (ks : List Key) (ds : List D)
inductive Sl where
  | no
  | sh (d : D)
  | ow (o : Ob)
def ObAt (K : PySem.W.Frag) (F : Hp) : Ob → HO → Prop
  | .lst ds, o => ∃ vs, o = .lst vs ∧ vs.length ≤ sizeLine ∧ Reps K F ds vs
  | .dic ks ds, o => ∃ kvs : List (Key × V), o = .dK kvs ∧ kvs.length ≤ sizeLine ∧ kvs.map (·.1) = ks ∧ Reps K F ds (kvs.map (·.2))
theorem ObAt.mono {K : PySem.W.Frag} {F F' : Hp} (s : Same F F') {o : Ob} {ho : HO} (h : ObAt K F o ho) : ObAt K F' o ho := by
  cases o with
  | lst ds => obtain ⟨vs, e, l, r⟩ := h; exact ⟨vs, e, l, Reps.mono s _ _ r⟩
  | dic ks ds => obtain ⟨kvs, e, l, k, r⟩ := h; exact ⟨kvs, e, l, k, Reps.mono s _ _ r⟩
/-- .. as data that does not change any more -/
def Ob.d : Ob → D
  | .lst ds => .lst ds
  | .dic ks ds => .dic ks ds
theorem ObAt.rep {K : PySem.W.Frag} {F F' : Hp} {o : Ob} {ho : HO} {a : Addr} (h : ObAt K F o ho) (s : Same F F') (e : F' a = some ho) : Rep K F' o.d (.ref a) := by
  cases o with
  | lst ds => obtain ⟨vs, rfl, l, r⟩ := h; exact ⟨a, vs, rfl, e, l, Reps.mono s _ _ r⟩
  | dic ks ds => obtain ⟨kvs, rfl, l, k, r⟩ := h; exact ⟨a, kvs, rfl, e, l, k, Reps.mono s _ _ r⟩

/-- the slot i owns the object at p -/
def Owns (σ : L2.St) (ρ : List Sl) (i : Nat) (p : Addr) : Prop := (∃ o, ρ[i]? = some (Sl.ow o)) ∧ σ[i]? = some (some (V.ref p))

structure Rel (K : PySem.W.Frag) (m : Mem) (F H : Hp) (σ : L2.St) (ρ : List Sl) (s : m.S) : Prop where
  sub : Same F H
  mem : m.M s H
  reg : ∀ a, m.R s a → F a = none
  len : σ.length = ρ.length
  sh : ∀ (i : Nat) d, ρ[i]? = some (Sl.sh d) → ∃ v, σ[i]? = some (some v) ∧ Rep K F d v
  ow : ∀ (i : Nat) o, ρ[i]? = some (Sl.ow o) → ∃ p ho, σ[i]? = some (some (V.ref p)) ∧ H p = some ho ∧ ObAt K F o ho
  owF : ∀ (i : Nat) p, Owns σ ρ i p → F p = none ∧ ¬ m.R s p
  uq : ∀ (i j : Nat) p, Owns σ ρ i p → Owns σ ρ j p → i = j

/-- from one state to a later one, the slots' values σ the same -/
structure Stp (m : Mem) (F H : Hp) (σ : L2.St) (ρ : List Sl) (s : m.S) (F' H' : Hp) (ρ' : List Sl) (s' : m.S) : Prop where
  ext : Same F F'
  keep : ∀ a o, H a = some o → ¬ m.R s a → H' a = some o
  alive : ∀ a, H a ≠ none → H' a ≠ none
  fresh : ∀ a o, F' a = some o → F a = some o ∨ H a = none ∨ ∃ i, Owns σ ρ i a
  regf : ∀ a, m.R s' a → m.R s a ∨ H a = none
  shr : ∀ (i : Nat) o, ρ'[i]? = some (Sl.ow o) → ρ[i]? = some (Sl.ow o)
theorem Stp.refl {m : Mem} {F H : Hp} {σ : L2.St} {ρ : List Sl} {s : m.S} : Stp m F H σ ρ s F H ρ s :=
  ⟨Same.refl F, fun _ _ h _ => h, fun _ h => h, fun _ _ h => .inl h, fun _ h => .inl h, fun _ _ h => h⟩
theorem Stp.owns {m : Mem} {F H F' H' : Hp} {σ : L2.St} {ρ ρ' : List Sl} {s s' : m.S} (a : Stp m F H σ ρ s F' H' ρ' s') {i : Nat} {p : Addr} (h : Owns σ ρ' i p) : Owns σ ρ i p := by
  obtain ⟨⟨o, e⟩, q⟩ := h
  exact ⟨⟨o, a.shr i o e⟩, q⟩
theorem Stp.trans {m : Mem} {F H F1 H1 F2 H2 : Hp} {σ : L2.St} {ρ ρ1 ρ2 : List Sl} {s s1 s2 : m.S} (a : Stp m F H σ ρ s F1 H1 ρ1 s1) (b : Stp m F1 H1 σ ρ1 s1 F2 H2 ρ2 s2) : Stp m F H σ ρ s F2 H2 ρ2 s2 where
  ext := a.ext.trans b.ext
  keep := fun p o h n => b.keep p o (a.keep p o h n) fun r => by
    rcases a.regf p r with r | r
    · exact n r
    · rw [r] at h; cases h
  alive := fun p h => b.alive p (a.alive p h)
  fresh := fun p o h => by
    rcases b.fresh p o h with h | h | ⟨i, h⟩
    · exact a.fresh p o h
    · refine .inr (.inl ?_)
      cases q : H p with
      | none => rfl
      | some u => exact absurd h (a.alive p (by rw [q]; simp))
    · exact .inr (.inr ⟨i, a.owns h⟩)
  regf := fun p h => by
    rcases b.regf p h with h | h
    · exact a.regf p h
    · refine .inr ?_
      cases q : H p with
      | none => rfl
      | some u => exact absurd h (a.alive p (by rw [q]; simp))
  shr := fun i o h => a.shr i o (b.shr i o h)

/-- new objects alone -/
structure Grow (F H F' H' : Hp) : Prop where
  fF : Same F F'
  hH : Same H H'
  fH : Same F' H'
  fresh : ∀ a o, F' a = some o → F a = some o ∨ H a = none
theorem Grow.refl {F H : Hp} (h : Same F H) : Grow F H F H := ⟨Same.refl _, Same.refl _, h, fun _ _ h => .inl h⟩
theorem same_upd {H : Hp} {p : Addr} {o : HO} (h : H p = none) : Same H (upd H p o) := fun b x e => by
  rw [upd_ne (ne_of_none e h)]
  exact e
theorem Grow.new {F H : Hp} {p : Addr} {o : HO} (h : Same F H) (n : H p = none) : Grow F H (upd F p o) (upd H p o) := by
  have nF : F p = none := h.free n
  refine ⟨same_upd nF, same_upd n, fun b x e => ?_, fun b x e => ?_⟩
  · by_cases hb : b = p
    · subst hb; rw [upd_same] at e ⊢; exact e
    · rw [upd_ne hb] at e ⊢; exact h _ _ e
  · by_cases hb : b = p
    · subst hb; exact .inr n
    · rw [upd_ne hb] at e; exact .inl e
theorem Grow.trans {F H F1 H1 F2 H2 : Hp} (a : Grow F H F1 H1) (b : Grow F1 H1 F2 H2) : Grow F H F2 H2 :=
  ⟨a.fF.trans b.fF, a.hH.trans b.hH, b.fH, fun p o h => by
    rcases b.fresh p o h with h | h
    · exact a.fresh p o h
    · exact .inr (a.hH.free h)⟩
section
variable {K : PySem.W.Frag} {m : Mem} {F H F' H' : Hp} {σ : L2.St} {ρ : List Sl} {s : m.S}
theorem Grow.stp (g : Grow F H F' H') : Stp m F H σ ρ s F' H' ρ s :=
  ⟨g.fF, fun a o h _ => g.hH a o h, fun a h => by
    cases q : H a with
    | none => exact absurd q h
    | some u => rw [g.hH a u q]; simp, fun a o h => (g.fresh a o h).elim .inl fun z => .inr (.inl z), fun _ h => .inl h, fun _ _ h => h⟩
theorem Rel.grow (r : Rel K m F H σ ρ s) (g : Grow F H F' H') : Rel K m F' H' σ ρ s where
  sub := g.fH
  mem := m.loc s H H' r.mem fun a ha => by
    have q := m.there s H a r.mem ha
    cases e : H a with
    | none => exact absurd e q
    | some u => exact g.hH a u e
  reg := fun a ha => by
    cases e : F' a with
    | none => rfl
    | some u =>
      rcases g.fresh a u e with z | z
      · rw [r.reg a ha] at z; cases z
      · exact absurd z (m.there s H a r.mem ha)
  len := r.len
  sh := fun i d e => by
    obtain ⟨v, h1, h2⟩ := r.sh i d e
    exact ⟨v, h1, Rep.mono g.fF _ _ h2⟩
  ow := fun i o e => by
    obtain ⟨p, ho, h1, h2, h3⟩ := r.ow i o e
    exact ⟨p, ho, h1, g.hH _ _ h2, h3.mono g.fF⟩
  owF := fun i p h => by
    obtain ⟨h1, h2⟩ := r.owF i p h
    refine ⟨?_, h2⟩
    cases e : F' p with
    | none => rfl
    | some u =>
      rcases g.fresh p u e with z | z
      · rw [h1] at z; cases z
      · obtain ⟨⟨o, q1⟩, q2⟩ := h
        obtain ⟨p', ho, e1, e2, _⟩ := r.ow i o q1
        rw [q2] at e1; cases e1
        rw [z] at e2; cases e2
  uq := r.uq
/-- an owned object is known, and changes no more -/
theorem Rel.own_at (r : Rel K m F H σ ρ s) {i : Nat} {o : Ob} (e : ρ[i]? = some (Sl.ow o)) : ∃ p ho, σ[i]? = some (some (V.ref p)) ∧ H p = some ho ∧ ObAt K F o ho ∧ F p = none ∧ ¬ m.R s p := by
  obtain ⟨p, ho, h1, h2, h3⟩ := r.ow i o e
  obtain ⟨h4, h5⟩ := r.owF i p ⟨⟨o, e⟩, h1⟩
  exact ⟨p, ho, h1, h2, h3, h4, h5⟩
/-- an object that no slot owns becomes known -/
theorem Rel.adopt (r : Rel K m F H σ ρ s) {p : Addr} {ho : HO} (h : H p = some ho) (n : F p = none) (nr : ¬ m.R s p) (no : ∀ i, ¬ Owns σ ρ i p) : Rel K m (upd F p ho) H σ ρ s where
  sub := fun b x e => by
    by_cases hb : b = p
    · subst hb; rw [upd_same] at e; cases e; exact h
    · rw [upd_ne hb] at e; exact r.sub _ _ e
  mem := r.mem
  reg := fun a ha => by
    have hb : a ≠ p := fun z => nr (z ▸ ha)
    rw [upd_ne hb]; exact r.reg a ha
  len := r.len
  sh := fun i d e => by
    obtain ⟨v, h1, h2⟩ := r.sh i d e
    exact ⟨v, h1, Rep.mono (same_upd n) _ _ h2⟩
  ow := fun i o e => by
    obtain ⟨q, ho', h1, h2, h3⟩ := r.ow i o e
    exact ⟨q, ho', h1, h2, h3.mono (same_upd n)⟩
  owF := fun i q hq => by
    obtain ⟨h1, h2⟩ := r.owF i q hq
    have hb : q ≠ p := fun z => no i (z ▸ hq)
    exact ⟨by rw [upd_ne hb]; exact h1, h2⟩
  uq := r.uq
/-- a slot forgotten, or one that was owned now shared -/
theorem Rel.share (r : Rel K m F H σ ρ s) {i : Nat} {o : Ob} {p : Addr} {ho : HO} (e : ρ[i]? = some (Sl.ow o)) (eσ : σ[i]? = some (some (V.ref p))) (h : H p = some ho) (ob : ObAt K F o ho) :
    Rel K m (upd F p ho) H σ (ρ.set i (.sh o.d)) s ∧ Stp m F H σ ρ s (upd F p ho) H (ρ.set i (.sh o.d)) s ∧ Rep K (upd F p ho) o.d (.ref p) := by
  obtain ⟨n, nr⟩ := r.owF i p ⟨⟨o, e⟩, eσ⟩
  have hi : i < ρ.length := (List.getElem?_eq_some_iff.mp e).1
  have sm : Same F (upd F p ho) := same_upd n
  have rp : Rep K (upd F p ho) o.d (.ref p) := ob.rep sm upd_same
  have back : ∀ j q, Owns σ (ρ.set i (.sh o.d)) j q → j ≠ i ∧ Owns σ ρ j q := fun j q ⟨⟨o', h1⟩, h2⟩ => by
    by_cases hj : i = j
    · subst hj; rw [List.getElem?_set_self hi] at h1; cases h1
    · rw [List.getElem?_set_ne hj] at h1; exact ⟨Ne.symm hj, ⟨o', h1⟩, h2⟩
  refine ⟨⟨fun b x z => ?_, r.mem, fun a ha => ?_, by rw [List.length_set]; exact r.len, fun j d z => ?_, fun j o' z => ?_, fun j q z => ?_, fun j k q h1 h2 => r.uq j k q (back j q h1).2 (back k q h2).2⟩, ?_, rp⟩
  · by_cases hb : b = p
    · subst hb; rw [upd_same] at z; cases z; exact h
    · rw [upd_ne hb] at z; exact r.sub _ _ z
  · have hb : a ≠ p := fun z => nr (z ▸ ha)
    rw [upd_ne hb]; exact r.reg a ha
  · by_cases hj : i = j
    · subst hj
      rw [List.getElem?_set_self hi] at z
      cases z
      exact ⟨_, eσ, rp⟩
    · rw [List.getElem?_set_ne hj] at z
      obtain ⟨v, h1, h2⟩ := r.sh j d z
      exact ⟨v, h1, Rep.mono sm _ _ h2⟩
  · by_cases hj : i = j
    · subst hj
      rw [List.getElem?_set_self hi] at z
      cases z
    · rw [List.getElem?_set_ne hj] at z
      obtain ⟨q, ho', h1, h2, h3⟩ := r.ow j o' z
      exact ⟨q, ho', h1, h2, h3.mono sm⟩
  · obtain ⟨hj, hq⟩ := back j q z
    obtain ⟨h1, h2⟩ := r.owF j q hq
    have hb : q ≠ p := fun w => hj (r.uq j i q hq (by rw [w]; exact ⟨⟨o, e⟩, eσ⟩))
    exact ⟨by rw [upd_ne hb]; exact h1, h2⟩
  · refine ⟨sm, fun _ _ z _ => z, fun _ z => z, fun a x z => ?_, fun _ z => .inl z, fun j o' z => ?_⟩
    · by_cases hb : a = p
      · subst hb; exact .inr (.inr ⟨i, ⟨o, e⟩, eσ⟩)
      · rw [upd_ne hb] at z; exact .inl z
    · by_cases hj : i = j
      · subst hj; rw [List.getElem?_set_self hi] at z; cases z
      · rw [List.getElem?_set_ne hj] at z; exact z
/-- a slot is set to known data -/
theorem Rel.put (r : Rel K m F H σ ρ s) {i : Nat} {d : D} {v : V} (h : Rep K F d v) : Rel K m F H (σ.set i (some v)) (ρ.set i (.sh d)) s := by
  have back : ∀ j q, Owns (σ.set i (some v)) (ρ.set i (.sh d)) j q → Owns σ ρ j q := fun j q ⟨⟨o', h1⟩, h2⟩ => by
    by_cases hj : i = j
    · subst hj
      by_cases hi : i < ρ.length
      · rw [List.getElem?_set_self hi] at h1; cases h1
      · rw [List.getElem?_eq_none (by simpa using hi)] at h1; cases h1
    · rw [List.getElem?_set_ne hj] at h1 h2; exact ⟨⟨o', h1⟩, h2⟩
  refine ⟨r.sub, r.mem, r.reg, by rw [List.length_set, List.length_set]; exact r.len, fun j d' z => ?_, fun j o' z => ?_, fun j q z => r.owF j q (back j q z), fun j k q h1 h2 => r.uq j k q (back j q h1) (back k q h2)⟩
  · by_cases hj : i = j
    · subst hj
      have hi : i < ρ.length := by
        have := (List.getElem?_eq_some_iff.mp z).1
        rw [List.length_set] at this; exact this
      rw [List.getElem?_set_self hi] at z
      cases z
      exact ⟨v, List.getElem?_set_self (by rw [r.len]; exact hi), h⟩
    · rw [List.getElem?_set_ne hj] at z
      obtain ⟨w, h1, h2⟩ := r.sh j d' z
      exact ⟨w, by rw [List.getElem?_set_ne hj]; exact h1, h2⟩
  · by_cases hj : i = j
    · subst hj
      have hi : i < ρ.length := by
        have := (List.getElem?_eq_some_iff.mp z).1
        rw [List.length_set] at this; exact this
      rw [List.getElem?_set_self hi] at z
      cases z
    · rw [List.getElem?_set_ne hj] at z
      obtain ⟨q, ho', h1, h2, h3⟩ := r.ow j o' z
      exact ⟨q, ho', by rw [List.getElem?_set_ne hj]; exact h1, h2, h3⟩
/-- a slot is set to a new object of its own -/
theorem Rel.putO (r : Rel K m F H σ ρ s) {i : Nat} {o : Ob} {p : Addr} {ho : HO} (n : H p = none) (ob : ObAt K F o ho) : Rel K m F (upd H p ho) (σ.set i (some (.ref p))) (ρ.set i (.ow o)) s := by
  have nF : F p = none := r.sub.free n
  have nr : ¬ m.R s p := fun z => m.there s H p r.mem z n
  have other : ∀ j q, i ≠ j → Owns (σ.set i (some (.ref p))) (ρ.set i (.ow o)) j q → Owns σ ρ j q := fun j q hj ⟨⟨o', h1⟩, h2⟩ => by
    rw [List.getElem?_set_ne hj] at h1 h2; exact ⟨⟨o', h1⟩, h2⟩
  have old : ∀ j q, Owns σ ρ j q → q ≠ p := fun j q ⟨⟨o', h1⟩, h2⟩ z => by
    obtain ⟨q', ho', e1, e2, _⟩ := r.ow j o' h1
    rw [h2] at e1; cases e1
    rw [z, n] at e2; cases e2
  have self : ∀ q, Owns (σ.set i (some (.ref p))) (ρ.set i (.ow o)) i q → q = p := fun q ⟨⟨o', h1⟩, h2⟩ => by
    have hi : i < σ.length := by
      have := (List.getElem?_eq_some_iff.mp h2).1
      rw [List.length_set] at this; exact this
    rw [List.getElem?_set_self hi] at h2
    cases h2; rfl
  refine ⟨fun b x e => ?_, m.loc s H _ r.mem fun a ha => upd_ne fun z => nr (z ▸ ha), r.reg, by rw [List.length_set, List.length_set]; exact r.len, fun j d' z => ?_, fun j o' z => ?_, fun j q z => ?_, fun j k q h1 h2 => ?_⟩
  · have hb : b ≠ p := fun z => by subst z; rw [nF] at e; cases e
    rw [upd_ne hb]; exact r.sub _ _ e
  · by_cases hj : i = j
    · subst hj
      have hi : i < ρ.length := by
        have := (List.getElem?_eq_some_iff.mp z).1
        rw [List.length_set] at this; exact this
      rw [List.getElem?_set_self hi] at z
      cases z
    · rw [List.getElem?_set_ne hj] at z
      obtain ⟨w, h1, h2⟩ := r.sh j d' z
      exact ⟨w, by rw [List.getElem?_set_ne hj]; exact h1, h2⟩
  · by_cases hj : i = j
    · subst hj
      have hi : i < ρ.length := by
        have := (List.getElem?_eq_some_iff.mp z).1
        rw [List.length_set] at this; exact this
      rw [List.getElem?_set_self hi] at z
      cases z
      exact ⟨p, ho, List.getElem?_set_self (by rw [r.len]; exact hi), upd_same, ob⟩
    · rw [List.getElem?_set_ne hj] at z
      obtain ⟨q, ho', h1, h2, h3⟩ := r.ow j o' z
      have hq : q ≠ p := old j q ⟨⟨o', z⟩, h1⟩
      exact ⟨q, ho', by rw [List.getElem?_set_ne hj]; exact h1, by rw [upd_ne hq]; exact h2, h3⟩
  · by_cases hj : i = j
    · subst hj
      rw [self q z]; exact ⟨nF, nr⟩
    · exact r.owF j q (other j q hj z)
  · by_cases hj : i = j
    · subst hj
      by_cases hk : i = k
      · exact hk
      · exact absurd (self q h1) (old k q (other k q hk h2))
    · by_cases hk : i = k
      · subst hk
        exact absurd (self q h2) (old j q (other j q hj h1))
      · exact r.uq j k q (other j q hj h1) (other k q hk h2)
/-- an owned object is written -/
theorem Rel.write (r : Rel K m F H σ ρ s) {i : Nat} {o o' : Ob} {p : Addr} {ho : HO} (e : ρ[i]? = some (Sl.ow o)) (eσ : σ[i]? = some (some (V.ref p))) (ob : ObAt K F o' ho) : Rel K m F (upd H p ho) σ (ρ.set i (.ow o')) s := by
  obtain ⟨nF, nr⟩ := r.owF i p ⟨⟨o, e⟩, eσ⟩
  have hi : i < ρ.length := (List.getElem?_eq_some_iff.mp e).1
  have back : ∀ j q, Owns σ (ρ.set i (.ow o')) j q → Owns σ ρ j q := fun j q ⟨⟨u, h1⟩, h2⟩ => by
    by_cases hj : i = j
    · subst hj; exact ⟨⟨o, e⟩, h2⟩
    · rw [List.getElem?_set_ne hj] at h1; exact ⟨⟨u, h1⟩, h2⟩
  refine ⟨fun b x z => ?_, m.loc s H _ r.mem fun a ha => upd_ne fun z => nr (z ▸ ha), r.reg, by rw [List.length_set]; exact r.len, fun j d' z => ?_, fun j u z => ?_, fun j q z => r.owF j q (back j q z), fun j k q h1 h2 => r.uq j k q (back j q h1) (back k q h2)⟩
  · have hb : b ≠ p := fun w => by subst w; rw [nF] at z; cases z
    rw [upd_ne hb]; exact r.sub _ _ z
  · by_cases hj : i = j
    · subst hj; rw [List.getElem?_set_self hi] at z; cases z
    · rw [List.getElem?_set_ne hj] at z; exact r.sh j d' z
  · by_cases hj : i = j
    · subst hj
      rw [List.getElem?_set_self hi] at z
      cases z
      exact ⟨p, ho, eσ, upd_same, ob⟩
    · rw [List.getElem?_set_ne hj] at z
      obtain ⟨q, ho', h1, h2, h3⟩ := r.ow j u z
      have hq : q ≠ p := fun w => hj (r.uq i j p ⟨⟨o, e⟩, eσ⟩ ⟨⟨u, z⟩, by rw [← w]; exact h1⟩)
      exact ⟨q, ho', h1, by rw [upd_ne hq]; exact h2, h3⟩
end
end DL

set_option Elab.async false
set_option linter.all false
set_option maxRecDepth 100000
namespace DL
open PySem PySem.Spec PyProof.Rows L2

/-! ### readings over data -/
abbrev DK (m : Mem) := D → List Sl → m.S → Prop
abbrev DT (m : Mem) := List Sl → m.S → DK m → Prop
abbrev DTT (m : Mem) := List Sl → m.S → (Bool → List Sl → m.S → Prop) → Prop
abbrev DTA (m : Mem) := List Sl → m.S → (List D → List Sl → m.S → Prop) → Prop
def up (K : PySem.W.Frag) (m : Mem) (t : DT m) : TE := fun σ H Q => ∃ F ρ s Qd, Rel K m F H σ ρ s ∧ t ρ s Qd ∧ ∀ d ρ' s' v F' H', Qd d ρ' s' → Rel K m F' H' σ ρ' s' → Stp m F H σ ρ s F' H' ρ' s' → Rep K F' d v → Q v H'
def upT (K : PySem.W.Frag) (m : Mem) (t : DTT m) : TT := fun σ H Q => ∃ F ρ s Qd, Rel K m F H σ ρ s ∧ t ρ s Qd ∧ ∀ b ρ' s' F' H', Qd b ρ' s' → Rel K m F' H' σ ρ' s' → Stp m F H σ ρ s F' H' ρ' s' → Q b H'
def upA (K : PySem.W.Frag) (m : Mem) (t : DTA m) : TA := fun σ H Q => ∃ F ρ s Qd, Rel K m F H σ ρ s ∧ t ρ s Qd ∧ ∀ ds ρ' s' vs F' H', Qd ds ρ' s' → Rel K m F' H' σ ρ' s' → Stp m F H σ ρ s F' H' ρ' s' → Reps K F' ds vs → Q vs H'

section
variable {X : Cx} {e a b c : Expr} {es : List Expr} {pos : Pos}
theorem PE.imp {t t' : TE} (h : PE X e t) (w : ∀ σ H Q, t' σ H Q → t σ H Q) : PE X e t' := ⟨fun pins s σ H Q I q => h.run pins s σ H Q I (w σ H Q q)⟩
theorem PT.imp {t t' : TT} (h : PT X e t) (w : ∀ σ H Q, t' σ H Q → t σ H Q) : PT X e t' := ⟨fun pins s σ H Q I q => h.run pins s σ H Q I (w σ H Q q)⟩
theorem PW.imp {t t' : TT} (h : PW X e t) (w : ∀ σ H Q, t' σ H Q → t σ H Q) : PW X e t' := ⟨fun wh pins s σ H Q I q => h.run wh pins s σ H Q I (w σ H Q q)⟩
theorem PA.imp {t t' : TA} (h : PA X es t) (w : ∀ σ H Q, t' σ H Q → t σ H Q) : PA X es t' := ⟨fun p pins s σ H Q I q => h.run p pins s σ H Q I (w σ H Q q)⟩
theorem PS.imp {st : Stmt} {t t' : TS} (h : PS X st t) (w : ∀ D σ H, t' D σ H → t D σ H) : PS X st t' := ⟨fun pins s σ H D I q => h.run pins s σ H D I (w D σ H q)⟩
theorem PSs.imp {st : List Stmt} {t t' : TS} (h : PSs X st t) (w : ∀ D σ H, t' D σ H → t D σ H) : PSs X st t' := ⟨fun pins s σ H D I q => h.run pins s σ H D I (w D σ H q)⟩
end

/-- a way by a bool -/
def ifB (b : Bool) (x y : Prop) : Prop := match b with
  | true => x
  | false => y
theorem ifB_t {x y : Prop} (h : ifB true x y) : x := h
theorem ifB_f {x y : Prop} (h : ifB false x y) : y := h
theorem ifB2 {b : Bool} {x y : Prop} (h1 : b = true → x) (h2 : b = false → y) : ifB b x y := by
  cases b with
  | true => exact h1 rfl
  | false => exact h2 rfl
theorem ifBd {c : Prop} [Decidable c] {x y : Prop} (h1 : c → x) (h2 : ¬ c → y) : ifB (decide c) x y := ifB2 (fun h => h1 (of_decide_eq_true h)) fun h => h2 (of_decide_eq_false h)
/-! ### names and constants -/
def dVar {m : Mem} (i : Nat) : DT m := fun ρ s Q => match ρ[i]? with
  | some (.sh d) => Q d ρ s
  | some (.ow o) => Q o.d (ρ.set i (.sh o.d)) s
  | _ => False
def dC {m : Mem} (d : D) : DT m := fun ρ s Q => Q d ρ s
section
variable {X : Cx} {m : Mem} {e a b c : Expr} {es : List Expr} {pos : Pos}
theorem up_var {K : PySem.W.Frag} {i : Nat} {σ : L2.St} {H : Hp} {Q : VK} (h : up K m (dVar i) σ H Q) : tVar i σ H Q := by
  obtain ⟨F, ρ, s, Qd, r, ht, hQ⟩ := h
  unfold dVar at ht
  cases e : ρ[i]? with
  | none => rw [e] at ht; exact ht.elim
  | some sl =>
    rw [e] at ht
    cases sl with
    | no => exact ht.elim
    | sh d =>
      obtain ⟨v, h1, h2⟩ := r.sh i d e
      exact ⟨v, h1, hQ d ρ s v F H ht r Stp.refl h2⟩
    | ow o =>
      obtain ⟨p, ho, h1, h2, h3, h4, h5⟩ := r.own_at e
      obtain ⟨r', st, rp⟩ := r.share e h1 h2 h3
      exact ⟨_, h1, hQ _ _ _ _ _ _ ht r' st rp⟩
theorem dv (i : Nat) {x : Str} (hN : X.N[i]? = some x := by rfl) (hv : Vis X.env.scope x := by first | exact Or.inl rfl | exact Or.inr (Or.inl rfl) | exact Or.inr (Or.inr rfl)) (hd : (x == ("__debug__" : Str)) = false := by decide)
    (hcd : (x == ("__classdict__" : Str)) = false := by decide) : PE X (.Name x pos) (up X.K m (dVar i)) := PE.imp (pv i hN hv hd hcd) fun _ _ _ h => up_var h
theorem up_const {K : PySem.W.Frag} {d : D} {v : V} {σ : L2.St} {H : Hp} {Q : VK} (hr : ∀ F, Rep K F d v) (h : up K m (dC d) σ H Q) : tC v σ H Q := by
  obtain ⟨F, ρ, s, Qd, r, ht, hQ⟩ := h
  exact hQ d ρ s v F H ht r Stp.refl (hr F)
theorem de_int {i : Int} {j pos} : PE X (.Constant (.int i) j pos) (up X.K m (dC (.int i))) := PE.imp pe_int fun _ _ _ h => up_const (d := .int i) (fun _ => rfl) h
theorem de_bl {b : Bool} {j pos} : PE X (.Constant (.bool b) j pos) (up X.K m (dC (.bl b))) := PE.imp pe_bl fun _ _ _ h => up_const (d := .bl b) (fun _ => rfl) h
theorem de_non {j pos} : PE X (.Constant .none j pos) (up X.K m (dC .non)) := PE.imp pe_non fun _ _ _ h => up_const (d := .non) (fun _ => rfl) h
theorem de_str {x : Str} {j pos} (hl : sOk x = true := by decide +kernel) : PE X (.Constant (.str x) j pos) (up X.K m (dC (.str x))) := PE.imp pe_str fun _ _ _ h => up_const (d := .str x) (fun _ => ⟨rfl, hl⟩) h
/-- a module's constant -/
theorem de_glob {x : Str} {d : D} {v : V} {u : Value} (hg : Gl X x) (hm : X.mg x = some u) (r : RelV v u) (hr : ∀ F, Rep X.K F d v) (hd : (x == ("__debug__" : Str)) = false := by decide) : PE X (.Name x pos) (up X.K m (dC d)) :=
  PE.imp (pe_glob hg hm r hd) fun _ _ _ h => up_const hr h
/-- a builtin's name as a value -/
theorem de_bltn {x : Str} {v : V} {u : Value} (hg : Gl X x) (hm : X.mg x = none) (hv : bootBuiltins x = some u) (r : RelV v u) (hn : x ≠ "__name__" := by decide) (hd : (x == ("__debug__" : Str)) = false := by decide) : PE X (.Name x pos) (up X.K m (dC (.any v))) :=
  PE.imp (pe_bltn hg hm hv r hn hd) fun _ _ _ h => up_const (d := .any v) (fun _ => rfl) h

/-! ### operations by data -/
def Op2 (K : PySem.W.Frag) (r : R2) (f : D → D → (D → Prop) → Prop) : Prop := ∀ F H dx dy x y Qd Q, Same F H → Rep K F dx x → Rep K F dy y → f dx dy Qd → (∀ d v F' H', Qd d → Grow F H F' H' → Rep K F' d v → Q v H') → r x y H Q
def Op1 (K : PySem.W.Frag) (r : V → Hp → VK → Prop) (f : D → (D → Prop) → Prop) : Prop := ∀ F H dx x Qd Q, Same F H → Rep K F dx x → f dx Qd → (∀ d v F' H', Qd d → Grow F H F' H' → Rep K F' d v → Q v H') → r x H Q
def OpN (K : PySem.W.Frag) (r : List V → Hp → VK → Prop) (f : List D → (D → Prop) → Prop) : Prop := ∀ F H ds vs Qd Q, Same F H → Reps K F ds vs → f ds Qd → (∀ d v F' H', Qd d → Grow F H F' H' → Rep K F' d v → Q v H') → r vs H Q
def OpM (K : PySem.W.Frag) (r : V → List V → Hp → VK → Prop) (f : D → List D → (D → Prop) → Prop) : Prop := ∀ F H dx x ds vs Qd Q, Same F H → Rep K F dx x → Reps K F ds vs → f dx ds Qd → (∀ d v F' H', Qd d → Grow F H F' H' → Rep K F' d v → Q v H') → r x vs H Q
/-- a comparison: its answer is a bool -/
def Cm2 (K : PySem.W.Frag) (r : R2) (f : D → D → (Bool → Prop) → Prop) : Prop := ∀ F H dx dy x y Qd Q, Same F H → Rep K F dx x → Rep K F dy y → f dx dy Qd → (∀ b F' H', Qd b → Grow F H F' H' → Q (.bl b) H') → r x y H Q
def dOp {m : Mem} (f : D → D → (D → Prop) → Prop) (ta tb : DT m) : DT m := fun ρ s Q => ta ρ s fun x ρ1 s1 => tb ρ1 s1 fun y ρ2 s2 => f x y fun d => Q d ρ2 s2
def dUn {m : Mem} (f : D → (D → Prop) → Prop) (ta : DT m) : DT m := fun ρ s Q => ta ρ s fun x ρ1 s1 => f x fun d => Q d ρ1 s1
def dCm {m : Mem} (f : D → D → (Bool → Prop) → Prop) (ta tb : DT m) : DT m := fun ρ s Q => ta ρ s fun x ρ1 s1 => tb ρ1 s1 fun y ρ2 s2 => f x y fun k => Q (.bl k) ρ2 s2
def dCmT {m : Mem} (f : D → D → (Bool → Prop) → Prop) (ta tb : DT m) : DTT m := fun ρ s Q => ta ρ s fun x ρ1 s1 => tb ρ1 s1 fun y ρ2 s2 => f x y fun k => Q k ρ2 s2
/-- two expressions in a row -/
theorem up2 {K : PySem.W.Frag} {ta tb : DT m} {F H : Hp} {σ : L2.St} {ρ : List Sl} {s : m.S} {R : V → V → Hp → Prop} {Qd : D → D → List Sl → m.S → Prop} (r : Rel K m F H σ ρ s) (h : ta ρ s fun x ρ1 s1 => tb ρ1 s1 fun y ρ2 s2 => Qd x y ρ2 s2)
    (hR : ∀ dx dy x y F2 H2 ρ2 s2, Qd dx dy ρ2 s2 → Rel K m F2 H2 σ ρ2 s2 → Stp m F H σ ρ s F2 H2 ρ2 s2 → Rep K F2 dx x → Rep K F2 dy y → R x y H2) : up K m ta σ H fun x H1 => up K m tb σ H1 fun y H2 => R x y H2 :=
  ⟨F, ρ, s, _, r, h, fun dx ρ1 s1 x F1 H1 q1 r1 st1 rx => ⟨F1, ρ1, s1, _, r1, q1, fun dy ρ2 s2 y F2 H2 q2 r2 st2 ry => hR dx dy x y F2 H2 ρ2 s2 q2 r2 (st1.trans st2) (Rep.mono st2.ext _ _ rx) ry⟩⟩
theorem up_op {K : PySem.W.Frag} {r : R2} {f : D → D → (D → Prop) → Prop} {ta tb : DT m} {σ : L2.St} {H : Hp} {Q : VK} (ho : Op2 K r f) (h : up K m (dOp f ta tb) σ H Q) : tOp r (up K m ta) (up K m tb) σ H Q := by
  obtain ⟨F, ρ, s, Qd, rl, ht, hQ⟩ := h
  refine up2 (R := fun x y H2 => r x y H2 Q) rl ht fun dx dy x y F2 H2 ρ2 s2 q r2 st rx ry => ?_
  exact ho F2 H2 dx dy x y _ Q r2.sub rx ry q fun d v F' H' qd g rv => hQ d ρ2 s2 v F' H' qd (r2.grow g) (st.trans g.stp) rv
theorem up_cm {K : PySem.W.Frag} {r : R2} {f : D → D → (Bool → Prop) → Prop} {ta tb : DT m} {σ : L2.St} {H : Hp} {Q : VK} (ho : Cm2 K r f) (h : up K m (dCm f ta tb) σ H Q) : tOp r (up K m ta) (up K m tb) σ H Q := by
  obtain ⟨F, ρ, s, Qd, rl, ht, hQ⟩ := h
  refine up2 (R := fun x y H2 => r x y H2 Q) rl ht fun dx dy x y F2 H2 ρ2 s2 q r2 st rx ry => ?_
  exact ho F2 H2 dx dy x y _ Q r2.sub rx ry q fun b F' H' qd g => hQ (.bl b) ρ2 s2 _ F' H' qd (r2.grow g) (st.trans g.stp) rfl
variable {ta tb tc : DT m}
theorem de_op {op : Operator} {r : R2} {f : D → D → (D → Prop) → Prop} (ho : OpR X (binaryOp op) r) (hf : Op2 X.K r f) (ha : PE X a (up X.K m ta)) (hb : PE X b (up X.K m tb)) : PE X (.BinOp a op b pos) (up X.K m (dOp f ta tb)) :=
  PE.imp (pe_op ho ha hb) fun _ _ _ h => up_op hf h
theorem de_un {op : UnaryOp} {r : V → Hp → VK → Prop} {f : D → (D → Prop) → Prop} (ho : UnR X (unaryOp op) r) (hf : Op1 X.K r f) (ha : PE X a (up X.K m ta)) : PE X (.UnaryOp op a pos) (up X.K m (dUn f ta)) :=
  PE.imp (pe_un ho ha) fun σ H Q h => by
    obtain ⟨F, ρ, s, Qd, rl, ht, hQ⟩ := h
    exact ⟨F, ρ, s, _, rl, ht, fun dx ρ1 s1 x F1 H1 q1 r1 st1 rx => hf F1 H1 dx x _ Q r1.sub rx q1 fun d v F' H' qd g rv => hQ d ρ1 s1 v F' H' qd (r1.grow g) (st1.trans g.stp) rv⟩
theorem de_cmp {op : CmpOp} {r : R2} {f : D → D → (Bool → Prop) → Prop} (ho : OpR X (compareOp op) r) (hf : Cm2 X.K r f) (ha : PE X a (up X.K m ta)) (hb : PE X b (up X.K m tb)) (hm : behindInMarks op b = false := by first | exact nomark _ | rfl) :
    PE X (.Compare a [op] [b] pos) (up X.K m (dCm f ta tb)) := PE.imp (pe_cmpR ho ha hb hm) fun _ _ _ h => up_cm hf h
theorem dt_cmp {op : CmpOp} {r : R2} {f : D → D → (Bool → Prop) → Prop} (ho : OpR X (compareOp op) r) (hf : Cm2 X.K r f) (ha : PE X a (up X.K m ta)) (hb : PE X b (up X.K m tb)) (hm : behindInMarks op b = false := by first | exact nomark _ | rfl) :
    PT X (.Compare a [op] [b] pos) (upT X.K m (dCmT f ta tb)) := PT.imp (pt_cmpR ho ha hb hm) fun σ H Q h => by
  obtain ⟨F, ρ, s, Qd, rl, ht, hQ⟩ := h
  refine up2 (R := fun x y H2 => r x y H2 _) rl ht fun dx dy x y F2 H2 ρ2 s2 q r2 st rx ry => ?_
  exact hf F2 H2 dx dy x y _ _ r2.sub rx ry q fun b F' H' qd g => ⟨b, rfl, hQ b ρ2 s2 F' H' qd (r2.grow g) (st.trans g.stp)⟩
/-- a op1 b op2 c -/
def dCh {m : Mem} (f g : D → D → (Bool → Prop) → Prop) (ta tb tc : DT m) : DT m := fun ρ s Q => ta ρ s fun x ρ1 s1 => tb ρ1 s1 fun y ρ2 s2 => f x y fun k => ifB k (tc ρ2 s2 fun z ρ3 s3 => g y z fun k' => Q (.bl k') ρ3 s3) (Q (.bl false) ρ2 s2)
def dChT {m : Mem} (f g : D → D → (Bool → Prop) → Prop) (ta tb tc : DT m) : DTT m := fun ρ s Q => ta ρ s fun x ρ1 s1 => tb ρ1 s1 fun y ρ2 s2 => f x y fun k => ifB k (tc ρ2 s2 fun z ρ3 s3 => g y z fun k' => Q k' ρ3 s3) (Q false ρ2 s2)
theorem de_chain {op op' : CmpOp} {r r' : R2} {f g : D → D → (Bool → Prop) → Prop} (ho : OpR X (compareOp op) r) (ho' : OpR X (compareOp op') r') (hf : Cm2 X.K r f) (hg : Cm2 X.K r' g)
    (ha : PE X a (up X.K m ta)) (hb : PE X b (up X.K m tb)) (hc : PE X c (up X.K m tc)) (hm : lastMarks [op, op'] [b, c] = false := by with_unfolding_all rfl) : PE X (.Compare a [op, op'] [b, c] pos) (up X.K m (dCh f g ta tb tc)) :=
  PE.imp (pe_chain ho ho' ha hb hc hm) fun σ H Q h => by
    obtain ⟨F, ρ, s, Qd, rl, ht, hQ⟩ := h
    refine up2 (R := fun x y H2 => r x y H2 _) rl ht fun dx dy x y F2 H2 ρ2 s2 q r2 st rx ry => ?_
    refine hf F2 H2 dx dy x y _ _ r2.sub rx ry q fun b F' H' qd gr => ⟨b, rfl, ?_⟩
    cases b with
    | false => exact iteF (hQ (.bl false) ρ2 s2 _ F' H' (ifB_f qd) (r2.grow gr) (st.trans gr.stp) rfl)
    | true =>
      have qd := ifB_t qd
      refine iteT ⟨F', ρ2, s2, _, r2.grow gr, qd, fun dz ρ3 s3 z F3 H3 q3 r3 st3 rz => ?_⟩
      exact hg F3 H3 dy dz y z _ _ r3.sub (Rep.mono (gr.fF.trans st3.ext) _ _ ry) rz q3 fun b' F4 H4 q4 g4 => hQ (.bl b') ρ3 s3 _ F4 H4 q4 (r3.grow g4) ((st.trans gr.stp).trans (st3.trans g4.stp)) rfl
theorem dt_chain {op op' : CmpOp} {r r' : R2} {f g : D → D → (Bool → Prop) → Prop} (ho : OpR X (compareOp op) r) (ho' : OpR X (compareOp op') r') (hf : Cm2 X.K r f) (hg : Cm2 X.K r' g)
    (ha : PE X a (up X.K m ta)) (hb : PE X b (up X.K m tb)) (hc : PE X c (up X.K m tc)) (hm : lastMarks [op, op'] [b, c] = false := by with_unfolding_all rfl) : PT X (.Compare a [op, op'] [b, c] pos) (upT X.K m (dChT f g ta tb tc)) :=
  PT.imp (pt_chain ho ho' ha hb hc hm) fun σ H Q h => by
    obtain ⟨F, ρ, s, Qd, rl, ht, hQ⟩ := h
    refine up2 (R := fun x y H2 => r x y H2 _) rl ht fun dx dy x y F2 H2 ρ2 s2 q r2 st rx ry => ?_
    refine hf F2 H2 dx dy x y _ _ r2.sub rx ry q fun b F' H' qd gr => ⟨b, rfl, ?_⟩
    cases b with
    | false => exact iteF ⟨false, rfl, hQ false ρ2 s2 F' H' (ifB_f qd) (r2.grow gr) (st.trans gr.stp)⟩
    | true =>
      have qd := ifB_t qd
      refine iteT ⟨F', ρ2, s2, _, r2.grow gr, qd, fun dz ρ3 s3 z F3 H3 q3 r3 st3 rz => ?_⟩
      exact hg F3 H3 dy dz y z _ _ r3.sub (Rep.mono (gr.fF.trans st3.ext) _ _ ry) rz q3 fun b' F4 H4 q4 g4 => ⟨b', rfl, hQ b' ρ3 s3 F4 H4 q4 (r3.grow g4) ((st.trans gr.stp).trans (st3.trans g4.stp))⟩

/-! ### tests -/
/-- a value's truth -/
def tru : D → Option Bool
  | .non => some false
  | .bl b => some b
  | .int i => some (i != 0)
  | .str x => some ((x.length : Int) != 0)
  | .lst xs => some (!xs.isEmpty)
  | .tup xs => some (!xs.isEmpty)
  | .dic ks _ => some (!ks.isEmpty)
  | _ => none
theorem reps_empty {K : PySem.W.Frag} {F : Hp} {ds : List D} {vs : List V} (h : Reps K F ds vs) : vs.isEmpty = ds.isEmpty := by
  have := h.length
  cases ds <;> cases vs <;> simp_all
theorem tru_rep {K : PySem.W.Frag} {F H : Hp} {d : D} {v : V} {k : Bool} (h : Rep K F d v) (sub : Same F H) (e : tru d = some k) : TruV K v H k := by
  cases d with
  | non => cases h; exact (Option.some.inj e).symm
  | bl b => cases h; exact (Option.some.inj e).symm
  | int i => cases h; exact (Option.some.inj e).symm
  | str x => obtain ⟨rfl, hl⟩ := h; exact ⟨Nat.le_trans (sOk_len hl) (Nat.le_trans (Nat.le_add_right _ 2) strLim_line), (Option.some.inj e).symm⟩
  | lst xs =>
    obtain ⟨a, vs, rfl, h1, _, r⟩ := h
    exact .inl ⟨vs, .inl (.inl (sub _ _ h1)), by rw [reps_empty r]; exact (Option.some.inj e).symm⟩
  | tup xs =>
    obtain ⟨a, vs, rfl, h1, _, r⟩ := h
    exact .inr (.inl ⟨vs, Same.seqT sub h1, by rw [reps_empty r]; exact (Option.some.inj e).symm⟩)
  | dic ks ds =>
    obtain ⟨a, kvs, rfl, h1, _, r, _⟩ := h
    refine .inr (.inr ⟨kvs, sub _ _ h1, ?_⟩)
    have e' := (Option.some.inj e).symm
    rw [e', ← r]
    cases kvs <;> rfl
  | ins _ _ _ => cases e
  | any _ => cases e
  | fz _ => cases e
def dTr {m : Mem} (ta : DT m) : DTT m := fun ρ s Q => ta ρ s fun x ρ1 s1 => ∃ k, tru x = some k ∧ Q k ρ1 s1
theorem dt_truth (ha : PE X a (up X.K m ta)) (he : ∀ whole, isTrue a X.env whole = (do let v ← whole; standAt a.pos; holding [v] (truthy v)) := by intro _; rfl) : PT X a (upT X.K m (dTr ta)) :=
  PT.imp (pt_truth ha he) fun σ H Q h => by
    obtain ⟨F, ρ, s, Qd, rl, ht, hQ⟩ := h
    exact ⟨F, ρ, s, _, rl, ht, fun dx ρ1 s1 x F1 H1 ⟨k, e, q1⟩ r1 st1 rx => ⟨k, tru_rep rx r1.sub e, hQ k ρ1 s1 F1 H1 q1 r1 st1⟩⟩
variable {tA tB : DTT m} {rest : List Expr}
def dAndT {m : Mem} (t u : DTT m) : DTT m := fun ρ s Q => t ρ s fun k ρ1 s1 => ifB k (u ρ1 s1 Q) (Q false ρ1 s1)
def dOrT {m : Mem} (t u : DTT m) : DTT m := fun ρ s Q => t ρ s fun k ρ1 s1 => ifB k (Q true ρ1 s1) (u ρ1 s1 Q)
def dNotT {m : Mem} (t : DTT m) : DTT m := fun ρ s Q => t ρ s fun k ρ1 s1 => Q (!k) ρ1 s1
theorem dw_and1 (ha : PT X a (upT X.K m tA)) : PW X (.BoolOp .And [a] pos) (upT X.K m tA) := pw_and1 ha
theorem dw_or1 (ha : PT X a (upT X.K m tA)) : PW X (.BoolOp .Or [a] pos) (upT X.K m tA) := pw_or1 ha
theorem dw_and (ha : PT X a (upT X.K m tA)) (hb : PW X (.BoolOp .And (b :: rest) pos) (upT X.K m tB)) : PW X (.BoolOp .And (a :: b :: rest) pos) (upT X.K m (dAndT tA tB)) :=
  PW.imp (pw_and ha hb) fun σ H Q h => by
    obtain ⟨F, ρ, s, Qd, rl, ht, hQ⟩ := h
    refine ⟨F, ρ, s, _, rl, ht, fun k ρ1 s1 F1 H1 q1 r1 st1 => ?_⟩
    cases k with
    | true =>
      have q1 := ifB_t q1
      exact iteT ⟨F1, ρ1, s1, _, r1, q1, fun k ρ2 s2 F2 H2 q2 r2 st2 => hQ k ρ2 s2 F2 H2 q2 r2 (st1.trans st2)⟩
    | false => exact iteF (hQ false ρ1 s1 F1 H1 (ifB_f q1) r1 st1)
theorem dw_or (ha : PT X a (upT X.K m tA)) (hb : PW X (.BoolOp .Or (b :: rest) pos) (upT X.K m tB)) : PW X (.BoolOp .Or (a :: b :: rest) pos) (upT X.K m (dOrT tA tB)) :=
  PW.imp (pw_or ha hb) fun σ H Q h => by
    obtain ⟨F, ρ, s, Qd, rl, ht, hQ⟩ := h
    refine ⟨F, ρ, s, _, rl, ht, fun k ρ1 s1 F1 H1 q1 r1 st1 => ?_⟩
    cases k with
    | false =>
      exact iteF ⟨F1, ρ1, s1, _, r1, ifB_f q1, fun k ρ2 s2 F2 H2 q2 r2 st2 => hQ k ρ2 s2 F2 H2 q2 r2 (st1.trans st2)⟩
    | true => exact iteT (hQ true ρ1 s1 F1 H1 (ifB_t q1) r1 st1)
theorem dt_not (ha : PT X a (upT X.K m tA)) : PT X (.UnaryOp .Not a pos) (upT X.K m (dNotT tA)) :=
  PT.imp (pt_not ha) fun σ H Q h => by
    obtain ⟨F, ρ, s, Qd, rl, ht, hQ⟩ := h
    exact ⟨F, ρ, s, _, rl, ht, fun k ρ1 s1 F1 H1 q1 r1 st1 => hQ (!k) ρ1 s1 F1 H1 q1 r1 st1⟩
/-- a if t else b -/
def dIfE {m : Mem} (t : DTT m) (ta tb : DT m) : DT m := fun ρ s Q => t ρ s fun k ρ1 s1 => ifB k (ta ρ1 s1 Q) (tb ρ1 s1 Q)
theorem de_ifExp (hc : PT X c (upT X.K m tA)) (ha : PE X a (up X.K m ta)) (hb : PE X b (up X.K m tb)) : PE X (.IfExp c a b pos) (up X.K m (dIfE tA ta tb)) :=
  PE.imp (pe_ifExp hc ha hb) fun σ H Q h => by
    obtain ⟨F, ρ, s, Qd, rl, ht, hQ⟩ := h
    refine ⟨F, ρ, s, _, rl, ht, fun k ρ1 s1 F1 H1 q1 r1 st1 => ?_⟩
    cases k with
    | true =>
      have q1 := ifB_t q1
      exact iteT ⟨F1, ρ1, s1, _, r1, q1, fun d ρ2 s2 v F2 H2 q2 r2 st2 rv => hQ d ρ2 s2 v F2 H2 q2 r2 (st1.trans st2) rv⟩
    | false => exact iteF ⟨F1, ρ1, s1, _, r1, ifB_f q1, fun d ρ2 s2 v F2 H2 q2 r2 st2 rv => hQ d ρ2 s2 v F2 H2 q2 r2 (st1.trans st2) rv⟩

/-! ### argument lists, displays, calls -/
def daNil {m : Mem} : DTA m := fun ρ s Q => Q [] ρ s
def daCons {m : Mem} (t : DT m) (u : DTA m) : DTA m := fun ρ s Q => t ρ s fun d ρ1 s1 => u ρ1 s1 fun ds ρ2 s2 => Q (d :: ds) ρ2 s2
theorem da_nil : PA X [] (upA X.K m daNil) := PA.imp pa_nil fun σ H Q h => by
  obtain ⟨F, ρ, s, Qd, rl, ht, hQ⟩ := h
  exact hQ [] ρ s [] F H ht rl Stp.refl .nil
theorem up_cons {K : PySem.W.Frag} {t : DT m} {u : DTA m} {σ : L2.St} {H : Hp} {Q : List V → Hp → Prop} (h : upA K m (daCons t u) σ H Q) : tCons (up K m t) (upA K m u) σ H Q := by
  obtain ⟨F, ρ, s, Qd, rl, ht, hQ⟩ := h
  exact ⟨F, ρ, s, _, rl, ht, fun d ρ1 s1 v F1 H1 q1 r1 st1 rv => ⟨F1, ρ1, s1, _, r1, q1, fun ds ρ2 s2 vs F2 H2 q2 r2 st2 rs => hQ (d :: ds) ρ2 s2 (v :: vs) F2 H2 q2 r2 (st1.trans st2) (.cons (Rep.mono st2.ext _ _ rv) rs)⟩⟩
theorem da_cons {t : DT m} {u : DTA m} (ha : PE X e (up X.K m t)) (hr : PA X es (upA X.K m u)) (hs : starEach (e :: es) X.env = (false, eval e X.env) :: starEach es X.env := by rfl) : PA X (e :: es) (upA X.K m (daCons t u)) :=
  PA.imp (pa_cons ha hr hs) fun _ _ _ h => up_cons h
def dTup {m : Mem} (t : DTA m) : DT m := fun ρ s Q => t ρ s fun ds ρ1 s1 => ds.length ≤ sizeLine ∧ Q (.tup ds) ρ1 s1
def dLst {m : Mem} (t : DTA m) : DT m := fun ρ s Q => t ρ s fun ds ρ1 s1 => ds.length ≤ sizeLine ∧ Q (.lst ds) ρ1 s1
variable {u : DTA m}
theorem de_tup {k : Nat} (h : PA X es (upA X.K m u)) : PE X (.Tuple es k pos) (up X.K m (dTup u)) := PE.imp (pe_tup h) fun σ H Q h => by
  obtain ⟨F, ρ, s, Qd, rl, ht, hQ⟩ := h
  refine ⟨F, ρ, s, _, rl, ht, fun ds ρ1 s1 vs F1 H1 ⟨hl, q1⟩ r1 st1 rs => ⟨by rw [rs.length]; exact hl, fun p np => ?_⟩⟩
  have g : Grow F1 H1 (upd F1 p (.tup vs)) (upd H1 p (.tup vs)) := Grow.new r1.sub np
  exact hQ _ ρ1 s1 _ _ _ q1 (r1.grow g) (st1.trans g.stp) ⟨p, vs, rfl, .inl (.inl upd_same), by rw [rs.length]; exact hl, Reps.mono g.fF _ _ rs⟩
theorem de_lst (h : PA X es (upA X.K m u)) : PE X (.List es pos) (up X.K m (dLst u)) := PE.imp (pe_lst h) fun σ H Q h => by
  obtain ⟨F, ρ, s, Qd, rl, ht, hQ⟩ := h
  refine ⟨F, ρ, s, _, rl, ht, fun ds ρ1 s1 vs F1 H1 ⟨hl, q1⟩ r1 st1 rs => ⟨by rw [rs.length]; exact hl, fun p np => ?_⟩⟩
  have g : Grow F1 H1 (upd F1 p (.lst vs)) (upd H1 p (.lst vs)) := Grow.new r1.sub np
  exact hQ _ ρ1 s1 _ _ _ q1 (r1.grow g) (st1.trans g.stp) ⟨p, vs, rfl, upd_same, by rw [rs.length]; exact hl, Reps.mono g.fF _ _ rs⟩
/-- a call of a builtin by name: by its rule over data -/
def dB {m : Mem} (f : List D → (D → Prop) → Prop) (t : DTA m) : DT m := fun ρ s Q => t ρ s fun ds ρ1 s1 => f ds fun d => Q d ρ1 s1
theorem up_b {K : PySem.W.Frag} {r : List V → Hp → VK → Prop} {f : List D → (D → Prop) → Prop} {σ : L2.St} {H : Hp} {Q : VK} (hf : OpN K r f) (h : up K m (dB f u) σ H Q) : tCB r (upA K m u) σ H Q := by
  obtain ⟨F, ρ, s, Qd, rl, ht, hQ⟩ := h
  exact ⟨F, ρ, s, _, rl, ht, fun ds ρ1 s1 vs F1 H1 q1 r1 st1 rs => hf F1 H1 ds vs _ Q r1.sub rs q1 fun d v F2 H2 q2 g rv => hQ d ρ1 s1 v F2 H2 q2 (r1.grow g) (st1.trans g.stp) rv⟩
variable {x : Str} {p : Pos} {id T : String} {r : List V → Hp → VK → Prop} {f : List D → (D → Prop) → Prop}
theorem de_callB (hc : CallR X (.builtin id) r) (hf : OpN X.K r f) (hg : Gl X x) (hm : X.mg x = none) (hv : bootBuiltins x = some (.builtin id)) (ha : PA X (e :: es) (upA X.K m u)) (hn : x ≠ "__name__" := by decide) (hdb : (x == ("__debug__" : Str)) = false := by decide)
    (he : starEach (e :: es) X.env = (false, eval e X.env) :: starEach es X.env := by rfl) (hpl : (backTo pos (starEach es X.env)).any (·.1) = false := by rfl) : PE X (.Call (.Name x p) (e :: es) [] pos) (up X.K m (dB f u)) :=
  PE.imp (pe_callB hc hg hm hv ha hn hdb he hpl) fun _ _ _ h => up_b hf h
theorem de_callTy (hc : CallR X (.type T) r) (hf : OpN X.K r f) (hg : Gl X x) (hm : X.mg x = none) (hv : bootBuiltins x = some (.type T)) (ha : PA X (e :: es) (upA X.K m u)) (hn : x ≠ "__name__" := by decide) (hdb : (x == ("__debug__" : Str)) = false := by decide)
    (he : starEach (e :: es) X.env = (false, eval e X.env) :: starEach es X.env := by rfl) (hpl : (backTo pos (starEach es X.env)).any (·.1) = false := by rfl) : PE X (.Call (.Name x p) (e :: es) [] pos) (up X.K m (dB f u)) :=
  PE.imp (pe_callTy hc hg hm hv ha hn hdb he hpl) fun _ _ _ h => up_b hf h
/-! ### methods of built-in types -/
def tyD : D → String → Bool
  | .str _, T => T == "str"
  | .lst _, T => T == "list"
  | .dic _ _, T => T == "dict"
  | _, _ => false
theorem tyD_ok {K : PySem.W.Frag} {F H : Hp} {d : D} {v : V} {T : String} (h : Rep K F d v) (sub : Same F H) (e : tyD d T = true) : tyV K T v H := by
  cases d with
  | str x => obtain ⟨rfl, _⟩ := h; exact beq_iff_eq.mp e
  | lst xs => obtain ⟨a, vs, rfl, h1, _, _⟩ := h; exact .inl ⟨beq_iff_eq.mp e, vs, .inl (.inl (sub _ _ h1))⟩
  | dic ks ds => obtain ⟨a, kvs, rfl, h1, _, _⟩ := h; exact .inr (.inr (.inl ⟨beq_iff_eq.mp e, .inl ⟨kvs, sub _ _ h1⟩⟩))
  | _ => exact absurd e (by simp [tyD])
def dMt {m : Mem} (T : String) (f : D → List D → (D → Prop) → Prop) (to : DT m) (t : DTA m) : DT m := fun ρ s Q => to ρ s fun x ρ1 s1 => tyD x T = true ∧ t ρ1 s1 fun ds ρ2 s2 => f x ds fun d => Q d ρ2 s2
def dMt0 {m : Mem} (T : String) (f : D → List D → (D → Prop) → Prop) (to : DT m) : DT m := fun ρ s Q => to ρ s fun x ρ1 s1 => tyD x T = true ∧ f x [] fun d => Q d ρ1 s1
variable {o : Expr} {to : DT m} {name : Str} {apos cpos : Pos} {rM : V → List V → Hp → VK → Prop} {fM : D → List D → (D → Prop) → Prop}
theorem de_m (pa : PlainAttrs T) (slot : Slot T name id) (hty : typeOf (.builtin id) = pure (.type "method_descriptor")) (hm : MtR X id rM) (hf : OpM X.K rM fM) (ho : PE X o (up X.K m to)) (ha : PA X (e :: es) (upA X.K m u))
    (hbase : attributeBase o name X.env (eval o X.env) = eval o X.env := by rfl)
    (hfew : ((backTo cpos (starEach (e :: es) X.env)).all (fun x => !x.1) && (backToKw cpos (keywordEach [] X.env)).all (fun x => x.1.isSome)
      && decide ((e :: es).length + ([] : List Keyword).length + (if ([] : List Keyword).isEmpty then 0 else 1) < 30)) = true := by rfl)
    (hline : (apos.endLine == cpos.line) = true := by rfl) (hs : starEach (e :: es) X.env = (false, eval e X.env) :: starEach es X.env := by rfl) (hplain : (backTo cpos (starEach es X.env)).any (·.1) = false := by rfl) :
    PE X (.Call (.Attribute o name apos) (e :: es) [] cpos) (up X.K m (dMt T fM to u)) := PE.imp (pe_bm pa slot hty hm ho ha hbase hfew hline hs hplain) fun σ H Q h => by
  obtain ⟨F, ρ, s, Qd, rl, ht, hQ⟩ := h
  refine ⟨F, ρ, s, _, rl, ht, fun dx ρ1 s1 x F1 H1 ⟨hT, q1⟩ r1 st1 rx => ⟨tyD_ok rx r1.sub hT, F1, ρ1, s1, _, r1, q1, fun ds ρ2 s2 vs F2 H2 q2 r2 st2 rs => ?_⟩⟩
  exact hf F2 H2 dx x ds vs _ Q r2.sub (Rep.mono st2.ext _ _ rx) rs q2 fun d v F3 H3 q3 g rv => hQ d ρ2 s2 v F3 H3 q3 (r2.grow g) ((st1.trans st2).trans g.stp) rv
theorem de_m0 (pa : PlainAttrs T) (slot : Slot T name id) (hty : typeOf (.builtin id) = pure (.type "method_descriptor")) (hm : MtR X id rM) (hf : OpM X.K rM fM) (ho : PE X o (up X.K m to))
    (hbase : attributeBase o name X.env (eval o X.env) = eval o X.env := by rfl) (hline : (apos.endLine == cpos.line) = true := by rfl) : PE X (.Call (.Attribute o name apos) [] [] cpos) (up X.K m (dMt0 T fM to)) :=
  PE.imp (pe_bm0 pa slot hty hm ho hbase hline) fun σ H Q h => by
    obtain ⟨F, ρ, s, Qd, rl, ht, hQ⟩ := h
    refine ⟨F, ρ, s, _, rl, ht, fun dx ρ1 s1 x F1 H1 ⟨hT, q1⟩ r1 st1 rx => ⟨tyD_ok rx r1.sub hT, ?_⟩⟩
    exact hf F1 H1 dx x [] [] _ Q r1.sub rx .nil q1 fun d v F3 H3 q3 g rv => hQ d ρ1 s1 v F3 H3 q3 (r1.grow g) (st1.trans g.stp) rv
/-! ### subscripts, slices -/
theorem de_ix {r2 : R2} {f2 : D → D → (D → Prop) → Prop} (hr : IxR X r2) (hf : Op2 X.K r2 f2) (ha : PE X a (up X.K m ta)) (hb : PE X b (up X.K m tb)) (hs : PlainIx b := by exact fun _ _ => rfl) : PE X (.Subscript a b pos) (up X.K m (dOp f2 ta tb)) :=
  PE.imp (pe_ix hr ha hb hs) fun _ _ _ h => up_op hf h
abbrev DTO (m : Mem) := List Sl → m.S → (Option Int → List Sl → m.S → Prop) → Prop
def upO (K : PySem.W.Frag) (m : Mem) (t : DTO m) : TO := fun σ H Q => ∃ F ρ s Qd, Rel K m F H σ ρ s ∧ t ρ s Qd ∧ ∀ b ρ' s' F' H', Qd b ρ' s' → Rel K m F' H' σ ρ' s' → Stp m F H σ ρ s F' H' ρ' s' → Q b H'
theorem PO.imp {eo : Option Expr} {t t' : TO} (h : PO X eo t) (w : ∀ σ H Q, t' σ H Q → t σ H Q) : PO X eo t' := ⟨fun pins s σ H Q I q => h.run pins s σ H Q I (w σ H Q q)⟩
def doNone {m : Mem} : DTO m := fun ρ s Q => Q none ρ s
def doSome {m : Mem} (t : DT m) : DTO m := fun ρ s Q => t ρ s fun d ρ1 s1 => ∃ i, d = .int i ∧ Q (some i) ρ1 s1
theorem do_none : PO X none (upO X.K m doNone) := PO.imp po_none fun σ H Q h => by
  obtain ⟨F, ρ, s, Qd, rl, ht, hQ⟩ := h
  exact hQ none ρ s F H ht rl Stp.refl
theorem do_some (he : PE X e (up X.K m ta)) : PO X (some e) (upO X.K m (doSome ta)) := PO.imp (po_some he) fun σ H Q h => by
  obtain ⟨F, ρ, s, Qd, rl, ht, hQ⟩ := h
  refine ⟨F, ρ, s, _, rl, ht, fun d ρ1 s1 x F1 H1 ⟨i, e, q1⟩ r1 st1 rx => ?_⟩
  subst e
  cases rx
  exact ⟨i, rfl, hQ (some i) ρ1 s1 F1 H1 q1 r1 st1⟩
def OpS (K : PySem.W.Frag) (r : V → Option Int → Option Int → Hp → VK → Prop) (f : D → Option Int → Option Int → (D → Prop) → Prop) : Prop := ∀ F H dx x lo hi Qd Q, Same F H → Rep K F dx x → f dx lo hi Qd → (∀ d v F' H', Qd d → Grow F H F' H' → Rep K F' d v → Q v H') → r x lo hi H Q
def dSl {m : Mem} (f : D → Option Int → Option Int → (D → Prop) → Prop) (te : DT m) (tl th : DTO m) : DT m := fun ρ s Q => te ρ s fun x ρ1 s1 => tl ρ1 s1 fun l ρ2 s2 => th ρ2 s2 fun h ρ3 s3 => f x l h fun d => Q d ρ3 s3
theorem de_slice {rs : V → Option Int → Option Int → Hp → VK → Prop} {fs : D → Option Int → Option Int → (D → Prop) → Prop} {lo hi : Option Expr} {tl th : DTO m} {p2 : Pos} (hr : SlR X rs) (hf : OpS X.K rs fs) (he : PE X e (up X.K m ta)) (hl : PO X lo (upO X.K m tl)) (hh : PO X hi (upO X.K m th)) :
    PE X (.Subscript e (.Slice lo hi none p2) pos) (up X.K m (dSl fs ta tl th)) := PE.imp (pe_slice hr he hl hh) fun σ H Q h => by
  obtain ⟨F, ρ, s, Qd, rl, ht, hQ⟩ := h
  refine ⟨F, ρ, s, _, rl, ht, fun dx ρ1 s1 x F1 H1 q1 r1 st1 rx => ⟨F1, ρ1, s1, _, r1, q1, fun l ρ2 s2 F2 H2 q2 r2 st2 => ⟨F2, ρ2, s2, _, r2, q2, fun h ρ3 s3 F3 H3 q3 r3 st3 => ?_⟩⟩⟩
  exact hf F3 H3 dx x l h _ Q r3.sub (Rep.mono (st2.ext.trans st3.ext) _ _ rx) q3 fun d v F4 H4 q4 g rv => hQ d ρ3 s3 v F4 H4 q4 (r3.grow g) ((st1.trans st2).trans (st3.trans g.stp)) rv
/-! ### and, or, not of values by truth -/
def dAndV {m : Mem} (ta tb : DT m) : DT m := fun ρ s Q => ta ρ s fun x ρ1 s1 => ∃ k, tru x = some k ∧ ifB k (tb ρ1 s1 Q) (Q x ρ1 s1)
def dOrV {m : Mem} (ta tb : DT m) : DT m := fun ρ s Q => ta ρ s fun x ρ1 s1 => ∃ k, tru x = some k ∧ ifB k (Q x ρ1 s1) (tb ρ1 s1 Q)
def dNotV {m : Mem} (ta : DT m) : DT m := fun ρ s Q => ta ρ s fun x ρ1 s1 => ∃ k, tru x = some k ∧ Q (.bl (!k)) ρ1 s1
theorem de_one {op} (h : PE X a (up X.K m ta)) : PE X (.BoolOp op [a] pos) (up X.K m ta) := pe_one h
theorem de_and (ha : PE X a (up X.K m ta)) (hb : PE X (.BoolOp .And (b :: rest) pos) (up X.K m tb)) : PE X (.BoolOp .And (a :: b :: rest) pos) (up X.K m (dAndV ta tb)) :=
  PE.imp (pe_andT ha hb) fun σ H Q h => by
    obtain ⟨F, ρ, s, Qd, rl, ht, hQ⟩ := h
    refine ⟨F, ρ, s, _, rl, ht, fun d ρ1 s1 x F1 H1 ⟨k, ek, q1⟩ r1 st1 rx => ⟨k, tru_rep rx r1.sub ek, ?_⟩⟩
    cases k with
    | true =>
      have q1 := ifB_t q1
      exact iteT ⟨F1, ρ1, s1, _, r1, q1, fun d ρ2 s2 v F2 H2 q2 r2 st2 rv => hQ d ρ2 s2 v F2 H2 q2 r2 (st1.trans st2) rv⟩
    | false => exact iteF (hQ d ρ1 s1 x F1 H1 (ifB_f q1) r1 st1 rx)
theorem de_or (ha : PE X a (up X.K m ta)) (hb : PE X (.BoolOp .Or (b :: rest) pos) (up X.K m tb)) : PE X (.BoolOp .Or (a :: b :: rest) pos) (up X.K m (dOrV ta tb)) :=
  PE.imp (pe_orT ha hb) fun σ H Q h => by
    obtain ⟨F, ρ, s, Qd, rl, ht, hQ⟩ := h
    refine ⟨F, ρ, s, _, rl, ht, fun d ρ1 s1 x F1 H1 ⟨k, ek, q1⟩ r1 st1 rx => ⟨k, tru_rep rx r1.sub ek, ?_⟩⟩
    cases k with
    | false => exact iteF ⟨F1, ρ1, s1, _, r1, ifB_f q1, fun d ρ2 s2 v F2 H2 q2 r2 st2 rv => hQ d ρ2 s2 v F2 H2 q2 r2 (st1.trans st2) rv⟩
    | true => exact iteT (hQ d ρ1 s1 x F1 H1 (ifB_t q1) r1 st1 rx)
theorem de_not (ha : PE X a (up X.K m ta)) : PE X (.UnaryOp .Not a pos) (up X.K m (dNotV ta)) :=
  PE.imp (pe_notT ha) fun σ H Q h => by
    obtain ⟨F, ρ, s, Qd, rl, ht, hQ⟩ := h
    exact ⟨F, ρ, s, _, rl, ht, fun d ρ1 s1 x F1 H1 ⟨k, ek, q1⟩ r1 st1 rx => ⟨k, tru_rep rx r1.sub ek, hQ (.bl (!k)) ρ1 s1 _ F1 H1 q1 r1 st1 rfl⟩⟩

/-! ### a def's promise over data, its call -/
abbrev DSp (m : Mem) := List D → m.S → (D → m.S → Prop) → Prop
structure CStp (m : Mem) (F H : Hp) (s : m.S) (F' H' : Hp) (s' : m.S) : Prop where
  ext : Same F F'
  keep : ∀ a o, H a = some o → ¬ m.R s a → H' a = some o
  alive : ∀ a, H a ≠ none → H' a ≠ none
  fresh : ∀ a o, F' a = some o → F a = some o ∨ H a = none
  regf : ∀ a, m.R s' a → m.R s a ∨ H a = none
  sub : Same F' H'
  mem : m.M s' H'
  reg : ∀ a, m.R s' a → F' a = none
def lift (K : PySem.W.Frag) (m : Mem) (n : Nat) (sp : DSp m) : Sp := fun vs H Q _ => vs.length = n ∧ ∃ F ds s Qd, Same F H ∧ m.M s H ∧ (∀ a, m.R s a → F a = none) ∧ Reps K F ds vs ∧ sp ds s Qd ∧
  ∀ d s' v F' H', Qd d s' → CStp m F H s F' H' s' → Rep K F' d v → Q v H'
theorem CStp.stp {F H F' H' : Hp} {s s' : m.S} (c : CStp m F H s F' H' s') {σ : L2.St} {ρ : List Sl} : Stp m F H σ ρ s F' H' ρ s' :=
  ⟨c.ext, c.keep, c.alive, fun a o h => (c.fresh a o h).elim .inl fun z => .inr (.inl z), c.regf, fun _ _ h => h⟩
theorem Rel.call {K : PySem.W.Frag} {F H F' H' : Hp} {σ : L2.St} {ρ : List Sl} {s s' : m.S} (r : Rel K m F H σ ρ s) (c : CStp m F H s F' H' s') : Rel K m F' H' σ ρ s' where
  sub := c.sub
  mem := c.mem
  reg := c.reg
  len := r.len
  sh := fun i d e => by
    obtain ⟨v, h1, h2⟩ := r.sh i d e
    exact ⟨v, h1, Rep.mono c.ext _ _ h2⟩
  ow := fun i o e => by
    obtain ⟨p, ho, h1, h2, h3, h4, h5⟩ := r.own_at e
    exact ⟨p, ho, h1, c.keep p ho h2 h5, h3.mono c.ext⟩
  owF := fun i p h => by
    obtain ⟨⟨o, e⟩, hσ⟩ := id h
    obtain ⟨p', ho, h1, h2, h3, h4, h5⟩ := r.own_at e
    rw [hσ] at h1; cases h1
    refine ⟨?_, fun z => ?_⟩
    · cases q : F' p with
      | none => rfl
      | some u =>
        rcases c.fresh p u q with z | z
        · rw [h4] at z; cases z
        · rw [z] at h2; cases h2
    · rcases c.regf p z with z | z
      · exact h5 z
      · rw [z] at h2; cases h2
  uq := r.uq
def dCall {m : Mem} (sp : DSp m) (t : DTA m) : DT m := fun ρ s Q => t ρ s fun ds ρ1 s1 => sp ds s1 fun d s' => Q d ρ1 s'
theorem up_call {K : PySem.W.Frag} {n : Nat} {sp : DSp m} {σ : L2.St} {H : Hp} {Q : VK} {E : XK} (hn : ∀ ds s Qd, sp ds s Qd → ds.length = n) (h : up K m (dCall sp u) σ H Q) : tCall (lift K m n sp) [] E (upA K m u) σ H Q := by
  obtain ⟨F, ρ, s, Qd, rl, ht, hQ⟩ := h
  refine ⟨F, ρ, s, _, rl, ht, fun ds ρ1 s1 vs F1 H1 q1 r1 st1 rs => ?_⟩
  show lift K m n sp (vs ++ []) H1 Q E
  rw [List.append_nil]
  exact ⟨by rw [rs.length]; exact hn _ _ _ q1, F1, ds, s1, _, r1.sub, r1.mem, r1.reg, rs, q1, fun d s' v F2 H2 q2 c rv => hQ d ρ1 s' v F2 H2 q2 (r1.call c) (st1.trans c.stp) rv⟩
theorem de_call {k n : Nat} {fa : Addr} {fd : FuncData} {ps : List Str} {sp : DSp m} (G : FnOk X.prog X.w X.K X.mg X.base CX0 k fa fd ps (lift X.K m n sp)) (hn : ∀ ds s Qd, sp ds s Qd → ds.length = n) (hr : Room k X.A) (hg : Gl X x) (hm : X.mg x = some (.ref fa)) (hk : PySem.W.keepIn X.K (.ref fa) = true) (hb : Binds X.K fd ps [])
    (ha : PA X (e :: es) (upA X.K m u)) (hdb : (x == ("__debug__" : Str)) = false := by decide) (he : starEach (e :: es) X.env = (false, eval e X.env) :: starEach es X.env := by rfl) (hpl : (backTo pos (starEach es X.env)).any (·.1) = false := by rfl) :
    PE X (.Call (.Name x p) (e :: es) [] pos) (up X.K m (dCall sp u)) := PE.imp (pe_call G hr hg hm hk hb .nil pass0 ha hdb he hpl) fun _ _ _ h => up_call hn h
theorem de_call0 {k n : Nat} {fa : Addr} {fd : FuncData} {ps : List Str} {sp : DSp m} (G : FnOk X.prog X.w X.K X.mg X.base CX0 k fa fd ps (lift X.K m n sp)) (hn : ∀ ds s Qd, sp ds s Qd → ds.length = n) (hr : Room k X.A) (hg : Gl X x) (hm : X.mg x = some (.ref fa)) (hk : PySem.W.keepIn X.K (.ref fa) = true) (hb : Binds X.K fd ps [])
    (hdb : (x == ("__debug__" : Str)) = false := by decide) : PE X (.Call (.Name x p) [] [] pos) (up X.K m (dCall sp daNil)) := PE.imp (pe_call0 G hr hg hm hk hb .nil pass0 hdb) fun σ H Q h => by
  obtain ⟨F, ρ, s, Qd, rl, ht, hQ⟩ := h
  exact ⟨(hn [] s _ ht).symm ▸ rfl, F, [], s, _, rl.sub, rl.mem, rl.reg, .nil, ht, fun d s' v F2 H2 q2 c rv => hQ d ρ s' v F2 H2 q2 (rl.call c) c.stp rv⟩
end
end DL

set_option Elab.async false
set_option linter.all false
set_option maxRecDepth 100000
namespace DL
open PySem PySem.Spec PyProof.Rows L2

/-! ### statements -/
/-- the state at a def's entry -/
structure Ent (m : Mem) where
  F : Hp
  H : Hp
  s : m.S
/-- what has become of it -/
structure Own (m : Mem) (E : Ent m) (F H : Hp) (σ : L2.St) (ρ : List Sl) (s : m.S) : Prop where
  ext : Same E.F F
  keep : ∀ a o, E.H a = some o → ¬ m.R E.s a → H a = some o
  alive : ∀ a, E.H a ≠ none → H a ≠ none
  fresh : ∀ a o, F a = some o → E.F a = some o ∨ E.H a = none
  regf : ∀ a, m.R s a → m.R E.s a ∨ E.H a = none
  own : ∀ (i : Nat) p, Owns σ ρ i p → E.H p = none
theorem Own.stp {m : Mem} {E : Ent m} {F H F' H' : Hp} {σ : L2.St} {ρ ρ' : List Sl} {s s' : m.S} (o : Own m E F H σ ρ s) (st : Stp m F H σ ρ s F' H' ρ' s') : Own m E F' H' σ ρ' s' where
  ext := o.ext.trans st.ext
  keep := fun a x h n => st.keep a x (o.keep a x h n) fun r => by
    rcases o.regf a r with z | z
    · exact n z
    · rw [z] at h; cases h
  alive := fun a h => st.alive a (o.alive a h)
  fresh := fun a x h => by
    rcases st.fresh a x h with z | z | ⟨i, z⟩
    · exact o.fresh a x z
    · refine .inr ?_
      cases q : E.H a with
      | none => rfl
      | some u => exact absurd z (o.alive a (by rw [q]; simp))
    · exact .inr (o.own i a z)
  regf := fun a h => by
    rcases st.regf a h with z | z
    · exact o.regf a z
    · refine .inr ?_
      cases q : E.H a with
      | none => rfl
      | some u => exact absurd z (o.alive a (by rw [q]; simp))
  own := fun i p h => o.own i p (st.owns h)
structure DEnds (m : Mem) where
  nx : List Sl → m.S → Prop
  rt : D → m.S → Prop
  bk : List Sl → m.S → Prop := fun _ _ => False
  ct : List Sl → m.S → Prop := fun _ _ => False
abbrev DTS (m : Mem) := DEnds m → List Sl → m.S → Prop
structure Fits (K : PySem.W.Frag) (m : Mem) (E : Ent m) (F0 : Hp) (dd : DEnds m) (DD : Ends) : Prop where
  nx : ∀ F H σ ρ s, Same F0 F → Rel K m F H σ ρ s → Own m E F H σ ρ s → dd.nx ρ s → DD.nx σ H
  rt : ∀ F H σ ρ s d v, Same F0 F → Rel K m F H σ ρ s → Own m E F H σ ρ s → Rep K F d v → dd.rt d s → DD.rt v H
  bk : ∀ F H σ ρ s, Same F0 F → Rel K m F H σ ρ s → Own m E F H σ ρ s → dd.bk ρ s → DD.bk σ H
  ct : ∀ F H σ ρ s, Same F0 F → Rel K m F H σ ρ s → Own m E F H σ ρ s → dd.ct ρ s → DD.ct σ H
theorem Fits.mono {K : PySem.W.Frag} {m : Mem} {E : Ent m} {F0 F1 : Hp} {dd : DEnds m} {DD : Ends} (f : Fits K m E F0 dd DD) (h : Same F0 F1) : Fits K m E F1 dd DD :=
  ⟨fun F H σ ρ s q => f.nx F H σ ρ s (h.trans q), fun F H σ ρ s d v q => f.rt F H σ ρ s d v (h.trans q), fun F H σ ρ s q => f.bk F H σ ρ s (h.trans q), fun F H σ ρ s q => f.ct F H σ ρ s (h.trans q)⟩
def upS (K : PySem.W.Frag) (m : Mem) (E : Ent m) (t : DTS m) : TS := fun DD σ H => ∃ F ρ s dd, Rel K m F H σ ρ s ∧ Own m E F H σ ρ s ∧ t dd ρ s ∧ Fits K m E F dd DD

section
variable {X : Cx} {m : Mem} {E : Ent m} {st : Stmt} {rest : List Stmt} {t u : DTS m} {e : Expr} {te : DT m} {pos : Pos}
def dNext {m : Mem} : DTS m := fun dd ρ s => dd.nx ρ s
def dSeq {m : Mem} (t u : DTS m) : DTS m := fun dd ρ s => t { dd with nx := u dd } ρ s
theorem dss_nil : PSs X [] (upS X.K m E dNext) := PSs.imp pss_nil fun DD σ H h => by
  obtain ⟨F, ρ, s, dd, r, o, ht, f⟩ := h
  exact f.nx F H σ ρ s (Same.refl F) r o ht
theorem dss_cons (h1 : PS X st (upS X.K m E t)) (h2 : PSs X rest (upS X.K m E u)) : PSs X (st :: rest) (upS X.K m E (dSeq t u)) := PSs.imp (pss_cons h1 h2) fun DD σ H h => by
  obtain ⟨F, ρ, s, dd, r, o, ht, f⟩ := h
  exact ⟨F, ρ, s, _, r, o, ht, ⟨fun F' H' σ' ρ' s' sm r' o' q => ⟨F', ρ', s', dd, r', o', q, f.mono sm⟩, f.rt, f.bk, f.ct⟩⟩
theorem dss_one (h1 : PS X st (upS X.K m E t)) : PSs X [st] (upS X.K m E t) := pss_one h1
theorem ds_pass : PS X (.Pass pos) (upS X.K m E dNext) := PS.imp ps_pass fun DD σ H h => by
  obtain ⟨F, ρ, s, dd, r, o, ht, f⟩ := h
  exact f.nx F H σ ρ s (Same.refl F) r o ht
def dBreak {m : Mem} : DTS m := fun dd ρ s => dd.bk ρ s
def dCont {m : Mem} : DTS m := fun dd ρ s => dd.ct ρ s
theorem ds_break : PS X (.Break pos) (upS X.K m E dBreak) := PS.imp ps_break fun DD σ H h => by
  obtain ⟨F, ρ, s, dd, r, o, ht, f⟩ := h
  exact f.bk F H σ ρ s (Same.refl F) r o ht
theorem ds_continue : PS X (.Continue pos) (upS X.K m E dCont) := PS.imp ps_continue fun DD σ H h => by
  obtain ⟨F, ρ, s, dd, r, o, ht, f⟩ := h
  exact f.ct F H σ ρ s (Same.refl F) r o ht
def dDrop {m : Mem} (te : DT m) : DTS m := fun dd ρ s => te ρ s fun _ ρ1 s1 => dd.nx ρ1 s1
theorem ds_expr (he : PE X e (up X.K m te)) (hs : swapsWith e none pos.line X.env = pure false := by rfl) : PS X (.Expr e pos) (upS X.K m E (dDrop te)) := PS.imp (ps_expr he hs) fun DD σ H h => by
  obtain ⟨F, ρ, s, dd, r, o, ht, f⟩ := h
  exact ⟨F, ρ, s, _, r, ht, fun d ρ1 s1 v F1 H1 q1 r1 st1 rv => f.nx F1 H1 σ ρ1 s1 st1.ext r1 (o.stp st1) q1⟩
def dRet {m : Mem} (te : DT m) : DTS m := fun dd ρ s => te ρ s fun d _ s1 => dd.rt d s1
theorem ds_ret (he : PE X e (up X.K m te)) : PS X (.Return (some e) pos) (upS X.K m E (dRet te)) := PS.imp (ps_ret he) fun DD σ H h => by
  obtain ⟨F, ρ, s, dd, r, o, ht, f⟩ := h
  exact ⟨F, ρ, s, _, r, ht, fun d ρ1 s1 v F1 H1 q1 r1 st1 rv => f.rt F1 H1 σ ρ1 s1 d v st1.ext r1 (o.stp st1) rv q1⟩
def dRetN {m : Mem} : DTS m := fun dd _ s => dd.rt .non s
theorem ds_retN : PS X (.Return none pos) (upS X.K m E dRetN) := PS.imp ps_retN fun DD σ H h => by
  obtain ⟨F, ρ, s, dd, r, o, ht, f⟩ := h
  exact f.rt F H σ ρ s .non .non (Same.refl F) r o rfl ht
def dIf {m : Mem} (c : DTT m) (t u : DTS m) : DTS m := fun dd ρ s => c ρ s fun b ρ1 s1 => ifB b (t dd ρ1 s1) (u dd ρ1 s1)
theorem ds_if {c : Expr} {a b : List Stmt} {tc : DTT m} (hc : PT X c (upT X.K m tc)) (ha : PSs X a (upS X.K m E t)) (hb : PSs X b (upS X.K m E u)) : PS X (.If c a b pos) (upS X.K m E (dIf tc t u)) := PS.imp (ps_if hc ha hb) fun DD σ H h => by
  obtain ⟨F, ρ, s, dd, r, o, ht, f⟩ := h
  refine ⟨F, ρ, s, _, r, ht, fun b ρ1 s1 F1 H1 q1 r1 st1 => ?_⟩
  cases b with
  | true =>
    have q1 := ifB_t q1
    exact iteT ⟨F1, ρ1, s1, dd, r1, o.stp st1, q1, f.mono st1.ext⟩
  | false => exact iteF ⟨F1, ρ1, s1, dd, r1, o.stp st1, ifB_f q1, f.mono st1.ext⟩

/-! ### names stored -/
theorem Own.put {K : PySem.W.Frag} {F H : Hp} {σ : L2.St} {ρ : List Sl} {s : m.S} (o : Own m E F H σ ρ s) {i : Nat} {d : D} {v : V} : Own m E F H (σ.set i (some v)) (ρ.set i (.sh d)) s :=
  ⟨o.ext, o.keep, o.alive, o.fresh, o.regf, fun j p ⟨⟨ob, h1⟩, h2⟩ => by
    by_cases hj : i = j
    · subst hj
      by_cases hi : i < ρ.length
      · rw [List.getElem?_set_self hi] at h1; cases h1
      · rw [List.getElem?_eq_none (by simpa using hi)] at h1; cases h1
    · rw [List.getElem?_set_ne hj] at h1 h2; exact o.own j p ⟨⟨ob, h1⟩, h2⟩⟩
def dSet {m : Mem} (i : Nat) (te : DT m) : DTS m := fun dd ρ s => te ρ s fun d ρ1 s1 => dd.nx (ρ1.set i (.sh d)) s1
theorem ds_set (i : Nat) {x : Str} {pos' : Pos} (hN : X.N.Nodup) (he : PE X e (up X.K m te)) (hi : X.N[i]? = some x := by rfl) (hx : Loc X.env.scope x := by first | exact Or.inl rfl | exact Or.inr rfl) (hs : swapsWith e (some (.Name x pos')) pos.line X.env = pure false := by rfl)
    (hf : X.fn x = true ∨ X.env.scope.names.lookup x = some .local := by first | exact .inl rfl | exact .inr rfl) :
    PS X (.Assign [.Name x pos'] e pos) (upS X.K m E (dSet i te)) := PS.imp (ps_set hN hi hx he hs hf) fun DD σ H h => by
  obtain ⟨F, ρ, s, dd, r, o, ht, f⟩ := h
  exact ⟨F, ρ, s, _, r, ht, fun d ρ1 s1 v F1 H1 q1 r1 st1 rv => f.nx F1 H1 _ _ s1 st1.ext (r1.put rv) ((o.stp st1).put (K := X.K)) q1⟩
/-- x = [..], the list to be changed by this def -/
theorem Own.putO {K : PySem.W.Frag} {F H : Hp} {σ : L2.St} {ρ : List Sl} {s : m.S} (r : Rel K m F H σ ρ s) (o : Own m E F H σ ρ s) {i : Nat} {ob : Ob} {p : Addr} {ho : HO} (n : H p = none) : Own m E F (upd H p ho) (σ.set i (some (.ref p))) (ρ.set i (.ow ob)) s := by
  have eH : E.H p = none := by
    cases q : E.H p with
    | none => rfl
    | some u => exact absurd n (o.alive p (by rw [q]; simp))
  refine ⟨o.ext, fun a x h nr => ?_, fun a h => ?_, o.fresh, o.regf, fun j q ⟨⟨ob', h1⟩, h2⟩ => ?_⟩
  · rw [upd_ne (ne_of_none h eH)]; exact o.keep a x h nr
  · have hp : a ≠ p := fun z => h (z ▸ eH)
    rw [upd_ne hp]; exact o.alive a h
  · by_cases hj : i = j
    · subst hj
      have hi : i < σ.length := by
        have := (List.getElem?_eq_some_iff.mp h2).1
        rw [List.length_set] at this; exact this
      rw [List.getElem?_set_self hi] at h2
      cases h2
      exact eH
    · rw [List.getElem?_set_ne hj] at h1 h2; exact o.own j q ⟨⟨ob', h1⟩, h2⟩
def dSetL {m : Mem} (i : Nat) (ta : DTA m) : DTS m := fun dd ρ s => ta ρ s fun ds ρ1 s1 => ds.length ≤ sizeLine ∧ dd.nx (ρ1.set i (.ow (.lst ds))) s1
theorem ds_setL (i : Nat) {x : Str} {es : List Expr} {pos' lpos : Pos} {ta : DTA m} (hN : X.N.Nodup) (ha : PA X es (upA X.K m ta)) (hi : X.N[i]? = some x := by rfl) (hx : Loc X.env.scope x := by first | exact Or.inl rfl | exact Or.inr rfl)
    (hs : swapsWith (.List es lpos) (some (.Name x pos')) pos.line X.env = pure false := by rfl) (hf : X.fn x = true ∨ X.env.scope.names.lookup x = some .local := by first | exact .inl rfl | exact .inr rfl) :
    PS X (.Assign [.Name x pos'] (.List es lpos) pos) (upS X.K m E (dSetL i ta)) := PS.imp (ps_set hN hi hx (pe_lst ha) hs hf) fun DD σ H h => by
  obtain ⟨F, ρ, s, dd, r, o, ht, f⟩ := h
  refine ⟨F, ρ, s, _, r, ht, fun ds ρ1 s1 vs F1 H1 ⟨hl, q1⟩ r1 st1 rs => ⟨by rw [rs.length]; exact hl, fun p np => ?_⟩⟩
  exact f.nx F1 _ _ _ s1 st1.ext (r1.putO (o := .lst ds) np ⟨vs, rfl, by rw [rs.length]; exact hl, rs⟩) (Own.putO r1 (o.stp st1) np) q1
/-- x.append(e), the list x's own -/
def dApp {m : Mem} (i : Nat) (te : DT m) : DTS m := fun dd ρ s => (∃ ds0, ρ[i]? = some (.ow (.lst ds0))) ∧ te ρ s fun d ρ1 s1 => ∃ ds, ρ1[i]? = some (.ow (.lst ds)) ∧ ds.length < sizeLine ∧ dd.nx (ρ1.set i (.ow (.lst (ds ++ [d])))) s1
theorem Own.write {K : PySem.W.Frag} {F H : Hp} {σ : L2.St} {ρ : List Sl} {s : m.S} (o : Own m E F H σ ρ s) {i : Nat} {ob ob' : Ob} {p : Addr} {ho : HO} (e : ρ[i]? = some (.ow ob)) (eσ : σ[i]? = some (some (V.ref p))) : Own m E F (upd H p ho) σ (ρ.set i (.ow ob')) s := by
  have eH : E.H p = none := o.own i p ⟨⟨ob, e⟩, eσ⟩
  refine ⟨o.ext, fun a x h nr => ?_, fun a h => ?_, o.fresh, o.regf, fun j q ⟨⟨u, h1⟩, h2⟩ => ?_⟩
  · rw [upd_ne (ne_of_none h eH)]; exact o.keep a x h nr
  · have hp : a ≠ p := fun z => h (z ▸ eH)
    rw [upd_ne hp]; exact o.alive a h
  · by_cases hj : i = j
    · subst hj; exact o.own i q ⟨⟨ob, e⟩, h2⟩
    · rw [List.getElem?_set_ne hj] at h1; exact o.own j q ⟨⟨u, h1⟩, h2⟩
theorem ds_app (i : Nat) {x : Str} {xpos apos cpos : Pos} (he : PE X e (up X.K m te)) (hN : X.N[i]? = some x := by rfl) (hv : Vis X.env.scope x := by first | exact Or.inl rfl | exact Or.inr (Or.inl rfl) | exact Or.inr (Or.inr rfl))
    (hd : (x == ("__debug__" : Str)) = false := by decide) (hcd : (x == ("__classdict__" : Str)) = false := by decide)
    (hbase : attributeBase (.Name x xpos) "append" X.env (eval (.Name x xpos) X.env) = eval (.Name x xpos) X.env := by rfl)
    (hfew : ((backTo cpos (starEach [e] X.env)).all (fun x => !x.1) && (backToKw cpos (keywordEach [] X.env)).all (fun x => x.1.isSome)
      && decide ([e].length + ([] : List Keyword).length + (if ([] : List Keyword).isEmpty then 0 else 1) < 30)) = true := by rfl)
    (hline : (apos.endLine == cpos.line) = true := by rfl) (hs : starEach [e] X.env = [(false, eval e X.env)] := by rfl)
    (hsw : swapsWith (.Call (.Attribute (.Name x xpos) "append" apos) [e] [] cpos) none pos.line X.env = pure false := by rfl) :
    PS X (.Expr (.Call (.Attribute (.Name x xpos) "append" apos) [e] [] cpos) pos) (upS X.K m E (dApp i te)) :=
  PS.imp (ps_expr (pe_bm PySem.F.plainAttrs_list PySem.F.slot_list_append PySem.F.type_list_append mt_append (pv i hN hv hd hcd) (pa_cons he pa_nil (by rw [hs]; rfl)) hbase hfew hline (by rw [hs]; rfl) rfl) hsw) fun DD σ H h => by
  obtain ⟨F, ρ, s, dd, r, o, ⟨⟨ds0, e0⟩, ht⟩, f⟩ := h
  obtain ⟨p, ho, h1, h2, ⟨vs0, rfl, hl0, rs0⟩, h4, h5⟩ := r.own_at e0
  refine ⟨_, h1, .inl ⟨rfl, vs0, .inl (.inl h2)⟩, F, ρ, s, _, r, ht, fun d ρ1 s1 v F1 H1 ⟨ds, e1, hz, q1⟩ r1 st1 rv => ?_⟩
  obtain ⟨p', ho, g1, g2, ⟨vs, rfl, hl, rs⟩, g4, g5⟩ := r1.own_at e1
  rw [h1] at g1; cases g1
  have hlen := rs.length
  refine ⟨p, vs, v, rfl, rfl, g2, by omega, ?_⟩
  refine f.nx F1 _ σ _ s1 st1.ext (r1.write (o' := .lst (ds ++ [d])) e1 h1 ⟨vs ++ [v], rfl, by rw [List.length_append]; exact (by simp; omega), rs.append (.one rv)⟩) ((o.stp st1).write (K := X.K) e1 h1) q1

/-! ### what a target is bound to -/
abbrev DG := D → List Sl → (List Sl → Prop) → Prop
/-- ts: the slots that the target stores -/
def upG (K : PySem.W.Frag) (m : Mem) (ts : List Nat) (g : DG) : TG := fun v σ H Q => ∃ F ρ s d Qd, Rel K m F H σ ρ s ∧ Rep K F d v ∧ g d ρ Qd ∧
  ∀ σ' ρ', Qd ρ' → Rel K m F H σ' ρ' s → (∀ i p, Owns σ' ρ' i p → Owns σ ρ i p) → (σ'.length = σ.length ∧ ∀ j, j ∉ ts → σ'[j]? = σ[j]?) → Q σ' H
def upGs (K : PySem.W.Frag) (m : Mem) (ts : List Nat) (g : List D → List Sl → (List Sl → Prop) → Prop) : TGs := fun vs σ H Q => ∃ F ρ s ds Qd, Rel K m F H σ ρ s ∧ Reps K F ds vs ∧ g ds ρ Qd ∧
  ∀ σ' ρ', Qd ρ' → Rel K m F H σ' ρ' s → (∀ i p, Owns σ' ρ' i p → Owns σ ρ i p) → (σ'.length = σ.length ∧ ∀ j, j ∉ ts → σ'[j]? = σ[j]?) → Q σ' H
theorem PG.imp {tg : Expr} {g g' : TG} (h : PG X tg g) (w : ∀ v σ H Q, g' v σ H Q → g v σ H Q) : PG X tg g' := ⟨fun pins s σ H v u Q I r q => h.run pins s σ H v u Q I r (w v σ H Q q)⟩
theorem PGs.imp {tg : List Expr} {g g' : TGs} (h : PGs X tg g) (w : ∀ v σ H Q, g' v σ H Q → g v σ H Q) : PGs X tg g' := ⟨fun pins s σ H v u Q I r q => h.run pins s σ H v u Q I r (w v σ H Q q)⟩
def gN (i : Nat) : DG := fun d ρ Q => Q (ρ.set i (.sh d))
theorem owns_put {σ : L2.St} {ρ : List Sl} {i : Nat} {d : D} {v : V} {j : Nat} {q : Addr} (h : Owns (σ.set i (some v)) (ρ.set i (.sh d)) j q) : Owns σ ρ j q := by
  obtain ⟨⟨o', h1⟩, h2⟩ := h
  by_cases hj : i = j
  · subst hj
    by_cases hi : i < ρ.length
    · rw [List.getElem?_set_self hi] at h1; cases h1
    · rw [List.getElem?_eq_none (by simpa using hi)] at h1; cases h1
  · rw [List.getElem?_set_ne hj] at h1 h2; exact ⟨⟨o', h1⟩, h2⟩
theorem dg_name (i : Nat) {x : Str} (hN : X.N.Nodup) (hi : X.N[i]? = some x := by rfl) (hx : Loc X.env.scope x := by first | exact Or.inl rfl | exact Or.inr rfl) (hf : X.fn x = true ∨ X.env.scope.names.lookup x = some .local := by first | exact .inl rfl | exact .inr rfl) :
    PG X (.Name x pos) (upG X.K m [i] (gN i)) := PG.imp (pg_name hN hi hx hf) fun v σ H Q h => by
  obtain ⟨F, ρ, s, d, Qd, r, rv, hg, hQ⟩ := h
  exact hQ _ _ hg (r.put rv) (fun j p h => owns_put h) ⟨by rw [List.length_set], fun j hj => List.getElem?_set_ne (by simpa using Ne.symm (by simpa using hj))⟩
def gNil' : List D → List Sl → (List Sl → Prop) → Prop := fun ds ρ Q => ds = [] ∧ Q ρ
def gCons' (g : DG) (u : List D → List Sl → (List Sl → Prop) → Prop) : List D → List Sl → (List Sl → Prop) → Prop := fun ds ρ Q => ∃ d r, ds = d :: r ∧ g d ρ fun ρ1 => u r ρ1 Q
theorem dgs_nil : PGs X [] (upGs X.K m [] gNil') := PGs.imp pgs_nil fun vs σ H Q h => by
  obtain ⟨F, ρ, s, ds, Qd, r, rv, ⟨hg, hq⟩, hQ⟩ := h
  subst hg
  cases rv
  exact ⟨rfl, hQ σ ρ hq r (fun _ _ h => h) ⟨rfl, fun _ _ => rfl⟩⟩
theorem dgs_cons {es : List Expr} {ts us : List Nat} {g : DG} {u : List D → List Sl → (List Sl → Prop) → Prop} (h1 : PG X e (upG X.K m ts g)) (h2 : PGs X es (upGs X.K m us u)) (hs : (assignEach (e :: es) X.env).map (·.2) = assign e X.env :: (assignEach es X.env).map (·.2) := by rfl) :
    PGs X (e :: es) (upGs X.K m (ts ++ us) (gCons' g u)) := PGs.imp (pgs_cons h1 h2 hs) fun vs σ H Q h => by
  obtain ⟨F, ρ, s, ds, Qd, r, rv, ⟨d, rr, hd, hg⟩, hQ⟩ := h
  subst hd
  obtain ⟨v, vr, rfl, rv1, rv2⟩ := rv
  refine ⟨v, vr, rfl, F, ρ, s, d, _, r, rv1, hg, fun σ1 ρ1 q1 r1 o1 k1 => ⟨F, ρ1, s, rr, _, r1, rv2, q1, fun σ2 ρ2 q2 r2 o2 k2 => ?_⟩⟩
  exact hQ σ2 ρ2 q2 r2 (fun i p h => o1 i p (o2 i p h)) ⟨k2.1.trans k1.1, fun j hj => (k2.2 j fun z => hj (List.mem_append_right _ z)).trans (k1.2 j fun z => hj (List.mem_append_left _ z))⟩
def gTup' (n : Nat) (u : List D → List Sl → (List Sl → Prop) → Prop) : DG := fun d ρ Q => ∃ ds, d = .tup ds ∧ ds.length = n ∧ u ds ρ Q
theorem dg_tup {es : List Expr} {k : Nat} {us : List Nat} {u : List D → List Sl → (List Sl → Prop) → Prop} {n : Nat} (hc : X.calm = true) (h : PGs X es (upGs X.K m us u)) (hn : (assignEach es X.env).length = n := by rfl) (hst : (assignEach es X.env).findIdx? (·.1) = none := by rfl) :
    PG X (.Tuple es k pos) (upG X.K m us (gTup' n u)) := PG.imp (pg_tup hc h hn hst) fun v σ H Q h => by
  obtain ⟨F, ρ, s, d, Qd, r, rv, ⟨ds, hd, hl, hg⟩, hQ⟩ := h
  subst hd
  obtain ⟨a, vs, rfl, hT, _, rs⟩ := rv
  exact ⟨a, vs, rfl, Same.seqT r.sub hT, by rw [rs.length]; exact hl, F, ρ, s, ds, Qd, r, rs, hg, hQ⟩
theorem Own.tgt {F H : Hp} {σ σ' : L2.St} {ρ ρ' : List Sl} {s : m.S} (o : Own m E F H σ ρ s) (h : ∀ i p, Owns σ' ρ' i p → Owns σ ρ i p) : Own m E F H σ' ρ' s := ⟨o.ext, o.keep, o.alive, o.fresh, o.regf, fun i p q => o.own i p (h i p q)⟩
/-- target = e, any target -/
def dAsg {m : Mem} (te : DT m) (g : DG) : DTS m := fun dd ρ s => te ρ s fun d ρ1 s1 => g d ρ1 fun ρ2 => dd.nx ρ2 s1
theorem ds_asg {tg : Expr} {ts : List Nat} {g : DG} (he : PE X e (up X.K m te)) (hg : PG X tg (upG X.K m ts g)) (hs : swapsWithSole [tg] e pos.line X.env = pure false := by rfl) (hw : swappedStores [tg] e X.env = pure none := by rfl)
    (h1 : (assignEach [tg] X.env).map (·.2) = [assign tg X.env] := by rfl) : PS X (.Assign [tg] e pos) (upS X.K m E (dAsg te g)) := PS.imp (ps_asg he hg hs hw h1) fun DD σ H h => by
  obtain ⟨F, ρ, s, dd, r, o, ht, f⟩ := h
  refine ⟨F, ρ, s, _, r, ht, fun d ρ1 s1 v F1 H1 q1 r1 st1 rv => ⟨F1, ρ1, s1, d, _, r1, rv, q1, fun σ2 ρ2 q2 r2 o2 _ => ?_⟩⟩
  exact f.nx F1 H1 σ2 ρ2 s1 st1.ext r2 ((o.stp st1).tgt o2) q2
/-- a, b = x, y with plain local names -/
def dPar {m : Mem} (i j : Nat) (ta : DTA m) : DTS m := fun dd ρ s => ta ρ s fun ds ρ1 s1 => ∃ d d', ds = [d, d'] ∧ dd.nx ((ρ1.set i (.sh d)).set j (.sh d')) s1
theorem ds_par (i j : Nat) {x y : Str} {a b : Expr} {ta : DTA m} {px py pt : Pos} {kt k2 pt2} (hN : X.N.Nodup) (ha : PA X [a, b] (upA X.K m ta)) (hc : X.calm = true := by rfl) (hi : X.N[i]? = some x := by rfl) (hj : X.N[j]? = some y := by rfl) (hij : i ≠ j := by decide)
    (hx : X.env.scope.names.lookup x = some .local := by rfl) (hy : X.env.scope.names.lookup y = some .local := by rfl)
    (hw : swappedStores [.Tuple [.Name x px, .Name y py] kt pt] (.Tuple [a, b] k2 pt2) X.env = pure (some [x, y]) := by rfl)
    (hs : swapsWithSole [.Tuple [.Name x px, .Name y py] kt pt] (.Tuple [a, b] k2 pt2) pos.line X.env = pure false := by rfl) :
    PS X (.Assign [.Tuple [.Name x px, .Name y py] kt pt] (.Tuple [a, b] k2 pt2) pos) (upS X.K m E (dPar i j ta)) := PS.imp (ps_par hc hN hi hj hij hx hy ha hw hs) fun DD σ H h => by
  obtain ⟨F, ρ, s, dd, r, o, ht, f⟩ := h
  refine ⟨F, ρ, s, _, r, ht, fun ds ρ1 s1 vs F1 H1 ⟨d, d', e, q1⟩ r1 st1 rs => ?_⟩
  subst e
  obtain ⟨v, _, rfl, rv, w, _, rfl, rw', rn⟩ := rs
  cases rn
  exact ⟨v, w, rfl, f.nx F1 H1 _ _ s1 st1.ext ((r1.put rv).put rw') (((o.stp st1).put (K := X.K)).put (K := X.K)) q1⟩
/-- x op= e -/
def dAug {m : Mem} (i : Nat) (f : D → D → (D → Prop) → Prop) (te : DT m) : DTS m := fun dd ρ s => ∃ x, ρ[i]? = some (.sh x) ∧ te ρ s fun y ρ1 s1 => f x y fun z => dd.nx (ρ1.set i (.sh z)) s1
theorem ds_aug (i : Nat) {x : Str} {op : Operator} {r2 : R2} {f2 : D → D → (D → Prop) → Prop} {pos' : Pos} (hN : X.N.Nodup) (ho : OpR X (inplaceOp op) r2) (hf2 : Op2 X.K r2 f2) (he : PE X e (up X.K m te)) (hi : X.N[i]? = some x := by rfl) (hx : Loc X.env.scope x := by first | exact Or.inl rfl | exact Or.inr rfl)
    (hf : X.fn x = true ∨ X.env.scope.names.lookup x = some .local := by first | exact .inl rfl | exact .inr rfl) : PS X (.AugAssign (.Name x pos') op e pos) (upS X.K m E (dAug i f2 te)) := PS.imp (ps_aug (ti := r2) hN hi hx he (fun pins s σ H x y v u Q I r1 r2 h => ho pins s σ H x y v u Q I r1 r2 h) hf) fun DD σ H h => by
  obtain ⟨F, ρ, s, dd, r, o, ⟨x, ex, ht⟩, f⟩ := h
  obtain ⟨v, h1, rv⟩ := r.sh i x ex
  refine ⟨v, h1, F, ρ, s, _, r, ht, fun y ρ1 s1 w F1 H1 q1 r1 st1 rw' => ?_⟩
  exact hf2 F1 H1 x y v w _ _ r1.sub (Rep.mono st1.ext _ _ rv) rw' q1 fun z u F2 H2 q2 g ru => f.nx F2 H2 _ _ s1 (st1.ext.trans g.fF) ((r1.grow g).put ru) ((o.stp (st1.trans g.stp)).put (K := X.K)) q2

/-! ### loops -/
/-- an iterator over known items: what it hands out is the data, in their order -/
def Walks (K : PySem.W.Frag) (F : Hp) (J : It) (ds : List D) : Prop := ∀ F' H', Same F F' → Same F' H' →
  (∀ i, ds.length ≤ i → J.stop i H') ∧ ∀ i d, ds[i]? = some d → J.go i H' ∧ ∀ x H2, J.yld i H' x H2 → ∃ F2, Grow F' H' F2 H2 ∧ Rep K F2 d x
theorem Walks.mono {K : PySem.W.Frag} {F F1 : Hp} {J : It} {ds : List D} (w : Walks K F J ds) (h : Same F F1) : Walks K F1 J ds := fun F' H' a b => w F' H' (h.trans a) b
abbrev DTI (m : Mem) := List Sl → m.S → (List D → List Sl → m.S → Prop) → Prop
def upI (K : PySem.W.Frag) (m : Mem) (t : DTI m) : TI := fun σ H R => ∃ F ρ s Qd, Rel K m F H σ ρ s ∧ t ρ s Qd ∧ ∀ ds ρ' s' J F' H', Qd ds ρ' s' → Rel K m F' H' σ ρ' s' → Stp m F H σ ρ s F' H' ρ' s' → Walks K F' J ds → R J H'
theorem PI.imp {tg iter : Expr} {t t' : TI} (h : PI X tg iter t) (w : ∀ σ H Q, t' σ H Q → t σ H Q) : PI X tg iter t' := ⟨fun pins s σ H R I q => h.run pins s σ H R I (w σ H R q)⟩
/-- a list or a tuple -/
def seqD : D → Option (List D)
  | .lst ds => some ds
  | .tup ds => some ds
  | .fz ds => some ds
  | _ => none
def diSeq {m : Mem} (te : DT m) : DTI m := fun ρ s Q => te ρ s fun d ρ1 s1 => ∃ ds, seqD d = some ds ∧ Q ds ρ1 s1
theorem walks_list {K : PySem.W.Frag} {F : Hp} {a : Addr} {ds : List D} {vs : List V} (h : SqL K F a vs) (rs : Reps K F ds vs) : Walks K F (Itl K a) ds := fun F' H' s1 s2 => by
  have q : SqL K H' a vs := Same.seq s2 (Same.seq s1 h)
  have hl := rs.length
  refine ⟨fun i hi => ⟨vs, q, by omega⟩, fun i d e => ?_⟩
  obtain ⟨v, ev, rv⟩ := rs.get e
  refine ⟨⟨vs, v, q, ev⟩, fun x H2 y => ?_⟩
  obtain ⟨e1, y⟩ := y
  subst e1
  have e2 := y vs q
  rw [ev] at e2
  cases e2
  exact ⟨F', Grow.refl s2, Rep.mono s1 _ _ rv⟩
theorem walks_tup {K : PySem.W.Frag} {F : Hp} {a : Addr} {ds : List D} {vs : List V} (h : SqT K F a vs) (rs : Reps K F ds vs) : Walks K F (Itt K a) ds := fun F' H' s1 s2 => by
  have q : SqT K H' a vs := Same.seqT s2 (Same.seqT s1 h)
  have hl := rs.length
  refine ⟨fun i hi => ⟨vs, q, by omega⟩, fun i d e => ?_⟩
  obtain ⟨v, ev, rv⟩ := rs.get e
  refine ⟨⟨vs, v, q, ev⟩, fun x H2 y => ?_⟩
  obtain ⟨e1, y⟩ := y
  subst e1
  have e2 := y vs q
  rw [ev] at e2
  cases e2
  exact ⟨F', Grow.refl s2, Rep.mono s1 _ _ rv⟩
theorem pi_seq {tg l : Expr} {tl : TE} (hl : PE X l tl) : PI X tg l (fun σ H R => tl σ H fun x H1 => ∃ a, x = .ref a ∧ (((∃ xs, SqL X.K H1 a xs) ∧ R (Itl X.K a) H1) ∨ ((∃ xs, SqT X.K H1 a xs) ∧ R (Itt X.K a) H1))) := by
  refine ⟨fun pins s σ H R I h => ?_⟩
  refine thn (hl.run pins s σ H _ I h) fun v s1 ⟨x, H1, I1, r1, q1⟩ => ?_
  obtain ⟨a, e, q⟩ := q1
  subst e
  cases r1
  rcases q with ⟨⟨xs, hq⟩, q⟩ | ⟨⟨xs, hq⟩, q⟩
  · obtain ⟨its, rv, p, hz⟩ := I1.list hq
    refine wpAny_pyIter_list p.isList ?_
    refine ⟨s1.heap.objs.size, [s1.heap.objs.size], _, _, H1, rfl, I1.kept (t' := s1.toks) fun b o e => Heap.get?_push_of_some _ e, turn_list a _, ⟨_, Heap.get?_push_size _ rfl, rfl, rfl⟩, fun b hb => ?_, q⟩
    have e : b = s1.heap.objs.size := by simpa using hb
    subst e
    exact I1.fpOk (Nat.le_refl _) (I1.hok.fresh (Nat.le_refl _))
  · obtain ⟨its, rv, p, hz⟩ := I1.tuple hq
    refine wpAny_pyIter_tuple (show s1.heap.IsTuple a its.toArray from p) ?_
    refine ⟨s1.heap.objs.size, [s1.heap.objs.size], _, _, H1, rfl, I1.kept (t' := s1.toks) fun b o e => Heap.get?_push_of_some _ e, turn_tuple a _, ⟨_, Heap.get?_push_size _ rfl, rfl, rfl⟩, fun b hb => ?_, q⟩
    have e : b = s1.heap.objs.size := by simpa using hb
    subst e
    exact I1.fpOk (Nat.le_refl _) (I1.hok.fresh (Nat.le_refl _))
theorem di_seq {tg l : Expr} (hl : PE X l (up X.K m te)) : PI X tg l (upI X.K m (diSeq te)) := PI.imp (pi_seq hl) fun σ H R h => by
  obtain ⟨F, ρ, s, Qd, r, ht, hQ⟩ := h
  refine ⟨F, ρ, s, _, r, ht, fun d ρ1 s1 v F1 H1 ⟨ds, e, q1⟩ r1 st1 rv => ?_⟩
  cases d with
  | lst es =>
    cases e
    obtain ⟨a, vs, rfl, h1, _, rs⟩ := rv
    exact ⟨a, rfl, .inl ⟨⟨vs, .inl (.inl (r1.sub _ _ h1))⟩, hQ _ ρ1 s1 _ F1 H1 q1 r1 st1 (walks_list (.inl (.inl h1)) rs)⟩⟩
  | tup es =>
    cases e
    obtain ⟨a, vs, rfl, h1, _, rs⟩ := rv
    exact ⟨a, rfl, .inr ⟨⟨vs, Same.seqT r1.sub h1⟩, hQ _ ρ1 s1 _ F1 H1 q1 r1 st1 (walks_tup h1 rs)⟩⟩
  | fz es =>
    cases e
    obtain ⟨a, vs, rfl, h1, _, rs⟩ := rv
    exact ⟨a, rfl, .inl ⟨⟨vs, Same.seq r1.sub h1⟩, hQ _ ρ1 s1 _ F1 H1 q1 r1 st1 (walks_list h1 rs)⟩⟩
  | _ => cases e
/-- lo, lo + 1, .. -/
def rngD (lo : Int) (n : Nat) : List D := (List.range n).map fun (i : Nat) => D.int (lo + (i : Int))
theorem rngD_length (lo : Int) (n : Nat) : (rngD lo n).length = n := by simp [rngD]
theorem walks_rng {K : PySem.W.Frag} {F : Hp} (lo : Int) (n : Nat) : Walks K F (Itr lo n) (rngD lo n) := fun F' H' s1 s2 => by
  refine ⟨fun i hi => by rw [rngD_length] at hi; exact hi, fun i d e => ?_⟩
  have hi : i < n := by
    have := (List.getElem?_eq_some_iff.mp e).1
    rw [rngD_length] at this; exact this
  refine ⟨hi, fun x H2 y => ?_⟩
  obtain ⟨e1, e2⟩ := y
  subst e1 e2
  refine ⟨F', Grow.refl s2, ?_⟩
  have e' : d = D.int (lo + (i : Int)) := by
    unfold rngD at e
    rw [List.getElem?_map, List.getElem?_range hi] at e
    exact (Option.some.inj e).symm
  subst e'
  rfl
def diR1 {m : Mem} (ta : DTA m) : DTI m := fun ρ s Q => ta ρ s fun ds ρ1 s1 => ∃ j : Int, ds = [.int j] ∧ -(2 ^ 62) ≤ j ∧ j < 2 ^ 62 ∧ Q (rngD 0 j.toNat) ρ1 s1
def diR2 {m : Mem} (ta : DTA m) : DTI m := fun ρ s Q => ta ρ s fun ds ρ1 s1 => ∃ i j : Int, ds = [.int i, .int j] ∧ (-(2 ^ 62) ≤ i ∧ i < 2 ^ 62 ∧ -(2 ^ 62) ≤ j ∧ j < 2 ^ 62) ∧ Q (rngD i (j - i).toNat) ρ1 s1
theorem di_range1 {tg a : Expr} {ta : DTA m} {p pos : Pos} (hg : Gl X "range") (hm : X.mg "range" = none) (ha : PA X [a] (upA X.K m ta)) (hs : starEach [a] X.env = [(false, eval a X.env)] := by rfl) : PI X tg (.Call (.Name "range" p) [a] [] pos) (upI X.K m (diR1 ta)) :=
  PI.imp (pi_range1 hg hm ha hs) fun σ H R h => by
    obtain ⟨F, ρ, s, Qd, r, ht, hQ⟩ := h
    refine ⟨F, ρ, s, _, r, ht, fun ds ρ1 s1 vs F1 H1 ⟨j, e, h1, h2, q1⟩ r1 st1 rs => ?_⟩
    subst e
    have e2 := reps_ints (ns := [j]) rs
    exact ⟨j, e2, h1, h2, hQ _ ρ1 s1 _ F1 H1 q1 r1 st1 (walks_rng 0 j.toNat)⟩
theorem di_range2 {tg a b : Expr} {ta : DTA m} {p pos : Pos} (hg : Gl X "range") (hm : X.mg "range" = none) (ha : PA X [a, b] (upA X.K m ta)) (hs : starEach [a, b] X.env = [(false, eval a X.env), (false, eval b X.env)] := by rfl) (hs2 : starEach [b] X.env = [(false, eval b X.env)] := by rfl) :
    PI X tg (.Call (.Name "range" p) [a, b] [] pos) (upI X.K m (diR2 ta)) :=
  PI.imp (pi_range2 hg hm ha hs hs2) fun σ H R h => by
    obtain ⟨F, ρ, s, Qd, r, ht, hQ⟩ := h
    refine ⟨F, ρ, s, _, r, ht, fun ds ρ1 s1 vs F1 H1 ⟨i, j, e, h1, q1⟩ r1 st1 rs => ?_⟩
    subst e
    have e2 := reps_ints (ns := [i, j]) rs
    exact ⟨i, j, e2, h1, hQ _ ρ1 s1 _ F1 H1 q1 r1 st1 (walks_rng i (j - i).toNat)⟩
/-- a text, sign by sign -/
def chD (x : Str) : List D := x.cps.toList.map fun c => D.str ⟨#[c]⟩
def diStr {m : Mem} (te : DT m) : DTI m := fun ρ s Q => te ρ s fun d ρ1 s1 => ∃ x, d = .str x ∧ Q (chD x) ρ1 s1
theorem walks_str {K : PySem.W.Frag} {F : Hp} (x : Str) (hx : ∀ c ∈ x.cps.toList, c < 0x110000) : Walks K F (Its x) (chD x) := fun F' H' s1 s2 => by
  have hl : (chD x).length = x.cps.size := by simp [chD]
  refine ⟨fun i hi => by rw [hl] at hi; exact hi, fun i d e => ?_⟩
  have hi : i < x.cps.size := by
    have := (List.getElem?_eq_some_iff.mp e).1
    rw [hl] at this; exact this
  refine ⟨hi, fun y H2 q => ?_⟩
  obtain ⟨e1, c, e2, e3⟩ := q
  subst e1 e3
  refine ⟨F', Grow.refl s2, ?_⟩
  have e' : d = D.str ⟨#[c]⟩ := by
    unfold chD at e
    rw [List.getElem?_map, Array.getElem?_toList, e2] at e
    exact (Option.some.inj e).symm
  subst e'
  refine ⟨rfl, sOk_of (by show 1 ≤ strLim; decide) fun c' hc' => ?_⟩
  have hc2 : c' = c := by simpa using hc'
  subst hc2
  exact hx c' (by rw [← Array.getElem?_toList] at e2; exact List.mem_of_getElem? e2)
theorem di_str {tg l : Expr} (hl : PE X l (up X.K m te)) : PI X tg l (upI X.K m (diStr te)) := PI.imp (pi_str hl) fun σ H R h => by
  obtain ⟨F, ρ, s, Qd, r, ht, hQ⟩ := h
  refine ⟨F, ρ, s, _, r, ht, fun d ρ1 s1 v F1 H1 ⟨x, e, q1⟩ r1 st1 rv => ?_⟩
  subst e
  obtain ⟨rfl, hx⟩ := rv
  exact ⟨x, rfl, hQ _ ρ1 s1 _ F1 H1 q1 r1 st1 (walks_str x (sOk_cps hx))⟩
/-- for target in a walked thing: I says what holds when some are done -/
def dFor {m : Mem} (src : DTI m) (g : DG) (tb : DTS m) : DTS m := fun dd ρ s => src ρ s fun ds ρ1 s1 => ∃ I : List D → List Sl → m.S → Prop, I [] ρ1 s1 ∧
  (∀ pre x post ρ s, ds = pre ++ x :: post → I pre ρ s → g x ρ fun ρ2 => tb { dd with nx := I (pre ++ [x]), ct := I (pre ++ [x]), bk := dd.nx } ρ2 s) ∧ (∀ ρ s, I ds ρ s → dd.nx ρ s)
theorem for_core {K : PySem.W.Frag} {g : DG} {ts : List Nat} {tb : DTS m} {DD : Ends} {dd : DEnds m} {J : It} {σ : L2.St} {F0 F H : Hp} {ρ : List Sl} {s : m.S} {ds : List D} (r : Rel K m F H σ ρ s) (o : Own m E F H σ ρ s) (f : Fits K m E F0 dd DD) (h0 : Same F0 F) (hJ : Walks K F J ds)
    {I : List D → List Sl → m.S → Prop} (i0 : I [] ρ s) (turn : ∀ pre x post ρ s, ds = pre ++ x :: post → I pre ρ s → g x ρ fun ρ2 => tb { dd with nx := I (pre ++ [x]), ct := I (pre ++ [x]), bk := dd.nx } ρ2 s) (done : ∀ ρ s, I ds ρ s → dd.nx ρ s) :
    ∃ W : Nat → Nat → L2.St → Hp → Prop, (∃ m, W 0 m σ H) ∧ ∀ i n σ H, W i n σ H →
      (J.stop i H ∧ DD.nx σ H) ∨ (J.go i H ∧ ∃ N : L2.St → Hp → Prop, (∀ σ' H', N σ' H' → ∃ m', m' < n ∧ W (i + 1) m' σ' H') ∧ ∀ x H', J.yld i H x H' → upG K m ts g x σ H' fun σ2 H2 => upS K m E tb { DD with nx := N, ct := N, bk := DD.nx } σ2 H2) := by
  refine ⟨fun i n σ H => n = ds.length - i ∧ i ≤ ds.length ∧ ∃ F' ρ' s', Same F F' ∧ Rel K m F' H σ ρ' s' ∧ Own m E F' H σ ρ' s' ∧ I (ds.take i) ρ' s', ⟨ds.length, by simp, Nat.zero_le _, F, ρ, s, Same.refl F, r, o, by simpa using i0⟩, ?_⟩
  rintro i n σ1 H1 ⟨rfl, hi, F1, ρ1, s1, sm, r1, o1, hI⟩
  obtain ⟨hstop, hgo⟩ := hJ F1 H1 sm r1.sub
  by_cases hlt : i < ds.length
  · obtain ⟨h1, h2⟩ := hgo i _ (List.getElem?_eq_getElem hlt)
    refine .inr ⟨h1, fun σ' H' => ∃ F' ρ' s', Same F F' ∧ Rel K m F' H' σ' ρ' s' ∧ Own m E F' H' σ' ρ' s' ∧ I (ds.take (i + 1)) ρ' s', fun σ' H' ⟨F', ρ', s', q1, q2, q3, q4⟩ => ⟨ds.length - (i + 1), by omega, rfl, hlt, F', ρ', s', q1, q2, q3, q4⟩, fun x H' y => ?_⟩
    obtain ⟨F2, g2, rv⟩ := h2 x H' y
    have hsplit : ds = ds.take i ++ ds[i] :: ds.drop (i + 1) := by
      rw [List.getElem_cons_drop, List.take_append_drop]
    have etake : ds.take (i + 1) = ds.take i ++ [ds[i]] := List.take_succ_eq_append_getElem hlt
    have o2 := o1.stp (g2.stp (m := m) (s := s1) (ρ := ρ1) (σ := σ1))
    refine ⟨F2, ρ1, s1, ds[i], _, r1.grow g2, rv, turn _ _ _ _ _ hsplit hI, fun σ2 ρ2 q2 r2 o3 _ => ⟨F2, ρ2, s1, _, r2, o2.tgt o3, q2, ?_⟩⟩
    have fit : ∀ F' H' σ' ρ' s', Same F2 F' → Rel K m F' H' σ' ρ' s' → Own m E F' H' σ' ρ' s' → I (ds.take i ++ [ds[i]]) ρ' s' → ∃ F'' ρ'' s'', Same F F'' ∧ Rel K m F'' H' σ' ρ'' s'' ∧ Own m E F'' H' σ' ρ'' s'' ∧ I (ds.take (i + 1)) ρ'' s'' :=
      fun F' H' σ' ρ' s' a b c d => ⟨F', ρ', s', (sm.trans g2.fF).trans a, b, c, by rw [etake]; exact d⟩
    have f1 := f.mono ((h0.trans sm).trans g2.fF)
    exact ⟨fit, f1.rt, f1.nx, fit⟩
  · have e : i = ds.length := by omega
    subst e
    rw [List.take_length] at hI
    exact .inl ⟨hstop _ (Nat.le_refl _), f.nx F1 H1 σ1 ρ1 s1 (h0.trans sm) r1 o1 (done _ _ hI)⟩
theorem ds_for {tg iter : Expr} {body : List Stmt} {src : DTI m} {g : DG} {ts : List Nat} {tb : DTS m} (hc : X.calm = true) (hi : PI X tg iter (upI X.K m src)) (hg : PG X tg (upG X.K m ts g)) (hb : PSs X body (upS X.K m E tb)) (hp : PassesOwn (model X.prog X.w) X.A X.env X.xe := by exact PassesOwn.never)
    (hs : ∀ x, foldedSetIterable iter X.env x = pure x := by intro _; rfl) : PS X (.For tg iter body [] pos) (upS X.K m E (dFor src g tb)) := PS.imp (ps_for hp hc hi hg hb hs) fun DD σ H h => by
  obtain ⟨F, ρ, s, dd, r, o, ht, f⟩ := h
  exact ⟨F, ρ, s, _, r, ht, fun ds ρ1 s1 J F1 H1 ⟨I, i0, turn, done⟩ r1 st1 w => for_core r1 (o.stp st1) f st1.ext w i0 turn done⟩
/-- while: I by a number that falls -/
def dWhile {m : Mem} (c : DTT m) (tb : DTS m) : DTS m := fun dd ρ s => ∃ I : Nat → List Sl → m.S → Prop, (∃ n, I n ρ s) ∧ ∀ n ρ s, I n ρ s → c ρ s fun b ρ1 s1 => ifB b (tb { dd with nx := fun ρ' s' => ∃ n', n' < n ∧ I n' ρ' s', ct := fun ρ' s' => ∃ n', n' < n ∧ I n' ρ' s', bk := dd.nx } ρ1 s1) (dd.nx ρ1 s1)
theorem ds_while {c : Expr} {body : List Stmt} {tc : DTT m} {tb : DTS m} (hc : PT X c (upT X.K m tc)) (hb : PSs X body (upS X.K m E tb)) (hp : PassesOwn (model X.prog X.w) X.A X.env X.xe := by exact PassesOwn.never) : PS X (.While c body [] pos) (upS X.K m E (dWhile tc tb)) := PS.imp (ps_while hp hc hb) fun DD σ H h => by
  obtain ⟨F, ρ, s, dd, r, o, ⟨I, ⟨n0, i0⟩, turn⟩, f⟩ := h
  refine ⟨fun n σ H => ∃ F' ρ' s', Same F F' ∧ Rel X.K m F' H σ ρ' s' ∧ Own m E F' H σ ρ' s' ∧ I n ρ' s', ⟨n0, F, ρ, s, Same.refl F, r, o, i0⟩, ?_⟩
  rintro n σ1 H1 ⟨F1, ρ1, s1, sm, r1, o1, hI⟩
  refine ⟨F1, ρ1, s1, _, r1, turn n ρ1 s1 hI, fun b ρ2 s2 F2 H2 q2 r2 st2 => ?_⟩
  have f2 := f.mono (sm.trans st2.ext)
  cases b with
  | false => exact f2.nx F2 H2 σ1 ρ2 s2 (Same.refl _) r2 (o1.stp st2) (ifB_f q2)
  | true =>
    have q2 := ifB_t q2
    refine ⟨fun σ' H' => ∃ n', n' < n ∧ ∃ F' ρ' s', Same F F' ∧ Rel X.K m F' H' σ' ρ' s' ∧ Own m E F' H' σ' ρ' s' ∧ I n' ρ' s', fun σ' H' q => q, F2, ρ2, s2, _, r2, o1.stp st2, q2, ?_⟩
    have fit : ∀ F' H' σ' ρ' s', Same F2 F' → Rel X.K m F' H' σ' ρ' s' → Own m E F' H' σ' ρ' s' → (∃ n', n' < n ∧ I n' ρ' s') → ∃ n', n' < n ∧ ∃ F'' ρ'' s'', Same F F'' ∧ Rel X.K m F'' H' σ' ρ'' s'' ∧ Own m E F'' H' σ' ρ'' s'' ∧ I n' ρ'' s'' :=
      fun F' H' σ' ρ' s' a b c ⟨n', h1, h2⟩ => ⟨n', h1, F', ρ', s', (sm.trans st2.ext).trans a, b, c, h2⟩
    exact ⟨fit, f2.rt, f2.nx, fit⟩
end
end DL

set_option Elab.async false
set_option linter.all false
set_option maxRecDepth 100000
namespace DL
open PySem PySem.Spec PyProof.Rows L2

/-! ### comprehensions -/
section
variable {X : Cx} {m : Mem}
/-- from an inner state (the same heaps, other slots) the outer one is carried along -/
theorem Rel.carry {K : PySem.W.Frag} {F H F' H' : Hp} {σ σ2 : L2.St} {ρ ρ2 : List Sl} {s s' : m.S} (r : Rel K m F H σ ρ s) (st : Stp m F H σ2 ρ2 s F' H' ρ2 s') (r2 : Rel K m F' H' σ2 ρ2 s') : Rel K m F' H' σ ρ s' where
  sub := r2.sub
  mem := r2.mem
  reg := r2.reg
  len := r.len
  sh := fun i d e => by
    obtain ⟨v, h1, h2⟩ := r.sh i d e
    exact ⟨v, h1, Rep.mono st.ext _ _ h2⟩
  ow := fun i o e => by
    obtain ⟨p, ho, h1, h2, h3, h4, h5⟩ := r.own_at e
    exact ⟨p, ho, h1, st.keep p ho h2 h5, h3.mono st.ext⟩
  owF := fun i p h => by
    obtain ⟨⟨o, e⟩, hσ⟩ := id h
    obtain ⟨p', ho, h1, h2, h3, h4, h5⟩ := r.own_at e
    rw [hσ] at h1; cases h1
    refine ⟨?_, fun z => ?_⟩
    · cases q : F' p with
      | none => rfl
      | some u =>
        rcases st.fresh p u q with z | z | ⟨j, z⟩
        · rw [h4] at z; cases z
        · rw [z] at h2; cases h2
        · rw [(r2.owF j p z).1] at q; cases q
    · rcases st.regf p z with z | z
      · exact h5 z
      · rw [z] at h2; cases h2
  uq := r.uq
/-- an object that is known to nobody stays so -/
theorem Stp.hid {F H F' H' : Hp} {K : PySem.W.Frag} {σ2 : L2.St} {ρ2 : List Sl} {s s' : m.S} (st : Stp m F H σ2 ρ2 s F' H' ρ2 s') (r2 : Rel K m F' H' σ2 ρ2 s') {p : Addr} {ho : HO} (h : H p = some ho) (n : F p = none) (nr : ¬ m.R s p) : H' p = some ho ∧ F' p = none ∧ ¬ m.R s' p := by
  refine ⟨st.keep p ho h nr, ?_, fun z => ?_⟩
  · cases q : F' p with
    | none => rfl
    | some u =>
      rcases st.fresh p u q with z | z | ⟨j, z⟩
      · rw [n] at z; cases z
      · rw [z] at h; cases h
      · rw [(r2.owF j p z).1] at q; cases q
  · rcases st.regf p z with z | z
    · exact nr z
    · rw [z] at h; cases h
/-- the block's own names forgotten -/
def wipeD (ρ : List Sl) : List Nat → List Sl
  | [] => ρ
  | v :: vs => (wipeD ρ vs).set v .no
theorem wipeD_length (ρ : List Sl) : ∀ vs : List Nat, (wipeD ρ vs).length = ρ.length
  | [] => rfl
  | v :: vs => by unfold wipeD; rw [List.length_set, wipeD_length ρ vs]
theorem wipeD_some {ρ : List Sl} {i : Nat} {x : Sl} (hx : x ≠ .no) : ∀ {vs : List Nat}, (wipeD ρ vs)[i]? = some x → ρ[i]? = some x ∧ i ∉ vs
  | [], h => ⟨h, by simp⟩
  | v :: vs, h => by
    unfold wipeD at h
    by_cases hi : v = i
    · subst hi
      by_cases hv : v < (wipeD ρ vs).length
      · rw [List.getElem?_set_self hv] at h
        exact absurd (Option.some.inj h).symm hx
      · rw [List.getElem?_eq_none (by simpa using hv)] at h; cases h
    · rw [List.getElem?_set_ne hi] at h
      obtain ⟨h1, h2⟩ := wipeD_some hx h
      exact ⟨h1, by simp only [List.mem_cons, not_or]; exact ⟨fun e => hi e.symm, h2⟩⟩
theorem wipe_get {σ : L2.St} {i : Nat} : ∀ {vs : List Nat}, i ∉ vs → (wipe σ vs)[i]? = σ[i]?
  | [], _ => rfl
  | v :: vs, h => by
    have h1 : v ≠ i := fun e => h (by rw [e]; exact List.mem_cons_self)
    have h2 : i ∉ vs := fun m => h (List.mem_cons_of_mem _ m)
    unfold wipe
    rw [List.getElem?_set_ne h1]
    exact wipe_get h2
theorem wipe_in {σ : L2.St} {i : Nat} : ∀ {vs : List Nat}, i ∈ vs → i < σ.length → (wipe σ vs)[i]? = some none
  | [], h, _ => by cases h
  | v :: vs, h, hi => by
    unfold wipe
    by_cases e : v = i
    · subst e
      exact List.getElem?_set_self (by rw [wipe_length]; exact hi)
    · rw [List.getElem?_set_ne e]
      exact wipe_in ((List.mem_cons.mp h).resolve_left (Ne.symm e)) hi
theorem wipe_eq {σ σ' : L2.St} {vs ts : List Nat} (hl : σ'.length = σ.length) (h : ∀ j, j ∉ ts → σ'[j]? = σ[j]?) (hs : ∀ j ∈ ts, j ∈ vs) : wipe σ' vs = wipe σ vs := by
  refine List.ext_getElem? fun i => ?_
  by_cases hi : i ∈ vs
  · by_cases hlt : i < σ.length
    · rw [wipe_in hi (by omega), wipe_in hi hlt]
    · rw [List.getElem?_eq_none (by rw [wipe_length]; omega), List.getElem?_eq_none (by rw [wipe_length]; omega)]
  · rw [wipe_get hi, wipe_get hi]
    exact h i fun z => hi (hs i z)
theorem Rel.wipe {K : PySem.W.Frag} {F H : Hp} {σ : L2.St} {ρ : List Sl} {s : m.S} (r : Rel K m F H σ ρ s) (vs : List Nat) : Rel K m F H (L2.wipe σ vs) (wipeD ρ vs) s := by
  have back : ∀ i p, Owns (L2.wipe σ vs) (wipeD ρ vs) i p → Owns σ ρ i p := fun i p ⟨⟨o, h1⟩, h2⟩ => by
    obtain ⟨e1, n⟩ := wipeD_some (by intro z; cases z) h1
    rw [wipe_get n] at h2
    exact ⟨⟨o, e1⟩, h2⟩
  refine ⟨r.sub, r.mem, r.reg, by rw [wipe_length, wipeD_length]; exact r.len, fun i d e => ?_, fun i o e => ?_, fun i p h => r.owF i p (back i p h), fun i j p h1 h2 => r.uq i j p (back i p h1) (back j p h2)⟩
  · obtain ⟨e1, n⟩ := wipeD_some (by intro z; cases z) e
    obtain ⟨v, h1, h2⟩ := r.sh i d e1
    exact ⟨v, by rw [wipe_get n]; exact h1, h2⟩
  · obtain ⟨e1, n⟩ := wipeD_some (by intro z; cases z) e
    obtain ⟨p, ho, h1, h2, h3⟩ := r.ow i o e1
    exact ⟨p, ho, by rw [wipe_get n]; exact h1, h2, h3⟩

theorem wipe_wipe {σ : L2.St} {vs : List Nat} : wipe (wipe σ vs) vs = wipe σ vs := by
  refine List.ext_getElem? fun i => ?_
  by_cases hi : i ∈ vs
  · by_cases hlt : i < σ.length
    · rw [wipe_in hi (by rw [wipe_length]; exact hlt), wipe_in hi hlt]
    · rw [List.getElem?_eq_none (by rw [wipe_length, wipe_length]; omega), List.getElem?_eq_none (by rw [wipe_length]; omega)]
  · rw [wipe_get hi]
/-- an inner step is one for the outer slots, too -/
theorem Stp.outer {K : PySem.W.Frag} {F H F' H' : Hp} {σ σ2 : L2.St} {ρ ρ2 : List Sl} {s s' : m.S} (st : Stp m F H σ2 ρ2 s F' H' ρ2 s') (r2 : Rel K m F' H' σ2 ρ2 s') : Stp m F H σ ρ s F' H' ρ s' :=
  ⟨st.ext, st.keep, st.alive, fun a o h => by
    rcases st.fresh a o h with z | z | ⟨j, z⟩
    · exact .inl z
    · exact .inr (.inl z)
    · have z' := (r2.owF j a z).1
      rw [h] at z'
      exact absurd z' (by simp), st.regf, fun _ _ h => h⟩
/-- a hidden object is written -/
theorem Rel.hidW {K : PySem.W.Frag} {F H : Hp} {σ : L2.St} {ρ : List Sl} {s : m.S} (r : Rel K m F H σ ρ s) {p : Addr} {ho : HO} (n : F p = none) (nr : ¬ m.R s p) (no : ∀ i, ¬ Owns σ ρ i p) : Rel K m F (upd H p ho) σ ρ s := by
  refine ⟨fun b x e => ?_, m.loc s H _ r.mem fun a ha => upd_ne fun z => nr (z ▸ ha), r.reg, r.len, r.sh, fun i o e => ?_, r.owF, r.uq⟩
  · rw [upd_ne (ne_of_none e n)]; exact r.sub _ _ e
  · obtain ⟨q, ho', h1, h2, h3⟩ := r.ow i o e
    have hq : q ≠ p := fun z => no i (z ▸ ⟨⟨o, e⟩, h1⟩)
    exact ⟨q, ho', h1, by rw [upd_ne hq]; exact h2, h3⟩
theorem Stp.hidW {F H F' H' : Hp} {σ : L2.St} {ρ ρ' : List Sl} {s s' : m.S} (st : Stp m F H σ ρ s F' H' ρ' s') {p : Addr} {ho : HO} (n : H p = none) : Stp m F H σ ρ s F' (upd H' p ho) ρ' s' :=
  ⟨st.ext, fun a o h nr => by rw [upd_ne (ne_of_none h n)]; exact st.keep a o h nr, fun a h => by
    by_cases e : a = p
    · subst e; rw [upd_same]; simp
    · rw [upd_ne e]; exact st.alive a h, st.fresh, st.regf, st.shr⟩

abbrev dYes {m : Mem} : DTT m := fun ρ s Q => Q true ρ s
theorem PTs.imp {ifs : List Expr} {t t' : TT} (h : PTs X ifs t) (w : ∀ σ H Q, t' σ H Q → t σ H Q) : PTs X ifs t' := ⟨fun pins s σ H Q I q => h.run pins s σ H Q I (w σ H Q q)⟩
theorem dts_nil : PTs X [] (upT X.K m dYes) := PTs.imp pts_nil fun σ H Q h => by
  obtain ⟨F, ρ, s, Qd, r, ht, hQ⟩ := h
  exact hQ true ρ s F H ht r Stp.refl
theorem dts_one {c : Expr} {t : DTT m} (h : PT X c (upT X.K m t)) : PTs X [c] (upT X.K m t) := pts_one h
/-- [e for target in source if test]: I says what list has been made of those that are done -/
def dLc {m : Mem} (src : DTI m) (g : DG) (tt : DTT m) (te : DT m) (vs : List Nat) : DT m := fun ρ s Q => src ρ s fun ds ρ1 s1 => ds.length ≤ sizeLine ∧ ∃ I : List D → List D → m.S → Prop, I [] [] s1 ∧
  (∀ pre x post acc s, ds = pre ++ x :: post → acc.length ≤ pre.length → I pre acc s → g x (wipeD ρ1 vs) fun ρ2 => tt ρ2 s fun b ρ3 s3 => ρ3 = ρ2 ∧ ifB b (te ρ2 s3 fun y ρ4 s4 => ρ4 = ρ2 ∧ I (pre ++ [x]) (acc ++ [y]) s4) (I (pre ++ [x]) acc s3)) ∧
  (∀ acc s, acc.length ≤ ds.length → I ds acc s → Q (.lst acc) ρ1 s)
theorem up_lc {K : PySem.W.Frag} {src : DTI m} {g : DG} {tt : DTT m} {te : DT m} {vs ts : List Nat} (hts : ∀ j ∈ ts, j ∈ vs) {σ : L2.St} {H : Hp} {Q : VK} {Qd : DK m} {F : Hp} {ρ : List Sl} {s : m.S} (r : Rel K m F H σ ρ s) (ht : dLc src g tt te vs ρ s Qd)
    (hQ : ∀ ds ρ' s' p ws F' H', Qd (.lst ds) ρ' s' → Rel K m F' H' σ ρ' s' → Stp m F H σ ρ s F' H' ρ' s' → H' p = some (.lst ws) → F' p = none → ¬ m.R s' p → (∀ i, ¬ Owns σ ρ' i p) → H p = none → ws.length ≤ sizeLine → Reps K F' ds ws → Q (.ref p) H') :
    tLc (upI K m src) (upG K m ts g) (upT K m tt) (up K m te) vs σ H Q := by
  refine ⟨F, ρ, s, _, r, ht, fun ds ρ1 s1 J F1 H1 ⟨hz, I, i0, turn, done⟩ r1 st1 w D nD => ?_⟩
  have nF : F1 D = none := r1.sub.free nD
  have nR : ¬ m.R s1 D := fun z => m.there s1 H1 D r1.mem z nD
  have nO : ∀ i, ¬ Owns σ ρ1 i D := fun i ⟨⟨o, e⟩, hσ⟩ => by
    obtain ⟨p, ho, h1, h2, _⟩ := r1.own_at e
    rw [hσ] at h1; cases h1
    rw [nD] at h2; cases h2
  have nD0 : H D = none := by
    cases q : H D with
    | none => rfl
    | some u => exact absurd nD (st1.alive D (by rw [q]; simp))
  -- the start: the new list at D
  have r0 : Rel K m F1 (upd H1 D (.lst [])) σ ρ1 s1 := by
    refine ⟨fun b x e => ?_, m.loc s1 H1 _ r1.mem fun a ha => upd_ne fun z => nR (z ▸ ha), r1.reg, r1.len, r1.sh, fun i o e => ?_, r1.owF, r1.uq⟩
    · rw [upd_ne (ne_of_none e nF)]; exact r1.sub _ _ e
    · obtain ⟨p, ho, h1, h2, h3⟩ := r1.ow i o e
      exact ⟨p, ho, h1, by rw [upd_ne (ne_of_none h2 nD)]; exact h2, h3⟩
  have st0 : Stp m F H σ ρ s F1 (upd H1 D (.lst [])) ρ1 s1 :=
    ⟨st1.ext, fun a o h n => by rw [upd_ne (ne_of_none h nD0)]; exact st1.keep a o h n, fun a h => by
      by_cases e : a = D
      · subst e; rw [upd_same]; simp
      · rw [upd_ne e]; exact st1.alive a h, st1.fresh, st1.regf, st1.shr⟩
  refine ⟨fun i n H2 => n = ds.length - i ∧ i ≤ ds.length ∧ ∃ F2 s2 acc ws, Rel K m F2 H2 σ ρ1 s2 ∧ Stp m F H σ ρ s F2 H2 ρ1 s2 ∧ Same F1 F2 ∧ H2 D = some (.lst ws) ∧ F2 D = none ∧ ¬ m.R s2 D ∧ Reps K F2 acc ws ∧ acc.length ≤ i ∧ I (ds.take i) acc s2,
    ⟨ds.length, by simp, Nat.zero_le _, F1, s1, [], [], r0, st0, Same.refl _, upd_same, nF, nR, .nil, Nat.le_refl _, by simpa using i0⟩, ?_⟩
  rintro i n H2 ⟨rfl, hi, F2, s2, acc, ws, r2, st2, sm, hD, nF2, nR2, rs, hacc, hI⟩
  obtain ⟨hstop, hgo⟩ := w F2 H2 sm r2.sub
  by_cases hlt : i < ds.length
  · obtain ⟨h1, h2⟩ := hgo i _ (List.getElem?_eq_getElem hlt)
    have hsplit : ds = ds.take i ++ ds[i] :: ds.drop (i + 1) := by
      rw [List.getElem_cons_drop, List.take_append_drop]
    have etake : ds.take (i + 1) = ds.take i ++ [ds[i]] := List.take_succ_eq_append_getElem hlt
    refine .inr ⟨h1, fun H' => ∃ F' s' acc' ws', Rel K m F' H' σ ρ1 s' ∧ Stp m F H σ ρ s F' H' ρ1 s' ∧ Same F1 F' ∧ H' D = some (.lst ws') ∧ F' D = none ∧ ¬ m.R s' D ∧ Reps K F' acc' ws' ∧ acc'.length ≤ i + 1 ∧ I (ds.take (i + 1)) acc' s',
      fun H' ⟨F', s', acc', ws', q⟩ => ⟨ds.length - (i + 1), by omega, rfl, hlt, F', s', acc', ws', q⟩, fun x H3 y => ?_⟩
    obtain ⟨F3, g3, rv⟩ := h2 x H3 y
    have r3 := r2.grow g3
    have hD3 : H3 D = some (.lst ws) := g3.hH _ _ hD
    have nF3 : F3 D = none := by
      cases q : F3 D with
      | none => rfl
      | some u =>
        rcases g3.fresh D u q with z | z
        · rw [nF2] at z; cases z
        · rw [z] at hD; cases hD
    have st3 := st2.trans (g3.stp (m := m) (s := s2) (ρ := ρ1) (σ := σ))
    have htk : (ds.take i).length = i := by rw [List.length_take]; omega
    refine ⟨F3, wipeD ρ1 vs, s2, ds[i], _, r3.wipe vs, rv, turn _ _ _ acc _ hsplit (by omega) hI, fun σ2 ρ2 q2 r4 o4 k4 => ⟨(wipe_eq k4.1 k4.2 hts).trans wipe_wipe, ?_⟩⟩
    refine ⟨F3, ρ2, s2, _, r4, q2, fun b ρ3 s3 F4 H4 ⟨e, q3⟩ r5 st5 => ?_⟩
    subst e
    obtain ⟨hD4, nF4, nR4⟩ := st5.hid r5 hD3 nF3 nR2
    have r6 := r3.carry st5 r5
    have st6 := st3.trans (st5.outer (σ := σ) (ρ := ρ1) r5)
    have sm4 : Same F1 F4 := (sm.trans g3.fF).trans st5.ext
    have rs4 := Reps.mono (g3.fF.trans st5.ext) _ _ rs
    have hlw := rs.length
    cases b with
    | false =>
      have q3 := ifB_f q3
      exact iteF ⟨F4, s3, acc, ws, r6, st6, sm4, hD4, nF4, nR4, rs4, by omega, by rw [etake]; exact q3⟩
    | true =>
      have q3 := ifB_t q3
      refine iteT ⟨F4, ρ3, s3, _, r5, q3, fun y ρ4 s4 v F5 H5 ⟨e, q4⟩ r7 st7 rvy => ?_⟩
      subst e
      obtain ⟨hD5, nF5, nR5⟩ := st7.hid r7 hD4 nF4 nR4
      have r8 := r6.carry st7 r7
      have st8 := st6.trans (st7.outer (σ := σ) (ρ := ρ1) r7)
      refine ⟨ws, hD5, by omega, F5, s4, acc ++ [y], ws ++ [v], r8.hidW nF5 nR5 nO, st8.hidW nD0, sm4.trans st7.ext, upd_same, nF5, nR5, (Reps.mono st7.ext _ _ rs4).append (.one rvy), by rw [List.length_append]; simp; omega, by rw [etake]; exact q4⟩
  · have e : i = ds.length := by omega
    subst e
    rw [List.take_length] at hI
    exact .inl ⟨hstop _ (Nat.le_refl _), hQ acc ρ1 s2 D ws F2 H2 (done acc s2 (by omega) hI) r2 st2 hD nF2 nR2 nO nD0 (by rw [rs.length]; omega) rs⟩
theorem de_lc {elt tg iter : Expr} {ifs : List Expr} {scope : Scope} {own : List (Str × Nat)} {pos : Pos} {src : DTI m} {g : DG} {ts : List Nat} {tt : DTT m} {te : DT m} (hN : X.N.Nodup) (hi : PI X tg iter (upI X.K m src)) (ok : BlkOk X.N X.env.scope scope own)
    (hg : ∀ (s : Shared) (H : Hp) (C : Addr) (cl : List (Str × Addr)) (fp : List Addr), PG (X.blk s H scope (compEnvC scope cl C X.env) fp) tg (upG X.K m ts g)) (ht : ∀ (s : Shared) (H : Hp) (C : Addr) (cl : List (Str × Addr)) (fp : List Addr), PTs (X.blk s H scope (compEnvC scope cl C X.env) fp) ifs (upT X.K m tt))
    (he : ∀ (s : Shared) (H : Hp) (C : Addr) (cl : List (Str × Addr)) (fp : List Addr), PE (X.blk s H scope (compEnvC scope cl C X.env) fp) elt (up X.K m te)) (hts : ∀ j ∈ ts, j ∈ own.map (·.2) := by decide) (hc : X.calm = true := by rfl) (hs : ∀ x, foldedSetIterable iter X.env x = pure x := by intro _; rfl) :
    PE X (.ListComp elt [⟨tg, iter, ifs, 0⟩] scope pos) (up X.K m (dLc src g tt te (own.map (·.2)))) := PE.imp (pe_lc hc hN hi ok hg ht he hs) fun σ H Q h => by
  obtain ⟨F, ρ, s, Qd, r, h, hQ⟩ := h
  refine up_lc hts r h fun ds ρ' s' p ws F' H' q r' st hp nF nR nO nH hz rs => ?_
  have sm : Same F' (upd F' p (.lst ws)) := same_upd nF
  refine hQ _ ρ' s' _ (upd F' p (.lst ws)) H' q (r'.adopt hp nF nR nO) ⟨st.ext.trans sm, st.keep, st.alive, fun a o e => ?_, st.regf, st.shr⟩ ⟨p, ws, rfl, upd_same, hz, Reps.mono sm _ _ rs⟩
  by_cases ha : a = p
  · subst ha; exact .inr (.inl nH)
  · rw [upd_ne ha] at e; exact st.fresh a o e
variable {E : Ent m}
/-- y = [..] -/
theorem ds_setLc (i : Nat) {y : Str} {py : Pos} {elt tg iter : Expr} {ifs : List Expr} {scope : Scope} {own : List (Str × Nat)} {pos spos : Pos} {src : DTI m} {g : DG} {ts : List Nat} {tt : DTT m} {te : DT m} (hN : X.N.Nodup) (hi : PI X tg iter (upI X.K m src)) (ok : BlkOk X.N X.env.scope scope own)
    (hg : ∀ (s : Shared) (H : Hp) (C : Addr) (cl : List (Str × Addr)) (fp : List Addr), PG (X.blk s H scope (compEnvC scope cl C X.env) fp) tg (upG X.K m ts g)) (ht : ∀ (s : Shared) (H : Hp) (C : Addr) (cl : List (Str × Addr)) (fp : List Addr), PTs (X.blk s H scope (compEnvC scope cl C X.env) fp) ifs (upT X.K m tt))
    (he : ∀ (s : Shared) (H : Hp) (C : Addr) (cl : List (Str × Addr)) (fp : List Addr), PE (X.blk s H scope (compEnvC scope cl C X.env) fp) elt (up X.K m te)) (hy : X.N[i]? = some y := by rfl) (hyl : X.env.scope.names.lookup y = some .local := by rfl)
    (hsw : swapsWith (.ListComp elt [⟨tg, iter, ifs, 0⟩] scope pos) (some (.Name y py)) spos.line X.env = pure true := by exact sw_true rfl rfl rfl (by decide +kernel)) (hts : ∀ j ∈ ts, j ∈ own.map (·.2) := by decide) (hc : X.calm = true := by rfl) (hs : ∀ x, foldedSetIterable iter X.env x = pure x := by intro _; rfl) :
    PS X (.Assign [.Name y py] (.ListComp elt [⟨tg, iter, ifs, 0⟩] scope pos) spos) (upS X.K m E (dSet i (dLc src g tt te (own.map (·.2))))) := PS.imp (ps_setLc hc hN hy hyl hsw hi ok hg ht he hs) fun DD σ H h => by
  obtain ⟨F, ρ, s, dd, r, o, h, f⟩ := h
  refine up_lc hts r h fun ds ρ' s' p ws F' H' q r' st hp nF nR nO nH hz rs => ?_
  have sm : Same F' (upd F' p (.lst ws)) := same_upd nF
  have st' : Stp m F H σ ρ s (upd F' p (.lst ws)) H' ρ' s' := ⟨st.ext.trans sm, st.keep, st.alive, fun a o e => by
    by_cases ha : a = p
    · subst ha; exact .inr (.inl nH)
    · rw [upd_ne ha] at e; exact st.fresh a o e, st.regf, st.shr⟩
  exact f.nx _ H' _ _ s' st'.ext ((r'.adopt hp nF nR nO).put (d := .lst ds) ⟨p, ws, rfl, upd_same, hz, Reps.mono sm _ _ rs⟩) ((o.stp st').put (K := X.K)) q
/-- .. a list that this def will change -/
def dSetLcO {m : Mem} (i : Nat) (src : DTI m) (g : DG) (tt : DTT m) (te : DT m) (vs : List Nat) : DTS m := fun dd ρ s => dLc src g tt te vs ρ s fun d ρ1 s1 => ∃ ds, d = .lst ds ∧ dd.nx (ρ1.set i (.ow (.lst ds))) s1
theorem ds_setLcO (i : Nat) {y : Str} {py : Pos} {elt tg iter : Expr} {ifs : List Expr} {scope : Scope} {own : List (Str × Nat)} {pos spos : Pos} {src : DTI m} {g : DG} {ts : List Nat} {tt : DTT m} {te : DT m} (hN : X.N.Nodup) (hi : PI X tg iter (upI X.K m src)) (ok : BlkOk X.N X.env.scope scope own)
    (hg : ∀ (s : Shared) (H : Hp) (C : Addr) (cl : List (Str × Addr)) (fp : List Addr), PG (X.blk s H scope (compEnvC scope cl C X.env) fp) tg (upG X.K m ts g)) (ht : ∀ (s : Shared) (H : Hp) (C : Addr) (cl : List (Str × Addr)) (fp : List Addr), PTs (X.blk s H scope (compEnvC scope cl C X.env) fp) ifs (upT X.K m tt))
    (he : ∀ (s : Shared) (H : Hp) (C : Addr) (cl : List (Str × Addr)) (fp : List Addr), PE (X.blk s H scope (compEnvC scope cl C X.env) fp) elt (up X.K m te)) (hy : X.N[i]? = some y := by rfl) (hyl : X.env.scope.names.lookup y = some .local := by rfl)
    (hsw : swapsWith (.ListComp elt [⟨tg, iter, ifs, 0⟩] scope pos) (some (.Name y py)) spos.line X.env = pure true := by exact sw_true rfl rfl rfl (by decide +kernel)) (hts : ∀ j ∈ ts, j ∈ own.map (·.2) := by decide) (hc : X.calm = true := by rfl) (hs : ∀ x, foldedSetIterable iter X.env x = pure x := by intro _; rfl) :
    PS X (.Assign [.Name y py] (.ListComp elt [⟨tg, iter, ifs, 0⟩] scope pos) spos) (upS X.K m E (dSetLcO i src g tt te (own.map (·.2)))) := PS.imp (ps_setLc hc hN hy hyl hsw hi ok hg ht he hs) fun DD σ H h => by
  obtain ⟨F, ρ, s, dd, r, o, h, f⟩ := h
  refine up_lc hts r h fun ds ρ' s' p ws F' H' ⟨es, e, q⟩ r' st hp nF nR nO nH hz rs => ?_
  cases e
  have o' := o.stp st
  have eH : E.H p = none := by
    cases q : E.H p with
    | none => rfl
    | some u => exact absurd nH (o.alive p (by rw [q]; simp))
  have other : ∀ (j : Nat) q, i ≠ j → Owns (σ.set i (some (.ref p))) (ρ'.set i (.ow (.lst ds))) j q → Owns σ ρ' j q := fun j q hj ⟨⟨o', h1⟩, h2⟩ => by
    rw [List.getElem?_set_ne hj] at h1 h2; exact ⟨⟨o', h1⟩, h2⟩
  have self : ∀ q, Owns (σ.set i (some (.ref p))) (ρ'.set i (.ow (.lst ds))) i q → q = p := fun q ⟨⟨o', h1⟩, h2⟩ => by
    have hi : i < σ.length := by
      have := (List.getElem?_eq_some_iff.mp h2).1
      rw [List.length_set] at this; exact this
    rw [List.getElem?_set_self hi] at h2
    cases h2; rfl
  refine f.nx F' H' _ _ s' st.ext ⟨r'.sub, r'.mem, r'.reg, by rw [List.length_set, List.length_set]; exact r'.len, fun j d' z => ?_, fun j o' z => ?_, fun j q z => ?_, fun j k q h1 h2 => ?_⟩ ⟨o'.ext, o'.keep, o'.alive, o'.fresh, o'.regf, fun j q z => ?_⟩ q
  · by_cases hj : i = j
    · subst hj
      have hi : i < ρ'.length := by
        have := (List.getElem?_eq_some_iff.mp z).1
        rw [List.length_set] at this; exact this
      rw [List.getElem?_set_self hi] at z
      cases z
    · rw [List.getElem?_set_ne hj] at z
      obtain ⟨w, h1, h2⟩ := r'.sh j d' z
      exact ⟨w, by rw [List.getElem?_set_ne hj]; exact h1, h2⟩
  · by_cases hj : i = j
    · subst hj
      have hi : i < ρ'.length := by
        have := (List.getElem?_eq_some_iff.mp z).1
        rw [List.length_set] at this; exact this
      rw [List.getElem?_set_self hi] at z
      cases z
      exact ⟨p, _, List.getElem?_set_self (by rw [r'.len]; exact hi), hp, ws, rfl, hz, rs⟩
    · rw [List.getElem?_set_ne hj] at z
      obtain ⟨q, ho', h1, h2, h3⟩ := r'.ow j o' z
      exact ⟨q, ho', by rw [List.getElem?_set_ne hj]; exact h1, h2, h3⟩
  · by_cases hj : i = j
    · subst hj
      rw [self q z]; exact ⟨nF, nR⟩
    · exact r'.owF j q (other j q hj z)
  · by_cases hj : i = j
    · subst hj
      by_cases hk : i = k
      · exact hk
      · exact absurd ((self q h1) ▸ other k q hk h2) (nO k)
    · by_cases hk : i = k
      · subst hk
        exact absurd ((self q h2) ▸ other j q hj h1) (nO j)
      · exact r'.uq j k q (other j q hj h1) (other k q hk h2)
  · by_cases hj : i = j
    · subst hj
      rw [self q z]; exact eH
    · exact o'.own j q (other j q hj z)
end

/-! ### a def -/
/-- the slots at a def's entry -/
def startD (N : List Str) (ds : List D) : List Sl := ds.map .sh ++ List.replicate (N.length - ds.length) .no
section
variable {P : Program} {w : World} {K : PySem.W.Frag} {mg : Str → Option Value} {base : Heap} {m : Mem}
theorem rel_start {F H : Hp} {s : m.S} {N : List Str} {ds : List D} {vs : List V} (sub : Same F H) (hm : m.M s H) (hr : ∀ a, m.R s a → F a = none) (rs : Reps K F ds vs) : Rel K m F H (L2.start N vs) (startD N ds) s := by
  have hl := rs.length
  have no : ∀ (i : Nat) o, (startD N ds)[i]? ≠ some (Sl.ow o) := fun i o e => by
    unfold startD at e
    by_cases hi : i < ds.length
    · rw [List.getElem?_append_left (by simpa using hi), List.getElem?_map, List.getElem?_eq_getElem hi] at e; cases e
    · rw [List.getElem?_append_right (by simpa using hi), List.getElem?_replicate] at e
      split at e <;> cases e
  refine ⟨sub, hm, hr, by unfold L2.start startD; simp [hl], fun i d e => ?_, fun i o e => absurd e (no i o), fun i p ⟨⟨o, e⟩, _⟩ => absurd e (no i o), fun i j p ⟨⟨o, e⟩, _⟩ _ => absurd e (no i o)⟩
  unfold startD at e
  by_cases hi : i < ds.length
  · rw [List.getElem?_append_left (by simpa using hi), List.getElem?_map, List.getElem?_eq_getElem hi] at e
    cases e
    obtain ⟨v, h1, h2⟩ := rs.get (List.getElem?_eq_getElem hi)
    refine ⟨v, ?_, h2⟩
    unfold L2.start
    rw [List.getElem?_append_left (by simp; omega), List.getElem?_map, h1]
    rfl
  · rw [List.getElem?_append_right (by simpa using hi), List.getElem?_replicate] at e
    split at e <;> cases e
/-- what a def's body is to reach -/
abbrev endsOf {m : Mem} (Qd : D → m.S → Prop) : DEnds m := { nx := fun _ s' => Qd .non s', rt := Qd }
/-- THE RULE for a def, over data -/
theorem dfn {x qual : Str} {st : Stmt} {f : Addr} {fd : FuncData} {N ps : List Str} {k n : Nat} {sp : DSp m} (F : Fun K x qual st f fd) (S : FnScope N ps (defScope st)) (hn : n = ps.length)
    (hb : ∀ (cdv : Value) (A : Around) (outer : List Env) (s : Shared) (H : Hp) (E : XK) (En : Ent m), Room k (A.deeper (envOfC qual (defScope st) s.heap.objs.size f cdv)) →
      ∃ t, PSs (cxOf CX0 P w K mg base N qual (defScope st) f cdv A outer s H E).nox (defBody st) (upS K m En t) ∧ ∀ ds s Qd, sp ds s Qd → t (endsOf Qd) (startD N ds) s) : FnOk P w K mg base CX0 (k + 1) f fd ps (lift K m n sp) := by
  subst hn
  refine F.ok S (fun vs H Q E h => h.1) (fun cdv A outer s H vs Q E hr h => ?_)
  obtain ⟨hl, F0, ds, s0, Qd, sub, hm, hreg, rs, hsp, hQ⟩ := h
  obtain ⟨t, ht, hq⟩ := hb cdv A outer s H E ⟨F0, H, s0⟩ hr
  refine ⟨_, ht, F0, startD N ds, s0, _, rel_start sub hm hreg rs, ⟨Same.refl _, fun _ _ h _ => h, fun _ h => h, fun _ _ h => .inl h, fun _ h => .inl h, fun i p ⟨⟨o, e⟩, _⟩ => ?_⟩, hq ds s0 Qd hsp, ?_⟩
  · unfold startD at e
    by_cases hi : i < ds.length
    · rw [List.getElem?_append_left (by simpa using hi), List.getElem?_map, List.getElem?_eq_getElem hi] at e; cases e
    · rw [List.getElem?_append_right (by simpa using hi), List.getElem?_replicate] at e
      split at e <;> cases e
  · have cs : ∀ F' H' σ ρ s, Rel K m F' H' σ ρ s → Own m ⟨F0, H, s0⟩ F' H' σ ρ s → CStp m F0 H s0 F' H' s := fun F' H' σ ρ s r o => ⟨o.ext, o.keep, o.alive, o.fresh, o.regf, r.sub, r.mem, r.reg⟩
    exact ⟨fun F' H' σ ρ s _ r o q => hQ .non s _ F' H' q (cs F' H' σ ρ s r o) rfl, fun F' H' σ ρ s d v _ r o rv q => hQ d s v F' H' q (cs F' H' σ ρ s r o) rv, fun _ _ _ _ _ _ _ _ q => q.elim, fun _ _ _ _ _ _ _ _ q => q.elim⟩
end
end DL

set_option Elab.async false
set_option linter.all false
set_option maxRecDepth 100000
namespace DL
open PySem PySem.Spec PyProof.Rows L2 TL

/-! ### what operations do with data -/
section
variable {K : PySem.W.Frag} {X : Cx}
/-- + -/
def addD : D → D → (D → Prop) → Prop
  | .int i, .int j, Q => Q (.int (i + j))
  | .str a, .str b, Q => a.length + b.length ≤ strLim ∧ Q (.str (a ++ b))
  | .lst a, .lst b, Q => a.length + b.length ≤ sizeLine ∧ Q (.lst (a ++ b))
  | .tup a, .tup b, Q => a.length + b.length ≤ sizeLine ∧ Q (.tup (a ++ b))
  | _, _, _ => False
def rAddA (K : PySem.W.Frag) : R2 := fun x y H Q => (∃ i j, x = .int i ∧ y = .int j ∧ Q (.int (i + j)) H) ∨ (∃ i j, x = .str i ∧ y = .str j ∧ i.length + j.length ≤ sizeLine ∧ Q (.str (i ++ j)) H) ∨ rCat x y H Q ∨ rCatA K x y H Q
theorem op_addA : OpR X (binaryOp .Add) (rAddA X.K) := op_add.or (op_add_str.or (op_cat.or op_catA))
theorem sOk_app {a b : Str} (h : sOk a = true) (k : sOk b = true) (l : a.length + b.length ≤ strLim) : sOk (a ++ b) = true := by
  refine sOk_of ?_ fun c hc => ?_
  · rw [len_tl, tl_append, List.length_append, ← len_tl, ← len_tl]; exact l
  · rw [show (a ++ b).cps.toList = tl a ++ tl b from tl_append a b] at hc
    rcases List.mem_append.mp hc with z | z
    · exact sOk_cps h c z
    · exact sOk_cps k c z
theorem o_add : Op2 K (rAddA K) addD := by
  intro F H dx dy x y Qd Q sub rx ry h hQ
  cases dx with
  | int i =>
    cases dy with
    | int j => cases rx; cases ry; exact .inl ⟨i, j, rfl, rfl, hQ _ _ F H h (Grow.refl sub) rfl⟩
    | _ => exact False.elim h
  | str a =>
    cases dy with
    | str b =>
      obtain ⟨rfl, ha⟩ := rx
      obtain ⟨rfl, hb⟩ := ry
      obtain ⟨hl, h⟩ := h
      exact .inr (.inl ⟨a, b, rfl, rfl, Nat.le_trans hl (Nat.le_trans (Nat.le_add_right _ 2) strLim_line), hQ _ _ F H h (Grow.refl sub) ⟨rfl, sOk_app ha hb hl⟩⟩)
    | _ => exact False.elim h
  | lst a =>
    cases dy with
    | lst b =>
      obtain ⟨p, vs, rfl, h1, _, rs⟩ := rx
      obtain ⟨q, ws, rfl, h2, _, rt⟩ := ry
      obtain ⟨hl, h⟩ := h
      have l1 := rs.length
      have l2 := rt.length
      refine .inr (.inr (.inl ⟨p, q, vs, ws, rfl, rfl, sub _ _ h1, sub _ _ h2, by omega, fun n nn => ?_⟩))
      have g : Grow F H (upd F n (.lst (vs ++ ws))) (upd H n (.lst (vs ++ ws))) := Grow.new sub nn
      exact hQ _ _ _ _ h g ⟨n, _, rfl, upd_same, by rw [List.length_append]; omega, (Reps.mono g.fF _ _ rs).append (Reps.mono g.fF _ _ rt)⟩
    | _ => exact False.elim h
  | tup a =>
    cases dy with
    | tup b =>
      have rx' := rx
      have ry' := ry
      obtain ⟨p, vs, rfl, h1, _, rs⟩ := rx
      obtain ⟨q, ws, rfl, h2, _, rt⟩ := ry
      obtain ⟨hl, h⟩ := h
      have l1 := rs.length
      have l2 := rt.length
      refine .inr (.inr (.inr ⟨p, q, vs, ws, rfl, rfl, Same.seqT sub h1, Same.seqT sub h2, by omega, fun e => ?_, fun _ e => ?_, fun _ _ n nn => ?_⟩))
      · subst e
        have e' : a = [] := by cases a with | nil => rfl | cons _ _ => cases l1
        subst e'
        exact hQ _ _ F H h (Grow.refl sub) ry'
      · subst e
        have e' : b = [] := by cases b with | nil => rfl | cons _ _ => cases l2
        subst e'
        rw [List.append_nil] at h
        exact hQ _ _ F H h (Grow.refl sub) rx'
      · have g : Grow F H (upd F n (.tup (vs ++ ws))) (upd H n (.tup (vs ++ ws))) := Grow.new sub nn
        exact hQ _ _ _ _ h g ⟨n, _, rfl, .inl (.inl upd_same), by rw [List.length_append]; omega, (Reps.mono g.fF _ _ rs).append (Reps.mono g.fF _ _ rt)⟩
    | _ => exact False.elim h
  | _ => cases dy <;> exact False.elim h
/-- - -/
def subD : D → D → (D → Prop) → Prop
  | .int i, .int j, Q => Q (.int (i - j))
  | _, _, _ => False
theorem o_ints {C : Int → Int → Prop} {g : Int → Int → Int} {f : D → D → (D → Prop) → Prop} (h : ∀ x y Qd, f x y Qd → ∃ i j, x = .int i ∧ y = .int j ∧ C i j ∧ Qd (.int (g i j))) : Op2 K (rI C fun i j => .int (g i j)) f := by
  intro F H dx dy x y Qd Q sub rx ry q hQ
  obtain ⟨i, j, rfl, rfl, c, q2⟩ := h _ _ _ q
  cases rx
  cases ry
  exact ⟨i, j, rfl, rfl, c, hQ _ _ F H q2 (Grow.refl sub) rfl⟩
theorem o_ints0 {g : Int → Int → Int} {f : D → D → (D → Prop) → Prop} (h : ∀ x y Qd, f x y Qd → ∃ i j, x = .int i ∧ y = .int j ∧ Qd (.int (g i j))) : Op2 K (rI0 fun i j => .int (g i j)) f := by
  intro F H dx dy x y Qd Q sub rx ry q hQ
  obtain ⟨i, j, rfl, rfl, q2⟩ := h _ _ _ q
  cases rx
  cases ry
  exact ⟨i, j, rfl, rfl, hQ _ _ F H q2 (Grow.refl sub) rfl⟩
theorem o_sub : Op2 K (rI0 fun i j => .int (i - j)) subD := o_ints0 fun x y Qd h => by
  cases x with
  | int i => cases y with
    | int j => exact ⟨i, j, rfl, rfl, h⟩
    | _ => exact False.elim h
  | _ => cases y <;> exact False.elim h
/-- // by a small positive number -/
def fdivD : D → D → (D → Prop) → Prop
  | .int i, .int j, Q => (0 < j ∧ j < 1073741824) ∧ Q (.int (i / j))
  | _, _, _ => False
theorem o_fdiv : Op2 K (rI CDiv fun i j => .int (i / j)) fdivD := o_ints fun x y Qd h => by
  cases x with
  | int i => cases y with
    | int j => exact ⟨i, j, rfl, rfl, h.1, h.2⟩
    | _ => exact False.elim h
  | _ => cases y <;> exact False.elim h
/-- % by a positive number -/
def modD : D → D → (D → Prop) → Prop
  | .int i, .int j, Q => 0 < j ∧ Q (.int (i % j))
  | _, _, _ => False
theorem o_mod : Op2 K (rI (fun _ j => 0 < j) fun i j => .int (i % j)) modD := o_ints fun x y Qd h => by
  cases x with
  | int i => cases y with
    | int j => exact ⟨i, j, rfl, rfl, h.1, h.2⟩
    | _ => exact False.elim h
  | _ => cases y <;> exact False.elim h
/-- *: of ints, one of them below 2 ^ 64; a text or a list some times -/
def mulD : D → D → (D → Prop) → Prop
  | .int i, .int j, Q => CMul i j ∧ Q (.int (i * j))
  | .str a, .int n, Q => (0 ≤ n ∧ n ≤ strLim ∧ a.length * n.toNat ≤ strLim) ∧ Q (.str ⟨((List.replicate n.toNat a.cps.toList).flatten).toArray⟩)
  | .lst a, .int n, Q => (0 ≤ n ∧ n < 2 ^ 62 ∧ a.length * n.toNat ≤ sizeLine) ∧ Q (.lst (List.replicate n.toNat a).flatten)
  | _, _, _ => False
theorem mul_txt {a : Str} {n : Int} (h0 : 0 ≤ n) : Txt.mul a n = ⟨((List.replicate n.toNat a.cps.toList).flatten).toArray⟩ := by
  have fold : ∀ (k : Nat) (acc : Array Nat), ((List.replicate k a.cps).foldl (· ++ ·) acc).toList = acc.toList ++ (List.replicate k a.cps.toList).flatten := by
    intro k
    induction k with
    | zero => intro acc; simp
    | succ k ih => intro acc; rw [List.replicate_succ, List.foldl_cons, ih, List.replicate_succ, List.flatten_cons, Array.toList_append, List.append_assoc]
  refine ext_tl ?_
  show tl (Txt.mul a n) = (List.replicate n.toNat a.cps.toList).flatten
  unfold Txt.mul
  by_cases h1 : n < 1
  · rw [if_pos h1]
    have e : n.toNat = 0 := by omega
    rw [e]
    rfl
  · rw [if_neg h1]
    by_cases h2 : (n == 1 || a.length == 0) = true
    · rw [if_pos h2]
      rw [Bool.or_eq_true] at h2
      rcases h2 with h2 | h2
      · have e : n = 1 := by simpa using h2
        subst e
        show tl a = (List.replicate 1 (tl a)).flatten
        simp
      · have e : tl a = [] := by
          have : a.length = 0 := by simpa using h2
          exact List.eq_nil_of_length_eq_zero (by rw [← len_tl]; exact this)
        show tl a = (List.replicate n.toNat (tl a)).flatten
        rw [e]
        simp
    · rw [if_neg h2]
      show ((List.replicate n.toNat a.cps).foldl (· ++ ·) #[]).toList = _
      rw [fold]
      simp
theorem op_mul_str : OpR X (binaryOp .Mult) (fun x y H Q => ∃ a n, x = .str a ∧ y = .int n ∧ (0 ≤ n ∧ n ≤ strLim ∧ a.length * n.toNat ≤ strLim) ∧ Q (.str ⟨((List.replicate n.toNat a.cps.toList).flatten).toArray⟩) H) := by
  intro pins s σ H x y v u Q I rx ry h
  obtain ⟨a, n, rfl, rfl, ⟨h0, h1, h2⟩, q⟩ := h
  obtain ⟨t, rfl⟩ := rx
  obtain ⟨t', rfl⟩ := ry
  have hs : strLim = 1000000 := rfl
  refine PySem.SB.mul ⟨?_, fun _ _ => ?_, fun _ _ => ?_⟩ fun t' k => ⟨.str _, H, I.tok _, ⟨t', by rw [mul_txt h0]⟩, q⟩
  · rw [decide_eq_false (by omega), decide_eq_false (by omega)]; rfl
  · have hn : 0 < n := by omega
    have : (a.length : Int) * n ≤ strLim := by
      have e : (n.toNat : Int) = n := by omega
      have : ((a.length * n.toNat : Nat) : Int) ≤ ((strLim : Nat) : Int) := by exact_mod_cast h2
      rw [Int.natCast_mul, e] at this
      exact this
    have q2 : (a.length : Int) ≤ (2 ^ 63 - 1) / n := (Int.le_ediv_iff_mul_le hn).mpr (Int.le_trans this (by decide))
    omega
  · unfold Builtin.Str.tooLong
    have := strLim_line
    exact decide_eq_false (by omega)
def rMulA : R2 := fun x y H Q => (∃ i j, x = .int i ∧ y = .int j ∧ CMul i j ∧ Q (.int (i * j)) H) ∨ (∃ a n, x = .str a ∧ y = .int n ∧ (0 ≤ n ∧ n ≤ strLim ∧ a.length * n.toNat ≤ strLim) ∧ Q (.str ⟨((List.replicate n.toNat a.cps.toList).flatten).toArray⟩) H) ∨ rRep x y H Q
theorem op_mulA : OpR X (binaryOp .Mult) rMulA := op_mul.or (op_mul_str.or op_rep)
theorem flat_rep_len {α : Type} (l : List α) : ∀ n : Nat, (List.replicate n l).flatten.length = l.length * n
  | 0 => by simp
  | n + 1 => by rw [List.replicate_succ, List.flatten_cons, List.length_append, flat_rep_len l n, Nat.mul_succ, Nat.add_comm]
theorem Reps.rep {K : PySem.W.Frag} {F : Hp} {ds : List D} {vs : List V} (h : Reps K F ds vs) : ∀ n : Nat, Reps K F (List.replicate n ds).flatten (List.replicate n vs).flatten
  | 0 => .nil
  | n + 1 => by rw [List.replicate_succ, List.replicate_succ, List.flatten_cons, List.flatten_cons]; exact h.append (Reps.rep h n)
theorem o_mul : Op2 K rMulA mulD := by
  intro F H dx dy x y Qd Q sub rx ry h hQ
  cases dx with
  | int i =>
    cases dy with
    | int j => cases rx; cases ry; exact .inl ⟨i, j, rfl, rfl, h.1, hQ _ _ F H h.2 (Grow.refl sub) rfl⟩
    | _ => exact False.elim h
  | str a =>
    cases dy with
    | int n =>
      obtain ⟨rfl, ha⟩ := rx
      cases ry
      refine .inr (.inl ⟨a, n, rfl, rfl, h.1, hQ _ _ F H h.2 (Grow.refl sub) ⟨rfl, sOk_of ?_ fun c hc => ?_⟩⟩)
      · show (((List.replicate n.toNat a.cps.toList).flatten).toArray).size ≤ strLim
        rw [List.size_toArray, flat_rep_len, Array.length_toList]
        exact h.1.2.2
      · have hc' : c ∈ (List.replicate n.toNat a.cps.toList).flatten := hc
        obtain ⟨l, hl, hcl⟩ := List.mem_flatten.mp hc'
        rw [(List.mem_replicate.mp hl).2] at hcl
        exact sOk_cps ha c hcl
    | _ => exact False.elim h
  | lst a =>
    cases dy with
    | int n =>
      obtain ⟨p, vs, rfl, h1, _, rs⟩ := rx
      cases ry
      obtain ⟨⟨h0, h2, h3⟩, h⟩ := h
      have l1 := rs.length
      refine .inr (.inr ⟨p, n, vs, rfl, rfl, sub _ _ h1, by omega, by omega, by rw [l1]; exact h3, fun q nq => ?_⟩)
      have g : Grow F H (upd F q (.lst (List.replicate n.toNat vs).flatten)) (upd H q (.lst (List.replicate n.toNat vs).flatten)) := Grow.new sub nq
      exact hQ _ _ _ _ h g ⟨q, _, rfl, upd_same, by rw [flat_rep_len, l1]; exact h3, (Reps.mono g.fF _ _ rs).rep _⟩
    | _ => exact False.elim h
  | _ => cases dy <;> exact False.elim h
/-- -x -/
def negD : D → (D → Prop) → Prop
  | .int i, Q => Q (.int (-i))
  | _, _ => False
theorem o_neg : Op1 K (rU fun i => .int (-i)) negD := by
  intro F H dx x Qd Q sub rx h hQ
  cases dx with
  | int i => cases rx; exact ⟨i, rfl, hQ _ _ F H h (Grow.refl sub) rfl⟩
  | _ => exact False.elim h

/-! ### comparisons -/
def ltS (a b : Str) : Bool := decide (a.cps.toList < b.cps.toList)
def ltD : D → D → (Bool → Prop) → Prop
  | .int i, .int j, Q => Q (decide (i < j))
  | .str a, .str b, Q => Q (ltS a b)
  | _, _, _ => False
def leD : D → D → (Bool → Prop) → Prop
  | .int i, .int j, Q => Q (decide (i ≤ j))
  | .str a, .str b, Q => Q (!ltS b a)
  | _, _, _ => False
def gtD : D → D → (Bool → Prop) → Prop
  | .int i, .int j, Q => Q (decide (j < i))
  | .str a, .str b, Q => Q (ltS b a)
  | _, _, _ => False
def geD : D → D → (Bool → Prop) → Prop
  | .int i, .int j, Q => Q (decide (j ≤ i))
  | .str a, .str b, Q => Q (!ltS a b)
  | _, _, _ => False
def rIS (f : Int → Int → Bool) (g : Str → Str → Bool) : R2 := fun x y H Q => (∃ i j, x = .int i ∧ y = .int j ∧ Q (.bl (f i j)) H) ∨ (∃ i j, x = .str i ∧ y = .str j ∧ Q (.bl (g i j)) H)
theorem op_ltA : OpR X (compareOp .Lt) (rIS (fun i j => decide (i < j)) ltS) := op_lt.or op_lt_str
theorem op_leA : OpR X (compareOp .LtE) (rIS (fun i j => decide (i ≤ j)) fun a b => !ltS b a) := op_le.or op_le_str
theorem op_gtA : OpR X (compareOp .Gt) (rIS (fun i j => decide (j < i)) fun a b => ltS b a) := op_gt.or op_gt_str
theorem op_geA : OpR X (compareOp .GtE) (rIS (fun i j => decide (j ≤ i)) fun a b => !ltS a b) := op_ge.or op_ge_str
theorem o_is {f : Int → Int → Bool} {g : Str → Str → Bool} {c : D → D → (Bool → Prop) → Prop} (h : ∀ x y Qd, c x y Qd → (∃ i j, x = .int i ∧ y = .int j ∧ Qd (f i j)) ∨ ∃ i j, x = .str i ∧ y = .str j ∧ Qd (g i j)) : Cm2 K (rIS f g) c := by
  intro F H dx dy x y Qd Q sub rx ry q hQ
  rcases h _ _ _ q with ⟨i, j, rfl, rfl, q2⟩ | ⟨i, j, rfl, rfl, q2⟩
  · cases rx; cases ry; exact .inl ⟨i, j, rfl, rfl, hQ _ F H q2 (Grow.refl sub)⟩
  · obtain ⟨rfl, _⟩ := rx
    obtain ⟨rfl, _⟩ := ry
    exact .inr ⟨i, j, rfl, rfl, hQ _ F H q2 (Grow.refl sub)⟩
theorem o_lt : Cm2 K (rIS (fun i j => decide (i < j)) ltS) ltD := o_is fun x y Qd h => by
  cases x <;> cases y <;> first | exact False.elim h | exact .inl ⟨_, _, rfl, rfl, h⟩ | exact .inr ⟨_, _, rfl, rfl, h⟩
theorem o_le : Cm2 K (rIS (fun i j => decide (i ≤ j)) fun a b => !ltS b a) leD := o_is fun x y Qd h => by
  cases x <;> cases y <;> first | exact False.elim h | exact .inl ⟨_, _, rfl, rfl, h⟩ | exact .inr ⟨_, _, rfl, rfl, h⟩
theorem o_gt : Cm2 K (rIS (fun i j => decide (j < i)) fun a b => ltS b a) gtD := o_is fun x y Qd h => by
  cases x <;> cases y <;> first | exact False.elim h | exact .inl ⟨_, _, rfl, rfl, h⟩ | exact .inr ⟨_, _, rfl, rfl, h⟩
theorem o_ge : Cm2 K (rIS (fun i j => decide (j ≤ i)) fun a b => !ltS a b) geD := o_is fun x y Qd h => by
  cases x <;> cases y <;> first | exact False.elim h | exact .inl ⟨_, _, rfl, rfl, h⟩ | exact .inr ⟨_, _, rfl, rfl, h⟩
/-- is None, is not None -/
def isNo : D → Bool
  | .non => true
  | _ => false
def isD : D → D → (Bool → Prop) → Prop
  | x, .non, Q => Q (isNo x)
  | _, _, _ => False
def isntD : D → D → (Bool → Prop) → Prop
  | x, .non, Q => Q (!isNo x)
  | _, _, _ => False
theorem rep_no {F : Hp} {d : D} {v : V} (h : Rep K F d v) (n : ∀ w, d ≠ .any w) : decide (v = .non) = isNo d := by
  cases d with
  | non => cases h; rfl
  | bl b => cases h; rfl
  | int i => cases h; rfl
  | str x => obtain ⟨rfl, _⟩ := h; rfl
  | lst xs => obtain ⟨a, vs, rfl, _⟩ := h; rfl
  | tup xs => obtain ⟨a, vs, rfl, _⟩ := h; rfl
  | dic ks ds => obtain ⟨a, vs, rfl, _⟩ := h; rfl
  | ins C ns ds => obtain ⟨a, dx, fs, rfl, _⟩ := h; rfl
  | any w => exact absurd rfl (n w)
  | fz xs => obtain ⟨a, vs, rfl, _⟩ := h; rfl
def isD' (x y : D) (Q : Bool → Prop) : Prop := (∀ w, x ≠ .any w) ∧ isD x y Q
def isntD' (x y : D) (Q : Bool → Prop) : Prop := (∀ w, x ≠ .any w) ∧ isntD x y Q
theorem o_isN : Cm2 K (fun x y H Q => y = .non ∧ Q (.bl (decide (x = .non))) H) isD' := by
  intro F H dx dy x y Qd Q sub rx ry h hQ
  obtain ⟨n, h⟩ := h
  cases dy with
  | non => cases ry; exact ⟨rfl, by rw [rep_no rx n]; exact hQ _ F H h (Grow.refl sub)⟩
  | _ => cases dx <;> exact False.elim h
theorem o_notN : Cm2 K (fun x y H Q => y = .non ∧ Q (.bl (!decide (x = .non))) H) isntD' := by
  intro F H dx dy x y Qd Q sub rx ry h hQ
  obtain ⟨n, h⟩ := h
  cases dy with
  | non => cases ry; exact ⟨rfl, by rw [rep_no rx n]; exact hQ _ F H h (Grow.refl sub)⟩
  | _ => cases dx <;> exact False.elim h

/-! ### == and != -/
mutual
/-- data without dicts, objects and the like, at most so deep -/
def plainD : Nat → D → Bool
  | _, .non => true
  | _, .bl _ => true
  | _, .int _ => true
  | _, .str _ => true
  | n, .lst xs => match n with
    | 0 => false
    | k + 1 => plainDs k xs
  | n, .tup xs => match n with
    | 0 => false
    | k + 1 => plainDs k xs
  | _, _ => false
def plainDs : Nat → List D → Bool
  | _, [] => true
  | n, d :: ds => plainD n d && plainDs n ds
end
mutual
def eqD : D → D → Bool
  | .non, .non => true
  | .bl a, .bl b => a == b
  | .bl a, .int j => (if a then 1 else 0) == j
  | .int i, .bl b => i == (if b then 1 else 0)
  | .int i, .int j => i == j
  | .str x, .str y => x == y
  | .lst xs, .lst ys => eqDs xs ys
  | .tup xs, .tup ys => eqDs xs ys
  | _, _ => false
def eqDs : List D → List D → Bool
  | [], [] => true
  | x :: xs, y :: ys => eqD x y && eqDs xs ys
  | _, _ => false
end
mutual
def toPy : D → PyData
  | .non => .none
  | .bl b => .bool b
  | .int i => .int i
  | .str x => .str x
  | .lst xs => .list (toPys xs)
  | .tup xs => .tuple (toPys xs)
  | _ => .none
def toPys : List D → List PyData
  | [] => []
  | d :: ds => toPy d :: toPys ds
end
mutual
theorem rep_dp {F H : Hp} (sub : Same F H) : ∀ (n : Nat) (d : D) (v : V), plainD n d = true → Rep K F d v → Dp K H v (toPy d)
  | _, .non, _, _, h => by cases h; exact .non
  | _, .bl b, _, _, h => by cases h; exact .bl b
  | _, .int i, _, _, h => by cases h; exact .int i
  | _, .str x, _, _, h => by obtain ⟨rfl, _⟩ := h; exact .str x
  | 0, .lst xs, _, p, _ => by simp [plainD] at p
  | n + 1, .lst xs, _, p, h => by
    obtain ⟨a, vs, rfl, h1, _, r⟩ := h
    exact .lst (.inl (.inl (sub _ _ h1))) (reps_dp sub n xs vs (by simpa [plainD] using p) r)
  | 0, .tup xs, _, p, _ => by simp [plainD] at p
  | n + 1, .tup xs, _, p, h => by
    obtain ⟨a, vs, rfl, h1, _, r⟩ := h
    exact .tup (Same.seqT sub h1) (reps_dp sub n xs vs (by simpa [plainD] using p) r)
  | _, .dic _ _, _, p, _ => by simp [plainD] at p
  | _, .ins _ _ _, _, p, _ => by simp [plainD] at p
  | _, .any _, _, p, _ => by simp [plainD] at p
  | _, .fz _, _, p, _ => by simp [plainD] at p
theorem reps_dp {F H : Hp} (sub : Same F H) : ∀ (n : Nat) (ds : List D) (vs : List V), plainDs n ds = true → Reps K F ds vs → DpAll K H vs (toPys ds)
  | _, [], _, _, h => by cases h; exact .nil
  | n, d :: ds, _, p, ⟨v, r, e, h, t⟩ => by
    subst e
    rw [plainDs, Bool.and_eq_true] at p
    exact .cons (rep_dp sub n d v p.1 h) (reps_dp sub n ds r p.2 t)
end
theorem strOk_of {x : Str} (h : sOk x = true) : PyData.strOk x = true := by
  unfold PyData.strOk
  rw [← Array.all_toList]
  exact List.all_eq_true.mpr fun c hc => decide_eq_true (sOk_cps h c hc)
mutual
theorem lay_of {F : Hp} : ∀ (n : Nat) (d : D) (v : V), plainD n d = true → Rep K F d v → (toPy d).canLay0 = true ∧ (toPy d).depth ≤ n
  | _, .non, _, _, _ => ⟨rfl, Nat.zero_le _⟩
  | _, .bl b, _, _, _ => ⟨rfl, Nat.zero_le _⟩
  | _, .int i, _, _, _ => ⟨rfl, Nat.zero_le _⟩
  | _, .str x, _, _, h => by obtain ⟨_, h⟩ := h; exact ⟨by simpa [toPy, PyData.canLay0] using strOk_of h, by simp [toPy, PyData.depth]⟩
  | 0, .lst xs, _, p, _ => by simp [plainD] at p
  | n + 1, .lst xs, _, p, h => by
    obtain ⟨a, vs, rfl, h1, _, r⟩ := h
    obtain ⟨q1, q2⟩ := lay_ofs n xs vs (by simpa [plainD] using p) r
    exact ⟨by simpa [toPy, PyData.canLay0] using q1, by simp only [toPy, PyData.depth]; omega⟩
  | 0, .tup xs, _, p, _ => by simp [plainD] at p
  | n + 1, .tup xs, _, p, h => by
    obtain ⟨a, vs, rfl, h1, _, r⟩ := h
    obtain ⟨q1, q2⟩ := lay_ofs n xs vs (by simpa [plainD] using p) r
    exact ⟨by simpa [toPy, PyData.canLay0] using q1, by simp only [toPy, PyData.depth]; omega⟩
  | _, .dic _ _, _, p, _ => by simp [plainD] at p
  | _, .ins _ _ _, _, p, _ => by simp [plainD] at p
  | _, .any _, _, p, _ => by simp [plainD] at p
  | _, .fz _, _, p, _ => by simp [plainD] at p
theorem lay_ofs {F : Hp} : ∀ (n : Nat) (ds : List D) (vs : List V), plainDs n ds = true → Reps K F ds vs → PyData.canLayAll0 (toPys ds) = true ∧ PyData.depthAll (toPys ds) ≤ n
  | _, [], _, _, _ => ⟨rfl, Nat.zero_le _⟩
  | n, d :: ds, _, p, ⟨v, r, e, h, t⟩ => by
    rw [plainDs, Bool.and_eq_true] at p
    obtain ⟨q1, q2⟩ := lay_of n d v p.1 h
    obtain ⟨q3, q4⟩ := lay_ofs n ds r p.2 t
    exact ⟨by simp only [toPys, PyData.canLayAll0, q1, q3, Bool.and_self], by simp only [toPys, PyData.depthAll]; omega⟩
end
mutual
theorem eqv_of : ∀ (n m : Nat) (d e : D), plainD n d = true → plainD m e = true → PyData.eqv (toPy d) (toPy e) = eqD d e
  | _, _, .non, e, _, q => by cases e <;> simp_all [toPy, eqD, PyData.eqv, plainD]
  | _, _, .bl b, e, _, q => by cases e <;> simp_all [toPy, eqD, PyData.eqv, plainD]
  | _, _, .int i, e, _, q => by cases e <;> simp_all [toPy, eqD, PyData.eqv, plainD]
  | _, _, .str x, e, _, q => by cases e <;> simp_all [toPy, eqD, PyData.eqv, plainD]
  | n, m, .lst xs, e, p, q => by
    cases e with
    | lst ys =>
      cases n with
      | zero => simp [plainD] at p
      | succ n =>
        cases m with
        | zero => simp [plainD] at q
        | succ m => simpa only [toPy, eqD, PyData.eqv] using eqv_ofs n m xs ys (by simpa [plainD] using p) (by simpa [plainD] using q)
    | _ => simp_all [toPy, eqD, PyData.eqv, plainD]
  | n, m, .tup xs, e, p, q => by
    cases e with
    | tup ys =>
      cases n with
      | zero => simp [plainD] at p
      | succ n =>
        cases m with
        | zero => simp [plainD] at q
        | succ m => simpa only [toPy, eqD, PyData.eqv] using eqv_ofs n m xs ys (by simpa [plainD] using p) (by simpa [plainD] using q)
    | _ => simp_all [toPy, eqD, PyData.eqv, plainD]
  | _, _, .dic _ _, _, p, _ => by simp [plainD] at p
  | _, _, .ins _ _ _, _, p, _ => by simp [plainD] at p
  | _, _, .any _, _, p, _ => by simp [plainD] at p
  | _, _, .fz _, _, p, _ => by simp [plainD] at p
theorem eqv_ofs : ∀ (n m : Nat) (d e : List D), plainDs n d = true → plainDs m e = true → PyData.eqvAll (toPys d) (toPys e) = eqDs d e
  | _, _, [], [], _, _ => rfl
  | _, _, [], _ :: _, _, _ => rfl
  | _, _, _ :: _, [], _, _ => rfl
  | n, m, d :: ds, e :: es, p, q => by
    rw [plainDs, Bool.and_eq_true] at p q
    simp only [toPys, PyData.eqvAll, eqDs]
    rw [eqv_of n m d e p.1 q.1, eqv_ofs n m ds es p.2 q.2]
end
def eqC (x y : D) (Q : Bool → Prop) : Prop := plainD 60 x = true ∧ plainD 60 y = true ∧ Q (eqD x y)
def neC (x y : D) (Q : Bool → Prop) : Prop := plainD 60 x = true ∧ plainD 60 y = true ∧ Q (!eqD x y)
theorem shaped_of {F : Hp} {d : D} {v : V} (p : plainD 60 d = true) (h : Rep K F d v) : SeqAt.shaped (toPy d) = true := by
  obtain ⟨h1, h2⟩ := lay_of 60 d v p h
  unfold SeqAt.shaped
  rw [h1, decide_eq_true (by omega)]
  rfl
theorem o_eq : Cm2 K (rEqD K) eqC := by
  intro F H dx dy x y Qd Q sub rx ry h hQ
  obtain ⟨p1, p2, h⟩ := h
  refine ⟨toPy dx, toPy dy, rep_dp sub 60 dx x p1 rx, rep_dp sub 60 dy y p2 ry, shaped_of p1 rx, shaped_of p2 ry, ?_⟩
  rw [eqv_of 60 60 dx dy p1 p2]
  exact hQ _ F H h (Grow.refl sub)
theorem o_ne : Cm2 K (rNeD K) neC := by
  intro F H dx dy x y Qd Q sub rx ry h hQ
  obtain ⟨p1, p2, h⟩ := h
  refine ⟨toPy dx, toPy dy, rep_dp sub 60 dx x p1 rx, rep_dp sub 60 dy y p2 ry, shaped_of p1 rx, shaped_of p2 ry, ?_⟩
  rw [eqv_of 60 60 dx dy p1 p2]
  exact hQ _ F H h (Grow.refl sub)
/-! ### in, not in -/
def strIn (a z : Str) : Bool := !(Builtin.Str.occurrences z a 0 z.length 1).isEmpty
def inD : D → D → (Bool → Prop) → Prop
  | .str a, .str z, Q => Q (strIn a z)
  | x, .lst ys, Q => plainD 58 x = true ∧ plainDs 58 ys = true ∧ Q (ys.any fun y => eqD y x)
  | _, _, _ => False
def notInD : D → D → (Bool → Prop) → Prop
  | .str a, .str z, Q => Q (!strIn a z)
  | x, .lst ys, Q => plainD 58 x = true ∧ plainDs 58 ys = true ∧ Q (!ys.any fun y => eqD y x)
  | _, _, _ => False
def rInA (K : PySem.W.Frag) : R2 := fun x y H Q => (∃ i j, x = .str i ∧ y = .str j ∧ Q (.bl (strIn i j)) H) ∨ rInD K x y H Q
def rNotInA (K : PySem.W.Frag) : R2 := fun x y H Q => (∃ i j, x = .str i ∧ y = .str j ∧ Q (.bl (!strIn i j)) H) ∨ rNotInD K x y H Q
theorem op_inA (hu : X.A.units + 65 < cLine) : OpR X (compareOp .In) (rInA X.K) := op_in_str.or (op_inD hu)
theorem op_notInA (hu : X.A.units + 65 < cLine) : OpR X (compareOp .NotIn) (rNotInA X.K) := op_notin_str.or (op_notInD hu)
theorem any_eqv (n m : Nat) (x : D) (hx : plainD n x = true) : ∀ (ys : List D), plainDs m ys = true → (toPys ys).any (fun z => PyData.eqv z (toPy x)) = ys.any fun y => eqD y x
  | [], _ => rfl
  | y :: ys, h => by
    rw [plainDs, Bool.and_eq_true] at h
    rw [toPys, List.any_cons, List.any_cons, eqv_of m n y x h.1 hx, any_eqv n m x hx ys h.2]
mutual
theorem plain_mono : ∀ (n m : Nat) (d : D), n ≤ m → plainD n d = true → plainD m d = true
  | _, _, .non, _, _ => by simp [plainD]
  | _, _, .bl _, _, _ => by simp [plainD]
  | _, _, .int _, _, _ => by simp [plainD]
  | _, _, .str _, _, _ => by simp [plainD]
  | 0, _, .lst xs, _, p => by simp [plainD] at p
  | n + 1, 0, .lst xs, h, _ => absurd h (by omega)
  | n + 1, m + 1, .lst xs, h, p => by simpa [plainD] using plain_monos n m xs (by omega) (by simpa [plainD] using p)
  | 0, _, .tup xs, _, p => by simp [plainD] at p
  | n + 1, 0, .tup xs, h, _ => absurd h (by omega)
  | n + 1, m + 1, .tup xs, h, p => by simpa [plainD] using plain_monos n m xs (by omega) (by simpa [plainD] using p)
  | _, _, .dic _ _, _, p => by simp [plainD] at p
  | _, _, .ins _ _ _, _, p => by simp [plainD] at p
  | _, _, .any _, _, p => by simp [plainD] at p
  | _, _, .fz _, _, p => by simp [plainD] at p
theorem plain_monos : ∀ (n m : Nat) (d : List D), n ≤ m → plainDs n d = true → plainDs m d = true
  | _, _, [], _, _ => by simp [plainDs]
  | n, m, d :: ds, h, p => by
    rw [plainDs, Bool.and_eq_true] at p ⊢
    exact ⟨plain_mono n m d h p.1, plain_monos n m ds h p.2⟩
end
theorem in_core {F H : Hp} {dx : D} {ys : List D} {x y : V} (sub : Same F H) (rx : Rep K F dx x) (ry : Rep K F (.lst ys) y) (p1 : plainD 58 dx = true) (p2 : plainDs 58 ys = true) :
    ∃ d ds, Dp K H x d ∧ Dp K H y (.list ds) ∧ SeqAt.shaped d = true ∧ SeqAt.shaped (.list ds) = true ∧ (ds.any fun z => PyData.eqv z d) = ys.any fun y => eqD y dx := by
  have q1 := plain_mono 58 60 dx (by omega) p1
  have q2 : plainD 60 (.lst ys) = true := by
    have := plain_monos 58 59 ys (by omega) p2
    simpa [plainD] using this
  exact ⟨toPy dx, toPys ys, rep_dp sub 60 dx x q1 rx, rep_dp sub 60 _ y q2 ry, shaped_of q1 rx, shaped_of q2 ry, any_eqv 58 58 dx p1 ys p2⟩
theorem o_in : Cm2 K (rInA K) inD := by
  intro F H dx dy x y Qd Q sub rx ry h hQ
  cases dy with
  | lst ys =>
    have h' : plainD 58 dx = true ∧ plainDs 58 ys = true ∧ Qd (ys.any fun y => eqD y dx) := by cases dx <;> exact h
    obtain ⟨p1, p2, q⟩ := h'
    obtain ⟨d, ds, a1, a2, a3, a4, e⟩ := in_core sub rx ry p1 p2
    exact .inr ⟨d, ds, a1, a2, a3, a4, by rw [e]; exact hQ _ F H q (Grow.refl sub)⟩
  | str z =>
    cases dx with
    | str a =>
      obtain ⟨rfl, _⟩ := rx
      obtain ⟨rfl, _⟩ := ry
      exact .inl ⟨a, z, rfl, rfl, hQ _ F H h (Grow.refl sub)⟩
    | _ => exact False.elim h
  | _ => cases dx <;> exact False.elim h
theorem o_notIn : Cm2 K (rNotInA K) notInD := by
  intro F H dx dy x y Qd Q sub rx ry h hQ
  cases dy with
  | lst ys =>
    have h' : plainD 58 dx = true ∧ plainDs 58 ys = true ∧ Qd (!ys.any fun y => eqD y dx) := by cases dx <;> exact h
    obtain ⟨p1, p2, q⟩ := h'
    obtain ⟨d, ds, a1, a2, a3, a4, e⟩ := in_core sub rx ry p1 p2
    exact .inr ⟨d, ds, a1, a2, a3, a4, by rw [e]; exact hQ _ F H q (Grow.refl sub)⟩
  | str z =>
    cases dx with
    | str a =>
      obtain ⟨rfl, _⟩ := rx
      obtain ⟨rfl, _⟩ := ry
      exact .inl ⟨a, z, rfl, rfl, hQ _ F H h (Grow.refl sub)⟩
    | _ => exact False.elim h
  | _ => cases dx <;> exact False.elim h

/-! ### subscripts and slices -/
def ixD : D → D → (D → Prop) → Prop
  | .lst ds, .int i, Q => ∃ d, atI ds i = some d ∧ Q d
  | .tup ds, .int i, Q => ∃ d, atI ds i = some d ∧ Q d
  | .str z, .int i, Q => ∃ c, atI z.cps.toList i = some c ∧ Q (.str ⟨#[c]⟩)
  | _, _, _ => False
theorem Reps.atI {F : Hp} {ds : List D} {vs : List V} {i : Int} {d : D} (h : Reps K F ds vs) (e : L2.atI ds i = some d) : ∃ v, L2.atI vs i = some v ∧ Rep K F d v := by
  unfold L2.atI at e ⊢
  rw [h.length]
  cases q : ixN ds.length i with
  | none => rw [q] at e; cases e
  | some j =>
    rw [q] at e
    exact h.get e
theorem sOk_one {c : Nat} (h : c < 0x110000) : sOk ⟨#[c]⟩ = true := sOk_of (by show 1 ≤ strLim; decide) fun c' hc' => by
  have e : c' = c := by simpa using hc'
  subst e
  exact h
theorem o_ix : Op2 K (rIx K) ixD := by
  intro F H dx dy x y Qd Q sub rx ry h hQ
  cases dx with
  | lst ds =>
    cases dy with
    | int i =>
      obtain ⟨a, vs, rfl, h1, _, rs⟩ := rx
      cases ry
      obtain ⟨d, e, q⟩ := h
      obtain ⟨v, e2, rv⟩ := rs.atI e
      exact .inl ⟨a, vs, i, v, rfl, rfl, .inl (.inl (sub _ _ h1)), e2, hQ d v F H q (Grow.refl sub) rv⟩
    | _ => exact False.elim h
  | tup ds =>
    cases dy with
    | int i =>
      obtain ⟨a, vs, rfl, h1, _, rs⟩ := rx
      cases ry
      obtain ⟨d, e, q⟩ := h
      obtain ⟨v, e2, rv⟩ := rs.atI e
      exact .inr (.inl ⟨a, vs, i, v, rfl, rfl, Same.seqT sub h1, e2, hQ d v F H q (Grow.refl sub) rv⟩)
    | _ => exact False.elim h
  | str z =>
    cases dy with
    | int i =>
      obtain ⟨rfl, hz⟩ := rx
      cases ry
      obtain ⟨c, e, q⟩ := h
      obtain ⟨j, _, hj, _, _, _⟩ := atI_get e
      exact .inr (.inr ⟨z, i, c, rfl, rfl, Nat.le_trans (sOk_len hz) (Nat.le_trans (Nat.le_add_right _ 2) strLim_line), e, hQ _ _ F H q (Grow.refl sub) ⟨rfl, sOk_one (sOk_cps hz c (List.mem_of_getElem? hj))⟩⟩)
    | _ => exact False.elim h
  | _ => cases dy <;> exact False.elim h
def cutD (xs : List D) (lo hi : Option Int) : List D := (xs.drop (HT.sIx xs.length 0 lo)).take (HT.sIx xs.length xs.length hi - HT.sIx xs.length 0 lo)
theorem Reps.cut {F : Hp} {ds : List D} {vs : List V} (h : Reps K F ds vs) (lo hi : Option Int) : Reps K F (cutD ds lo hi) (cutV vs lo hi) := by
  unfold cutD cutV
  rw [h.length]
  exact (h.drop _).take _
def slD : D → Option Int → Option Int → (D → Prop) → Prop
  | .lst ds, lo, hi, Q => Q (.lst (cutD ds lo hi))
  | .tup ds, lo, hi, Q => Q (.tup (cutD ds lo hi))
  | .str z, lo, hi, Q => Q (.str (cutS z lo hi))
  | _, _, _, _ => False
def rSlAll (K : PySem.W.Frag) : V → Option Int → Option Int → Hp → VK → Prop := fun x lo hi H Q => rSlL K x lo hi H Q ∨ rSlA K x lo hi H Q ∨ rSlS x lo hi H Q
theorem sl_all : SlR X (rSlAll X.K) := sl_list.or (sl_tupA.or sl_str)
theorem sOk_cut {z : Str} (h : sOk z = true) (lo hi : Option Int) : sOk (cutS z lo hi) = true := sOk_of (Nat.le_trans (cutS_length z lo hi) (sOk_len h)) fun c hc => by
  have hc' : c ∈ (z.cps.toList.drop (HT.sIx z.length 0 lo)).take (HT.sIx z.length z.length hi - HT.sIx z.length 0 lo) := hc
  exact sOk_cps h c (List.mem_of_mem_drop (List.mem_of_mem_take hc'))
theorem o_sl : OpS K (rSlAll K) slD := by
  intro F H dx x lo hi Qd Q sub rx h hQ
  cases dx with
  | lst ds =>
    obtain ⟨a, vs, rfl, h1, hl, rs⟩ := rx
    refine .inl ⟨a, vs, rfl, .inl (.inl (sub _ _ h1)), fun p np => ?_⟩
    have g : Grow F H (upd F p (.lst (cutV vs lo hi))) (upd H p (.lst (cutV vs lo hi))) := Grow.new sub np
    exact hQ _ _ _ _ h g ⟨p, _, rfl, upd_same, Nat.le_trans (cutV_length vs lo hi) hl, (Reps.mono g.fF _ _ rs).cut lo hi⟩
  | tup ds =>
    have rx' := rx
    obtain ⟨a, vs, rfl, h1, hl, rs⟩ := rx
    refine .inr (.inl ⟨a, vs, rfl, Same.seqT sub h1, fun e => ?_, fun _ p np => ?_⟩)
    · have e2 : cutD ds lo hi = ds := by
        unfold cutD
        rw [rs.length] at e
        rw [e.1, e.2, List.drop_zero, Nat.sub_zero, List.take_length]
      have h' : Qd (.tup (cutD ds lo hi)) := h
      rw [e2] at h'
      exact hQ _ _ F H h' (Grow.refl sub) rx'
    · have g : Grow F H (upd F p (.tup (cutV vs lo hi))) (upd H p (.tup (cutV vs lo hi))) := Grow.new sub np
      exact hQ _ _ _ _ h g ⟨p, _, rfl, .inl (.inl upd_same), Nat.le_trans (cutV_length vs lo hi) hl, (Reps.mono g.fF _ _ rs).cut lo hi⟩
  | str z =>
    obtain ⟨rfl, hz⟩ := rx
    exact .inr (.inr ⟨z, rfl, Nat.le_trans (sOk_len hz) (Nat.le_trans (Nat.le_add_right _ 2) strLim_line), hQ _ _ F H h (Grow.refl sub) ⟨rfl, sOk_cut hz lo hi⟩⟩)
  | _ => exact False.elim h
/-- xs[::-1] of a list -/
def dRevL {m : Mem} (ta : DT m) : DT m := fun ρ s Q => ta ρ s fun d ρ1 s1 => ∃ ds, d = .lst ds ∧ Q (.lst ds.reverse) ρ1 s1
theorem de_revL {m : Mem} {e : Expr} {ta : DT m} {k : Nat} {p1 p2 p3 pos : Pos} (he : PE X e (up X.K m ta)) : PE X (.Subscript e (.Slice none none (some (.UnaryOp .USub (.Constant (.int 1) k p1) p2)) p3) pos) (up X.K m (dRevL ta)) := PE.imp (pe_revL he) fun σ H Q h => by
  obtain ⟨F, ρ, s, Qd, rl, ht, hQ⟩ := h
  refine ⟨F, ρ, s, _, rl, ht, fun d ρ1 s1 x F1 H1 ⟨ds, e, q1⟩ r1 st1 rx => ?_⟩
  subst e
  obtain ⟨a, vs, rfl, h1, hl, rs⟩ := rx
  refine ⟨a, vs, rfl, .inl (.inl (r1.sub _ _ h1)), fun p np => ?_⟩
  have g : Grow F1 H1 (upd F1 p (.lst vs.reverse)) (upd H1 p (.lst vs.reverse)) := Grow.new r1.sub np
  exact hQ _ ρ1 s1 _ _ _ q1 (r1.grow g) (st1.trans g.stp) ⟨p, _, rfl, upd_same, by rw [List.length_reverse]; exact hl, (Reps.mono g.fF _ _ rs).reverse⟩

/-! ### built-in functions -/
def lenOf : D → Option Nat
  | .lst ds => some ds.length
  | .tup ds => some ds.length
  | .str z => some z.length
  | .dic ks _ => some ks.length
  | _ => none
def lenD (ds : List D) (Q : D → Prop) : Prop := ∃ d n, ds = [d] ∧ lenOf d = some n ∧ Q (.int (n : Nat))
def rLenA (K : PySem.W.Frag) : List V → Hp → VK → Prop := fun xs H Q => (∃ x n, xs = [x] ∧ LenV K x H n ∧ Q (.int n) H) ∨ (∃ a kvs, xs = [V.ref a] ∧ H a = some (.dK kvs) ∧ Q (.int kvs.length) H)
theorem CallR.or {f : Value} {r r' : List V → Hp → VK → Prop} (h : CallR X f r) (h' : CallR X f r') : CallR X f (fun xs H Q => r xs H Q ∨ r' xs H Q) := by
  intro pins s σ H xs us Q I rx q
  rcases q with q | q
  · exact h pins s σ H xs us Q I rx q
  · exact h' pins s σ H xs us Q I rx q
theorem one_of {F : Hp} {d : D} {ds : List D} {vs : List V} (h : Reps K F (d :: ds) vs) : ∃ v r, vs = v :: r ∧ Rep K F d v ∧ Reps K F ds r := h
theorem o_len : OpN K (rLenA K) lenD := by
  intro F H ds vs Qd Q sub rs h hQ
  obtain ⟨d, n, rfl, e, q⟩ := h
  obtain ⟨v, _, rfl, rv, rn⟩ := rs
  cases rn
  have fin : Q (.int (n : Nat)) H := hQ _ _ F H q (Grow.refl sub) rfl
  cases d with
  | lst xs =>
    obtain ⟨a, ws, rfl, h1, _, r⟩ := rv
    cases e
    exact .inl ⟨_, xs.length, rfl, .inl ⟨ws, .inl (.inl (sub _ _ h1)), r.length.symm⟩, fin⟩
  | tup xs =>
    obtain ⟨a, ws, rfl, h1, _, r⟩ := rv
    cases e
    exact .inl ⟨_, xs.length, rfl, .inr ⟨ws, Same.seqT sub h1, r.length.symm⟩, fin⟩
  | str z =>
    obtain ⟨rfl, hz⟩ := rv
    cases e
    exact .inl ⟨_, z.length, rfl, ⟨Nat.le_trans (sOk_len hz) (Nat.le_trans (Nat.le_add_right _ 2) strLim_line), rfl⟩, fin⟩
  | dic ks xs =>
    obtain ⟨a, kvs, rfl, h1, _, ek, r⟩ := rv
    cases e
    refine .inr ⟨a, kvs, rfl, sub _ _ h1, ?_⟩
    have e2 : kvs.length = ks.length := by rw [← ek, List.length_map]
    rw [e2]
    exact fin
  | _ => cases e
def absD (ds : List D) (Q : D → Prop) : Prop := ∃ i, ds = [.int i] ∧ Q (.int (if i < 0 then -i else i))
theorem int1 {F : Hp} {i : Int} {vs : List V} (h : Reps K F [.int i] vs) : vs = [.int i] := reps_ints (ns := [i]) h
theorem int2 {F : Hp} {i j : Int} {vs : List V} (h : Reps K F [.int i, .int j] vs) : vs = [.int i, .int j] := reps_ints (ns := [i, j]) h
theorem o_abs : OpN K (fun xs H Q => ∃ i, xs = [.int i] ∧ Q (.int (if i < 0 then -i else i)) H) absD := by
  intro F H ds vs Qd Q sub rs h hQ
  obtain ⟨i, rfl, q⟩ := h
  exact ⟨i, int1 rs, hQ _ _ F H q (Grow.refl sub) rfl⟩
def intD (ds : List D) (Q : D → Prop) : Prop := ∃ i, ds = [.int i] ∧ Q (.int i)
theorem o_int : OpN K (fun xs H Q => (∃ i, xs = [.int i] ∧ Q (.int i) H) ∨ ∃ k, xs = [.bl k] ∧ Q (.int (if k then 1 else 0)) H) intD := by
  intro F H ds vs Qd Q sub rs h hQ
  obtain ⟨i, rfl, q⟩ := h
  exact .inl ⟨i, int1 rs, hQ _ _ F H q (Grow.refl sub) rfl⟩
def minD (ds : List D) (Q : D → Prop) : Prop := ∃ i j, ds = [.int i, .int j] ∧ Q (.int (if j < i then j else i))
theorem o_min : OpN K (fun xs H Q => ∃ i j, xs = [.int i, .int j] ∧ Q (.int (if j < i then j else i)) H) minD := by
  intro F H ds vs Qd Q sub rs h hQ
  obtain ⟨i, j, rfl, q⟩ := h
  exact ⟨i, j, int2 rs, hQ _ _ F H q (Grow.refl sub) rfl⟩
def maxD (ds : List D) (Q : D → Prop) : Prop := ∃ i j, ds = [.int i, .int j] ∧ Q (.int (if j > i then j else i))
theorem o_max : OpN K (fun xs H Q => ∃ i j, xs = [.int i, .int j] ∧ Q (.int (if j > i then j else i)) H) maxD := by
  intro F H ds vs Qd Q sub rs h hQ
  obtain ⟨i, j, rfl, q⟩ := h
  exact ⟨i, j, int2 rs, hQ _ _ F H q (Grow.refl sub) rfl⟩
def allD (ds : List D) (Q : D → Prop) : Prop := ∃ bs : List Bool, ds = [.lst (bs.map .bl)] ∧ Q (.bl (bs.all id))
def anyD (ds : List D) (Q : D → Prop) : Prop := ∃ bs : List Bool, ds = [.lst (bs.map .bl)] ∧ Q (.bl (bs.any id))
theorem o_all : OpN K (rAll K) allD := by
  intro F H ds vs Qd Q sub rs h hQ
  obtain ⟨bs, rfl, q⟩ := h
  obtain ⟨v, _, rfl, ⟨a, ws, rfl, h1, _, r⟩, rn⟩ := rs
  cases rn
  have e := reps_bls r
  subst e
  exact ⟨a, bs, rfl, .inl (.inl (sub _ _ h1)), hQ _ _ F H q (Grow.refl sub) rfl⟩
theorem o_any : OpN K (rAny K) anyD := by
  intro F H ds vs Qd Q sub rs h hQ
  obtain ⟨bs, rfl, q⟩ := h
  obtain ⟨v, _, rfl, ⟨a, ws, rfl, h1, _, r⟩, rn⟩ := rs
  cases rn
  have e := reps_bls r
  subst e
  exact ⟨a, bs, rfl, .inl (.inl (sub _ _ h1)), hQ _ _ F H q (Grow.refl sub) rfl⟩
/-- tuple(xs), list(xs) -/
def tupD (ds : List D) (Q : D → Prop) : Prop := ∃ d xs, ds = [d] ∧ seqD d = some xs ∧ Q (.tup xs)
def listD (ds : List D) (Q : D → Prop) : Prop := ∃ d xs, ds = [d] ∧ seqD d = some xs ∧ Q (.lst xs)
theorem o_tuple : OpN K (fun xs H Q => ∃ p ys, xs = [.ref p] ∧ ((SqL K H p ys ∧ ∀ l, H l = none → Q (.ref l) (upd H l (.tup ys))) ∨ (SqT K H p ys ∧ Q (.ref p) H))) tupD := by
  intro F H ds vs Qd Q sub rs h hQ
  obtain ⟨d, xs, rfl, e, q⟩ := h
  obtain ⟨v, _, rfl, rv, rn⟩ := rs
  cases rn
  cases d with
  | lst xs =>
    cases e
    obtain ⟨a, ws, rfl, h1, hl, r⟩ := rv
    refine ⟨a, ws, rfl, .inl ⟨.inl (.inl (sub _ _ h1)), fun p np => ?_⟩⟩
    have g : Grow F H (upd F p (.tup ws)) (upd H p (.tup ws)) := Grow.new sub np
    exact hQ _ _ _ _ q g ⟨p, _, rfl, .inl (.inl upd_same), hl, Reps.mono g.fF _ _ r⟩
  | tup xs =>
    cases e
    have rv' := rv
    obtain ⟨a, ws, rfl, h1, hl, r⟩ := rv
    exact ⟨a, ws, rfl, .inr ⟨Same.seqT sub h1, hQ _ _ F H q (Grow.refl sub) rv'⟩⟩
  | fz xs =>
    cases e
    obtain ⟨a, ws, rfl, h1, hl, r⟩ := rv
    refine ⟨a, ws, rfl, .inl ⟨Same.seq sub h1, fun p np => ?_⟩⟩
    have g : Grow F H (upd F p (.tup ws)) (upd H p (.tup ws)) := Grow.new sub np
    exact hQ _ _ _ _ q g ⟨p, _, rfl, .inl (.inl upd_same), hl, Reps.mono g.fF _ _ r⟩
  | _ => cases e
theorem o_list : OpN K (fun xs H Q => ∃ p ys, xs = [.ref p] ∧ (SqL K H p ys ∨ SqT K H p ys) ∧ ∀ l, H l = none → Q (.ref l) (upd H l (.lst ys))) listD := by
  intro F H ds vs Qd Q sub rs h hQ
  obtain ⟨d, xs, rfl, e, q⟩ := h
  obtain ⟨v, _, rfl, rv, rn⟩ := rs
  cases rn
  cases d with
  | lst xs =>
    cases e
    obtain ⟨a, ws, rfl, h1, hl, r⟩ := rv
    refine ⟨a, ws, rfl, .inl (.inl (.inl (sub _ _ h1))), fun p np => ?_⟩
    have g : Grow F H (upd F p (.lst ws)) (upd H p (.lst ws)) := Grow.new sub np
    exact hQ _ _ _ _ q g ⟨p, _, rfl, upd_same, hl, Reps.mono g.fF _ _ r⟩
  | tup xs =>
    cases e
    obtain ⟨a, ws, rfl, h1, hl, r⟩ := rv
    refine ⟨a, ws, rfl, .inr (Same.seqT sub h1), fun p np => ?_⟩
    have g : Grow F H (upd F p (.lst ws)) (upd H p (.lst ws)) := Grow.new sub np
    exact hQ _ _ _ _ q g ⟨p, _, rfl, upd_same, hl, Reps.mono g.fF _ _ r⟩
  | fz xs =>
    cases e
    obtain ⟨a, ws, rfl, h1, hl, r⟩ := rv
    refine ⟨a, ws, rfl, .inl (Same.seq sub h1), fun p np => ?_⟩
    have g : Grow F H (upd F p (.lst ws)) (upd H p (.lst ws)) := Grow.new sub np
    exact hQ _ _ _ _ q g ⟨p, _, rfl, upd_same, hl, Reps.mono g.fF _ _ r⟩
  | _ => cases e
/-- isinstance(x, T), T a built-in type -/
inductive Tg where
  | non | bl | int | str | lst | tup | dic
def tgS : Tg → String
  | .non => "NoneType"
  | .bl => "bool"
  | .int => "int"
  | .str => "str"
  | .lst => "list"
  | .tup => "tuple"
  | .dic => "dict"
def tyT : D → Option Tg
  | .non => some .non
  | .bl _ => some .bl
  | .int _ => some .int
  | .str _ => some .str
  | .lst _ => some .lst
  | .tup _ => some .tup
  | .dic _ _ => some .dic
  | _ => none
/-- what isinstance says -/
def isTg : Tg → Tg → Bool
  | .non, .non => true
  | .bl, .bl => true
  | .bl, .int => true
  | .int, .int => true
  | .str, .str => true
  | .lst, .lst => true
  | .tup, .tup => true
  | .dic, .dic => true
  | _, _ => false
theorem kitB_ok (t T : Tg) (h : T ≠ .non) : kitB (tgS t) (tgS T) = some (isTg t T) := by
  cases T with
  | non => exact absurd rfl h
  | bl => cases t <;> decide +kernel
  | int => cases t <;> decide +kernel
  | str => cases t <;> decide +kernel
  | lst => cases t <;> decide +kernel
  | tup => cases t <;> decide +kernel
  | dic => cases t <;> decide +kernel
def isiD (ds : List D) (Q : D → Prop) : Prop := ∃ x T t, ds = [x, .any (.ty (tgS T))] ∧ tyT x = some t ∧ T ≠ .non ∧ Q (.bl (isTg t T))
theorem ty_of {F H : Hp} {d : D} {v : V} {t : Tg} (sub : Same F H) (h : Rep K F d v) (e : tyT d = some t) : TyX K H v (.type (tgS t)) := by
  cases d with
  | non => cases e; cases h; exact .base .non
  | bl b => cases e; cases h; exact .base (.bl b)
  | int i => cases e; cases h; exact .base (.int i)
  | str x => cases e; obtain ⟨rfl, _⟩ := h; exact .base (.str x)
  | lst xs => cases e; obtain ⟨a, vs, rfl, h1, _, _⟩ := h; exact .base (.lst (sub _ _ h1))
  | tup xs =>
    cases e
    obtain ⟨a, vs, rfl, h1, _, _⟩ := h
    rcases h1 with (h1 | ⟨o, h1⟩) | ⟨o, its, n, h1, h2, _⟩
    · exact .base (.tup (sub _ _ h1))
    · exact .fTuple (sub _ _ h1)
    · exact .kTuple h1 h2
  | dic ks ds => cases e; obtain ⟨a, vs, rfl, h1, _⟩ := h; exact .base (.dK (sub _ _ h1))
  | ins _ _ _ => cases e
  | any _ => cases e
  | fz _ => cases e
theorem o_isi : OpN K (rIsi K) isiD := by
  intro F H ds vs Qd Q sub rs h hQ
  obtain ⟨x, T, t, rfl, e1, e2, q⟩ := h
  obtain ⟨v, _, rfl, rv, w, _, rfl, rw', rn⟩ := rs
  cases rn
  cases rw'
  exact ⟨v, .ty (tgS T), .type (tgS t), .type (tgS T), _, rfl, .ty _, ty_of sub rv e1, kit_ty (kitB_ok t T e2), hQ _ _ F H q (Grow.refl sub) rfl⟩
/-- isinstance(x, (T1, T2)), the types written -/
theorem kitAny_ok {t : Tg} : ∀ Ts : List Tg, (∀ T ∈ Ts, T ≠ .non) → PySem.W.kitAny K (.type (tgS t)) (Ts.map fun T => .type (tgS T)) = some (Ts.any (isTg t))
  | [], _ => rfl
  | T :: Ts, h => by
    have e : PySem.W.kitOne K (.type (tgS t)) (.type (tgS T)) = some (isTg t T) := kit_ty (kitB_ok t T (h T List.mem_cons_self))
    have ih := kitAny_ok (t := t) Ts fun T' h' => h T' (List.mem_cons_of_mem _ h')
    rw [List.map_cons, List.any_cons]
    refine kitAny_cons e (fun z => ?_) (fun z => ?_)
    · rw [z, Bool.false_or]; exact ih
    · rw [z, Bool.true_or]
def dIsT {m : Mem} (te : DT m) (T1 T2 : Tg) : DT m := fun ρ s Q => te ρ s fun x ρ1 s1 => ∃ t, tyT x = some t ∧ Q (.bl (isTg t T1 || isTg t T2)) ρ1 s1
theorem de_isT {m : Mem} {e : Expr} {te : DT m} {x1 x2 : Str} {t1 t2 : Tg} {p p1 p2 pt pos : Pos} {k : Nat} (hg : Gl X "isinstance") (hm : X.mg "isinstance" = none) (he : PE X e (up X.K m te)) (hg1 : Gl X x1) (hm1 : X.mg x1 = none) (hv1 : bootBuiltins x1 = some (.type (tgS t1))) (hg2 : Gl X x2) (hm2 : X.mg x2 = none) (hv2 : bootBuiltins x2 = some (.type (tgS t2)))
    (h1 : t1 ≠ .non := by intro z; cases z) (h2 : t2 ≠ .non := by intro z; cases z) (n1 : x1 ≠ "__name__" := by decide) (n2 : x2 ≠ "__name__" := by decide) (d1 : (x1 == ("__debug__" : Str)) = false := by decide) (d2 : (x2 == ("__debug__" : Str)) = false := by decide)
    (hs : starEach [e, .Tuple [.Name x1 p1, .Name x2 p2] k pt] X.env = [(false, eval e X.env), (false, eval (.Tuple [.Name x1 p1, .Name x2 p2] k pt) X.env)] := by rfl)
    (hs2 : starEach [.Name x1 p1, .Name x2 p2] X.env = [(false, eval (.Name x1 p1) X.env), (false, eval (.Name x2 p2) X.env)] := by rfl) (hs3 : starEach [.Name x2 p2] X.env = [(false, eval (.Name x2 p2) X.env)] := by rfl)
    (hs4 : starEach [.Tuple [.Name x1 p1, .Name x2 p2] k pt] X.env = [(false, eval (.Tuple [.Name x1 p1, .Name x2 p2] k pt) X.env)] := by rfl) :
    PE X (.Call (.Name "isinstance" p) [e, .Tuple [.Name x1 p1, .Name x2 p2] k pt] [] pos) (up X.K m (dIsT te t1 t2)) :=
  PE.imp (pe_callB call_isiT hg hm (by decide +kernel) (pa_cons he (pa_cons (pe_tup (pa_cons (pe_bltn (v := .ty (tgS t1)) hg1 hm1 hv1 rfl n1 d1) (pa_cons (pe_bltn (v := .ty (tgS t2)) hg2 hm2 hv2 rfl n2 d2) pa_nil (by rw [hs3]; rfl)) (by rw [hs2, hs3]))) pa_nil (by rw [hs4]; rfl)) (by rw [hs, hs4])) (by decide) (by decide) (by rw [hs, hs4]) (by rw [hs4]; rfl)) fun σ H Q h => by
    obtain ⟨F, ρ, s, Qd, r, ht, hQ⟩ := h
    refine ⟨F, ρ, s, _, r, ht, fun d ρ1 s1 v F1 H1 ⟨t, e1, q1⟩ r1 st1 rv => ⟨by show 2 ≤ sizeLine; decide, fun q nq => ?_⟩⟩
    have g : Grow F1 H1 (upd F1 q (.tup [.ty (tgS t1), .ty (tgS t2)])) (upd H1 q (.tup [.ty (tgS t1), .ty (tgS t2)])) := Grow.new r1.sub nq
    refine ⟨v, q, [.ty (tgS t1), .ty (tgS t2)], .type (tgS t), [.type (tgS t1), .type (tgS t2)], _, rfl, upd_same, .cons (.ty _) (.cons (.ty _) .nil), ty_of g.fH (Rep.mono g.fF _ _ rv) e1, kitAny_ok [t1, t2] (fun T h => ?_), ?_⟩
    · rcases List.mem_cons.mp h with rfl | h
      · exact h1
      · rw [List.mem_singleton.mp h]; exact h2
    · have e : [t1, t2].any (isTg t) = (isTg t t1 || isTg t t2) := by simp
      rw [e]
      exact hQ _ ρ1 s1 _ _ _ q1 (r1.grow g) (st1.trans g.stp) rfl

/-! ### methods of texts -/
theorem line2 {a : Str} (h : sOk a = true) : a.length + 2 ≤ sizeLine := Nat.le_trans (Nat.add_le_add_right (sOk_len h) 2) strLim_line
theorem line0 {a : Str} (h : sOk a = true) : a.length ≤ sizeLine := Nat.le_trans (Nat.le_add_right _ 2) (line2 h)
/-- a text cut at a text of one sign: its parts -/
theorem spl_mem {S : List Nat} : ∀ (k : Nat) (acc l : List Nat), ∀ p ∈ spl S k acc l, p.length ≤ acc.length + l.length ∧ ∀ c ∈ p, c ∈ acc ∨ c ∈ l
  | _, acc, [], p, hp => by
    rw [spl_nil] at hp
    have e : p = acc := by simpa using hp
    subst e
    exact ⟨by simp, fun c hc => .inl hc⟩
  | 0, acc, c :: r, p, hp => by
    cases h : pre S (c :: r) with
    | true =>
      rw [spl_hit h] at hp
      rcases List.mem_cons.mp hp with e | hp
      · subst e; exact ⟨by simp, fun c hc => .inl hc⟩
      · obtain ⟨h1, h2⟩ := spl_mem (S.length - 1) [] r p hp
        exact ⟨by simp at h1 ⊢; omega, fun c' hc => .inr (List.mem_cons_of_mem _ ((h2 c' hc).resolve_left (by simp)))⟩
    | false =>
      rw [spl_miss h] at hp
      obtain ⟨h1, h2⟩ := spl_mem 0 (acc ++ [c]) r p hp
      refine ⟨by simp at h1 ⊢; omega, fun c' hc => ?_⟩
      rcases h2 c' hc with z | z
      · rcases List.mem_append.mp z with z | z
        · exact .inl z
        · exact .inr (by have : c' = c := by simpa using z
                         subst this
                         exact List.mem_cons_self)
      · exact .inr (List.mem_cons_of_mem _ z)
  | k + 1, acc, c :: r, p, hp => by
    have e : spl S (k + 1) acc (c :: r) = spl S k acc r := rfl
    rw [e] at hp
    obtain ⟨h1, h2⟩ := spl_mem k acc r p hp
    exact ⟨by simp; omega, fun c' hc => (h2 c' hc).elim .inl fun z => .inr (List.mem_cons_of_mem _ z)⟩
/-- the parts of a text between signs c -/
def splS (c : Nat) (x : Str) : List Str := (spl [c] 0 [] (tl x)).map fun l => ⟨l.toArray⟩
theorem split_splS {c : Nat} (hc : c < 256) (x : Str) : Txt.split x ⟨#[c]⟩ = splS c x := by
  refine map_tl_inj ?_
  rw [split_spl x ⟨#[c]⟩ (by simp) (kind_ok (by simpa using hc))]
  unfold splS
  rw [List.map_map]
  show spl [c] 0 [] (tl x) = (spl [c] 0 [] (tl x)).map (fun l => l)
  rw [List.map_id']
theorem sOk_spl {c : Nat} {x : Str} (h : sOk x = true) : ∀ y ∈ splS c x, sOk y = true := fun y hy => by
  obtain ⟨l, hl, rfl⟩ := List.mem_map.mp hy
  obtain ⟨h1, h2⟩ := spl_mem 0 [] (tl x) l hl
  refine sOk_of ?_ fun c' hc => sOk_cps h c' ((h2 c' hc).resolve_left (by simp))
  have := sOk_len h
  rw [len_tl] at this
  show l.toArray.size ≤ strLim
  rw [List.size_toArray]
  rw [List.length_nil, Nat.zero_add] at h1
  exact Nat.le_trans h1 this
def splitD : D → List D → (D → Prop) → Prop := fun x ds Q => ∃ z c, x = .str z ∧ ds = [.str ⟨#[c]⟩] ∧ c < 256 ∧ Q (.lst ((splS c z).map .str))
theorem new_strs {F H : Hp} {ys : List Str} {Qd : D → Prop} {Q : VK} (sub : Same F H) (hl : ys.length ≤ sizeLine) (hy : ∀ y ∈ ys, sOk y = true) (h : Qd (.lst (ys.map .str))) (hQ : ∀ d v F' H', Qd d → Grow F H F' H' → Rep K F' d v → Q v H') : rNewStrs ys H Q := fun p np => by
  have g : Grow F H (upd F p (.lst (ys.map V.str))) (upd H p (.lst (ys.map V.str))) := Grow.new sub np
  exact hQ _ _ _ _ h g ⟨p, _, rfl, upd_same, by rw [List.length_map]; exact hl, reps_of_strs ys hy⟩
theorem o_split : OpM K (fun x xs H Q => ∃ a b, x = .str a ∧ xs = [.str b] ∧ (b.length == 0) = false ∧ a.length + 2 ≤ sizeLine ∧ rNewStrs (Txt.split a b) H Q) splitD := by
  intro F H dx x ds vs Qd Q sub rx rs h hQ
  obtain ⟨z, c, rfl, rfl, hc, q⟩ := h
  obtain ⟨rfl, hz⟩ := rx
  obtain ⟨v, _, rfl, ⟨rfl, _⟩, rn⟩ := rs
  cases rn
  refine ⟨z, ⟨#[c]⟩, rfl, rfl, rfl, line2 hz, ?_⟩
  have hl := PyProof.Rows.split_le z ⟨#[c]⟩
  have h2 := line2 hz
  rw [split_splS hc] at hl ⊢
  exact new_strs sub (by omega) (sOk_spl hz) q hQ
def joinS (z : Str) (ys : List Str) : Str := Str.join z ys
theorem joinL_len (S : List Nat) : ∀ ps : List (List Nat), (joinL S ps).length ≤ (ps.map List.length).sum + ps.length * S.length
  | [] => by simp [joinL]
  | [p] => by simp [joinL]
  | p :: q :: r => by
    have ih := joinL_len S (q :: r)
    have e : joinL S (p :: q :: r) = p ++ S ++ joinL S (q :: r) := (List.append_assoc _ _ _).symm
    rw [e]
    simp only [List.length_append, List.map_cons, List.sum_cons, List.length_cons] at ih ⊢
    have e2 : (r.length + 1 + 1) * S.length = (r.length + 1) * S.length + S.length := Nat.succ_mul _ _
    omega
theorem joinL_mem (S : List Nat) {c : Nat} : ∀ ps : List (List Nat), c ∈ joinL S ps → c ∈ S ∨ ∃ p ∈ ps, c ∈ p
  | [], h => by simp [joinL] at h
  | [p], h => .inr ⟨p, by simp, h⟩
  | p :: q :: r, h => by
    have e : joinL S (p :: q :: r) = p ++ S ++ joinL S (q :: r) := (List.append_assoc _ _ _).symm
    rw [e] at h
    rcases List.mem_append.mp h with h | h
    · rcases List.mem_append.mp h with h | h
      · exact .inr ⟨p, by simp, h⟩
      · exact .inl h
    · rcases joinL_mem S (q :: r) h with h | ⟨u, hu, hc⟩
      · exact .inl h
      · exact .inr ⟨u, List.mem_cons_of_mem _ hu, hc⟩
def joinD : D → List D → (D → Prop) → Prop := fun x ds Q => ∃ z ys, x = .str z ∧ (ds = [.lst (ys.map .str)] ∨ ds = [.tup (ys.map .str)]) ∧ (ys.map (·.length)).sum + ys.length * z.length ≤ strLim ∧ Q (.str (joinS z ys))
theorem o_join : OpM K (fun x xs H Q => ∃ a p, ∃ ys : List Str, x = .str a ∧ xs = [.ref p] ∧ (SqL K H p (ys.map V.str) ∨ SqT K H p (ys.map V.str)) ∧
    (ys.map (·.length)).sum + ys.length * a.length ≤ 16777216 ∧ Q (.str (Txt.join a ys)) H) joinD := by
  intro F H dx x ds vs Qd Q sub rx rs h hQ
  obtain ⟨z, ys, rfl, hd, hl, q⟩ := h
  obtain ⟨rfl, hz⟩ := rx
  have hs : strLim = 1000000 := rfl
  have fin : ∀ (hy : ∀ y ∈ ys, sOk y = true), Q (.str (Txt.join z ys)) H := fun hy => by
    rw [join_eq]
    refine hQ _ _ F H q (Grow.refl sub) ⟨rfl, sOk_of ?_ fun c hc => ?_⟩
    · rw [len_tl]
      show (tl (Str.join z ys)).length ≤ strLim
      rw [tl_join]
      refine Nat.le_trans (joinL_len _ _) ?_
      rw [List.map_map, List.length_map, ← len_tl]
      have e : ys.map (List.length ∘ tl) = ys.map (·.length) := List.map_congr_left fun y _ => (len_tl y).symm
      rw [e]
      exact hl
    · have hc' : c ∈ tl (Str.join z ys) := hc
      rw [tl_join] at hc'
      rcases joinL_mem _ _ hc' with h | ⟨p, hp, hcp⟩
      · exact sOk_cps hz c h
      · obtain ⟨y, hy', rfl⟩ := List.mem_map.mp hp
        exact sOk_cps (hy y hy') c hcp
  rcases hd with rfl | rfl
  · obtain ⟨v, _, rfl, ⟨a, ws, rfl, h1, _, r⟩, rn⟩ := rs
    cases rn
    obtain ⟨rfl, hy⟩ := reps_strs r
    exact ⟨z, a, ys, rfl, rfl, .inl (.inl (.inl (sub _ _ h1))), by omega, fin hy⟩
  · obtain ⟨v, _, rfl, ⟨a, ws, rfl, h1, _, r⟩, rn⟩ := rs
    cases rn
    obtain ⟨rfl, hy⟩ := reps_strs r
    exact ⟨z, a, ys, rfl, rfl, .inr (Same.seqT sub h1), by omega, fin hy⟩
def swD : D → List D → (D → Prop) → Prop := fun x ds Q => ∃ a b, x = .str a ∧ ds = [.str b] ∧ Q (.bl (Txt.startswith a b))
theorem o_sw : OpM K (fun x xs H Q => ∃ a b, x = .str a ∧ xs = [.str b] ∧ Q (.bl (Txt.startswith a b)) H) swD := by
  intro F H dx x ds vs Qd Q sub rx rs h hQ
  obtain ⟨a, b, rfl, rfl, q⟩ := h
  obtain ⟨rfl, _⟩ := rx
  obtain ⟨v, _, rfl, ⟨rfl, _⟩, rn⟩ := rs
  cases rn
  exact ⟨a, b, rfl, rfl, hQ _ _ F H q (Grow.refl sub) rfl⟩
/-- rpartition -/
theorem mt_rpartition : MtR X "str.rpartition" (fun x xs H Q => ∃ a b, x = .str a ∧ xs = [.str b] ∧ (b.length == 0) = false ∧ a.length ≤ sizeLine ∧
    ∀ p, H p = none → Q (.ref p) (upd H p (.tup [.str (Txt.rpartition a b).1, .str (Txt.rpartition a b).2.1, .str (Txt.rpartition a b).2.2]))) := by
  intro pins s σ H x xs v us Q I rx rs h
  obtain ⟨a, b, rfl, rfl, hb, hz, h⟩ := h
  obtain ⟨t, rfl⟩ := rx
  cases rs with
  | cons r1 rs =>
    cases rs
    obtain ⟨u, rfl⟩ := r1
    refine call_meets PySem.F.slot_str_rpartition (typeIs_str _ _ _) PySem.F.entry_str_rpartition (PySem.F.args_str_rpartition_2 _ _) (meets_str_rpartition a b t u hb hz) ?_
    unfold Txt.rpartition at h
    revert h
    cases Builtin.Str.lastOccurrence a b 0 a.length with
    | none => intro h; exact laid_parts I h
    | some i => intro h; exact laid_parts I h
def rpartD : D → List D → (D → Prop) → Prop := fun x ds Q => ∃ z c, x = .str z ∧ ds = [.str ⟨#[c]⟩] ∧ c < 0x110000 ∧ Q (.tup [.str (Txt.rpartition z ⟨#[c]⟩).1, .str (Txt.rpartition z ⟨#[c]⟩).2.1, .str (Txt.rpartition z ⟨#[c]⟩).2.2])
theorem sOk_sub {z : Str} (h : sOk z = true) (i j : Nat) : sOk (Builtin.Str.strSub z i j) = true := by
  refine sOk_of ?_ fun c hc => ?_
  · rw [len_tl, tl_strSub, List.length_take, List.length_drop]
    have := sOk_len h
    rw [len_tl] at this
    omega
  · have hc' : c ∈ tl (Builtin.Str.strSub z i j) := hc
    rw [tl_strSub] at hc'
    exact sOk_cps h c (List.mem_of_mem_drop (List.mem_of_mem_take hc'))
theorem sOk_rpart {z : Str} {b : Str} (h : sOk z = true) (hb : sOk b = true) : sOk (Txt.rpartition z b).1 = true ∧ sOk (Txt.rpartition z b).2.1 = true ∧ sOk (Txt.rpartition z b).2.2 = true := by
  unfold Txt.rpartition
  cases Builtin.Str.lastOccurrence z b 0 z.length with
  | none => exact ⟨by show sOk Str.empty = true; decide, by show sOk Str.empty = true; decide, h⟩
  | some i => exact ⟨sOk_sub h _ _, hb, sOk_sub h _ _⟩
theorem o_rpart : OpM K (fun x xs H Q => ∃ a b, x = .str a ∧ xs = [.str b] ∧ (b.length == 0) = false ∧ a.length ≤ sizeLine ∧
    ∀ p, H p = none → Q (.ref p) (upd H p (.tup [.str (Txt.rpartition a b).1, .str (Txt.rpartition a b).2.1, .str (Txt.rpartition a b).2.2]))) rpartD := by
  intro F H dx x ds vs Qd Q sub rx rs h hQ
  obtain ⟨z, c, rfl, rfl, hc, q⟩ := h
  obtain ⟨rfl, hz⟩ := rx
  obtain ⟨v, _, rfl, ⟨rfl, hb⟩, rn⟩ := rs
  cases rn
  obtain ⟨k1, k2, k3⟩ := sOk_rpart hz hb
  refine ⟨z, ⟨#[c]⟩, rfl, rfl, rfl, line0 hz, fun p np => ?_⟩
  have g : Grow F H (upd F p (.tup [.str (Txt.rpartition z ⟨#[c]⟩).1, .str (Txt.rpartition z ⟨#[c]⟩).2.1, .str (Txt.rpartition z ⟨#[c]⟩).2.2])) (upd H p (.tup [.str (Txt.rpartition z ⟨#[c]⟩).1, .str (Txt.rpartition z ⟨#[c]⟩).2.1, .str (Txt.rpartition z ⟨#[c]⟩).2.2])) := Grow.new sub np
  exact hQ _ _ _ _ q g ⟨p, _, rfl, .inl (.inl upd_same), by show 3 ≤ sizeLine; decide, .cons ⟨rfl, k1⟩ (.cons ⟨rfl, k2⟩ (.one ⟨rfl, k3⟩))⟩
def upperD : D → List D → (D → Prop) → Prop := fun x ds Q => ∃ z, x = .str z ∧ ds = [] ∧ sOk (Txt.upper z) = true ∧ Q (.str (Txt.upper z))
theorem o_upper : OpM K (fun x xs H Q => ∃ a, x = .str a ∧ xs = [] ∧ a.length ≤ 5592405 ∧ Q (.str (Txt.upper a)) H) upperD := by
  intro F H dx x ds vs Qd Q sub rx rs h hQ
  obtain ⟨z, rfl, rfl, hu, q⟩ := h
  obtain ⟨rfl, hz⟩ := rx
  cases rs
  have := sOk_len hz
  have hs : strLim = 1000000 := rfl
  exact ⟨z, rfl, rfl, by omega, hQ _ _ F H q (Grow.refl sub) ⟨rfl, hu⟩⟩
end
end DL

set_option Elab.async false
set_option linter.all false
set_option maxRecDepth 100000
namespace DL
open PySem PySem.Spec PyProof.Rows L2 TL

/-! ### a list that is a def's own: its items read and stored, its length -/
section
variable {X : Cx} {m : Mem} {E : Ent m} {e b : Expr} {te tb : DT m} {pos : Pos}
def dIxO {m : Mem} (i : Nat) (tb : DT m) : DT m := fun ρ s Q => (∃ ds0, ρ[i]? = some (.ow (.lst ds0))) ∧ tb ρ s fun y ρ1 s1 => ∃ k ds d, y = .int k ∧ ρ1[i]? = some (.ow (.lst ds)) ∧ atI ds k = some d ∧ Q d ρ1 s1
theorem de_ixO (i : Nat) {x : Str} {xpos : Pos} (hb : PE X b (up X.K m tb)) (hN : X.N[i]? = some x := by rfl) (hv : Vis X.env.scope x := by first | exact Or.inl rfl | exact Or.inr (Or.inl rfl) | exact Or.inr (Or.inr rfl))
    (hd : (x == ("__debug__" : Str)) = false := by decide) (hcd : (x == ("__classdict__" : Str)) = false := by decide) (hs : PlainIx b := by exact fun _ _ => rfl) : PE X (.Subscript (.Name x xpos) b pos) (up X.K m (dIxO i tb)) :=
  PE.imp (pe_ix ix_list (pv i hN hv hd hcd) hb hs) fun σ H Q h => by
    obtain ⟨F, ρ, s, Qd, r, ⟨⟨ds0, e0⟩, ht⟩, hQ⟩ := h
    obtain ⟨p, ho, h1, h2, ⟨vs0, rfl, hl0, rs0⟩, h4, h5⟩ := r.own_at e0
    refine ⟨_, h1, F, ρ, s, _, r, ht, fun y ρ1 s1 v F1 H1 ⟨k, ds, d, ey, e1, ea, q1⟩ r1 st1 rv => ?_⟩
    subst ey
    cases rv
    obtain ⟨p', ho, g1, g2, ⟨vs, rfl, hl, rs⟩, g4, g5⟩ := r1.own_at e1
    rw [h1] at g1; cases g1
    obtain ⟨w, ew, rw'⟩ := rs.atI ea
    exact ⟨p, vs, k, w, rfl, rfl, .inl (.inl g2), ew, hQ d ρ1 s1 w F1 H1 q1 r1 st1 rw'⟩
def dLenO {m : Mem} (i : Nat) : DT m := fun ρ s Q => ∃ ds, ρ[i]? = some (.ow (.lst ds)) ∧ Q (.int (ds.length : Nat)) ρ s
theorem de_lenO (i : Nat) {x : Str} {xpos p : Pos} (hg : Gl X "len") (hm : X.mg "len" = none) (hN : X.N[i]? = some x := by rfl) (hv : Vis X.env.scope x := by first | exact Or.inl rfl | exact Or.inr (Or.inl rfl) | exact Or.inr (Or.inr rfl))
    (hd : (x == ("__debug__" : Str)) = false := by decide) (hcd : (x == ("__classdict__" : Str)) = false := by decide)
    (hs : starEach [.Name x xpos] X.env = [(false, eval (.Name x xpos) X.env)] := by rfl) : PE X (.Call (.Name "len" p) [.Name x xpos] [] pos) (up X.K m (dLenO i)) :=
  PE.imp (pe_callB call_len_seq hg hm PySem.boot_len (pa_cons (pv i hN hv hd hcd) pa_nil (by rw [hs]; rfl)) (by decide) (by decide) (by rw [hs]; rfl) rfl) fun σ H Q h => by
    obtain ⟨F, ρ, s, Qd, r, ⟨ds, e0, q⟩, hQ⟩ := h
    obtain ⟨p, ho, h1, h2, ⟨vs, rfl, hl, rs⟩, h4, h5⟩ := r.own_at e0
    refine ⟨_, h1, p, vs, rfl, .inl (.inl (.inl h2)), ?_⟩
    rw [rs.length]
    exact hQ _ ρ s _ F H q r Stp.refl rfl
/-- x[i] = e -/
def dStO {m : Mem} (i : Nat) (te tb : DT m) : DTS m := fun dd ρ s => te ρ s fun d ρ1 s1 => (∃ ds0, ρ1[i]? = some (.ow (.lst ds0))) ∧ tb ρ1 s1 fun y ρ2 s2 => ∃ k ds j, y = .int k ∧ ρ2[i]? = some (.ow (.lst ds)) ∧ ixN ds.length k = some j ∧ dd.nx (ρ2.set i (.ow (.lst (ds.set j d)))) s2
theorem ds_stO (i : Nat) {x : Str} {xpos spos : Pos} (he : PE X e (up X.K m te)) (hb : PE X b (up X.K m tb)) (hN : X.N[i]? = some x := by rfl) (hv : Vis X.env.scope x := by first | exact Or.inl rfl | exact Or.inr (Or.inl rfl) | exact Or.inr (Or.inr rfl))
    (hd : (x == ("__debug__" : Str)) = false := by decide) (hcd : (x == ("__classdict__" : Str)) = false := by decide)
    (ha : ∀ v, assign (.Subscript (.Name x xpos) b spos) X.env v = (do
      let ov ← holding [v] (eval (.Name x xpos) X.env)
      let iv ← holding [v, ov] (eval b X.env)
      standAt spos
      holding [v, ov, iv] (setItem ov iv v)
      release [v, ov, iv] []) := by intro _; rfl)
    (hs : swapsWithSole [.Subscript (.Name x xpos) b spos] e pos.line X.env = pure false := by rfl) (hw : swappedStores [.Subscript (.Name x xpos) b spos] e X.env = pure none := by rfl)
    (h1 : (assignEach [.Subscript (.Name x xpos) b spos] X.env).map (·.2) = [assign (.Subscript (.Name x xpos) b spos) X.env] := by rfl) :
    PS X (.Assign [.Subscript (.Name x xpos) b spos] e pos) (upS X.K m E (dStO i te tb)) :=
  PS.imp (ps_asg he (pg_sub (pv i hN hv hd hcd) hb set_list ha) hs hw h1) fun DD σ H h => by
    obtain ⟨F, ρ, s, dd, r, o, ht, f⟩ := h
    refine ⟨F, ρ, s, _, r, ht, fun d ρ1 s1 v F1 H1 ⟨⟨ds0, e0⟩, q1⟩ r1 st1 rv => ?_⟩
    obtain ⟨p, ho, h1, h2, ⟨vs0, rfl, hl0, rs0⟩, h4, h5⟩ := r1.own_at e0
    refine ⟨_, h1, F1, ρ1, s1, _, r1, q1, fun y ρ2 s2 u F2 H2 ⟨k, ds, j, ey, e2, ej, q2⟩ r2 st2 ru => ?_⟩
    subst ey
    cases ru
    obtain ⟨p', ho, g1, g2, ⟨vs, rfl, hl, rs⟩, g4, g5⟩ := r2.own_at e2
    rw [h1] at g1; cases g1
    refine ⟨p, vs, k, j, rfl, rfl, g2, by rw [rs.length]; exact ej, ?_⟩
    refine f.nx F2 _ σ _ s2 (st1.ext.trans st2.ext) (r2.write (o' := .lst (ds.set j d)) e2 h1 ⟨vs.set j v, rfl, by rw [List.length_set]; exact hl, rs.set (Rep.mono st2.ext _ _ rv) j⟩) (((o.stp st1).stp st2).write (K := X.K) e2 h1) q2
end

/-! ### further -/
section
variable {X : Cx} {m : Mem} {E : Ent m}
def dNever {m : Mem} : DTS m := fun _ _ _ => False
theorem ds_never {st : Stmt} : PS X st (upS X.K m E dNever) := PS.imp ps_never fun DD σ H h => by
  obtain ⟨F, ρ, s, dd, r, o, ht, f⟩ := h
  exact ht.elim
def powD : D → D → (D → Prop) → Prop
  | .int i, .int j, Q => CPow i j ∧ Q (.int (i ^ j.toNat))
  | _, _, _ => False
theorem o_pow {K : PySem.W.Frag} : Op2 K (rI CPow fun i j => .int (i ^ j.toNat)) powD := o_ints fun x y Qd h => by
  cases x with
  | int i => cases y with
    | int j => exact ⟨i, j, rfl, rfl, h.1, h.2⟩
    | _ => exact False.elim h
  | _ => cases y <;> exact False.elim h
theorem u64 {A : Around} {k : Nat} (hr : Room k A) : A.units + 64 < cLine := by have := hr.un; omega
theorem u65 {A : Around} {k : Nat} (hr : Room k A) : A.units + 65 < cLine := by have := hr.un; omega
end

/-! ### the deck: the draws of a script -/
structure DkS where
  adr : Option (Addr × Addr × Addr)
  n : Nat
def DkAt (H : Hp) (a b c : Addr) (n : Nat) : Prop := a ≠ b ∧ a ≠ c ∧ b ≠ c ∧ ∃ (big all : List Int) (t : Int), H a = some (.lst [.ref b, .ref c, .int t]) ∧ H b = some (.lst (big.map V.int)) ∧ H c = some (.lst (all.map V.int)) ∧ all ≠ [] ∧ all.length ≤ 1000 ∧ big.length ≤ 1000 ∧ 0 ≤ t ∧ t ≤ n
def Mem.deck : Mem where
  S := DkS
  M := fun s H => ∀ a b c, s.adr = some (a, b, c) → DkAt H a b c s.n
  R := fun s x => ∃ a b c, s.adr = some (a, b, c) ∧ (x = a ∨ x = b ∨ x = c)
  loc := fun s H H' h k a b c e => by
    obtain ⟨n1, n2, n3, big, all, t, h1, h2, h3, r⟩ := h a b c e
    exact ⟨n1, n2, n3, big, all, t, (k a ⟨a, b, c, e, .inl rfl⟩).trans h1, (k b ⟨a, b, c, e, .inr (.inl rfl)⟩).trans h2, (k c ⟨a, b, c, e, .inr (.inr rfl)⟩).trans h3, r⟩
  there := fun s H x h ⟨a, b, c, e, hx⟩ => by
    obtain ⟨n1, n2, n3, big, all, t, h1, h2, h3, r⟩ := h a b c e
    rcases hx with rfl | rfl | rfl
    · rw [h1]; simp
    · rw [h2]; simp
    · rw [h3]; simp
/-- how many draws there may be -/
abbrev drawLim : Nat := 2 ^ 60
/-- a draw: a number below many -/
def spNext : DSp Mem.deck := fun ds s Q => ∃ a b c n, s.adr = some (a, b, c) ∧ ds = [.any (.ref a), .int n] ∧ 0 < n ∧ n < 1073741824 ∧ s.n < drawLim ∧ ∀ (r : Int) (k : Nat), 0 ≤ r → r < n → k = s.n + 1 → Q (.int r) ⟨s.adr, k⟩
theorem spNext_len : ∀ ds s Qd, spNext ds s Qd → ds.length = 2 := fun ds s Qd ⟨_, _, _, _, _, e, _⟩ => by rw [e]; rfl
/-- the deck of a script -/
def spDeck : DSp Mem.deck := fun ds s Q => ∃ ns : List Int, ds = [.fz (ns.map .int)] ∧ ns.length ≤ 63 ∧ s.adr = none ∧ ∀ a b c, Q (.any (.ref a)) ⟨some (a, b, c), s.n⟩
theorem spDeck_len : ∀ ds s Qd, spDeck ds s Qd → ds.length = 1 := fun ds s Qd ⟨_, e, _⟩ => by rw [e]; rfl
def absI (i : Int) : Int := if i < 0 then -i else i
theorem ix0 (x : Int) (bg : List Int) : ixN (((x :: bg).map V.int).length) 0 = some 0 := by
  unfold ixN
  rw [if_pos (by decide), if_pos (by rw [List.length_map, List.length_cons]; omega)]
  rfl
end DL

set_option Elab.async false
set_option linter.all false
set_option maxRecDepth 100000
namespace DL
open PySem PySem.Spec PyProof.Rows L2 TL

section
variable {X : Cx} {m : Mem} {pos : Pos}
theorem de_globI {x : Str} {i : Int} (hg : Gl X x) (hm : ∃ t, X.mg x = some (.int i t)) (hd : (x == ("__debug__" : Str)) = false := by decide) : PE X (.Name x pos) (up X.K m (dC (.int i))) := by
  obtain ⟨t, hm⟩ := hm
  exact de_glob (v := .int i) hg hm ⟨_, rfl⟩ (fun _ => rfl) hd
end
/-- the law's own promise -/
def spLaw : DSp Mem.deck := fun ds s Q => ∃ ns : List Int, ds = [.fz (ns.map .int)] ∧ ns.length ≤ 63 ∧ s.adr = none ∧ s.n = 0 ∧ ∀ s', Q (.bl true) s'
theorem spLaw_len : ∀ ds s Qd, spLaw ds s Qd → ds.length = 1 := fun ds s Qd ⟨_, e, _⟩ => by rw [e]; rfl
theorem law_start {K : PySem.W.Frag} {H : Hp} {a : Addr} {ns : List Int} {E : XK} (hl : ns.length ≤ 63) (hO : Only H) (hS : SqL K H a (ns.map V.int)) : lift K Mem.deck 1 spLaw [.ref a] H (fun v _ => v = .bl true) E := by
  refine ⟨rfl, H, [.fz (ns.map .int)], ⟨none, 0⟩, fun d _ => d = .bl true, Same.refl H, (fun _ _ _ e => by cases e), (fun x ⟨_, _, _, e, _⟩ => by cases e), .one ⟨a, _, rfl, hS, ?_, reps_of_ints ns⟩, ⟨ns, rfl, hl, rfl, rfl, fun _ => rfl⟩, fun d s' v F' H' e _ rv => ?_⟩
  · rw [List.length_map]; exact Nat.le_of_lt (small1000 (by omega))
  · subst e; exact rv

/-! ### small facts -/
theorem pick_ints (l : List Int) (r : Int) (h0 : 0 ≤ r) (h1 : r < (l.length : Nat)) : ∃ k ∈ l, atI (l.map D.int) r = some (.int k) := by
  obtain ⟨j, hj⟩ : ∃ j : Nat, r = (j : Int) := ⟨r.toNat, by omega⟩
  subst hj
  have hj2 : j < l.length := by omega
  exact ⟨l[j], List.getElem_mem hj2, atI_nat (by rw [List.getElem?_map, List.getElem?_eq_getElem hj2]; rfl)⟩
theorem pick_any {α : Type} (l : List α) (r : Int) (h0 : 0 ≤ r) (h1 : r < (l.length : Nat)) : ∃ k ∈ l, atI l r = some k := by
  obtain ⟨j, hj⟩ : ∃ j : Nat, r = (j : Int) := ⟨r.toNat, by omega⟩
  subst hj
  have hj2 : j < l.length := by omega
  exact ⟨l[j], List.getElem_mem hj2, atI_nat (List.getElem?_eq_getElem hj2)⟩
theorem pick_map {α : Type} (f : α → D) (l : List α) (r : Int) (h0 : 0 ≤ r) (h1 : r < (l.length : Nat)) : ∃ k ∈ l, atI (l.map f) r = some (f k) := by
  obtain ⟨d, hd, e⟩ := pick_any (l.map f) r h0 (by rw [List.length_map]; exact h1)
  obtain ⟨k, hk, rfl⟩ := List.mem_map.mp hd
  exact ⟨k, hk, e⟩
/-- one letter -/
def one (c : Nat) : Str := ⟨#[c]⟩
theorem tl_one (c : Nat) : tl (one c) = [c] := rfl
theorem join0 (ls : List Nat) : tl (joinS ⟨#[]⟩ (ls.map one)) = ls := by
  show tl (Str.join ⟨#[]⟩ (ls.map one)) = ls
  rw [tl_join, List.map_map]
  show joinL [] (ls.map fun c => [c]) = ls
  have h : ∀ l : List Nat, joinL [] (l.map fun c => [c]) = l := fun l => by
    induction l with
    | nil => rfl
    | cons a r ih =>
      cases r with
      | nil => rfl
      | cons b t =>
        show [a] ++ ([] ++ joinL [] ((b :: t).map fun c => [c])) = a :: b :: t
        rw [ih]
        rfl
  exact h ls
theorem letters_tl : tl ("abcdefghijklmnopqrstuvwxyz" : Str) = [97, 98, 99, 100, 101, 102, 103, 104, 105, 106, 107, 108, 109, 110, 111, 112, 113, 114, 115, 116, 117, 118, 119, 120, 121, 122] := by decide +kernel
theorem letter_at {r : Int} (h0 : 0 ≤ r) (h1 : r < 26) : ∃ c, 97 ≤ c ∧ c ≤ 122 ∧ atI (tl ("abcdefghijklmnopqrstuvwxyz" : Str)) r = some c := by
  rw [letters_tl]
  obtain ⟨c, hc, e⟩ := pick_any [97, 98, 99, 100, 101, 102, 103, 104, 105, 106, 107, 108, 109, 110, 111, 112, 113, 114, 115, 116, 117, 118, 119, 120, 121, 122] r h0 h1
  have hall : ∀ c ∈ [97, 98, 99, 100, 101, 102, 103, 104, 105, 106, 107, 108, 109, 110, 111, 112, 113, 114, 115, 116, 117, 118, 119, 120, 121, 122], 97 ≤ c ∧ c ≤ 122 := by decide
  exact ⟨c, (hall c hc).1, (hall c hc).2, e⟩
/-- a name: one to eight letters -/
def NameOk (x : Str) : Prop := 1 ≤ x.length ∧ x.length ≤ 8 ∧ ∀ c ∈ tl x, 97 ≤ c ∧ c ≤ 122
theorem NameOk.sok {x : Str} (h : NameOk x) : sOk x = true := sOk_of (Nat.le_trans h.2.1 (by decide)) fun c hc => by
  have := h.2.2 c hc
  omega
theorem nameOk_of {ls : List Nat} (h1 : 1 ≤ ls.length) (h8 : ls.length ≤ 8) (h : ∀ c ∈ ls, 97 ≤ c ∧ c ≤ 122) : NameOk (joinS ⟨#[]⟩ (ls.map one)) := by
  have e := join0 ls
  exact ⟨by rw [len_tl, e]; exact h1, by rw [len_tl, e]; exact h8, by rw [e]; exact h⟩
theorem sum_ones (ls : List Nat) : ((ls.map one).map (·.length)).sum = ls.length := by
  induction ls with
  | nil => rfl
  | cons a r ih => rw [List.map_cons, List.map_cons, List.sum_cons, ih, List.length_cons]; show 1 + r.length = _; omega

/-! ### what the law's own defs promise -/
def spName : DSp Mem.deck := fun ds s Q => ∃ a b c, s.adr = some (a, b, c) ∧ ds = [.any (.ref a)] ∧ s.n + 20 < drawLim ∧ ∀ x k, NameOk x → k ≤ s.n + 20 → Q (.str x) ⟨s.adr, k⟩
theorem spName_len : ∀ ds s Qd, spName ds s Qd → ds.length = 1 := fun ds s Qd ⟨_, _, _, _, e, _⟩ => by rw [e]; rfl
def spPool : DSp Mem.deck := fun ds s Q => ∃ a b c n, s.adr = some (a, b, c) ∧ ds = [.any (.ref a), .int n] ∧ 2 ≤ n ∧ n ≤ 10 ∧ s.n + 300 < drawLim ∧ ∀ (xs : List Str) k, (xs.length : Nat) = n.toNat → (∀ x ∈ xs, NameOk x) → k ≤ s.n + 300 → Q (.lst (xs.map .str)) ⟨s.adr, k⟩
theorem spPool_len : ∀ ds s Qd, spPool ds s Qd → ds.length = 2 := fun ds s Qd ⟨_, _, _, _, _, e, _⟩ => by rw [e]; rfl
/-- a path: names of a pool with dots between -/
def PathOf (pool : List Str) (most : Int) (x : Str) : Prop := ∃ ns : List Str, 1 ≤ ns.length ∧ (ns.length : Int) ≤ most ∧ (∀ y ∈ ns, y ∈ pool) ∧ x = joinS ⟨#[46]⟩ ns
def spPath : DSp Mem.deck := fun ds s Q => ∃ a b c pool most, s.adr = some (a, b, c) ∧ ds = [.any (.ref a), .lst (pool.map .str), .int most] ∧ 1 ≤ most ∧ most ≤ 10 ∧ 0 < pool.length ∧ pool.length ≤ 100 ∧ (∀ x ∈ pool, x.length ≤ 8) ∧ s.n + 20 < drawLim ∧
  ∀ x k, PathOf pool most x → k ≤ s.n + 20 → Q (.str x) ⟨s.adr, k⟩
theorem spPath_len : ∀ ds s Qd, spPath ds s Qd → ds.length = 3 := fun ds s Qd ⟨_, _, _, _, _, _, e, _⟩ => by rw [e]; rfl
theorem sum_le8 {ns : List Str} (h : ∀ y ∈ ns, y.length ≤ 8) : (ns.map (·.length)).sum ≤ 8 * ns.length := by
  induction ns with
  | nil => exact Nat.zero_le _
  | cons a r ih =>
    have h1 := h a List.mem_cons_self
    have h2 := ih fun y hy => h y (List.mem_cons_of_mem _ hy)
    rw [List.map_cons, List.sum_cons, List.length_cons]
    omega
theorem joinS_len {z : Str} {ns : List Str} : (joinS z ns).length ≤ (ns.map (·.length)).sum + ns.length * z.length := by
  rw [len_tl]
  show (tl (Str.join z ns)).length ≤ _
  rw [tl_join]
  refine Nat.le_trans (joinL_len _ _) ?_
  rw [List.map_map, List.length_map, ← len_tl]
  have e : ns.map (List.length ∘ tl) = ns.map (·.length) := List.map_congr_left fun y _ => (len_tl y).symm
  rw [e]
  exact Nat.le_refl _
theorem PathOf.len {pool : List Str} {most : Int} {x : Str} (h : PathOf pool most x) (hp : ∀ y ∈ pool, y.length ≤ 8) (hm : most ≤ 10) : x.length ≤ 90 := by
  obtain ⟨ns, h1, h2, h3, rfl⟩ := h
  have q1 := joinS_len (z := ⟨#[46]⟩) (ns := ns)
  have q2 := sum_le8 fun y hy => hp y (h3 y hy)
  have q3 : (⟨#[46]⟩ : Str).length = 1 := rfl
  rw [q3] at q1
  omega

/-! ### paths of the program -/
def dot : Str := ⟨#[46]⟩
def coversS (p o : Str) : Bool := o == p || Txt.startswith o (p ++ dot)
/-- .. as the law reads it -/
def lcov (p o : Str) : Bool := (splS 46 o).take (splS 46 p).length == splS 46 p
def spCovers {m : Mem} : DSp m := fun ds s Q => ∃ p o : Str, ds = [.str p, .str o] ∧ p.length ≤ 1000 ∧ Q (.bl (coversS p o)) s
theorem spCovers_len {m : Mem} : ∀ ds s Qd, (spCovers : DSp m) ds s Qd → ds.length = 2 := fun ds s Qd ⟨_, _, e, _⟩ => by rw [e]; rfl
def spLcov {m : Mem} : DSp m := fun ds s Q => ∃ p o : Str, ds = [.str p, .str o] ∧ Q (.bl (lcov p o)) s
theorem spLcov_len {m : Mem} : ∀ ds s Qd, (spLcov : DSp m) ds s Qd → ds.length = 2 := fun ds s Qd ⟨_, _, e, _⟩ => by rw [e]; rfl
def optS : Option Str → D
  | none => .non
  | some x => .str x
def spCovered {m : Mem} : DSp m := fun ds s Q => ∃ (ps : List Str) (x : Str), ds = [.tup (ps.map .str), .str x] ∧ (∀ p ∈ ps, p.length ≤ 1000) ∧ Q (optS (ps.find? fun p => coversS p x)) s
theorem spCovered_len {m : Mem} : ∀ ds s Qd, (spCovered : DSp m) ds s Qd → ds.length = 2 := fun ds s Qd ⟨_, _, e, _⟩ => by rw [e]; rfl
/-- the law's _same for texts and None -/
def spSame0 {m : Mem} : DSp m := fun ds s Q => ∃ x y : Option Str, ds = [optS x, optS y] ∧ Q (.bl (decide (x = y))) s
theorem spSame0_len {m : Mem} : ∀ ds s Qd, (spSame0 : DSp m) ds s Qd → ds.length = 2 := fun ds s Qd ⟨_, _, e, _⟩ => by rw [e]; rfl
end DL

set_option Elab.async false
set_option linter.all false
set_option maxRecDepth 100000
namespace DL
open PySem PySem.Spec PyProof.Rows L2 TL

/-! ### texts cut at one sign -/
def cutL (c : Nat) : List Nat → List Nat → List (List Nat)
  | acc, [] => [acc]
  | acc, x :: r => if x = c then acc :: cutL c [] r else cutL c (acc ++ [x]) r
theorem spl_cut (c : Nat) : ∀ (l acc : List Nat), spl [c] 0 acc l = cutL c acc l
  | [], acc => spl_nil _ _ _
  | x :: r, acc => by
    by_cases h : x = c
    · subst h
      have e : pre [x] (x :: r) = true := pre_self [x] r
      rw [spl_hit e, cutL, if_pos rfl]
      show acc :: spl [x] 0 [] r = _
      rw [spl_cut x r []]
    · rw [spl_miss (pre_of_head [] r h), cutL, if_neg h, spl_cut c r]
theorem cutL_ne (c : Nat) : ∀ (l acc : List Nat), cutL c acc l ≠ []
  | [], acc => by simp [cutL]
  | x :: r, acc => by
    rw [cutL]
    by_cases h : x = c
    · rw [if_pos h]; simp
    · rw [if_neg h]; exact cutL_ne c r _
theorem cutL_app (c : Nat) (b : List Nat) : ∀ (a acc : List Nat), cutL c acc (a ++ c :: b) = cutL c acc a ++ cutL c [] b
  | [], acc => by
    show (if c = c then acc :: cutL c [] b else cutL c (acc ++ [c]) b) = acc :: cutL c [] b
    rw [if_pos rfl]
  | x :: r, acc => by
    show cutL c acc (x :: (r ++ c :: b)) = _
    rw [cutL, cutL]
    by_cases h : x = c
    · rw [if_pos h, if_pos h, cutL_app c b r]; rfl
    · rw [if_neg h, if_neg h, cutL_app c b r]
theorem joinL_cons (S p : List Nat) {q : List (List Nat)} (h : q ≠ []) : joinL S (p :: q) = p ++ (S ++ joinL S q) := by
  cases q with
  | nil => exact absurd rfl h
  | cons a r => rfl
theorem joinL_app (S : List Nat) {B : List (List Nat)} (hB : B ≠ []) : ∀ {A : List (List Nat)}, A ≠ [] → joinL S (A ++ B) = joinL S A ++ (S ++ joinL S B)
  | [], h => absurd rfl h
  | [p], _ => by
    show joinL S (p :: B) = p ++ _
    rw [joinL_cons S p hB]
  | p :: q :: r, _ => by
    show joinL S (p :: ((q :: r) ++ B)) = _
    rw [joinL_cons S p (by simp), joinL_app S hB (by simp), joinL_cons S p (by simp)]
    simp only [List.append_assoc]
theorem joinL_cut (c : Nat) : ∀ (l acc : List Nat), joinL [c] (cutL c acc l) = acc ++ l
  | [], acc => by simp [cutL, joinL]
  | x :: r, acc => by
    rw [cutL]
    by_cases h : x = c
    · rw [if_pos h, joinL_cons _ _ (cutL_ne c r []), joinL_cut c r, h]; simp
    · rw [if_neg h, joinL_cut c r]; simp
/-- the parts of a text, and the text again -/
theorem tl_splS (c : Nat) (x : Str) : (splS c x).map tl = cutL c [] (tl x) := by
  unfold splS
  rw [spl_cut, List.map_map]
  exact List.map_id' _
theorem splS_ne (c : Nat) (x : Str) : splS c x ≠ [] := fun h => by
  have := tl_splS c x
  rw [h] at this
  exact cutL_ne c _ _ this.symm
theorem join_splS (c : Nat) (x : Str) : joinS ⟨#[c]⟩ (splS c x) = x := by
  refine ext_tl ?_
  show tl (Str.join _ _) = _
  rw [tl_join, tl_splS]
  exact joinL_cut c _ _
theorem splS_inj {c : Nat} {x y : Str} (h : splS c x = splS c y) : x = y := by rw [← join_splS c x, h, join_splS]
theorem splS_app (c : Nat) (x y : Str) : splS c (x ++ ⟨#[c]⟩ ++ y) = splS c x ++ splS c y := by
  refine map_tl_inj ?_
  rw [List.map_append, tl_splS, tl_splS, tl_splS, tl_append, tl_append]
  show cutL c [] (tl x ++ [c] ++ tl y) = _
  rw [List.append_assoc]
  exact cutL_app c _ _ _
theorem splS_join {c : Nat} {ns : List Str} (h : ns ≠ []) (hf : ∀ x ∈ ns, c ∉ tl x) : splS c (joinS ⟨#[c]⟩ ns) = ns := by
  refine map_tl_inj ?_
  rw [tl_splS, ← spl_cut]
  show spl [c] 0 [] (tl (Str.join _ _)) = _
  rw [tl_join]
  exact spl_join (by simpa using h) fun p hp => by
    obtain ⟨x, hx, rfl⟩ := List.mem_map.mp hp
    exact hf x hx
theorem mem_splS {c : Nat} {x : Str} : ∀ y ∈ splS c x, ∀ d ∈ tl y, d ∈ tl x := fun y hy d hd => by
  obtain ⟨l, hl, rfl⟩ := List.mem_map.mp hy
  exact ((spl_mem 0 [] (tl x) l hl).2 d hd).resolve_left (by simp)
/-- a text begins with another -/
theorem sw_iff (x y : Str) : Txt.startswith x y = true ↔ ∃ r, x = y ++ r := by
  have key : Txt.startswith x y = true ↔ (tl x).take (tl y).length = tl y := by
    show (decide (0 + y.length ≤ x.length) && Builtin.Str.subAt x y 0) = true ↔ _
    rw [Bool.and_eq_true, StrLaws.subAt_eq, List.drop_zero, len_tl, len_tl]
    constructor
    · rintro ⟨_, h⟩; exact eq_of_beq h
    · intro h
      refine ⟨decide_eq_true ?_, by rw [h]; exact beq_self_eq_true _⟩
      have := congrArg List.length h
      rw [List.length_take] at this
      omega
  rw [key]
  constructor
  · intro h
    refine ⟨⟨((tl x).drop (tl y).length).toArray⟩, ext_tl ?_⟩
    rw [tl_append]
    show tl x = tl y ++ (tl x).drop (tl y).length
    have e := List.take_append_drop (tl y).length (tl x)
    rw [h] at e
    exact e.symm
  · rintro ⟨r, rfl⟩
    rw [tl_append, List.take_left]
/-- the two ways to say: p covers o -/
theorem cov_eq (p o : Str) : coversS p o = lcov p o := by
  have key : coversS p o = true ↔ lcov p o = true := by
    unfold coversS lcov
    rw [Bool.or_eq_true, sw_iff, beq_iff_eq, beq_iff_eq]
    constructor
    · rintro (rfl | ⟨r, rfl⟩)
      · rw [List.take_length]
      · rw [show p ++ dot ++ r = p ++ ⟨#[46]⟩ ++ r from rfl, splS_app, List.take_left]
    · intro h
      have e := List.take_append_drop (splS 46 p).length (splS 46 o)
      rw [h] at e
      cases q : (splS 46 o).drop (splS 46 p).length with
      | nil => rw [q, List.append_nil] at e; exact .inl (splS_inj e).symm
      | cons a r =>
        rw [q] at e
        refine .inr ⟨joinS dot (a :: r), ?_⟩
        have e2 := join_splS 46 o
        rw [← e] at e2
        rw [← e2]
        refine ext_tl ?_
        show tl (Str.join _ _) = tl (p ++ dot ++ Str.join _ _)
        rw [tl_join, List.map_append, joinL_app _ (by simp) (by simpa using splS_ne 46 p), tl_append, tl_append, tl_join, List.append_assoc]
        have e3 := congrArg tl (join_splS 46 p)
        have e4 : tl (joinS ⟨#[46]⟩ (splS 46 p)) = joinL [46] ((splS 46 p).map tl) := tl_join _ _
        rw [e4] at e3
        show joinL [46] _ ++ _ = _
        rw [e3]
        rfl
  cases h1 : coversS p o <;> cases h2 : lcov p o
  · rfl
  · rw [key.mpr h2] at h1; cases h1
  · rw [key.mp h1] at h2; cases h2
  · rfl
end DL

set_option Elab.async false
set_option linter.all false
set_option maxRecDepth 100000
namespace DL
open PySem PySem.Spec PyProof.Rows L2 TL
theorem eqs (a b : Str) : eqD (.str a) (.str b) = decide (a = b) := by
  show (a == b) = _
  by_cases h : a = b
  · rw [decide_eq_true h, h]; simp
  · rw [decide_eq_false h]; exact beq_eq_false_iff_ne.mpr h
theorem eqss : ∀ (xs ys : List Str), eqDs (xs.map .str) (ys.map .str) = (xs == ys)
  | [], [] => rfl
  | [], _ :: _ => rfl
  | _ :: _, [] => rfl
  | x :: xs, y :: ys => by
    show (eqD (.str x) (.str y) && eqDs (xs.map .str) (ys.map .str)) = (x == y && xs == ys)
    rw [eqss xs ys]
    rfl
theorem plain_strs : ∀ (n : Nat) (xs : List Str), plainDs n (xs.map .str) = true
  | _, [] => by simp [plainDs]
  | n, x :: xs => by
    have := plain_strs n xs
    simp only [List.map_cons, plainDs, this, Bool.and_true]
    simp [plainD]
theorem plain_lst (xs : List Str) : plainD 60 (.lst (xs.map .str)) = true := by
  simp only [plainD]
  exact plain_strs 59 xs
theorem beq_dec (a b : Str) : (a == b) = decide (a = b) := by
  by_cases h : a = b
  · rw [decide_eq_true h, h]; simp
  · rw [decide_eq_false h]; exact beq_eq_false_iff_ne.mpr h

theorem map_str_inj : ∀ {xs ys : List Str}, xs.map D.str = ys.map D.str → xs = ys
  | [], [], _ => rfl
  | [], _ :: _, h => by cases h
  | _ :: _, [], h => by cases h
  | x :: xs, y :: ys, h => by
    rw [List.map_cons, List.map_cons] at h
    injection h with h1 h2
    injection h1 with h1
    rw [h1, map_str_inj h2]
theorem cut_take (xs : List D) (n : Nat) : cutD xs none (some (n : Int)) = xs.take n := by
  unfold cutD
  rw [HT.sIx_none, List.drop_zero, Nat.sub_zero, show HT.sIx xs.length xs.length (some (n : Int)) = min n xs.length from HT.sIx_nat _ _ n]
  by_cases h : n ≤ xs.length
  · rw [Nat.min_eq_left h]
  · rw [Nat.min_eq_right (by omega), List.take_length, List.take_of_length_le (by omega)]
theorem ixN_n {n j : Nat} (hj : j < n) : ixN n (j : Int) = some j := by
  unfold ixN
  rw [if_pos (by omega), if_pos (by omega)]
  simp
theorem tl_cut (x : Str) (n : Nat) : tl (cutS x none (some (n : Int))) = (tl x).take n := by
  show (((x.cps.toList.drop (HT.sIx x.length 0 none)).take (HT.sIx x.length x.length (some (n : Int)) - HT.sIx x.length 0 none)).toArray).toList = (tl x).take n
  rw [HT.sIx_none, List.drop_zero, Nat.sub_zero, show HT.sIx x.length x.length (some (n : Int)) = min n x.length from HT.sIx_nat _ _ n]
  show (tl x).take (min n x.length) = (tl x).take n
  by_cases h : n ≤ x.length
  · rw [Nat.min_eq_left h]
  · rw [Nat.min_eq_right (by omega), len_tl, List.take_length, List.take_of_length_le (by rw [← len_tl]; omega)]
theorem rng_pre {lo : Int} {n : Nat} {pre : List D} {x : D} {post : List D} (h : rngD lo n = pre ++ x :: post) : pre.length < n ∧ x = .int (lo + (pre.length : Int)) := by
  have hl := congrArg List.length h
  rw [rngD_length, List.length_append, List.length_cons] at hl
  have hp : pre.length < n := by omega
  refine ⟨hp, ?_⟩
  have e : (rngD lo n)[pre.length]? = some x := by rw [h]; simp
  unfold rngD at e
  rw [List.getElem?_map, List.getElem?_range hp] at e
  exact (Option.some.inj e).symm
theorem head_find {f g : Str → Bool} (h : ∀ x, f x = g x) (xs : List Str) : ((xs.filter f).map D.str ++ [D.non])[0]? = some (optS (xs.find? g)) := by
  induction xs with
  | nil => rfl
  | cons x r ih =>
    rw [List.filter_cons, List.find?_cons, ← h x]
    cases f x with
    | true => rfl
    | false => exact ih
theorem sum_cutL (c : Nat) : ∀ (l acc : List Nat), ((cutL c acc l).map List.length).sum + (cutL c acc l).length = acc.length + l.length + 1
  | [], acc => by simp [cutL]
  | x :: r, acc => by
    rw [cutL]
    by_cases h : x = c
    · rw [if_pos h, List.map_cons, List.sum_cons, List.length_cons]
      have := sum_cutL c r []
      simp only [List.length_nil, List.length_cons] at this ⊢
      omega
    · rw [if_neg h, sum_cutL c r, List.length_append, List.length_cons, List.length_cons, List.length_nil]
      omega
theorem sum_splS (c : Nat) (x : Str) : ((splS c x).map (·.length)).sum + (splS c x).length = x.length + 1 := by
  have e : (splS c x).map (·.length) = ((splS c x).map tl).map List.length := by
    rw [List.map_map]
    exact List.map_congr_left fun y _ => len_tl y
  have e2 : (splS c x).length = ((splS c x).map tl).length := by rw [List.length_map]
  rw [e, e2, tl_splS, sum_cutL, len_tl]
  simp

def T_covers {m : Mem} : DTS m :=
  (dRet (dOrV (dCm eqC (dVar 1) (dVar 0)) (dMt "str" swD (dVar 1) (daCons (dOp addD (dVar 0) (dC (D.str (Str.ofString ".")))) daNil))))
theorem read_covers {m : Mem} : ∀ ds s Qd, (spCovers : DSp m) ds s Qd → (T_covers : DTS m) (endsOf Qd) (startD ["path", "other"] ds) s := by
  intro ds s Qd h
  obtain ⟨p, o, rfl, hl, hQ⟩ := h
  have hd : (Str.ofString ".") = dot := by decide +kernel
  refine ⟨rfl, rfl, _, rfl, ?_⟩
  rw [eqs]
  unfold coversS at hQ
  rw [beq_dec] at hQ
  by_cases e : o = p
  · rw [decide_eq_true e, Bool.true_or] at hQ
    rw [decide_eq_true e]
    exact hQ
  · rw [decide_eq_false e, Bool.false_or] at hQ
    rw [decide_eq_false e]
    refine ⟨rfl, ?_, o, p ++ Str.ofString ".", rfl, rfl, ?_⟩
    · rw [hd]
      show p.length + 1 ≤ strLim
      have : strLim = 1000000 := rfl
      omega
    · rw [hd]
      exact hQ
def T_covered {m : Mem} : DTS m :=
  (dSeq (dFor (diSeq (dVar 0)) (gN 2)
        (dIf (dTr (dCall spCovers (daCons (dVar 2) (daCons (dVar 1) daNil)))) (dRet (dVar 2)) dNext))
      (dRet (dC D.non)))
theorem read_covered {m : Mem} : ∀ ds s Qd, (spCovered : DSp m) ds s Qd → (T_covered : DTS m) (endsOf Qd) (startD ["paths", "path", "candidate"] ds) s := by
  intro ds s Qd h
  obtain ⟨ps, x, rfl, hl, hQ⟩ := h
  -- the loop: none of those that are done covers x
  refine ⟨_, rfl, fun pre ρ s' => s' = s ∧ (∃ c, ρ = [.sh (.tup (ps.map .str)), .sh (.str x), c]) ∧ ∃ qs, pre = qs.map D.str ∧ ∀ p ∈ qs, coversS p x = false, ⟨rfl, ⟨_, rfl⟩, [], rfl, by simp⟩, ?_, ?_⟩
  · rintro pre y post ρ s' e ⟨rfl, ⟨c, rfl⟩, qs, rfl, hq⟩
    obtain ⟨q, rs, e1, rfl, rfl⟩ : ∃ q rs, ps = qs ++ q :: rs ∧ y = D.str q ∧ post = rs.map .str := by
      obtain ⟨l1, l2, e1, e2, e3⟩ := List.map_eq_append_iff.mp e
      obtain ⟨q, rs, e4, e5, e6⟩ := List.map_eq_cons_iff.mp e3
      have h12 : l1 = qs := map_str_inj e2
      subst h12
      exact ⟨q, rs, by rw [e1, e4], e5.symm, e6.symm⟩
    refine ⟨q, x, rfl, hl q (by rw [e1]; simp), _, rfl, ?_⟩
    cases hc : coversS q x with
    | true =>
      have e2 : ps.find? (fun p => coversS p x) = some q := by
        rw [e1, List.find?_append, List.find?_eq_none.mpr (fun p hp => by rw [hq p hp]; simp), List.find?_cons, hc]
        rfl
      rw [e2] at hQ
      exact hQ
    | false =>
      refine ⟨rfl, ⟨_, rfl⟩, qs ++ [q], by rw [List.map_append]; rfl, fun p hp => ?_⟩
      rcases List.mem_append.mp hp with h | h
      · exact hq p h
      · rw [List.mem_singleton.mp h]; exact hc
  · rintro ρ s' ⟨rfl, ⟨c, rfl⟩, qs, e, hq⟩
    have e1 : ps = qs := map_str_inj e
    subst e1
    rw [List.find?_eq_none.mpr (fun p hp => by rw [hq p hp]; simp)] at hQ
    exact hQ
def T__law_covers {m : Mem} : DTS m :=
  (dSeq (dSet 2 (dMt "str" splitD (dVar 0) (daCons (dC (D.str (Str.ofString "."))) daNil)))
      (dRet (dCm eqC (dSl slD (dMt "str" splitD (dVar 1) (daCons (dC (D.str (Str.ofString "."))) daNil)) doNone (doSome (dB lenD (daCons (dVar 2) daNil)))) (dVar 2))))
theorem read__law_covers {m : Mem} : ∀ ds s Qd, (spLcov : DSp m) ds s Qd → (T__law_covers : DTS m) (endsOf Qd) (startD ["_law_path_here", "_law_other", "_law_names"] ds) s := by
  intro ds s Qd h
  obtain ⟨p, o, rfl, hQ⟩ := h
  have hd : (Str.ofString ".") = (⟨#[46]⟩ : Str) := by decide +kernel
  refine ⟨rfl, p, 46, rfl, by rw [hd], by decide, ?_⟩
  refine ⟨rfl, o, 46, rfl, by rw [hd], by decide, _, _, rfl, rfl, _, rfl, ?_⟩
  show eqC (.lst (cutD ((splS 46 o).map .str) none (some (((splS 46 p).map D.str).length : Nat)))) (.lst ((splS 46 p).map .str)) (fun k => Qd (.bl k) s)
  rw [cut_take, List.length_map, ← List.map_take]
  refine ⟨plain_lst _, plain_lst _, ?_⟩
  show Qd (.bl (eqDs _ _)) s
  rw [eqss]
  exact hQ
def T__law_same {m : Mem} : DTS m :=
  (dSeq (dIf (dTr (dIsT (dVar 1) Tg.tup Tg.lst)) (dSeq (dIf (dOrT (dCmT neC (dB isiD (daCons (dVar 1) (daCons (dC (D.any (V.ty "tuple"))) daNil))) (dB isiD (daCons (dVar 0) (daCons (dC (D.any (V.ty "tuple"))) daNil)))) (dCmT neC (dB isiD (daCons (dVar 1) (daCons (dC (D.any (V.ty "list"))) daNil))) (dB isiD (daCons (dVar 0) (daCons (dC (D.any (V.ty "list"))) daNil))))) (dRet (dC (D.bl false))) dNext)
        dNever) dNext)
      (dSeq (dIf (dCmT isD' (dVar 1) (dC D.non)) (dRet (dCm isD' (dVar 0) (dC D.non))) dNext)
      (dSeq (dIf (dTr (dB isiD (daCons (dVar 1) (daCons (dC (D.any (V.ty "str"))) daNil)))) (dRet (dAndV (dB isiD (daCons (dVar 0) (daCons (dC (D.any (V.ty "str"))) daNil))) (dCm eqC (dVar 0) (dVar 1)))) dNext)
      (dSeq (dIf (dOrT (dTr (dB isiD (daCons (dVar 1) (daCons (dC (D.any (V.ty "bool"))) daNil)))) (dTr (dB isiD (daCons (dVar 0) (daCons (dC (D.any (V.ty "bool"))) daNil))))) (dRet (dAndV (dB isiD (daCons (dVar 0) (daCons (dC (D.any (V.ty "bool"))) daNil))) (dAndV (dB isiD (daCons (dVar 1) (daCons (dC (D.any (V.ty "bool"))) daNil))) (dCm eqC (dVar 0) (dVar 1))))) dNext)
      (dSeq (dIf (dTr (dB isiD (daCons (dVar 1) (daCons (dC (D.any (V.ty "int"))) daNil)))) (dRet (dAndV (dB isiD (daCons (dVar 0) (daCons (dC (D.any (V.ty "int"))) daNil))) (dCm eqC (dVar 0) (dVar 1)))) dNext)
      dNever)))))
theorem read__law_same {m : Mem} : ∀ ds s Qd, (spSame0 : DSp m) ds s Qd → (T__law_same : DTS m) (endsOf Qd) (startD ["_law_found", "_law_due", "_law_one", "_law_other"] ds) s := by
  intro ds s Qd h
  obtain ⟨x, y, rfl, hQ⟩ := h
  cases y with
  | none =>
    refine ⟨_, rfl, _, rfl, (fun _ => by intro z; cases z), (fun _ => by cases x <;> (intro z; cases z)), ?_⟩
    have e : isNo (optS x) = decide (x = none) := by cases x <;> rfl
    show Qd (.bl (isNo (optS x))) s
    rw [e]
    exact hQ
  | some y =>
    refine ⟨_, rfl, _, rfl, (fun _ => by intro z; cases z), _, .str, _, rfl, rfl, (by intro z; cases z), _, rfl, ?_⟩
    cases x with
    | none => exact ⟨_, .str, .non, rfl, rfl, (by intro z; cases z), _, rfl, hQ⟩
    | some x =>
      refine ⟨_, .str, .str, rfl, rfl, (by intro z; cases z), _, rfl, rfl, rfl, ?_⟩
      show Qd (.bl (eqD (.str x) (.str y))) s
      rw [eqs]
      have e : decide (some x = some y) = decide (x = y) := by
        by_cases h : x = y
        · subst h; simp
        · rw [decide_eq_false h, decide_eq_false (fun z => h (Option.some.inj z))]
      rw [e] at hQ
      exact hQ
def T__law_name : DTS Mem.deck :=
  (dSeq (dSet 1 (dC (D.str (Str.ofString "abcdefghijklmnopqrstuvwxyz"))))
      (dSeq (dSet 2 (dOp ixD (dLst (daCons (dC (D.int 1)) (daCons (dC (D.int 2)) (daCons (dC (D.int 3)) (daCons (dC (D.int 8)) (daCons (dC (D.int 4)) (daCons (dC (D.int 1)) (daCons (dC (D.int 6)) (daCons (dC (D.int 2)) daNil))))))))) (dCall spNext (daCons (dVar 0) (daCons (dC (D.int 8)) daNil)))))
      (dRet (dMt "str" joinD (dC (D.str (Str.ofString ""))) (daCons (dLc (diR1 (daCons (dVar 2) daNil)) (gN 3) dYes (dOp ixD (dVar 1) (dCall spNext (daCons (dVar 0) (daCons (dC (D.int 26)) daNil)))) [3]) daNil)))))
theorem read__law_name : ∀ ds s Qd, (spName : DSp Mem.deck) ds s Qd → (T__law_name : DTS Mem.deck) (endsOf Qd) (startD ["_law_deck_here", "_law_letters", "_law_many", "_law_k"] ds) s := by
  intro ds s Qd h
  obtain ⟨a, b, c, hs, rfl, hn, hQ⟩ := h
  refine ⟨by decide, a, b, c, 8, hs, rfl, by decide, by decide, by omega, fun r k h0 h1 hk => ?_⟩
  obtain ⟨n, hn8, hat⟩ := pick_ints [1, 2, 3, 8, 4, 1, 6, 2] r h0 h1
  have hb : 1 ≤ n ∧ n ≤ 8 := (by decide : ∀ n ∈ [(1 : Int), 2, 3, 8, 4, 1, 6, 2], 1 ≤ n ∧ n ≤ 8) n hn8
  refine ⟨_, hat, rfl, ⟨n, rfl, by omega, by omega, ?_⟩⟩
  have hL : Str.ofString "" = (⟨#[]⟩ : Str) := by decide +kernel
  have hd : (Str.ofString ".") = dot := by decide +kernel
  refine ⟨by rw [rngD_length]; exact Nat.le_of_lt (small1000 (by omega)), fun pre acc s' => s'.adr = s.adr ∧ s'.n = k + pre.length ∧ ∃ ls : List Nat, acc = (ls.map one).map D.str ∧ ls.length = pre.length ∧ ∀ c ∈ ls, 97 ≤ c ∧ c ≤ 122, ⟨rfl, rfl, [], rfl, rfl, by simp⟩, ?_, ?_⟩
  · rintro pre x post acc s' e - ⟨e1, e2, ls, rfl, hl, hc⟩
    have hp : pre.length < n.toNat := by
      have := congrArg List.length e
      rw [rngD_length, List.length_append, List.length_cons] at this
      omega
    refine ⟨rfl, a, b, c, 26, e1.trans hs, rfl, by decide, by decide, by omega, fun r' k' g0 g1 gk => ?_⟩
    obtain ⟨ch, c1, c2, hat2⟩ := letter_at g0 g1
    refine ⟨ch, hat2, rfl, e1, by show k' = _; rw [List.length_append, List.length_singleton]; omega, ls ++ [ch], by rw [List.map_append, List.map_append]; rfl, by rw [List.length_append, List.length_append, hl]; rfl, fun c' hc' => ?_⟩
    rcases List.mem_append.mp hc' with z | z
    · exact hc c' z
    · rw [List.mem_singleton.mp z]; exact ⟨c1, c2⟩
  · rintro acc s' - ⟨e1, e2, ls, rfl, hl, hc⟩
    rw [rngD_length] at e2 hl
    refine ⟨_, ls.map one, rfl, .inl rfl, ?_, ?_⟩
    · rw [hL, sum_ones, List.length_map]
      show ls.length + ls.length * 0 ≤ strLim
      have : strLim = 1000000 := rfl
      omega
    · show Qd (.str (joinS _ _)) s'
      rw [hL]
      have := hQ _ s'.n (nameOk_of (by omega) (by omega) hc) (by omega)
      rw [← e1] at this
      exact this
def T__law_pool : DTS Mem.deck :=
  (dSeq (dSetLcO 2 (diR1 (daCons (dVar 1) daNil)) (gN 3) dYes (dCall spName (daCons (dVar 0) daNil)) [3])
      (dSeq (dIf (dCmT ltD (dB lenD (daCons (dIxO 2 (dC (D.int 0))) daNil)) (dC (D.int 8))) (dStO 2 (dOp addD (dIxO 2 (dC (D.int 0))) (dOp ixD (dC (D.str (Str.ofString "abcdefghijklmnopqrstuvwxyz"))) (dCall spNext (daCons (dVar 0) (daCons (dC (D.int 26)) daNil))))) (dC (D.int 1))) (dStO 2 (dSl slD (dIxO 2 (dC (D.int 0))) doNone (doSome (dC (D.int 7)))) (dC (D.int 1))))
      (dRet (dVar 2))))
theorem read__law_pool : ∀ ds s Qd, (spPool : DSp Mem.deck) ds s Qd → (T__law_pool : DTS Mem.deck) (endsOf Qd) (startD ["_law_deck_here", "_law_many", "_law_found", "_law_k"] ds) s := by
  intro ds s Qd h
  obtain ⟨a, b, c, n, hs, rfl, h2, h10, hn, hQ⟩ := h
  refine ⟨n, rfl, by omega, by omega, by rw [rngD_length]; exact Nat.le_of_lt (small1000 (by omega)), fun pre acc s' => s'.adr = s.adr ∧ s'.n ≤ s.n + 20 * pre.length ∧ ∃ xs : List Str, acc = xs.map D.str ∧ xs.length = pre.length ∧ ∀ x ∈ xs, NameOk x, ⟨rfl, Nat.le_refl _, [], rfl, rfl, by simp⟩, ?_, ?_⟩
  · rintro pre x post acc s' e - ⟨e1, e2, xs, rfl, hl, hc⟩
    have hp : pre.length < n.toNat := by
      have := congrArg List.length e
      rw [rngD_length, List.length_append, List.length_cons] at this
      omega
    refine ⟨rfl, a, b, c, e1.trans hs, rfl, by omega, fun y k' hy hk => ?_⟩
    refine ⟨rfl, e1, by show k' ≤ _; rw [List.length_append, List.length_singleton]; omega, xs ++ [y], by rw [List.map_append]; rfl, by rw [List.length_append, List.length_append, hl]; rfl, fun c' hc' => ?_⟩
    rcases List.mem_append.mp hc' with z | z
    · exact hc c' z
    · rw [List.mem_singleton.mp z]; exact hy
  · rintro acc s' - ⟨e1, e2, xs, rfl, hl, hc⟩
    rw [rngD_length] at e2 hl
    obtain ⟨x, y, r, rfl⟩ : ∃ x y r, xs = x :: y :: r := by
      match xs, hl with
      | [], hl => exact absurd hl (by show ¬ (0 = _); omega)
      | [_], hl => exact absurd hl (by show ¬ (1 = _); omega)
      | x :: y :: r, _ => exact ⟨x, y, r, rfl⟩
    have hx := hc x (by simp)
    have fin : ∀ (z : Str) (k : Nat), NameOk z → k ≤ s.n + 300 → Qd (.lst ((x :: z :: r).map .str)) ⟨s'.adr, k⟩ := fun z k hz hk => by
      rw [e1]
      refine hQ _ k (by rw [← hl]; rfl) (fun w hw => ?_) hk
      rcases List.mem_cons.mp hw with rfl | hw
      · exact hx
      · rcases List.mem_cons.mp hw with rfl | hw
        · exact hz
        · exact hc w (by simp [hw])
    refine ⟨_, rfl, ⟨⟨_, rfl⟩, 0, _, .str x, rfl, rfl, atI_nat (j := 0) rfl, .str x, x.length, rfl, rfl, ?_⟩⟩
    refine ifBd (fun hlt => ?_) fun hge => ?_
    · refine ⟨⟨_, rfl⟩, 0, _, .str x, rfl, rfl, atI_nat (j := 0) rfl, ?_⟩
      refine ⟨a, b, c, 26, e1.trans hs, rfl, by decide, by decide, by omega, fun r' k' g0 g1 gk => ?_⟩
      obtain ⟨ch, c1, c2, hat2⟩ := letter_at g0 g1
      refine ⟨ch, hat2, ⟨?_, ⟨_, rfl⟩, 1, _, 1, rfl, rfl, ixN_n (j := 1) (by rw [List.length_map]; show 1 < r.length + 1 + 1; omega), ?_⟩⟩
      · show x.length + 1 ≤ strLim
        have : strLim = 1000000 := rfl
        omega
      refine fin (x ++ ⟨#[ch]⟩) k' ⟨by rw [len_tl, tl_append, List.length_append]; show 1 ≤ (tl x).length + 1; omega, by rw [len_tl, tl_append, List.length_append, ← len_tl]; show x.length + 1 ≤ 8; omega, fun c' hc' => by
        rw [tl_append] at hc'
        rcases List.mem_append.mp hc' with z | z
        · exact hx.2.2 c' z
        · rw [List.mem_singleton.mp z]; exact ⟨c1, c2⟩⟩ (by omega)
    · refine ⟨⟨_, rfl⟩, 0, _, .str x, rfl, rfl, atI_nat (j := 0) rfl, 7, rfl, ⟨_, rfl⟩, 1, _, 1, rfl, rfl, ixN_n (j := 1) (by rw [List.length_map]; show 1 < r.length + 1 + 1; omega), ?_⟩
      have e7 : tl (cutS x none (some 7)) = (tl x).take 7 := tl_cut x 7
      have hx8 := hx.2.1
      have hl7 : (tl (cutS x none (some 7))).length = 7 := by rw [e7, List.length_take, ← len_tl]; omega
      refine fin (cutS x none (some 7)) s'.n ⟨by rw [len_tl, hl7]; decide, by rw [len_tl, hl7]; decide, fun c' hc' => ?_⟩ (by omega)
      rw [e7] at hc'
      exact hx.2.2 c' (List.mem_of_mem_take hc')
def T__law_path : DTS Mem.deck :=
  (dSeq (dSet 3 (dOp addD (dC (D.int 1)) (dB minD (daCons (dOp subD (dVar 2) (dC (D.int 1))) (daCons (dOp ixD (dLst (daCons (dC (D.int 1)) (daCons (dC (D.int 2)) (daCons (dC (D.int 1)) (daCons (dC (D.int 2)) (daCons (dC (D.int 3)) (daCons (dC (D.int 0)) (daCons (dC (D.int 5)) (daCons (dC (D.int 1)) daNil))))))))) (dCall spNext (daCons (dVar 0) (daCons (dC (D.int 8)) daNil)))) daNil)))))
      (dRet (dMt "str" joinD (dC (D.str (Str.ofString "."))) (daCons (dLc (diR1 (daCons (dVar 3) daNil)) (gN 4) dYes (dOp ixD (dVar 1) (dCall spNext (daCons (dVar 0) (daCons (dB lenD (daCons (dVar 1) daNil)) daNil)))) [4]) daNil))))
theorem read__law_path : ∀ ds s Qd, (spPath : DSp Mem.deck) ds s Qd → (T__law_path : DTS Mem.deck) (endsOf Qd) (startD ["_law_deck_here", "_law_pool_here", "_law_most", "_law_many", "_law_k"] ds) s := by
  intro ds s Qd h
  obtain ⟨a, b, c, pool, most, hs, rfl, h1, h10, hp0, hp100, hp8, hn, hQ⟩ := h
  refine ⟨by decide, a, b, c, 8, hs, rfl, by decide, by decide, by omega, fun r k h0 h1' hk => ?_⟩
  obtain ⟨n, hn8, hat⟩ := pick_ints [1, 2, 1, 2, 3, 0, 5, 1] r h0 h1'
  have hb : 0 ≤ n ∧ n ≤ 5 := (by decide : ∀ n ∈ [(1 : Int), 2, 1, 2, 3, 0, 5, 1], 0 ≤ n ∧ n ≤ 5) n hn8
  refine ⟨_, hat, most - 1, n, rfl, ?_⟩
  have hm : ∃ w : Int, 1 + (if n < most - 1 then n else most - 1) = w ∧ 1 ≤ w ∧ w ≤ 6 ∧ w ≤ most := by
    refine ⟨_, rfl, ?_⟩
    by_cases h : n < most - 1
    · rw [if_pos h]; omega
    · rw [if_neg h]; omega
  obtain ⟨w, ew, w1, w6, wm⟩ := hm
  have hd : (Str.ofString ".") = (⟨#[46]⟩ : Str) := by decide +kernel
  refine ⟨rfl, ⟨w, by show [D.int (1 + _)] = _; rw [ew], by omega, by omega, ?_⟩⟩
  refine ⟨by rw [rngD_length]; exact Nat.le_of_lt (small1000 (by omega)), fun pre acc s' => s'.adr = s.adr ∧ s'.n = k + pre.length ∧ ∃ ls : List Str, acc = ls.map D.str ∧ ls.length = pre.length ∧ ∀ c ∈ ls, c ∈ pool, ⟨rfl, rfl, [], rfl, rfl, by simp⟩, ?_, ?_⟩
  · rintro pre x post acc s' e - ⟨e1, e2, ls, rfl, hl, hc⟩
    have hp : pre.length < w.toNat := by
      have := congrArg List.length e
      rw [rngD_length, List.length_append, List.length_cons] at this
      omega
    refine ⟨rfl, .lst (pool.map .str), _, rfl, rfl, a, b, c, _, e1.trans hs, rfl, by rw [List.length_map]; omega, by rw [List.length_map]; omega, by omega, fun r' k' g0 g1 gk => ?_⟩
    rw [List.length_map] at g1
    obtain ⟨y, hy, hat2⟩ := pick_map D.str pool r' g0 g1
    refine ⟨_, hat2, rfl, e1, by show k' = _; rw [List.length_append, List.length_singleton]; omega, ls ++ [y], by rw [List.map_append]; rfl, by rw [List.length_append, List.length_append, hl]; rfl, fun c' hc' => ?_⟩
    rcases List.mem_append.mp hc' with z | z
    · exact hc c' z
    · rw [List.mem_singleton.mp z]; exact hy
  · rintro acc s' - ⟨e1, e2, ls, rfl, hl, hc⟩
    rw [rngD_length] at e2 hl
    have q2 := sum_le8 fun y hy => hp8 y (hc y hy)
    refine ⟨_, ls, rfl, .inl rfl, ?_, ?_⟩
    · rw [hd]
      show _ + ls.length * 1 ≤ strLim
      have : strLim = 1000000 := rfl
      omega
    · show Qd (.str (joinS _ _)) s'
      rw [hd]
      have := hQ _ s'.n ⟨ls, by omega, by omega, hc, rfl⟩ (by omega)
      rw [← e1] at this
      exact this
end DL

set_option Elab.async false
set_option linter.all false
set_option maxRecDepth 100000
namespace DL
open PySem PySem.Spec PyProof.Rows L2 TL

/-! ### {} and {x: y} -/
section
variable {X : Cx} {m : Mem} {E : Ent m} {pos : Pos}
def dDict0 {m : Mem} : DT m := fun ρ s Q => Q (.dic [] []) ρ s
theorem de_dict0 : PE X (.Dict [] [] pos) (up X.K m dDict0) := PE.imp pe_dnewK fun σ H Q h => by
  obtain ⟨F, ρ, s, Qd, r, ht, hQ⟩ := h
  intro p np
  have g : Grow F H (upd F p (.dK [])) (upd H p (.dK [])) := Grow.new r.sub np
  exact hQ _ ρ s _ _ _ ht (r.grow g) g.stp ⟨p, [], rfl, upd_same, Nat.zero_le _, rfl, .nil⟩
def dDict1 {m : Mem} (i j : Nat) : DT m := fun ρ s Q => ∃ x d, ρ[i]? = some (.sh (.str x)) ∧ ρ[j]? = some (.sh d) ∧ Q (.dic [.inr x] [d]) ρ s
theorem de_dict1 (i j : Nat) {x y : Str} {p1 p2 : Pos} (hN : X.N[i]? = some x := by rfl) (hv : Vis X.env.scope x := by first | exact Or.inl rfl | exact Or.inr (Or.inl rfl) | exact Or.inr (Or.inr rfl)) (hd : (x == ("__debug__" : Str)) = false := by decide)
    (hcd : (x == ("__classdict__" : Str)) = false := by decide) (hN2 : X.N[j]? = some y := by rfl) (hv2 : Vis X.env.scope y := by first | exact Or.inl rfl | exact Or.inr (Or.inl rfl) | exact Or.inr (Or.inr rfl)) (hd2 : (y == ("__debug__" : Str)) = false := by decide)
    (hcd2 : (y == ("__classdict__" : Str)) = false := by decide) : PE X (.Dict [some (.Name x p1)] [.Name y p2] pos) (up X.K m (dDict1 i j)) :=
  PE.imp (pe_disp (pps_cons (pv i hN hv hd hcd) (pv j hN2 hv2 hd2 hcd2) pps_nil) (by rfl) (by rfl) (by simp) (by show 1 ≤ 15; decide)) fun σ H Q h => by
    obtain ⟨F, ρ, s, Qd, r, ⟨z, d, e1, e2, q⟩, hQ⟩ := h
    obtain ⟨v1, h1, r1⟩ := r.sh i _ e1
    obtain ⟨v2, h2, r2⟩ := r.sh j _ e2
    obtain ⟨rfl, hz⟩ := r1
    intro p np
    refine ⟨_, h1, _, h2, upd_same, [(.inr z, v2)], rfl, (by show 1 ≤ 15; decide), ?_⟩
    have eu : upd (upd H p (.dK [])) p (.dK (mergeK [] [(.inr z, v2)])) = upd H p (.dK [(.inr z, v2)]) := by
      funext a
      by_cases ha : a = p
      · subst ha; rw [upd_same, upd_same]; rfl
      · rw [upd_ne ha, upd_ne ha, upd_ne ha]
    rw [eu]
    have g : Grow F H (upd F p (.dK [(.inr z, v2)])) (upd H p (.dK [(.inr z, v2)])) := Grow.new r.sub np
    exact hQ _ ρ s _ _ _ q (r.grow g) g.stp ⟨p, [(.inr z, v2)], rfl, upd_same, (by show 1 ≤ sizeLine; decide), rfl, .one (Rep.mono g.fF _ _ r2)⟩
end
end DL

set_option Elab.async false
set_option linter.all false
set_option maxRecDepth 100000
namespace DL
open PySem PySem.Spec PyProof.Rows L2 TL
/-! ### the forms of a path -/
def okc (c : Nat) : Bool := decide (97 ≤ c) && decide (c ≤ 122)
def okLen (x : Str) : Bool := decide (1 ≤ x.length) && decide (x.length ≤ 8)
def okName (x : Str) : Bool := okLen x && (tl x).all okc
def isPathS (x : Str) : Bool := decide ((splS 46 x).length ≤ 6) && (splS 46 x).all okName
def isPathD : D → Bool
  | .str x => isPathS x
  | _ => false
/-- the values that are asked -/
def Val (d : D) : Prop := (∃ t, tyT d = some t) ∧ ∀ x, d = .str x → x.length ≤ 10000
def spIsName {m : Mem} : DSp m := fun ds s Q => ∃ x : Str, ds = [.str x] ∧ x.length ≤ 10000 ∧ Q (.bl (okName x)) s
theorem spIsName_len {m : Mem} : ∀ ds s Qd, (spIsName : DSp m) ds s Qd → ds.length = 1 := fun ds s Qd ⟨_, e, _⟩ => by rw [e]; rfl
def spIsPath {m : Mem} : DSp m := fun ds s Q => ∃ d, ds = [d] ∧ Val d ∧ Q (.bl (isPathD d)) s
theorem spIsPath_len {m : Mem} : ∀ ds s Qd, (spIsPath : DSp m) ds s Qd → ds.length = 1 := fun ds s Qd ⟨_, e, _⟩ => by rw [e]; rfl
def spLawIsPath {m : Mem} : DSp m := fun ds s Q => ∃ d, ds = [d] ∧ Val d ∧ Q (.bl (isPathD d)) s
theorem spLawIsPath_len {m : Mem} : ∀ ds s Qd, (spLawIsPath : DSp m) ds s Qd → ds.length = 1 := fun ds s Qd ⟨_, e, _⟩ => by rw [e]; rfl
def spSays {m : Mem} : DSp m := fun ds s Q => ∃ x y : Bool, ds = [.bl x, .bl y] ∧ Q (.bl (x == y)) s
theorem spSays_len {m : Mem} : ∀ ds s Qd, (spSays : DSp m) ds s Qd → ds.length = 2 := fun ds s Qd ⟨_, _, e, _⟩ => by rw [e]; rfl
/-- a text of letters and dots -/
def Plain (x : Str) : Prop := x.length ≤ 200 ∧ ∀ c ∈ tl x, c = 46 ∨ (97 ≤ c ∧ c ≤ 122)
def spOdd : DSp Mem.deck := fun ds s Q => ∃ a b c x, s.adr = some (a, b, c) ∧ ds = [.any (.ref a), .str x] ∧ Plain x ∧ s.n + 20 < drawLim ∧ ∀ d k, Val d → k ≤ s.n + 20 → Q d ⟨s.adr, k⟩
theorem spOdd_len : ∀ ds s Qd, spOdd ds s Qd → ds.length = 2 := fun ds s Qd ⟨_, _, _, _, _, e, _⟩ => by rw [e]; rfl
def spText : DSp Mem.deck := fun ds s Q => ∃ a b c, s.adr = some (a, b, c) ∧ ds = [.any (.ref a)] ∧ s.n + 200 < drawLim ∧ ∀ x k, Plain x → k ≤ s.n + 200 → Q (.str x) ⟨s.adr, k⟩
theorem spText_len : ∀ ds s Qd, spText ds s Qd → ds.length = 1 := fun ds s Qd ⟨_, _, _, _, e, _⟩ => by rw [e]; rfl
def spBent : DSp Mem.deck := fun ds s Q => ∃ a b c x, s.adr = some (a, b, c) ∧ ds = [.any (.ref a), .str x] ∧ x.length ≤ 200 ∧ s.n + 20 < drawLim ∧ ∀ y k, y.length ≤ 2000 → k ≤ s.n + 20 → Q (.str y) ⟨s.adr, k⟩
theorem spBent_len : ∀ ds s Qd, spBent ds s Qd → ds.length = 2 := fun ds s Qd ⟨_, _, _, _, _, e, _⟩ => by rw [e]; rfl
theorem lt_one (c d : Nat) : decide (([c] : List Nat) < [d]) = decide (c < d) := by
  by_cases h : c < d
  · rw [decide_eq_true h, decide_eq_true (List.cons_lt_cons_iff.mpr (.inl h))]
  · rw [decide_eq_false h]
    refine decide_eq_false fun z => ?_
    rcases List.cons_lt_cons_iff.mp z with z | ⟨_, z⟩
    · exact h z
    · exact absurd z (by simp)
theorem le_a (c : Nat) : (!ltS ⟨#[c]⟩ (Str.ofString "a")) = decide (97 ≤ c) := by
  have e : (Str.ofString "a") = (⟨#[97]⟩ : Str) := by decide +kernel
  rw [e]
  show (!decide (([c] : List Nat) < [97])) = _
  rw [lt_one]
  by_cases h : c < 97
  · rw [decide_eq_true h, decide_eq_false (by omega)]; rfl
  · rw [decide_eq_false h, decide_eq_true (by omega)]; rfl
theorem le_z (c : Nat) : (!ltS (Str.ofString "z") ⟨#[c]⟩) = decide (c ≤ 122) := by
  have e : (Str.ofString "z") = (⟨#[122]⟩ : Str) := by decide +kernel
  rw [e]
  show (!decide (([122] : List Nat) < [c])) = _
  rw [lt_one]
  by_cases h : 122 < c
  · rw [decide_eq_true h, decide_eq_false (by omega)]; rfl
  · rw [decide_eq_false h, decide_eq_true (by omega)]; rfl
theorem ch_app {x : Str} {pre : List D} {y : D} {post : List D} (e : chD x = pre ++ y :: post) : ∃ c, y = D.str ⟨#[c]⟩ ∧ c ∈ tl x := by
  have hm : y ∈ chD x := by rw [e]; simp
  obtain ⟨c, hc, rfl⟩ := List.mem_map.mp hm
  exact ⟨c, rfl, hc⟩
theorem chr_inj : ∀ {l m : List Nat}, (l.map fun c => D.str ⟨#[c]⟩) = (m.map fun c => D.str ⟨#[c]⟩) → l = m
  | [], [], _ => rfl
  | [], _ :: _, h => by cases h
  | _ :: _, [], h => by cases h
  | c :: l, d :: m, h => by
    rw [List.map_cons, List.map_cons] at h
    injection h with h1 h2
    injection h1 with h1
    injection h1 with h1
    have h1' : c = d := by simpa using h1
    rw [h1', chr_inj h2]
theorem chD_length (x : Str) : (chD x).length = x.length := by
  unfold chD
  rw [List.length_map, len_tl]
theorem line_of {n : Nat} (h : n ≤ 1000000) : n ≤ sizeLine := Nat.le_trans h (Nat.le_trans (Nat.le_add_right _ 2) strLim_line)
theorem bl_app (l : List Nat) (f : Nat → Bool) (c : Nat) : (l.map f).map D.bl ++ [D.bl (f c)] = ((l ++ [c]).map f).map D.bl := by
  rw [List.map_append, List.map_append]; rfl
theorem splS_count {x : Str} : (splS 46 x).length ≤ x.length + 1 := by
  have h : ∀ (l acc : List Nat), (cutL 46 acc l).length ≤ l.length + 1 := by
    intro l
    induction l with
    | nil => intro acc; simp [cutL]
    | cons a r ih =>
      intro acc
      rw [cutL]
      by_cases h : a = 46
      · rw [if_pos h, List.length_cons, List.length_cons]; have := ih []; omega
      · rw [if_neg h, List.length_cons]; have := ih (acc ++ [a]); omega
  have e : (splS 46 x).length = ((splS 46 x).map tl).length := by rw [List.length_map]
  rw [e, tl_splS, len_tl]
  exact h _ _
theorem splS_each {x : Str} : ∀ y ∈ splS 46 x, y.length ≤ x.length := fun y hy => by
  obtain ⟨l, hl, rfl⟩ := List.mem_map.mp hy
  have := (spl_mem 0 [] (tl x) l hl).1
  rw [List.length_nil, Nat.zero_add] at this
  rw [len_tl, len_tl]
  exact this
theorem bls_all {l : List Bool} : l.all id = true ↔ ∀ b ∈ l, b = true := List.all_eq_true
theorem in_letters (c : Nat) : strIn ⟨#[c]⟩ (Str.ofString "abcdefghijklmnopqrstuvwxyz") = okc c := by
  have hall : ∀ d ∈ [97, 98, 99, 100, 101, 102, 103, 104, 105, 106, 107, 108, 109, 110, 111, 112, 113, 114, 115, 116, 117, 118, 119, 120, 121, 122], 97 ≤ d ∧ d ≤ 122 := by decide
  have hback : ∀ d, d < 123 → 97 ≤ d → d ∈ [97, 98, 99, 100, 101, 102, 103, 104, 105, 106, 107, 108, 109, 110, 111, 112, 113, 114, 115, 116, 117, 118, 119, 120, 121, 122] := by decide
  have key : strIn ⟨#[c]⟩ (Str.ofString "abcdefghijklmnopqrstuvwxyz") = true ↔ okc c = true := by
    unfold strIn
    rw [StrLaws.found_iff]
    have e : (∃ i, i + (⟨#[c]⟩ : Str).length ≤ (Str.ofString "abcdefghijklmnopqrstuvwxyz").length ∧ Builtin.Str.subAt (Str.ofString "abcdefghijklmnopqrstuvwxyz") ⟨#[c]⟩ i = true) ↔ c ∈ tl (Str.ofString "abcdefghijklmnopqrstuvwxyz") := by
      constructor
      · rintro ⟨i, h⟩
        exact List.mem_of_getElem? ((StrLaws.subAt_one _ c i).mp h)
      · intro h
        obtain ⟨i, hi⟩ := List.getElem?_of_mem h
        exact ⟨i, (StrLaws.subAt_one _ c i).mpr hi⟩
    rw [e, letters_tl]
    unfold okc
    rw [Bool.and_eq_true, decide_eq_true_iff, decide_eq_true_iff]
    exact ⟨hall c, fun ⟨h1, h2⟩ => hback c (by omega) h1⟩
  cases h1 : strIn ⟨#[c]⟩ (Str.ofString "abcdefghijklmnopqrstuvwxyz") <;> cases h2 : okc c
  · rfl
  · rw [key.mpr h2] at h1; cases h1
  · rw [key.mp h1] at h2; cases h2
  · rfl
theorem filter_nil {α : Type} {f : α → Bool} {l : List α} : (l.filter fun n => !f n) = [] ↔ ∀ n ∈ l, f n = true := by
  rw [List.filter_eq_nil_iff]
  constructor
  · intro h n hn; have := h n hn; simpa using this
  · intro h n hn; simpa using h n hn
theorem lz {n : Nat} (h : Nat.ble n 1000000 = true) : n ≤ sizeLine := line_of (Nat.le_of_ble_eq_true h)
theorem len_add (a b : Str) : (a ++ b).length = a.length + b.length := by rw [len_tl, tl_append, List.length_append, ← len_tl, ← len_tl]
theorem val_o {d : D} {t : Tg} (h : tyT d = some t) (n : t ≠ .str) : Val d := ⟨⟨t, h⟩, fun x e => by subst e; cases h; exact absurd rfl n⟩
theorem val_s {x : Str} (h : x.length ≤ 10000) : Val (.str x) := ⟨⟨_, rfl⟩, fun y e => by cases e; exact h⟩
theorem plain_upper {x : Str} (h : Plain x) : sOk (Txt.upper x) = true := by
  have hA : ∀ c ∈ x.cps.toList, c < 128 := fun c hc => by rcases h.2 c hc with e | e <;> omega
  rw [upper_ascii hA]
  refine sOk_of ?_ fun c hc => ?_
  · show (x.cps.map up1).size ≤ strLim
    rw [Array.size_map]
    exact Nat.le_trans h.1 (by decide)
  · have hc' : c ∈ (x.cps.map up1).toList := hc
    rw [Array.toList_map] at hc'
    obtain ⟨e, he, rfl⟩ := List.mem_map.mp hc'
    have := hA e he
    unfold up1
    split <;> omega
theorem ix_pick {L : List D} {r : Int} {Q : D → Prop} (h0 : 0 ≤ r) (h1 : r < (L.length : Nat)) (h : ∀ d ∈ L, Q d) : ixD (.lst L) (.int r) Q := by
  obtain ⟨d, hd, hat⟩ := pick_any L r h0 h1
  exact ⟨d, hat, h d hd⟩
theorem cpow30 : CPow 10 30 := by unfold CPow; decide
def sgn : Str := Str.ofString " !\"#$&'()*+,-./0123456789:;<=>?@ABCDEFGHIJKLMNOPQRSTUVWXYZ[\\]^_abcdefghijklmnopqrstuvwxyz{|}~\n\t"

def T__is_name {m : Mem} : DTS m :=
  (dRet (dAndV (dCh leD leD (dC (D.int 1)) (dB lenD (daCons (dVar 0) daNil)) (dC (D.int 8))) (dB allD (daCons (dLc (diStr (dVar 0)) (gN 1) dYes (dCh leD leD (dC (D.str (Str.ofString "a"))) (dVar 1) (dC (D.str (Str.ofString "z")))) [1]) daNil))))
theorem read__is_name {m : Mem} : ∀ ds s Qd, (spIsName : DSp m) ds s Qd → (T__is_name : DTS m) (endsOf Qd) (startD ["text", "letter"] ds) s := by
  intro ds s Qd h
  obtain ⟨x, rfl, hx, hQ⟩ := h
  refine ⟨.str x, x.length, rfl, rfl, ifBd (fun h1 => ?_) fun h1 => ?_⟩
  · refine ⟨_, rfl, ifBd (fun h2 => ?_) fun h2 => ?_⟩
    · refine ⟨x, rfl, (by rw [chD_length]; exact line_of (by omega)), fun pre acc s' => s' = s ∧ ∃ cs : List Nat, pre = cs.map (fun c => D.str ⟨#[c]⟩) ∧ acc = (cs.map okc).map D.bl, ⟨rfl, [], rfl, rfl⟩, ?_, ?_⟩
      · rintro pre y post acc s' e - ⟨rfl, cs, rfl, rfl⟩
        obtain ⟨c, rfl, hc⟩ := ch_app e
        refine ⟨rfl, ?_⟩
        show ifB (!ltS ⟨#[c]⟩ (Str.ofString "a")) _ _
        rw [le_a]
        refine ifBd (fun g1 => ?_) fun g1 => ?_
        · refine ⟨rfl, rfl, cs ++ [c], by rw [List.map_append]; rfl, ?_⟩
          rw [← bl_app, le_z]
          unfold okc
          rw [decide_eq_true g1, Bool.true_and]
        · refine ⟨rfl, rfl, cs ++ [c], by rw [List.map_append]; rfl, ?_⟩
          rw [← bl_app]
          unfold okc
          rw [decide_eq_false g1, Bool.false_and]
      · rintro acc s' - ⟨rfl, cs, e, rfl⟩
        have ec : tl x = cs := chr_inj e
        refine ⟨_, rfl, ?_⟩
        have ek : okName x = (cs.map okc).all id := by
          unfold okName okLen
          rw [decide_eq_true (by omega), decide_eq_true (by omega), ec, List.all_map]
          rfl
        rw [ek] at hQ
        exact hQ
    · have ek : okName x = false := by unfold okName okLen; rw [decide_eq_false (p := x.length ≤ 8) (by omega), Bool.and_false, Bool.false_and]
      rw [ek] at hQ
      rw [decide_eq_false h2]
      exact hQ
  · have ek : okName x = false := by unfold okName okLen; rw [decide_eq_false (p := 1 ≤ x.length) (by omega), Bool.false_and, Bool.false_and]
    rw [ek] at hQ
    exact ⟨_, rfl, hQ⟩
def T_is_path {m : Mem} : DTS m :=
  (dSeq (dIf (dNotT (dTr (dB isiD (daCons (dVar 0) (daCons (dC (D.any (V.ty "str"))) daNil))))) (dRet (dC (D.bl false))) dNext)
      (dSeq (dSet 1 (dMt "str" splitD (dVar 0) (daCons (dC (D.str (Str.ofString "."))) daNil)))
      (dRet (dAndV (dCm leD (dB lenD (daCons (dVar 1) daNil)) (dC (D.int 6))) (dB allD (daCons (dLc (diSeq (dVar 1)) (gN 2) dYes (dCall spIsName (daCons (dVar 2) daNil)) [2]) daNil))))))
theorem read_is_path {m : Mem} : ∀ ds s Qd, (spIsPath : DSp m) ds s Qd → (T_is_path : DTS m) (endsOf Qd) (startD ["value", "names", "name"] ds) s := by
  intro ds s Qd h
  obtain ⟨d, rfl, ⟨⟨t, ht⟩, hx⟩, hQ⟩ := h
  have hd : (Str.ofString ".") = dot := by decide +kernel
  refine ⟨d, .str, t, rfl, ht, (by intro z; cases z), _, rfl, ?_⟩
  cases d with
  | str x =>
    cases ht
    have hx := hx x rfl
    refine ⟨rfl, x, 46, rfl, (by rw [hd]; rfl), by decide, ?_⟩
    refine ⟨_, (splS 46 x).length, rfl, (by show some _ = _; rw [List.length_map]), _, rfl, ?_⟩
    refine ifBd (fun h1 => ?_) fun h1 => ?_
    · refine ⟨_, rfl, (by rw [List.length_map]; exact line_of (Nat.le_trans splS_count (by omega))), fun pre acc s' => s' = s ∧ ∃ ls : List Str, pre = ls.map D.str ∧ acc = (ls.map okName).map D.bl, ⟨rfl, [], rfl, rfl⟩, ?_, ?_⟩
      · rintro pre y post acc s' e - ⟨rfl, ls, rfl, rfl⟩
        obtain ⟨z, rfl, hz⟩ : ∃ z, y = D.str z ∧ z ∈ splS 46 x := by
          have hm : y ∈ (splS 46 x).map D.str := by rw [e]; simp
          obtain ⟨z, hz, rfl⟩ := List.mem_map.mp hm
          exact ⟨z, rfl, hz⟩
        exact ⟨rfl, z, rfl, Nat.le_trans (splS_each z hz) hx, rfl, rfl, ls ++ [z], (by rw [List.map_append]; rfl), (by rw [List.map_append, List.map_append]; rfl)⟩
      · rintro acc s' - ⟨rfl, ls, e, rfl⟩
        have e1 : splS 46 x = ls := map_str_inj e
        refine ⟨_, rfl, ?_⟩
        have ek : isPathD (.str x) = (ls.map okName).all id := by
          show (decide _ && _) = _
          rw [decide_eq_true (by omega), Bool.true_and, e1, List.all_map]
          rfl
        rw [ek] at hQ
        exact hQ
    · have ek : isPathD (.str x) = false := by
        show (decide _ && _) = _
        rw [decide_eq_false (by omega), Bool.false_and]
      rw [ek] at hQ
      rw [decide_eq_false h1]
      exact hQ
  | any _ => cases ht
  | fz _ => cases ht
  | ins _ _ _ => cases ht
  | _ => cases ht; exact hQ
def T__law_says {m : Mem} : DTS m :=
  (dRet (dAndV (dB isiD (daCons (dVar 0) (daCons (dC (D.any (V.ty "bool"))) daNil))) (dCm eqC (dVar 0) (dVar 1))))
theorem read__law_says {m : Mem} : ∀ ds s Qd, (spSays : DSp m) ds s Qd → (T__law_says : DTS m) (endsOf Qd) (startD ["_law_found", "_law_due"] ds) s := by
  intro ds s Qd h
  obtain ⟨x, y, rfl, hQ⟩ := h
  exact ⟨_, .bl, .bl, rfl, rfl, (by intro z; cases z), _, rfl, rfl, rfl, hQ⟩
def T__law_is_path {m : Mem} : DTS m :=
  (dSeq (dIf (dNotT (dTr (dB isiD (daCons (dVar 0) (daCons (dC (D.any (V.ty "str"))) daNil))))) (dRet (dC (D.bl false))) dNext)
      (dSeq (dSet 1 (dMt "str" splitD (dVar 0) (daCons (dC (D.str (Str.ofString "."))) daNil)))
      (dSeq (dSet 2 (dLc (diSeq (dVar 1)) (gN 3) (dNotT (dChT leD leD (dC (D.int 1)) (dB lenD (daCons (dVar 3) daNil)) (dC (D.int 8)))) (dVar 3) [3]))
      (dSeq (dFor (diSeq (dVar 1)) (gN 3)
        (dSet 2 (dOp addD (dVar 2) (dLc (diStr (dVar 3)) (gN 4) (dCmT notInD (dVar 4) (dC (D.str (Str.ofString "abcdefghijklmnopqrstuvwxyz")))) (dVar 4) [4]))))
      (dRet (dAndV (dCm leD (dB lenD (daCons (dVar 1) daNil)) (dC (D.int 6))) (dCm eqC (dVar 2) (dLst daNil))))))))
theorem read__law_is_path {m : Mem} : ∀ ds s Qd, (spLawIsPath : DSp m) ds s Qd → (T__law_is_path : DTS m) (endsOf Qd) (startD ["_law_value", "_law_names", "_law_wrong", "_law_name", "_law_sign"] ds) s := by
  intro ds s Qd h
  obtain ⟨d, rfl, ⟨⟨t, ht⟩, hx⟩, hQ⟩ := h
  have hd : (Str.ofString ".") = dot := by decide +kernel
  refine ⟨d, .str, t, rfl, ht, (by intro z; cases z), _, rfl, ?_⟩
  cases d with
  | str x =>
    cases ht
    have hx := hx x rfl
    have hc := splS_count (x := x)
    have two : ∀ {pre : List D} {y : D} {post : List D}, (splS 46 x).map D.str = pre ++ y :: post → ∃ z, y = D.str z ∧ z ∈ splS 46 x := fun {pre y post} e => by
      have hm : y ∈ (splS 46 x).map D.str := by rw [e]; simp
      obtain ⟨z, hz, rfl⟩ := List.mem_map.mp hm
      exact ⟨z, rfl, hz⟩
    refine ⟨rfl, x, 46, rfl, (by rw [hd]; rfl), by decide, ?_⟩
    refine ⟨_, rfl, (by rw [List.length_map]; exact line_of (by omega)), fun pre acc s' => s' = s ∧ ∃ ls : List Str, pre = ls.map D.str ∧ acc = (ls.filter fun n => !okLen n).map D.str, ⟨rfl, [], rfl, rfl⟩, ?_, ?_⟩
    · rintro pre y post acc s' e - ⟨rfl, ls, rfl, rfl⟩
      obtain ⟨z, rfl, hz⟩ := two e
      have app : ∀ k, okLen z = k → ifB (!k) ((ls.filter fun n => !okLen n).map D.str ++ [D.str z] = ((ls ++ [z]).filter fun n => !okLen n).map D.str) ((ls.filter fun n => !okLen n).map D.str = ((ls ++ [z]).filter fun n => !okLen n).map D.str) := fun k hk => by
        cases k with
        | true => show _ = _; rw [List.filter_append, List.filter_cons, hk]; simp
        | false => show _ = _; rw [List.filter_append, List.filter_cons, hk, List.map_append]; rfl
      refine ⟨.str z, z.length, rfl, rfl, ifBd (fun h1 => ?_) fun h1 => ?_⟩
      · have ek : okLen z = decide ((z.length : Int) ≤ 8) := by
          unfold okLen
          rw [decide_eq_true (by omega), Bool.true_and]
          by_cases h : z.length ≤ 8
          · rw [decide_eq_true h, decide_eq_true (by omega)]
          · rw [decide_eq_false h, decide_eq_false (by omega)]
        have ha := app _ ek
        refine ⟨rfl, ifB2 (fun g => ?_) fun g => ?_⟩
        · rw [g] at ha
          exact ⟨rfl, rfl, ls ++ [z], (by rw [List.map_append]; rfl), ha⟩
        · rw [g] at ha
          exact ⟨rfl, ls ++ [z], (by rw [List.map_append]; rfl), ha⟩
      · have ek : okLen z = false := by unfold okLen; rw [decide_eq_false (p := 1 ≤ z.length) (by omega), Bool.false_and]
        exact ⟨rfl, rfl, rfl, ls ++ [z], (by rw [List.map_append]; rfl), app _ ek⟩
    · rintro acc s' - ⟨rfl, ls, e, rfl⟩
      have e1 : splS 46 x = ls := map_str_inj e
      subst e1
      have hsum := sum_splS 46 x
      have hfl : ((splS 46 x).filter fun n => !okLen n).length ≤ (splS 46 x).length := List.length_filter_le _ _
      refine ⟨_, rfl, fun pre ρ s2 => s2 = s' ∧ ∃ c3 c4 ls ws, pre = ls.map D.str ∧ ρ = [.sh (.str x), .sh (.lst ((splS 46 x).map .str)), .sh (.lst (ws.map .str)), c3, c4] ∧ ws.length ≤ (splS 46 x).length + (ls.map (·.length)).sum ∧ (ws = [] ↔ (∀ n ∈ splS 46 x, okLen n = true) ∧ ∀ n ∈ ls, (tl n).all okc = true),
        ⟨rfl, _, _, [], _, rfl, rfl, (by simpa using hfl), (by rw [filter_nil]; simp)⟩, ?_, ?_⟩
      · rintro pre y post ρ s2 e2 ⟨rfl, c3, c4, ls, ws, rfl, rfl, hw, hn⟩
        obtain ⟨z, rfl, hz⟩ := two e2
        have hpre : (ls.map (·.length)).sum + z.length ≤ ((splS 46 x).map (·.length)).sum := by
          obtain ⟨l1, l2, q1, q2, q3⟩ := List.map_eq_append_iff.mp e2
          obtain ⟨z2, l3, q4, q5, q6⟩ := List.map_eq_cons_iff.mp q3
          have q7 : l1 = ls := map_str_inj q2
          cases q5
          rw [q1, q4, q7, List.map_append, List.map_cons, List.sum_append, List.sum_cons]
          omega
        have hz1 := splS_each z hz
        refine ⟨z, rfl, (by rw [chD_length]; exact line_of (by omega)), fun pre acc s3 => s3 = s2 ∧ ∃ cs : List Nat, pre = cs.map (fun c => D.str ⟨#[c]⟩) ∧ acc = ((cs.filter fun c => !okc c).map one).map D.str, ⟨rfl, [], rfl, rfl⟩, ?_, ?_⟩
        · rintro pre y post acc s3 e3 - ⟨rfl, cs, rfl, rfl⟩
          obtain ⟨c, rfl, hcm⟩ := ch_app e3
          refine ⟨rfl, ?_⟩
          show ifB (!strIn ⟨#[c]⟩ (Str.ofString "abcdefghijklmnopqrstuvwxyz")) _ _
          rw [in_letters]
          refine ifB2 (fun g => ?_) fun g => ?_
          · refine ⟨rfl, rfl, cs ++ [c], (by rw [List.map_append]; rfl), ?_⟩
            rw [List.filter_append, List.filter_cons, g, List.map_append, List.map_append]
            rfl
          · refine ⟨rfl, cs ++ [c], (by rw [List.map_append]; rfl), ?_⟩
            rw [List.filter_append, List.filter_cons, g]
            simp
        · rintro acc s3 hacc ⟨rfl, cs, e3, rfl⟩
          have ec : tl z = cs := chr_inj e3
          subst ec
          have hfz : ((tl z).filter fun c => !okc c).length ≤ z.length := by rw [len_tl]; exact List.length_filter_le _ _
          refine ⟨(by rw [List.length_map, List.length_map, List.length_map]; exact line_of (by omega)), rfl, _, _, ls ++ [z], ws ++ ((tl z).filter fun c => !okc c).map one, (by rw [List.map_append]; rfl), (by rw [List.map_append]; rfl), ?_, ?_⟩
          · rw [List.length_append, List.length_map, List.map_append, List.sum_append, List.map_cons, List.sum_cons]
            simp only [List.map_nil, List.sum_nil]
            omega
          · rw [List.append_eq_nil_iff, hn, List.map_eq_nil_iff, filter_nil]
            constructor
            · rintro ⟨⟨g1, g2⟩, g3⟩
              refine ⟨g1, fun n hn' => ?_⟩
              rcases List.mem_append.mp hn' with h | h
              · exact g2 n h
              · rw [List.mem_singleton.mp h]; exact List.all_eq_true.mpr g3
            · rintro ⟨g1, g2⟩
              exact ⟨⟨g1, fun n hn' => g2 n (List.mem_append_left _ hn')⟩, List.all_eq_true.mp (g2 z (by simp))⟩
      · rintro ρ s2 ⟨rfl, c3, c4, ls, ws, e2, rfl, hw, hn⟩
        have e3 : splS 46 x = ls := map_str_inj e2
        subst e3
        refine ⟨_, (splS 46 x).length, rfl, (by show some _ = _; rw [List.length_map]), _, rfl, ?_⟩
        have ek : ∀ k, decide (((splS 46 x).length : Int) ≤ 6) = k → isPathD (.str x) = (k && decide (ws = [])) := fun k hk => by
          show (decide ((splS 46 x).length ≤ 6) && (splS 46 x).all okName) = _
          have h1 : decide ((splS 46 x).length ≤ 6) = k := by
            rw [← hk]
            by_cases h : (splS 46 x).length ≤ 6
            · rw [decide_eq_true h, decide_eq_true (by omega)]
            · rw [decide_eq_false h, decide_eq_false (by omega)]
          have h2 : (splS 46 x).all okName = decide (ws = []) := by
            by_cases h : ws = []
            · rw [decide_eq_true h, List.all_eq_true]
              obtain ⟨g1, g2⟩ := hn.mp h
              intro n hn'
              unfold okName
              rw [g1 n hn', g2 n hn']
              rfl
            · rw [decide_eq_false h]
              cases q : (splS 46 x).all okName with
              | false => rfl
              | true =>
                refine absurd (hn.mpr ?_) h
                have q' := List.all_eq_true.mp q
                unfold okName at q'
                exact ⟨fun n hn' => (Bool.and_eq_true _ _ ▸ q' n hn').1, fun n hn' => (Bool.and_eq_true _ _ ▸ q' n hn').2⟩
          rw [h1, h2]
        have ee : eqDs (ws.map D.str) [] = decide (ws = []) := by cases ws <;> rfl
        refine ifB2 (fun g => ?_) fun g => ?_
        · have ek := ek _ g
          rw [Bool.true_and] at ek
          rw [ek, ← ee] at hQ
          exact ⟨(by show 0 ≤ sizeLine; exact Nat.zero_le _), plain_lst _, rfl, hQ⟩
        · have ek := ek _ g
          rw [Bool.false_and] at ek
          rw [ek] at hQ
          rw [g]
          exact hQ
  | any _ => cases ht
  | fz _ => cases ht
  | ins _ _ _ => cases ht
  | _ => cases ht; exact hQ
def T__law_odd : DTS Mem.deck :=
  (dSeq (dSet 2 (dLst (daCons (dC D.non) (daCons (dC (D.bl true)) (daCons (dC (D.bl false)) (daCons (dC (D.int 0)) (daCons (dC (D.int 1)) (daCons (dUn negD (dC (D.int 1))) (daCons (dOp powD (dC (D.int 10)) (dC (D.int 30))) (daCons (dC (D.str (Str.ofString ""))) (daCons (dC (D.str (Str.ofString "."))) (daCons (dC (D.str (Str.ofString "A"))) (daCons (dC (D.str (Str.ofString "a."))) (daCons (dC (D.str (Str.ofString ".a"))) (daCons (dC (D.str (Str.ofString "a..b"))) (daCons (dC (D.str (Str.ofString "a b"))) (daCons (dC (D.str (Str.ofString "abcdefghi"))) (daCons (dC (D.str (Str.ofString "a\n"))) (daCons (dC (D.str (Str.ofString " a"))) daNil)))))))))))))))))))
      (dSeq (dSet 2 (dOp addD (dVar 2) (dLst (daCons (dC (D.str (Str.ofString "a.b.c.d.e.f.g"))) (daCons (dTup daNil) (daCons (dLst daNil) (daCons dDict0 (daCons (dTup (daCons (dVar 1) daNil)) (daCons (dLst (daCons (dVar 1) daNil)) (daCons (dDict1 1 1) (daCons (dTup (daCons (dVar 1) (daCons (dVar 1) daNil))) (daCons (dTup (daCons (dVar 1) (daCons (dVar 1) (daCons (dVar 1) daNil)))) daNil))))))))))))
      (dSeq (dSet 2 (dOp addD (dVar 2) (dLst (daCons (dOp addD (dVar 1) (dC (D.str (Str.ofString ".")))) (daCons (dOp addD (dVar 1) (dC (D.str (Str.ofString "\n")))) (daCons (dMt0 "str" upperD (dVar 1)) (daCons (dOp addD (dVar 1) (dC (D.str (Str.ofString "-")))) (daCons (dLst (daCons (dVar 1) (daCons (dVar 1) daNil))) (daCons (dTup (daCons (dC (D.str (Str.ofString "a"))) (daCons (dLst daNil) (daCons dDict0 daNil)))) (daCons (dTup (daCons (dTup (daCons (dVar 1) (daCons (dVar 1) daNil))) daNil)) daNil))))))))))
      (dRet (dOp ixD (dVar 2) (dCall spNext (daCons (dVar 0) (daCons (dB lenD (daCons (dVar 2) daNil)) daNil))))))))
theorem read__law_odd : ∀ ds s Qd, (spOdd : DSp Mem.deck) ds s Qd → (T__law_odd : DTS Mem.deck) (endsOf Qd) (startD ["_law_deck_here", "_law_path", "_law_some"] ds) s := by
  intro ds s Qd h
  obtain ⟨a, b, c, x, hs, rfl, hx, hn, hQ⟩ := h
  have hx2 := hx.1
  have hlim : strLim = 1000000 := rfl
  have h46 : (Str.ofString ".").length = 1 := by decide +kernel
  have h10 : (Str.ofString "\n").length = 1 := by decide +kernel
  have h45 : (Str.ofString "-").length = 1 := by decide +kernel
  have hup := PyProof.Rows.len_upper x
  refine ⟨cpow30, lz rfl, ?_⟩
  refine ⟨lz rfl, lz rfl, lz rfl, lz rfl, _, _, rfl, rfl, lz rfl, lz rfl, lz rfl, lz rfl, ?_⟩
  refine ⟨(by rw [h46]; omega), (by rw [h10]; omega), rfl, x, rfl, rfl, plain_upper hx, (by rw [h45]; omega), lz rfl, lz rfl, lz rfl, lz rfl, lz rfl, lz rfl, lz rfl, ?_⟩
  refine ⟨_, 33, rfl, rfl, a, b, c, 33, hs, rfl, by decide, by decide, by omega, fun r k h0 h1 hk => ?_⟩
  refine ix_pick h0 h1 fun d hd => hQ d k (?_ : Val d) (by omega)
  revert d
  refine List.forall_mem_append.mpr ⟨List.forall_mem_append.mpr ⟨?_, ?_⟩, ?_⟩
  all_goals
    repeat' first | exact (fun _ h => absurd h List.not_mem_nil) | refine List.forall_mem_cons.mpr ⟨?_, ?_⟩
  all_goals first
    | refine val_s ?_
    | exact val_o rfl (by intro z; cases z)
  all_goals try decide +kernel
  all_goals (first | (rw [len_add, h46]; omega) | (rw [len_add, h10]; omega) | (rw [len_add, h45]; omega) | omega)
def T__law_text : DTS Mem.deck :=
  (dSeq (dSet 1 (dC (D.str (Str.ofString "abcdefghijklmnopqrstuvwxyz"))))
      (dSeq (dSetL 2 daNil)
      (dSeq (dFor (diR1 (daCons (dOp ixD (dLst (daCons (dC (D.int 1)) (daCons (dC (D.int 2)) (daCons (dC (D.int 3)) (daCons (dC (D.int 6)) (daCons (dC (D.int 4)) (daCons (dC (D.int 7)) (daCons (dC (D.int 5)) (daCons (dC (D.int 0)) (daCons (dC (D.int 6)) (daCons (dC (D.int 2)) daNil))))))))))) (dCall spNext (daCons (dVar 0) (daCons (dC (D.int 10)) daNil)))) daNil)) (gN 3)
        (dSeq (dSet 4 (dOp ixD (dLst (daCons (dC (D.int 1)) (daCons (dC (D.int 2)) (daCons (dC (D.int 8)) (daCons (dC (D.int 3)) (daCons (dC (D.int 8)) (daCons (dC (D.int 5)) (daCons (dC (D.int 7)) (daCons (dC (D.int 1)) (daCons (dC (D.int 4)) (daCons (dC (D.int 6)) (daCons (dC (D.int 8)) (daCons (dC (D.int 2)) (daCons (dC (D.int 0)) (daCons (dC (D.int 9)) daNil))))))))))))))) (dCall spNext (daCons (dVar 0) (daCons (dC (D.int 14)) daNil)))))
        (dApp 2 (dMt "str" joinD (dC (D.str (Str.ofString ""))) (daCons (dLc (diR1 (daCons (dVar 4) daNil)) (gN 5) dYes (dOp ixD (dVar 1) (dCall spNext (daCons (dVar 0) (daCons (dC (D.int 26)) daNil)))) [5]) daNil)))))
      (dRet (dMt "str" joinD (dC (D.str (Str.ofString "."))) (daCons (dVar 2) daNil))))))
theorem read__law_text : ∀ ds s Qd, (spText : DSp Mem.deck) ds s Qd → (T__law_text : DTS Mem.deck) (endsOf Qd) (startD ["_law_deck_here", "_law_letters", "_law_found", "_law_name", "_law_many", "_law_k"] ds) s := by
  intro ds s Qd h
  obtain ⟨a, b, c, hs, rfl, hn, hQ⟩ := h
  have hlim : strLim = 1000000 := rfl
  have hd : (Str.ofString ".") = (⟨#[46]⟩ : Str) := by decide +kernel
  have hL : Str.ofString "" = (⟨#[]⟩ : Str) := by decide +kernel
  refine ⟨lz rfl, lz rfl, a, b, c, 10, hs, rfl, by decide, by decide, by omega, fun r k h0 h1 hk => ?_⟩
  obtain ⟨n, hn8, hat⟩ := pick_ints [1, 2, 3, 6, 4, 7, 5, 0, 6, 2] r h0 h1
  have hb : 0 ≤ n ∧ n ≤ 7 := (by decide : ∀ n ∈ [(1 : Int), 2, 3, 6, 4, 7, 5, 0, 6, 2], 0 ≤ n ∧ n ≤ 7) n hn8
  refine ⟨_, hat, n, rfl, by omega, by omega, fun pre ρ s' => s'.adr = s.adr ∧ s'.n ≤ s.n + 1 + 10 * pre.length ∧ ∃ (xs : List Str) (c3 c4 c5 : Sl), ρ = [.sh (.any (.ref a)), .sh (.str (Str.ofString "abcdefghijklmnopqrstuvwxyz")), .ow (.lst (xs.map .str)), c3, c4, c5] ∧ xs.length = pre.length ∧ ∀ x ∈ xs, x.length ≤ 9 ∧ ∀ c ∈ tl x, 97 ≤ c ∧ c ≤ 122, ⟨rfl, (by show k ≤ _; omega), [], _, _, _, rfl, rfl, by simp⟩, ?_, ?_⟩
  · rintro pre y post ρ s' e ⟨e1, e2, xs, c3, c4, c5, rfl, hxl, hxs⟩
    obtain ⟨hp, rfl⟩ := rng_pre e
    refine ⟨lz rfl, a, b, c, 14, e1.trans hs, rfl, by decide, by decide, by omega, fun r1 k1 g0 g1 gk => ?_⟩
    obtain ⟨n1, hn1, hat1⟩ := pick_ints [1, 2, 8, 3, 8, 5, 7, 1, 4, 6, 8, 2, 0, 9] r1 g0 g1
    have hb1 : 0 ≤ n1 ∧ n1 ≤ 9 := (by decide : ∀ n ∈ [(1 : Int), 2, 8, 3, 8, 5, 7, 1, 4, 6, 8, 2, 0, 9], 0 ≤ n ∧ n ≤ 9) n1 hn1
    refine ⟨_, hat1, ⟨_, rfl⟩, rfl, n1, rfl, by omega, by omega, (by rw [rngD_length]; exact line_of (by omega)), fun pre2 acc s2 => s2.adr = s.adr ∧ s2.n = k1 + pre2.length ∧ ∃ ls : List Nat, acc = (ls.map one).map D.str ∧ ls.length = pre2.length ∧ ∀ c ∈ ls, 97 ≤ c ∧ c ≤ 122, ⟨e1, rfl, [], rfl, rfl, by simp⟩, ?_, ?_⟩
    · rintro pre2 x2 post2 acc s2 e3 - ⟨e4, e5, ls, rfl, hl, hc⟩
      obtain ⟨hp2, rfl⟩ := rng_pre e3
      refine ⟨rfl, a, b, c, 26, e4.trans hs, rfl, by decide, by decide, by omega, fun r' k' q0 q1 qk => ?_⟩
      obtain ⟨ch, c1, c2, hat2⟩ := letter_at q0 q1
      refine ⟨ch, hat2, rfl, e4, by show k' = _; rw [List.length_append, List.length_singleton]; omega, ls ++ [ch], by rw [List.map_append, List.map_append]; rfl, by rw [List.length_append, List.length_append, hl]; rfl, fun c' hc' => ?_⟩
      rcases List.mem_append.mp hc' with z | z
      · exact hc c' z
      · rw [List.mem_singleton.mp z]; exact ⟨c1, c2⟩
    · rintro acc s2 - ⟨e4, e5, ls, rfl, hl, hc⟩
      rw [rngD_length] at e5 hl
      refine ⟨_, ls.map one, rfl, .inl rfl, ?_, _, rfl, (by rw [List.length_map]; exact Nat.lt_of_lt_of_le (Nat.lt_succ_self _) (line_of (by omega))), ?_⟩
      · rw [hL, sum_ones, List.length_map]
        show ls.length + ls.length * 0 ≤ strLim
        omega
      · refine ⟨e4, (by rw [List.length_append, List.length_singleton]; omega), xs ++ [joinS (Str.ofString "") (ls.map one)], _, _, _, (by rw [List.map_append]; rfl), (by rw [List.length_append, List.length_append, hxl]; rfl), fun x hx => ?_⟩
        rcases List.mem_append.mp hx with z | z
        · exact hxs x z
        · rw [List.mem_singleton.mp z, hL, len_tl, join0]
          exact ⟨by omega, hc⟩
  · rintro ρ s' ⟨e1, e2, xs, c3, c4, c5, rfl, hxl, hxs⟩
    rw [rngD_length] at e2 hxl
    have hsum : (xs.map (·.length)).sum ≤ 9 * xs.length := by
      clear hxl
      induction xs with
      | nil => exact Nat.zero_le _
      | cons a r ih =>
        have h1 := (hxs a List.mem_cons_self).1
        have h2 := ih fun y hy => hxs y (List.mem_cons_of_mem _ hy)
        rw [List.map_cons, List.sum_cons, List.length_cons]
        omega
    have hj := joinS_len (z := Str.ofString ".") (ns := xs)
    have h46 : (Str.ofString ".").length = 1 := by decide +kernel
    rw [h46] at hj
    refine ⟨rfl, Str.ofString ".", xs, rfl, .inl rfl, (by rw [h46]; omega), ?_⟩
    have := hQ (joinS (Str.ofString ".") xs) s'.n ⟨by omega, fun c hc => ?_⟩ (by omega)
    · rw [← e1] at this
      exact this
    · rw [hd] at hc
      have hc' : c ∈ tl (Str.join ⟨#[46]⟩ xs) := hc
      rw [tl_join] at hc'
      rcases joinL_mem _ _ hc' with h | ⟨p, hp, hcp⟩
      · exact .inl (List.mem_singleton.mp h)
      · obtain ⟨y, hy', rfl⟩ := List.mem_map.mp hp
        exact .inr ((hxs y hy').2 c hcp)
def T__law_bent : DTS Mem.deck :=
  (dSeq (dSet 2 (dC (D.str (Str.ofString " !\"#$&'()*+,-./0123456789:;<=>?@ABCDEFGHIJKLMNOPQRSTUVWXYZ[\\]^_abcdefghijklmnopqrstuvwxyz{|}~\n\t"))))
      (dSeq (dFor (diR1 (daCons (dOp addD (dC (D.int 1)) (dCall spNext (daCons (dVar 0) (daCons (dC (D.int 3)) daNil)))) daNil)) (gN 3)
        (dSeq (dPar 5 6 (daCons (dCall spNext (daCons (dVar 0) (daCons (dC (D.int 3)) daNil))) (daCons (dCall spNext (daCons (dVar 0) (daCons (dOp addD (dB lenD (daCons (dVar 1) daNil)) (dC (D.int 1))) daNil))) daNil)))
        (dSeq (dSet 4 (dOp ixD (dVar 2) (dCall spNext (daCons (dVar 0) (daCons (dB lenD (daCons (dVar 2) daNil)) daNil)))))
        (dSet 1 (dOp ixD (dLst (daCons (dOp addD (dOp addD (dSl slD (dVar 1) doNone (doSome (dVar 6))) (dVar 4)) (dSl slD (dVar 1) (doSome (dVar 6)) doNone)) (daCons (dOp addD (dOp addD (dSl slD (dVar 1) doNone (doSome (dVar 6))) (dVar 4)) (dSl slD (dVar 1) (doSome (dOp addD (dVar 6) (dC (D.int 1)))) doNone)) (daCons (dOp addD (dSl slD (dVar 1) doNone (doSome (dVar 6))) (dSl slD (dVar 1) (doSome (dOp addD (dVar 6) (dC (D.int 1)))) doNone)) daNil)))) (dVar 5))))))
      (dRet (dVar 1))))
theorem read__law_bent : ∀ ds s Qd, (spBent : DSp Mem.deck) ds s Qd → (T__law_bent : DTS Mem.deck) (endsOf Qd) (startD ["_law_deck_here", "_law_text_here", "_law_signs", "_law_turn", "_law_sign", "_law_kind", "_law_at"] ds) s := by
  intro ds s Qd h
  obtain ⟨a, b, c, x, hs, rfl, hx, hn, hQ⟩ := h
  have hlim : strLim = 1000000 := rfl
  have hsl : sgn.length = 95 := by decide +kernel
  refine ⟨a, b, c, 3, hs, rfl, by decide, by decide, by omega, fun r k h0 h1 hk => ?_⟩
  refine ⟨1 + r, rfl, by omega, by omega, fun pre ρ s' => s'.adr = s.adr ∧ s'.n ≤ s.n + 1 + 3 * pre.length ∧ ∃ z c3 c4 c5 c6, ρ = [.sh (.any (.ref a)), .sh (.str z), .sh (.str sgn), c3, c4, c5, c6] ∧ z.length + 1 ≤ 201 * 2 ^ pre.length, ⟨rfl, (by show k ≤ _; omega), x, _, _, _, _, rfl, (by show x.length + 1 ≤ 201; omega)⟩, ?_, ?_⟩
  · rintro pre y post ρ s' e ⟨e1, e2, z, c3, c4, c5, c6, rfl, hz⟩
    obtain ⟨hp, rfl⟩ := rng_pre e
    have hp : pre.length < 3 := by omega
    have hz2 : z.length ≤ 2000 := by
      have : pre.length = 0 ∨ pre.length = 1 ∨ pre.length = 2 := by omega
      rcases this with h | h | h <;> rw [h] at hz <;> omega
    refine ⟨a, b, c, 3, e1.trans hs, rfl, by decide, by decide, by omega, fun r1 k1 g0 g1 gk => ?_⟩
    refine ⟨_, z.length, rfl, rfl, a, b, c, _, e1.trans hs, rfl, by omega, by omega, (by show k1 < _; omega), fun r2 k2 g2 g3 gk2 => ?_⟩
    have gk2 : k2 = k1 + 1 := gk2
    refine ⟨_, _, rfl, ?_⟩
    refine ⟨_, sgn.length, rfl, rfl, a, b, c, _, e1.trans hs, rfl, (by rw [hsl]; decide), (by rw [hsl]; decide), (by show k2 < _; omega), fun r3 k3 g4 g5 gk3 => ?_⟩
    have gk3 : k3 = k2 + 1 := gk3
    obtain ⟨ch, _, hat⟩ := pick_any (tl sgn) r3 g4 (by rw [← len_tl]; exact g5)
    have L1 : ∀ l h, (cutS z l h).length ≤ z.length := cutS_length z
    have L2 : ∀ l h, (cutS z l h ++ (⟨#[ch]⟩ : Str)).length ≤ z.length + 1 := fun l h => by rw [len_add]; have := L1 l h; show _ + 1 ≤ _; omega
    have L3 : ∀ l h l2 h2, ((cutS z l h ++ (⟨#[ch]⟩ : Str)) ++ cutS z l2 h2).length ≤ 2 * z.length + 1 := fun l h l2 h2 => by rw [len_add]; have := L1 l2 h2; have := L2 l h; omega
    have L4 : ∀ l h l2 h2, (cutS z l h ++ cutS z l2 h2).length ≤ 2 * z.length + 1 := fun l h l2 h2 => by rw [len_add]; have := L1 l2 h2; have := L1 l h; omega
    have B : ∀ p q : Str, (p ++ q).length ≤ 10000 → p.length + q.length ≤ strLim := fun p q h => by rw [len_add] at h; omega
    refine ⟨ch, hat, r2, rfl, B _ _ (Nat.le_trans (L2 _ _) (by omega)), r2, rfl, B _ _ (Nat.le_trans (L3 _ _ _ _) (by omega)), ?_⟩
    refine ⟨r2, rfl, B _ _ (Nat.le_trans (L2 _ _) (by omega)), r2 + 1, rfl, B _ _ (Nat.le_trans (L3 _ _ _ _) (by omega)), ?_⟩
    refine ⟨r2, rfl, r2 + 1, rfl, B _ _ (Nat.le_trans (L4 _ _ _ _) (by omega)), lz rfl, ?_⟩
    have fin : ∀ w : Str, w.length ≤ 2 * z.length + 1 → w.length + 1 ≤ 201 * 2 ^ (pre ++ [D.int (0 + (pre.length : Int))]).length := fun w hw => by
      rw [List.length_append, List.length_singleton, Nat.pow_succ]
      omega
    refine ix_pick g0 g1 ?_
    refine List.forall_mem_cons.mpr ⟨?_, List.forall_mem_cons.mpr ⟨?_, List.forall_mem_cons.mpr ⟨?_, fun _ h => absurd h List.not_mem_nil⟩⟩⟩
    · exact ⟨e1, (by show k3 ≤ _; rw [List.length_append, List.length_singleton]; omega), _, _, _, _, _, rfl, fin _ (L3 _ _ _ _)⟩
    · exact ⟨e1, (by show k3 ≤ _; rw [List.length_append, List.length_singleton]; omega), _, _, _, _, _, rfl, fin _ (L3 _ _ _ _)⟩
    · exact ⟨e1, (by show k3 ≤ _; rw [List.length_append, List.length_singleton]; omega), _, _, _, _, _, rfl, fin _ (L4 _ _ _ _)⟩
  · rintro ρ s' ⟨e1, e2, z, c3, c4, c5, c6, rfl, hz⟩
    rw [rngD_length] at e2 hz
    have hz2 : z.length ≤ 2000 := by
      have : (1 + r).toNat = 1 ∨ (1 + r).toNat = 2 ∨ (1 + r).toNat = 3 := by omega
      rcases this with h | h | h <;> rw [h] at hz <;> omega
    have := hQ z s'.n hz2 (by omega)
    rw [← e1] at this
    exact this
def T_law_k01 : DTS Mem.deck :=
  (dSeq (dSet 1 (dCall spDeck (daCons (dVar 0) daNil)))
      (dSeq (dSet 2 (dLst (daCons (dC (D.str (Str.ofString ""))) (daCons (dC (D.str (Str.ofString "a"))) (daCons (dOp addD (dOp mulD (dC (D.str (Str.ofString "abcdefgh."))) (dC (D.int 5))) (dC (D.str (Str.ofString "abcdefgh")))) (daCons (dOp addD (dOp mulD (dC (D.str (Str.ofString "abcdefgh."))) (dC (D.int 6))) (dC (D.str (Str.ofString "a")))) (daCons (dC (D.str (Str.ofString "abcdefghi"))) (daCons (dOp mulD (dC (D.str (Str.ofString "a"))) (dC (D.int 2000))) (daCons (dOp addD (dOp mulD (dC (D.str (Str.ofString "a."))) (dC (D.int 900))) (dC (D.str (Str.ofString "a")))) daNil)))))))))
      (dSeq (dFor (diR1 (daCons (dC (D.int 5)) daNil)) (gN 3)
        (dSeq (dSet 5 (dCall spText (daCons (dVar 1) daNil)))
        (dSet 2 (dOp addD (dVar 2) (dLst (daCons (dVar 5) (daCons (dOp addD (dVar 5) (dC (D.str (Str.ofString "\n")))) (daCons (dCall spBent (daCons (dVar 1) (daCons (dVar 5) daNil))) (daCons (dCall spOdd (daCons (dVar 1) (daCons (dVar 5) daNil))) daNil)))))))))
      (dSeq (dFor (diSeq (dOp addD (dVar 2) (dSl slD (dVar 2) doNone (doSome (dC (D.int 3)))))) (gN 4)
        (dIf (dNotT (dTr (dCall spSays (daCons (dCall spIsPath (daCons (dVar 4) daNil)) (daCons (dCall spLawIsPath (daCons (dVar 4) daNil)) daNil))))) (dRet (dC (D.bl false))) dNext))
      (dRet (dC (D.bl true)))))))
theorem read_law_k01 : ∀ ds s Qd, (spLaw : DSp Mem.deck) ds s Qd → (T_law_k01 : DTS Mem.deck) (endsOf Qd) (startD ["_law_script", "_law_deck_here", "_law_tried", "_law_turn", "_law_value", "_law_text_here"] ds) s := by
  intro ds s Qd h
  obtain ⟨ns, rfl, hl, hs, hn, hQ⟩ := h
  have hlim : drawLim = 1152921504606846976 := rfl
  have hs6 : strLim = 1000000 := rfl
  have h10 : (Str.ofString "\n").length = 1 := by decide +kernel
  refine ⟨ns, rfl, hl, hs, fun a b c => ?_⟩
  refine ⟨(by decide +kernel), (by decide +kernel), (by decide +kernel), (by decide +kernel), (by decide +kernel), (by decide +kernel), (by decide +kernel), lz rfl, ?_⟩
  refine ⟨5, rfl, by decide, by decide, fun pre ρ s' => s'.adr = some (a, b, c) ∧ s'.n ≤ 300 * pre.length ∧ ∃ L c3 c4 c5, ρ = [.sh (.fz (ns.map .int)), .sh (.any (.ref a)), .sh (.lst L), c3, c4, c5] ∧ L.length ≤ 7 + 4 * pre.length ∧ ∀ d ∈ L, Val d, ⟨rfl, (by show s.n ≤ 0; omega), _, _, _, _, rfl, (by show 7 ≤ 7; decide), ?_⟩, ?_, ?_⟩
  · repeat' first | exact (fun _ h => absurd h List.not_mem_nil) | refine List.forall_mem_cons.mpr ⟨?_, ?_⟩
    all_goals refine val_s ?_
    all_goals decide +kernel
  · rintro pre x post ρ s' e ⟨e1, e2, L, c3, c4, c5, rfl, hL, hV⟩
    obtain ⟨hp, rfl⟩ := rng_pre e
    have hp : pre.length < 5 := hp
    refine ⟨a, b, c, e1, rfl, by omega, fun x k hx hk => ?_⟩
    have hx2 := hx.1
    refine ⟨(by rw [h10]; omega), a, b, c, x, e1, rfl, hx2, (by show k + 20 < _; omega), fun y k2 hy hk2 => ?_⟩
    have hk2 : k2 ≤ k + 20 := hk2
    refine ⟨a, b, c, x, e1, rfl, hx, (by show k2 + 20 < _; omega), fun d k3 hd hk3 => ?_⟩
    have hk3 : k3 ≤ k2 + 20 := hk3
    refine ⟨lz rfl, (by show L.length + 4 ≤ _; exact line_of (by omega)), ?_⟩
    refine ⟨e1, (by show k3 ≤ _; rw [List.length_append, List.length_singleton]; omega), _, _, _, _, rfl, (by rw [List.length_append, List.length_append, List.length_singleton]; show L.length + 4 ≤ _; omega), ?_⟩
    refine List.forall_mem_append.mpr ⟨hV, ?_⟩
    refine List.forall_mem_cons.mpr ⟨val_s (by omega), List.forall_mem_cons.mpr ⟨val_s (by rw [len_add, h10]; omega), List.forall_mem_cons.mpr ⟨val_s (by omega), List.forall_mem_cons.mpr ⟨hd, fun _ h => absurd h List.not_mem_nil⟩⟩⟩⟩
  · rintro ρ s' ⟨e1, e2, L, c3, c4, c5, rfl, hL, hV⟩
    have hL : L.length ≤ 7 + 4 * 5 := hL
    have ec : cutD L none (some 3) = L.take 3 := cut_take L 3
    refine ⟨3, rfl, (by rw [ec, List.length_take]; exact line_of (by omega)), _, rfl, fun pre ρ s2 => ∃ c3 c4 c5, ρ = [.sh (.fz (ns.map .int)), .sh (.any (.ref a)), .sh (.lst L), c3, c4, c5], ⟨_, _, _, rfl⟩, ?_, ?_⟩
    · rintro pre x post ρ s2 e ⟨c3, c4, c5, rfl⟩
      have hx : Val x := by
        have hm : x ∈ L ++ cutD L none (some 3) := by rw [e]; simp
        rw [ec] at hm
        rcases List.mem_append.mp hm with h | h
        · exact hV x h
        · exact hV x (List.mem_of_mem_take h)
      refine ⟨x, rfl, hx, x, rfl, hx, _, _, rfl, _, rfl, ?_⟩
      rw [beq_self_eq_true]
      exact ⟨_, _, _, rfl⟩
    · rintro ρ s2 ⟨c3, c4, c5, rfl⟩
      exact hQ s2
end DL

set_option Elab.async false
set_option linter.all false
set_option maxRecDepth 100000
namespace K01
open PySem PySem.Spec PyProof.Rows L2 TL DL
def topS (i : Nat) : Stmt := PySem.Challenge.pw_mayrest_k01_path_forms.main.body.getD i (.Pass ⟨0, 0, 0, 0⟩)
abbrev s__law_deck : Stmt := topS 6
abbrev s__law_next : Stmt := topS 7
abbrev s__is_name : Stmt := topS 3
abbrev s_is_path : Stmt := topS 4
abbrev s__law_says : Stmt := topS 8
abbrev s__law_is_path : Stmt := topS 9
abbrev s__law_odd : Stmt := topS 10
abbrev s__law_text : Stmt := topS 11
abbrev s__law_bent : Stmt := topS 12
abbrev s_law : Stmt := topS 13
structure Tx (K : PySem.W.Frag) (mg : Str → Option Value) (a : Nat → Addr) (d : Nat → FuncData) : Prop where
  f6 : Fun K "_law_deck" "_law_deck" (topS 6) (a 6) (d 6)
  g6 : mg "_law_deck" = some (.ref (a 6))
  b6 : Binds K (d 6) ["_law_script"] []
  f7 : Fun K "_law_next" "_law_next" (topS 7) (a 7) (d 7)
  g7 : mg "_law_next" = some (.ref (a 7))
  b7 : Binds K (d 7) ["_law_deck_here", "_law_many"] []
  f3 : Fun K "_is_name" "_is_name" (topS 3) (a 3) (d 3)
  g3 : mg "_is_name" = some (.ref (a 3))
  b3 : Binds K (d 3) ["text"] []
  f4 : Fun K "is_path" "is_path" (topS 4) (a 4) (d 4)
  g4 : mg "is_path" = some (.ref (a 4))
  b4 : Binds K (d 4) ["value"] []
  f8 : Fun K "_law_says" "_law_says" (topS 8) (a 8) (d 8)
  g8 : mg "_law_says" = some (.ref (a 8))
  b8 : Binds K (d 8) ["_law_found", "_law_due"] []
  f9 : Fun K "_law_is_path" "_law_is_path" (topS 9) (a 9) (d 9)
  g9 : mg "_law_is_path" = some (.ref (a 9))
  b9 : Binds K (d 9) ["_law_value"] []
  f10 : Fun K "_law_odd" "_law_odd" (topS 10) (a 10) (d 10)
  g10 : mg "_law_odd" = some (.ref (a 10))
  b10 : Binds K (d 10) ["_law_deck_here", "_law_path"] []
  f11 : Fun K "_law_text" "_law_text" (topS 11) (a 11) (d 11)
  g11 : mg "_law_text" = some (.ref (a 11))
  b11 : Binds K (d 11) ["_law_deck_here"] []
  f12 : Fun K "_law_bent" "_law_bent" (topS 12) (a 12) (d 12)
  g12 : mg "_law_bent" = some (.ref (a 12))
  b12 : Binds K (d 12) ["_law_deck_here", "_law_text_here"] []
  f13 : Fun K "law" "law" (topS 13) (a 13) (d 13)
  g13 : mg "law" = some (.ref (a 13))
  b13 : Binds K (d 13) ["_law_script"] []
  z_abs : mg "abs" = none
  z_all : mg "all" = none
  z_bool : mg "bool" = none
  z_int : mg "int" = none
  z_isinstance : mg "isinstance" = none
  z_len : mg "len" = none
  z_range : mg "range" = none
  z_str : mg "str" = none
  c_MAX_NAMES : ∃ t, mg "MAX_NAMES" = some (.int 6 t)
  c__MAX_LETTERS : ∃ t, mg "_MAX_LETTERS" = some (.int 8 t)
section
variable {P : Program} {w : World} {K : PySem.W.Frag} {mg : Str → Option Value} {base : Heap} {a : Nat → Addr} {d : Nat → FuncData}
abbrev names__law_deck : List Str := ["_law_script", "_law_cells", "_law_number"]
theorem sc__law_deck : FnScope names__law_deck ["_law_script"] (defScope s__law_deck) := ⟨rfl, rfl, rfl, by decide +kernel, rfl, by decide +kernel, by decide +kernel⟩
theorem ok__law_deck (T : Tx K mg a d) : FnOk P w K mg base CX0 1 (a 6) (d 6) ["_law_script"] (lift K Mem.deck 1 spDeck) := by
  refine T.f6.ok sc__law_deck (fun vs H Q E h => h.1) (fun cdv A outer s H vs Q E hr h => ?_)
  obtain ⟨hl, F, ds, sd, Qd, sub, hm, hreg, rs, ⟨ns, e2, hns, e0, hQd⟩, hQ⟩ := h
  subst e2
  obtain ⟨v, _, rfl, ⟨sc, vs, rfl, hsc, _, rv⟩, rn⟩ := rs
  cases rn
  have ev := reps_ints rv
  subst ev
  have hS : SqL K H sc (ns.map V.int) := Same.seq sub hsc
  refine ⟨_, pss_cons (ps_setLc (i := 1) (own := [("_law_number", 2)]) (g := gName 2) (tt := tYes) rfl sc__law_deck.nd rfl rfl (sw_true rfl rfl rfl (by decide +kernel)) (pi_list (pv 0)) (blkOk_by (N := names__law_deck) (sc := defScope s__law_deck) (by decide +kernel)) (fun _ _ _ _ _ => pg_name (i := 2) sc__law_deck.nd rfl (Or.inl rfl)) (fun _ _ _ _ _ => pts_nil) (fun _ _ _ _ _ => pe_callB call_abs (by rfl) T.z_abs (by decide +kernel) (pa_cons (pv 2) pa_nil)))
    (pss_one (ps_ret (pe_lst (pa_cons (pe_lc (own := [("_law_number", 2)]) (g := gName 2) rfl sc__law_deck.nd (pi_list (pv 1)) (blkOk_by (N := names__law_deck) (sc := defScope s__law_deck) (by decide +kernel)) (fun _ _ _ _ _ => pg_name (i := 2) sc__law_deck.nd rfl (Or.inl rfl)) (fun _ _ _ _ _ => pts_one (pt_cmpR op_ge (pv 2) (pe_op op_pow pe_int pe_int) (nomark _))) (fun _ _ _ _ _ => pv 2))
      (pa_cons (pe_op op_cat (pv 1) (pe_lst (pa_cons (pe_op op_add (pe_callB call_len_seq (by rfl) T.z_len PySem.boot_len (pa_cons (pv 1) pa_nil)) pe_int) pa_nil))) (pa_cons pe_int pa_nil)))))), ?_⟩
  refine ⟨_, rfl, sc, rfl, ⟨_, hS⟩, fun D hD => lc_list (K := K) (a := sc) (xs := ns.map V.int) (fun i H' => H' D = some (.lst ((ns.take i).map fun x => V.int (absI x))) ∧ Same H H') ⟨upd_same, DL.same_upd hD⟩ (fun i H' _ q => Same.seq q.2 hS) (fun i x H' hx q => ?_) (fun H' q => ?_)⟩
  · obtain ⟨q1, q2⟩ := q
    obtain ⟨z, hz, rfl⟩ : ∃ z, ns[i]? = some z ∧ V.int z = x := by
      rw [List.getElem?_map] at hx
      cases e : ns[i]? with
      | none => rw [e] at hx; cases hx
      | some z => rw [e] at hx; exact ⟨z, rfl, Option.some.inj hx⟩
    have hi : i < ns.length := (List.getElem?_eq_some_iff.mp hz).1
    refine ⟨rfl, _, rfl, z, rfl, _, q1, by rw [List.length_map, List.length_take]; exact small1000 (by omega), ?_, fun b o e => ?_⟩
    · rw [upd_same, List.take_add_one, hz, List.map_append]
      rfl
    · rw [upd_ne (ne_of_none e hD)]; exact q2 _ _ e
  · obtain ⟨q1, q2⟩ := q
    have q1' : H' D = some (.lst (ns.map fun x => V.int (absI x))) := by rw [q1]; simp
    obtain ⟨cs, hcs, ecs⟩ : ∃ cs : List Int, cs.length = ns.length ∧ (ns.map fun x => V.int (absI x)) = cs.map V.int := ⟨ns.map absI, List.length_map _, by rw [List.map_map]; rfl⟩
    rw [ecs] at q1'
    have hC : SqL K H' D (cs.map V.int) := .inl (.inl q1')
    refine ⟨_, rfl, D, rfl, ⟨_, hC⟩, fun B hB => lc_list (K := K) (a := D) (xs := cs.map V.int) (fun i H2 => (∃ bg : List Int, bg.length ≤ i ∧ H2 B = some (.lst (bg.map V.int))) ∧ Same H' H2) ⟨⟨[], Nat.le_refl _, upd_same⟩, DL.same_upd hB⟩ (fun i H2 _ q => Same.seq q.2 hC) (fun i x H2 hx q => ?_) (fun H2 q => ?_)⟩
    · obtain ⟨⟨bg, g1, g2⟩, g3⟩ := q
      obtain ⟨z, hz, rfl⟩ : ∃ z, cs[i]? = some z ∧ V.int z = x := by
        rw [List.getElem?_map] at hx
        cases e : cs[i]? with
        | none => rw [e] at hx; cases hx
        | some z => rw [e] at hx; exact ⟨z, rfl, Option.some.inj hx⟩
      have hi : i < cs.length := (List.getElem?_eq_some_iff.mp hz).1
      refine ⟨rfl, _, rfl, 10, 18, rfl, rfl, ⟨by decide, by decide, by decide⟩, z, _, rfl, rfl, _, rfl, ?_⟩
      refine ite2 (fun _ => ?_) fun _ => ?_
      · refine ⟨_, rfl, _, g2, by rw [List.length_map]; exact small1000 (by omega), ⟨bg ++ [z], by rw [List.length_append]; simp; omega, by rw [upd_same, List.map_append]; rfl⟩, fun b o e => ?_⟩
        rw [upd_ne (ne_of_none e hB)]; exact g3 _ _ e
      · exact ⟨⟨bg, by omega, g2⟩, g3⟩
    · obtain ⟨⟨bg, g1, g2⟩, g3⟩ := q
      have hD2 : H2 D = some (.lst (cs.map V.int)) := g3 _ _ q1'
      refine ⟨_, rfl, _, rfl, D, cs.map V.int, rfl, .inl (.inl (.inl hD2)), _, 3, rfl, rfl, by show 1 ≤ sizeLine; decide, fun U hU => ?_⟩
      have nDU : D ≠ U := ne_of_none hD2 hU
      refine ⟨D, U, _, _, rfl, rfl, by rw [upd_ne nDU]; exact hD2, upd_same, ?_, fun C hC2 => ⟨by show 3 ≤ sizeLine; decide, fun a0 ha0 => ?_⟩⟩
      · rw [List.length_map]
        exact Nat.le_of_lt (small1000 (by show cs.length + 1 ≤ 1000; omega))
      · have nUC : U ≠ C := fun e => by rw [← e, upd_same] at hC2; cases hC2
        have hC3 : H2 C = none := by rw [upd_ne nUC.symm] at hC2; exact hC2
        have nBC : B ≠ C := ne_of_none g2 hC3
        have nBU : B ≠ U := ne_of_none g2 hU
        have na0C : a0 ≠ C := fun e => by rw [e, upd_same] at ha0; cases ha0
        have ha1 : (upd H2 U (.lst [V.int (((cs.map V.int).length : Nat) + 3)])) a0 = none := by rw [upd_ne na0C] at ha0; exact ha0
        have na0U : a0 ≠ U := fun e => by rw [e, upd_same] at ha1; cases ha1
        have ha2 : H2 a0 = none := by rw [upd_ne na0U] at ha1; exact ha1
        have na0B : a0 ≠ B := fun e => by rw [e, g2] at ha2; cases ha2
        have s2 : Same H H2 := q2.trans g3
        have fin : ∀ x o, H x = some o → (upd (upd (upd H2 U (.lst [V.int (((cs.map V.int).length : Nat) + 3)])) C (.lst (cs.map V.int ++ [V.int (((cs.map V.int).length : Nat) + 3)]))) a0 (.lst [.ref B, .ref C, .int 0])) x = some o := fun x o e => by
          have e2 := s2 _ _ e
          rw [upd_ne (ne_of_none e2 ha2), upd_ne (ne_of_none e2 hC3), upd_ne (ne_of_none e2 hU)]
          exact e2
        have hBn : H B = none := q2.free hB
        refine hQ (.any (.ref a0)) ⟨some (a0, B, C), sd.n⟩ (.ref a0) F _ (hQd a0 B C) ⟨Same.refl F, fun x o e _ => fin x o e, fun x e => ?_, fun x o e => .inl e, fun x ⟨a', b', c', e, hx⟩ => ?_, sub.trans fin, fun a' b' c' e => ?_, fun x ⟨a', b', c', e, hx⟩ => ?_⟩ rfl
        · cases o : H x with
          | none => exact absurd o e
          | some u => rw [fin x u o]; simp
        · have e' : (some (a0, B, C) : Option (Addr × Addr × Addr)) = some (a', b', c') := e
          cases e'
          rcases hx with rfl | rfl | rfl
          · exact .inr (s2.free ha2)
          · exact .inr hBn
          · exact .inr (s2.free hC3)
        · have e' : (some (a0, B, C) : Option (Addr × Addr × Addr)) = some (a', b', c') := e
          cases e'
          refine ⟨na0B, na0C, nBC, bg, cs ++ [((cs.length : Nat) : Int) + 3], 0, upd_same, by rw [upd_ne na0B.symm, upd_ne nBC, upd_ne nBU]; exact g2, ?_, by simp, ?_, ?_, Int.le_refl _, Int.natCast_nonneg _⟩
          · rw [upd_ne na0C.symm, upd_same, List.map_append, List.length_map]
            rfl
          · rw [List.length_append]; simp; omega
          · rw [List.length_map] at g1; omega
        · have e' : (some (a0, B, C) : Option (Addr × Addr × Addr)) = some (a', b', c') := e
          cases e'
          rcases hx with rfl | rfl | rfl
          · exact sub.free (s2.free ha2)
          · exact sub.free hBn
          · exact sub.free (s2.free hC3)
theorem len__law_deck : ∀ ds s Qd, spDeck ds s Qd → ds.length = 1 := spDeck_len
abbrev names__law_next : List Str := ["_law_deck_here", "_law_many", "_law_rest", "_law_turn", "_law_number", "_law_mixed"]
theorem sc__law_next : FnScope names__law_next ["_law_deck_here", "_law_many"] (defScope s__law_next) := ⟨rfl, rfl, rfl, by decide +kernel, rfl, by decide +kernel, by decide +kernel⟩
theorem ok__law_next (T : Tx K mg a d) : FnOk P w K mg base CX0 1 (a 7) (d 7) ["_law_deck_here", "_law_many"] (lift K Mem.deck 2 spNext) := by
  refine T.f7.ok sc__law_next (fun vs H Q E h => h.1) (fun cdv A outer s H vs Q E hr h => ?_)
  obtain ⟨hl, F, ds, sd, Qd, sub, hm, hreg, rs, ⟨p, q, r, n, e1, e2, h0, h1, hlim, hQd⟩, hQ⟩ := h
  subst e2
  obtain ⟨v, _, rfl, rv, v2, _, rfl, rv2, rn⟩ := rs
  cases rn
  cases rv
  cases rv2
  refine ⟨_, pss_cons (ps_while PassesOwn.never (pt_cmpR (op_neD (u64 hr)) (pe_ix ix_list (pv 0) pe_int (fun _ _ => rfl)) (pe_lst pa_nil) (nomark _))
      (pss_cons (ps_set (i := 2) sc__law_next.nd rfl (.inl rfl) (pe_ix ix_list (pe_ix ix_list (pv 0) pe_int (fun _ _ => rfl)) pe_int (fun _ _ => rfl)))
      (pss_cons (ps_if (pt_cmpR op_gt (pv 2) pe_int (nomark _))
        (pss_cons (ps_asg (pe_op op_fdiv (pv 2) (pv 1)) (pg_sub (pe_ix ix_list (pv 0) pe_int (fun _ _ => rfl)) pe_int set_list))
        (pss_one (ps_ret (pe_op op_mod (pe_callTy call_int1 (by rfl) T.z_int (by decide +kernel) (pa_cons (pv 2) pa_nil)) (pv 1)))))
        pss_nil)
      (pss_one (ps_expr (pe_bm PySem.F.plainAttrs_list PySem.F.slot_list_pop PySem.F.type_list_pop mt_popAt (pe_ix ix_list (pv 0) pe_int (fun _ _ => rfl)) (pa_cons pe_int pa_nil)))))))
    (pss_cons (ps_asg (pe_op op_add (pe_ix ix_list (pv 0) pe_int (fun _ _ => rfl)) pe_int) (pg_sub (pv 0) pe_int set_list))
    (pss_cons (ps_set (i := 3) sc__law_next.nd rfl (.inl rfl) (pe_ix ix_list (pv 0) pe_int (fun _ _ => rfl)))
    (pss_cons (ps_set (i := 4) sc__law_next.nd rfl (.inl rfl) (pe_op op_mod (pe_callTy call_int1 (by rfl) T.z_int (by decide +kernel) (pa_cons (pe_ix ix_list (pe_ix ix_list (pv 0) pe_int (fun _ _ => rfl)) (pe_op op_mod (pe_callTy call_int1 (by rfl) T.z_int (by decide +kernel) (pa_cons (pv 3) pa_nil)) (pe_callB call_len_seq (by rfl) T.z_len PySem.boot_len (pa_cons (pe_ix ix_list (pv 0) pe_int (fun _ _ => rfl)) pa_nil))) (fun _ _ => rfl)) pa_nil)) pe_int))
    (pss_cons (ps_set (i := 5) sc__law_next.nd rfl (.inl rfl) (pe_op op_mod (pe_callTy call_int1 (by rfl) T.z_int (by decide +kernel) (pa_cons (pe_op op_add (pe_op op_add (pe_op op_mul (pv 4) (pe_op op_add pe_int (pe_op op_mul pe_int (pv 3)))) (pe_op op_mul (pe_op op_mul pe_int (pv 3)) (pv 3))) pe_int) pa_nil)) pe_int))
    (pss_one (ps_ret (pe_op op_mod (pe_op op_fdiv (pe_op op_mod (pe_callTy call_int1 (by rfl) T.z_int (by decide +kernel) (pa_cons (pe_op op_mul (pv 5) (pv 5)) pa_nil)) pe_int) pe_int) (pv 1)))))))), ?_⟩
  obtain ⟨n1, n2, n3, big, all, t, ha, hb, hc, hall, hl1, hl2, ht0, ht1⟩ := hm p q r e1
  have regs : ∀ x, Mem.deck.R sd x → x = p ∨ x = q ∨ x = r := fun x ⟨a', b', c', e, hx⟩ => by
    rw [e1] at e; cases e; exact hx
  have Fp : F p = none := hreg p ⟨p, q, r, e1, .inl rfl⟩
  have Fq : F q = none := hreg q ⟨p, q, r, e1, .inr (.inl rfl)⟩
  have Fr : F r = none := hreg r ⟨p, q, r, e1, .inr (.inr rfl)⟩
  -- the way out: a number below n, the deck as it is then
  have out : ∀ (z : Int) (H' : Hp) (big' : List Int) (t' : Int), 0 ≤ z → z < n → H' p = some (.lst [.ref q, .ref r, .int t']) → H' q = some (.lst (big'.map V.int)) → H' r = some (.lst (all.map V.int)) → big'.length ≤ 1000 → 0 ≤ t' → t' ≤ (sd.n + 1 : Nat) →
      (∀ x o, H x = some o → x ≠ p → x ≠ q → H' x = some o) → Q (.int z) H' := fun z H' big' t' z0 z1 a1 a2 a3 a4 a5 a6 k => by
    have Hp' : H p ≠ none := by rw [ha]; simp
    refine hQ (.int z) ⟨sd.adr, sd.n + 1⟩ (.int z) F H' (hQd z (sd.n + 1) z0 z1 rfl) ⟨Same.refl F, fun x o h nr => k x o h (fun e => nr ⟨p, q, r, e1, .inl e⟩) (fun e => nr ⟨p, q, r, e1, .inr (.inl e)⟩), fun x h => ?_, fun x o h => .inl h, fun x h => ?_, fun x o h => ?_, fun a' b' c' e => ?_, fun x h => hreg x h⟩ rfl
    · by_cases e : x = p
      · rw [e, a1]; simp
      · by_cases e' : x = q
        · rw [e', a2]; simp
        · cases o : H x with
          | none => exact absurd o h
          | some u => rw [k x u o e e']; simp
    · exact .inl h
    · have h' := sub x o h
      exact k x o h' (fun e => by rw [e, Fp] at h; cases h) (fun e => by rw [e, Fq] at h; cases h)
    · have e' : sd.adr = some (a', b', c') := e
      rw [e1] at e'; cases e'
      exact ⟨n1, n2, n3, big', all, t', a1, a2, a3, hall, hl1, a4, a5, a6⟩
  -- the while
  refine ⟨fun m σ H2 => ∃ (bg : List Int) (y2 : Option V), m = bg.length ∧ bg.length ≤ big.length ∧ σ = [some (.ref p), some (.int n), y2, none, none, none] ∧ H2 p = some (.lst [.ref q, .ref r, .int t]) ∧ H2 q = some (.lst (bg.map V.int)) ∧ (∀ x o, H x = some o → x ≠ q → H2 x = some o),
    ⟨big.length, big, none, rfl, Nat.le_refl _, rfl, ha, hb, fun _ _ h _ => h⟩, ?_⟩
  rintro m σ H2 ⟨bg, y2, rfl, hbg, rfl, g1, g2, gk⟩
  have dpI : ∀ (l : List Int), DpAll K H2 (l.map V.int) (l.map PyData.int) := fun l => by
    induction l with
    | nil => exact .nil
    | cons x l ih => exact .cons (.int x) ih
  have layI : ∀ (l : List Int), PyData.canLayAll0 (l.map PyData.int) = true ∧ PyData.depthAll (l.map PyData.int) ≤ 0 := fun l => by
    induction l with
    | nil => exact ⟨rfl, Nat.le_refl _⟩
    | cons x l ih =>
      obtain ⟨i1, i2⟩ := ih
      rw [List.map_cons]
      exact ⟨by simp only [PyData.canLayAll0, PyData.canLay0, i1, Bool.and_self], by simp only [PyData.depthAll, PyData.depth]; omega⟩
  refine ⟨_, rfl, p, _, 0, .ref q, rfl, rfl, .inl (.inl g1), rfl, Nat.zero_le _, fun o no => ?_⟩
  have nop : p ≠ o := ne_of_none g1 no
  have noq : q ≠ o := ne_of_none g2 no
  have g1' : (upd H2 o (.lst [])) p = some (.lst [.ref q, .ref r, .int t]) := by rw [upd_ne nop]; exact g1
  have g2' : (upd H2 o (.lst [])) q = some (.lst (bg.map V.int)) := by rw [upd_ne noq]; exact g2
  have sm : Same H2 (upd H2 o (.lst [])) := DL.same_upd no
  have dp1 : Dp K (upd H2 o (.lst [])) (.ref q) (.list (bg.map PyData.int)) := by
    refine .lst (.inl (.inl g2')) ?_
    clear layI dpI g2 g2' hbg
    induction bg with
    | nil => exact .nil
    | cons x l ih => exact .cons (.int x) ih
  have sh1 : SeqAt.shaped (.list (bg.map PyData.int)) = true := by
    obtain ⟨i1, i2⟩ := layI bg
    unfold SeqAt.shaped
    have d1 : (PyData.list (bg.map PyData.int)).depth ≤ 64 := by simp only [PyData.depth]; omega
    rw [decide_eq_true d1, show (PyData.list (bg.map PyData.int)).canLay0 = true by simp only [PyData.canLay0]; exact i1]
    rfl
  refine ⟨_, _, dp1, .lst (.inl (.inl upd_same)) .nil, sh1, by decide, _, rfl, ?_⟩
  cases bg with
  | nil =>
    refine iteF ?_
    -- behind the while
    refine ⟨_, rfl, p, _, 2, .int t, rfl, rfl, .inl (.inl g1'), rfl, t, 1, rfl, rfl, _, rfl, p, _, 2, 2, rfl, rfl, g1', rfl, ?_⟩
    have hr' : H2 r = some (.lst (all.map V.int)) := gk r _ hc n3.symm
    have nrp : r ≠ p := n2.symm
    have nro : r ≠ o := ne_of_none hr' no
    refine ⟨_, rfl, p, _, 2, .int (t + 1), rfl, rfl, .inl (.inl upd_same), rfl, ?_⟩
    have hrr : (upd (upd H2 o (.lst [])) p (.lst ([V.ref q, .ref r, .int t].set 2 (.int (t + 1))))) r = some (.lst (all.map V.int)) := by rw [upd_ne nrp, upd_ne nro]; exact hr'
    have lpos : (0 : Int) < ((all.map V.int).length : Nat) := by
      cases all with
      | nil => exact absurd rfl hall
      | cons x l => rw [List.length_map, List.length_cons]; omega
    obtain ⟨k, hk, hk2⟩ : ∃ k : Nat, (t + 1) % (((all.map V.int).length : Nat) : Int) = (k : Int) ∧ k < all.length := by
      have m0 := Int.emod_nonneg (t + 1) (Int.ne_of_gt lpos)
      have m1 := Int.emod_lt_of_pos (t + 1) lpos
      rw [List.length_map] at m0 m1 lpos ⊢
      exact ⟨((t + 1) % (all.length : Int)).toNat, by omega, by omega⟩
    have hat : atI (all.map V.int) ((t + 1) % (((all.map V.int).length : Nat) : Int)) = some (.int all[k]) := by
      rw [hk]
      exact atI_nat (by rw [List.getElem?_map, List.getElem?_eq_getElem hk2]; rfl)
    refine ⟨_, rfl, p, _, 1, .ref r, rfl, rfl, .inl (.inl upd_same), rfl, _, rfl, .inl ⟨t + 1, rfl, _, rfl, p, _, 1, .ref r, rfl, rfl, .inl (.inl upd_same), rfl, r, _, rfl, .inl (.inl (.inl hrr)), _, _, rfl, rfl, lpos, r, _, _, .int all[k], rfl, rfl, .inl (.inl hrr), hat, .inl ⟨all[k], rfl, all[k], 2147483647, rfl, rfl, (by show (0 : Int) < 2147483647; decide), ?_⟩⟩⟩
    have u1 : t + 1 ≤ 2 ^ 60 := by
      have : sd.n < 2 ^ 60 := hlim
      omega
    have m0 : 0 ≤ all[k] % 2147483647 := Int.emod_nonneg _ (by decide)
    have m1 : all[k] % 2147483647 < 2147483647 := Int.emod_lt_of_pos _ (by decide)
    refine ⟨_, rfl, _, rfl, 69621, t + 1, rfl, rfl, .inl ⟨by decide, by decide⟩, 48271, _, rfl, rfl, all[k] % 2147483647, _, rfl, rfl, .inl ⟨by omega, by omega⟩, _, rfl, 40692, t + 1, rfl, rfl, .inl ⟨by decide, by decide⟩, _, rfl, 40692 * (t + 1), t + 1, rfl, rfl, .inr ⟨by omega, by omega⟩, _, _, rfl, rfl, _, 11, rfl, rfl, .inl ⟨_, rfl, _, 2147483629, rfl, rfl, (by show (0 : Int) < 2147483629; decide), ?_⟩⟩
    obtain ⟨M, hM⟩ : ∃ M, M = (all[k] % 2147483647 * (48271 + 69621 * (t + 1)) + 40692 * (t + 1) * (t + 1) + 11) % 2147483629 := ⟨_, rfl⟩
    have q0 : 0 ≤ M := by rw [hM]; exact Int.emod_nonneg _ (by decide)
    have q1 : M < 2147483629 := by rw [hM]; exact Int.emod_lt_of_pos _ (by decide)
    refine ⟨_, rfl, _, rfl, M, M, by rw [hM], by rw [hM], .inl ⟨by omega, by omega⟩, .inl ⟨_, rfl, _, 2147483587, rfl, rfl, (by show (0 : Int) < 2147483587; decide), _, 16, rfl, rfl, ⟨by decide, by decide⟩, _, rfl, _, n, rfl, rfl, h0, ?_⟩⟩
    refine out _ _ [] (t + 1) (Int.emod_nonneg _ (Int.ne_of_gt h0)) (Int.emod_lt_of_pos _ h0) upd_same (by rw [upd_ne n1.symm]; exact g2') hrr (Nat.zero_le _) (by omega) (by omega) fun x u e n4 n5 => ?_
    rw [upd_ne n4, upd_ne (ne_of_none (gk x u e n5) no)]
    exact gk x u e n5
  | cons x bg =>
    refine iteT ⟨fun σ' H' => ∃ y2 : Option V, σ' = [some (.ref p), some (.int n), y2, none, none, none] ∧ H' p = some (.lst [.ref q, .ref r, .int t]) ∧ H' q = some (.lst (bg.map V.int)) ∧ (∀ x o, H x = some o → x ≠ q → H' x = some o), fun σ' H' ⟨y, a1, a2, a3, a4⟩ => ⟨bg.length, Nat.lt_succ_self _, bg, y, rfl, by rw [List.length_cons] at hbg; omega, a1, a2, a3, a4⟩, ?_⟩
    refine ⟨_, rfl, p, _, 0, .ref q, rfl, rfl, .inl (.inl g1'), rfl, q, _, 0, .int x, rfl, rfl, .inl (.inl g2'), atI_nat (j := 0) rfl, ?_⟩
    refine ⟨_, rfl, x, 0, rfl, rfl, _, rfl, ?_⟩
    refine ite2 (fun hx => ?_) fun hx => ?_
    · refine ⟨_, rfl, _, rfl, x, n, rfl, rfl, ⟨h0, h1⟩, _, rfl, p, _, 0, .ref q, rfl, rfl, .inl (.inl g1'), rfl, q, _, 0, 0, rfl, rfl, g2', ix0 x bg, ?_⟩
      refine ⟨_, rfl, .inl ⟨x, rfl, _, rfl, x, n, rfl, rfl, h0, ?_⟩⟩
      refine out _ _ (x / n :: bg) t (Int.emod_nonneg _ (Int.ne_of_gt h0)) (Int.emod_lt_of_pos _ h0) (by rw [upd_ne n1]; exact g1') upd_same ?_ (by rw [List.length_cons] at hbg ⊢; omega) ht0 (by omega) fun y u e n4 n5 => ?_
      · have hr' : H2 r = some (.lst (all.map V.int)) := gk r _ hc n3.symm
        rw [upd_ne n3.symm, upd_ne (ne_of_none hr' no)]
        exact hr'
      · rw [upd_ne n5, upd_ne (ne_of_none (gk y u e n5) no)]
        exact gk y u e n5
    · refine ⟨_, rfl, p, _, 0, .ref q, rfl, rfl, .inl (.inl g1'), rfl, .inl ⟨rfl, _, .inl (.inl g2')⟩, q, _, 0, 0, .int x, rfl, rfl, g2', by decide, by decide, ?_, rfl, ?_⟩
      · show seqIndex? 0 (((x :: bg).map V.int).length) = some 0
        rw [List.length_map, List.length_cons]
        exact seqIndex_of (by decide) (by omega)
      · refine ⟨_, rfl, by rw [upd_ne n1]; exact g1', by rw [upd_same]; rfl, fun y u e n5 => ?_⟩
        rw [upd_ne n5, upd_ne (ne_of_none (gk y u e n5) no)]
        exact gk y u e n5
theorem len__law_next : ∀ ds s Qd, spNext ds s Qd → ds.length = 2 := spNext_len
abbrev names__is_name : List Str := ["text", "letter"]
theorem sc__is_name : FnScope names__is_name ["text"] (defScope s__is_name) := ⟨rfl, rfl, rfl, by decide +kernel, rfl, by decide +kernel, by decide +kernel⟩
theorem len__is_name {m : Mem} : ∀ ds s Qd, (spIsName : DSp m) ds s Qd → ds.length = 1 := spIsName_len
theorem ok__is_name {m : Mem} (T : Tx K mg a d) : FnOk P w K mg base CX0 1 (a 3) (d 3) ["text"] (lift K m 1 spIsName) := by
  refine dfn T.f3 sc__is_name rfl (fun cdv A outer s0 H E En hr => ⟨_, (dss_one (ds_ret (de_and (de_chain op_leA op_leA o_le o_le de_int (de_callB (DL.CallR.or call_len call_lenD) o_len (by rfl) T.z_len (by decide +kernel) (da_cons (dv 0) da_nil)) (de_globI (by rfl) T.c__MAX_LETTERS)) (de_one (de_callB (cr_all rfl) o_all (by rfl) T.z_all (by decide +kernel) (da_cons (de_lc (own := [("letter", 1)]) sc__is_name.nd (di_str (dv 0)) (blkOk_by (N := names__is_name) (sc := defScope s__is_name) (by decide +kernel)) (fun _ _ _ _ _ => (dg_name 1 sc__is_name.nd)) (fun _ _ _ _ _ => dts_nil) (fun _ _ _ _ _ => (de_chain op_leA op_leA o_le o_le de_str (dv 1) de_str))) da_nil)))))), fun ds s Qd h => ?_⟩)
  exact read__is_name ds s Qd h
abbrev names_is_path : List Str := ["value", "names", "name"]
theorem sc_is_path : FnScope names_is_path ["value"] (defScope s_is_path) := ⟨rfl, rfl, rfl, by decide +kernel, rfl, by decide +kernel, by decide +kernel⟩
theorem len_is_path {m : Mem} : ∀ ds s Qd, (spIsPath : DSp m) ds s Qd → ds.length = 1 := spIsPath_len
theorem ok_is_path {m : Mem} (T : Tx K mg a d) : FnOk P w K mg base CX0 2 (a 4) (d 4) ["value"] (lift K m 1 spIsPath) := by
  have G__is_name := ok__is_name (P := P) (w := w) (base := base) (m := m) T
  refine dfn T.f4 sc_is_path rfl (fun cdv A outer s0 H E En hr => ⟨_, (dss_cons (ds_if (dt_not (dt_truth (de_callB call_isi o_isi (by rfl) T.z_isinstance (by decide +kernel) (da_cons (dv 0) (da_cons (de_bltn (v := .ty "str") (by rfl) T.z_str (by decide +kernel) rfl) da_nil)))))
        (dss_one (ds_ret de_bl))
        dss_nil)
      (dss_cons (ds_set 1 sc_is_path.nd (de_m PySem.F.plainAttrs_str PySem.F.slot_str_split PySem.F.type_str_split mt_split o_split (dv 0) (da_cons de_str da_nil)))
      (dss_one (ds_ret (de_and (de_cmp op_leA o_le (de_callB (DL.CallR.or call_len call_lenD) o_len (by rfl) T.z_len (by decide +kernel) (da_cons (dv 1) da_nil)) (de_globI (by rfl) T.c_MAX_NAMES)) (de_one (de_callB (cr_all rfl) o_all (by rfl) T.z_all (by decide +kernel) (da_cons (de_lc (own := [("name", 2)]) sc_is_path.nd (di_seq (dv 1)) (blkOk_by (N := names_is_path) (sc := defScope s_is_path) (by decide +kernel)) (fun _ _ _ _ _ => (dg_name 2 sc_is_path.nd)) (fun _ _ _ _ _ => dts_nil) (fun _ _ _ _ _ => (de_call G__is_name len__is_name (hr.mono (by decide)) (by rfl) T.g3 T.f3.kp T.b3 (da_cons (dv 2) da_nil)))) da_nil)))))))), fun ds s Qd h => ?_⟩)
  exact read_is_path ds s Qd h
abbrev names__law_says : List Str := ["_law_found", "_law_due"]
theorem sc__law_says : FnScope names__law_says ["_law_found", "_law_due"] (defScope s__law_says) := ⟨rfl, rfl, rfl, by decide +kernel, rfl, by decide +kernel, by decide +kernel⟩
theorem len__law_says {m : Mem} : ∀ ds s Qd, (spSays : DSp m) ds s Qd → ds.length = 2 := spSays_len
theorem ok__law_says {m : Mem} (T : Tx K mg a d) : FnOk P w K mg base CX0 1 (a 8) (d 8) ["_law_found", "_law_due"] (lift K m 2 spSays) := by
  refine dfn T.f8 sc__law_says rfl (fun cdv A outer s0 H E En hr => ⟨_, (dss_one (ds_ret (de_and (de_callB call_isi o_isi (by rfl) T.z_isinstance (by decide +kernel) (da_cons (dv 0) (da_cons (de_bltn (v := .ty "bool") (by rfl) T.z_bool (by decide +kernel) rfl) da_nil))) (de_one (de_cmp (op_eqD (u64 hr)) o_eq (dv 0) (dv 1)))))), fun ds s Qd h => ?_⟩)
  exact read__law_says ds s Qd h
abbrev names__law_is_path : List Str := ["_law_value", "_law_names", "_law_wrong", "_law_name", "_law_sign"]
theorem sc__law_is_path : FnScope names__law_is_path ["_law_value"] (defScope s__law_is_path) := ⟨rfl, rfl, rfl, by decide +kernel, rfl, by decide +kernel, by decide +kernel⟩
theorem len__law_is_path {m : Mem} : ∀ ds s Qd, (spLawIsPath : DSp m) ds s Qd → ds.length = 1 := spLawIsPath_len
theorem ok__law_is_path {m : Mem} (T : Tx K mg a d) : FnOk P w K mg base CX0 1 (a 9) (d 9) ["_law_value"] (lift K m 1 spLawIsPath) := by
  refine dfn T.f9 sc__law_is_path rfl (fun cdv A outer s0 H E En hr => ⟨_, (dss_cons (ds_if (dt_not (dt_truth (de_callB call_isi o_isi (by rfl) T.z_isinstance (by decide +kernel) (da_cons (dv 0) (da_cons (de_bltn (v := .ty "str") (by rfl) T.z_str (by decide +kernel) rfl) da_nil)))))
        (dss_one (ds_ret de_bl))
        dss_nil)
      (dss_cons (ds_set 1 sc__law_is_path.nd (de_m PySem.F.plainAttrs_str PySem.F.slot_str_split PySem.F.type_str_split mt_split o_split (dv 0) (da_cons de_str da_nil)))
      (dss_cons (ds_setLc 2 (own := [("_law_name", 3)]) sc__law_is_path.nd (di_seq (dv 1)) (blkOk_by (N := names__law_is_path) (sc := defScope s__law_is_path) (by decide +kernel)) (fun _ _ _ _ _ => (dg_name 3 sc__law_is_path.nd)) (fun _ _ _ _ _ => (dts_one (dt_not (dt_chain op_leA op_leA o_le o_le de_int (de_callB (DL.CallR.or call_len call_lenD) o_len (by rfl) T.z_len (by decide +kernel) (da_cons (dv 3) da_nil)) de_int)))) (fun _ _ _ _ _ => (dv 3)))
      (dss_cons (ds_for rfl (di_seq (dv 1)) (dg_name 3 sc__law_is_path.nd)
        (dss_one (ds_set 2 sc__law_is_path.nd (de_op op_addA o_add (dv 2) (de_lc (own := [("_law_sign", 4)]) sc__law_is_path.nd (di_str (dv 3)) (blkOk_by (N := names__law_is_path) (sc := defScope s__law_is_path) (by decide +kernel)) (fun _ _ _ _ _ => (dg_name 4 sc__law_is_path.nd)) (fun _ _ _ _ _ => (dts_one (dt_cmp (op_notInA (u65 hr)) o_notIn (dv 4) de_str))) (fun _ _ _ _ _ => (dv 4)))))))
      (dss_one (ds_ret (de_and (de_cmp op_leA o_le (de_callB (DL.CallR.or call_len call_lenD) o_len (by rfl) T.z_len (by decide +kernel) (da_cons (dv 1) da_nil)) de_int) (de_one (de_cmp (op_eqD (u64 hr)) o_eq (dv 2) (de_lst da_nil)))))))))), fun ds s Qd h => ?_⟩)
  exact read__law_is_path ds s Qd h
abbrev names__law_odd : List Str := ["_law_deck_here", "_law_path", "_law_some"]
theorem sc__law_odd : FnScope names__law_odd ["_law_deck_here", "_law_path"] (defScope s__law_odd) := ⟨rfl, rfl, rfl, by decide +kernel, rfl, by decide +kernel, by decide +kernel⟩
theorem len__law_odd : ∀ ds s Qd, (spOdd : DSp Mem.deck) ds s Qd → ds.length = 2 := spOdd_len
theorem ok__law_odd (T : Tx K mg a d) : FnOk P w K mg base CX0 2 (a 10) (d 10) ["_law_deck_here", "_law_path"] (lift K Mem.deck 2 spOdd) := by
  have G__law_next := ok__law_next (P := P) (w := w) (base := base) T
  refine dfn T.f10 sc__law_odd rfl (fun cdv A outer s0 H E En hr => ⟨_, (dss_cons (ds_set 2 sc__law_odd.nd (de_lst (da_cons de_non (da_cons de_bl (da_cons de_bl (da_cons de_int (da_cons de_int (da_cons (de_un un_neg o_neg de_int) (da_cons (de_op op_pow o_pow de_int de_int) (da_cons de_str (da_cons de_str (da_cons de_str (da_cons de_str (da_cons de_str (da_cons de_str (da_cons de_str (da_cons de_str (da_cons de_str (da_cons de_str da_nil)))))))))))))))))))
      (dss_cons (ds_set 2 sc__law_odd.nd (de_op op_addA o_add (dv 2) (de_lst (da_cons de_str (da_cons (de_tup da_nil) (da_cons (de_lst da_nil) (da_cons de_dict0 (da_cons (de_tup (da_cons (dv 1) da_nil)) (da_cons (de_lst (da_cons (dv 1) da_nil)) (da_cons (de_dict1 1 1) (da_cons (de_tup (da_cons (dv 1) (da_cons (dv 1) da_nil))) (da_cons (de_tup (da_cons (dv 1) (da_cons (dv 1) (da_cons (dv 1) da_nil)))) da_nil))))))))))))
      (dss_cons (ds_set 2 sc__law_odd.nd (de_op op_addA o_add (dv 2) (de_lst (da_cons (de_op op_addA o_add (dv 1) de_str) (da_cons (de_op op_addA o_add (dv 1) de_str) (da_cons (de_m0 PySem.F.plainAttrs_str PySem.F.slot_str_upper PySem.F.type_str_upper mt_upper o_upper (dv 1)) (da_cons (de_op op_addA o_add (dv 1) de_str) (da_cons (de_lst (da_cons (dv 1) (da_cons (dv 1) da_nil))) (da_cons (de_tup (da_cons de_str (da_cons (de_lst da_nil) (da_cons de_dict0 da_nil)))) (da_cons (de_tup (da_cons (de_tup (da_cons (dv 1) (da_cons (dv 1) da_nil))) da_nil)) da_nil))))))))))
      (dss_one (ds_ret (de_ix ix_seq o_ix (dv 2) (de_call G__law_next len__law_next (hr.mono (by decide)) (by rfl) T.g7 T.f7.kp T.b7 (da_cons (dv 0) (da_cons (de_callB (DL.CallR.or call_len call_lenD) o_len (by rfl) T.z_len (by decide +kernel) (da_cons (dv 2) da_nil)) da_nil))))))))), fun ds s Qd h => ?_⟩)
  exact read__law_odd ds s Qd h
abbrev names__law_text : List Str := ["_law_deck_here", "_law_letters", "_law_found", "_law_name", "_law_many", "_law_k"]
theorem sc__law_text : FnScope names__law_text ["_law_deck_here"] (defScope s__law_text) := ⟨rfl, rfl, rfl, by decide +kernel, rfl, by decide +kernel, by decide +kernel⟩
theorem len__law_text : ∀ ds s Qd, (spText : DSp Mem.deck) ds s Qd → ds.length = 1 := spText_len
theorem ok__law_text (T : Tx K mg a d) : FnOk P w K mg base CX0 2 (a 11) (d 11) ["_law_deck_here"] (lift K Mem.deck 1 spText) := by
  have G__law_next := ok__law_next (P := P) (w := w) (base := base) T
  refine dfn T.f11 sc__law_text rfl (fun cdv A outer s0 H E En hr => ⟨_, (dss_cons (ds_set 1 sc__law_text.nd de_str)
      (dss_cons (ds_setL 2 sc__law_text.nd da_nil)
      (dss_cons (ds_for rfl (di_range1 (by rfl) T.z_range (da_cons (de_ix ix_seq o_ix (de_lst (da_cons de_int (da_cons de_int (da_cons de_int (da_cons de_int (da_cons de_int (da_cons de_int (da_cons de_int (da_cons de_int (da_cons de_int (da_cons de_int da_nil))))))))))) (de_call G__law_next len__law_next (hr.mono (by decide)) (by rfl) T.g7 T.f7.kp T.b7 (da_cons (dv 0) (da_cons de_int da_nil)))) da_nil)) (dg_name 3 sc__law_text.nd)
        (dss_cons (ds_set 4 sc__law_text.nd (de_ix ix_seq o_ix (de_lst (da_cons de_int (da_cons de_int (da_cons de_int (da_cons de_int (da_cons de_int (da_cons de_int (da_cons de_int (da_cons de_int (da_cons de_int (da_cons de_int (da_cons de_int (da_cons de_int (da_cons de_int (da_cons de_int da_nil))))))))))))))) (de_call G__law_next len__law_next (hr.mono (by decide)) (by rfl) T.g7 T.f7.kp T.b7 (da_cons (dv 0) (da_cons de_int da_nil)))))
        (dss_one (ds_app 2 (de_m PySem.F.plainAttrs_str PySem.F.slot_str_join PySem.F.type_str_join mt_join o_join de_str (da_cons (de_lc (own := [("_law_k", 5)]) sc__law_text.nd (di_range1 (by rfl) T.z_range (da_cons (dv 4) da_nil)) (blkOk_by (N := names__law_text) (sc := defScope s__law_text) (by decide +kernel)) (fun _ _ _ _ _ => (dg_name 5 sc__law_text.nd)) (fun _ _ _ _ _ => dts_nil) (fun _ _ _ _ _ => (de_ix ix_seq o_ix (dv 1) (de_call G__law_next len__law_next (hr.mono (by decide)) (by rfl) T.g7 T.f7.kp T.b7 (da_cons (dv 0) (da_cons de_int da_nil)))))) da_nil))))))
      (dss_one (ds_ret (de_m PySem.F.plainAttrs_str PySem.F.slot_str_join PySem.F.type_str_join mt_join o_join de_str (da_cons (dv 2) da_nil))))))), fun ds s Qd h => ?_⟩)
  exact read__law_text ds s Qd h
abbrev names__law_bent : List Str := ["_law_deck_here", "_law_text_here", "_law_signs", "_law_turn", "_law_sign", "_law_kind", "_law_at"]
theorem sc__law_bent : FnScope names__law_bent ["_law_deck_here", "_law_text_here"] (defScope s__law_bent) := ⟨rfl, rfl, rfl, by decide +kernel, rfl, by decide +kernel, by decide +kernel⟩
theorem len__law_bent : ∀ ds s Qd, (spBent : DSp Mem.deck) ds s Qd → ds.length = 2 := spBent_len
theorem ok__law_bent (T : Tx K mg a d) : FnOk P w K mg base CX0 2 (a 12) (d 12) ["_law_deck_here", "_law_text_here"] (lift K Mem.deck 2 spBent) := by
  have G__law_next := ok__law_next (P := P) (w := w) (base := base) T
  refine dfn T.f12 sc__law_bent rfl (fun cdv A outer s0 H E En hr => ⟨_, (dss_cons (ds_set 2 sc__law_bent.nd de_str)
      (dss_cons (ds_for rfl (di_range1 (by rfl) T.z_range (da_cons (de_op op_addA o_add de_int (de_call G__law_next len__law_next (hr.mono (by decide)) (by rfl) T.g7 T.f7.kp T.b7 (da_cons (dv 0) (da_cons de_int da_nil)))) da_nil)) (dg_name 3 sc__law_bent.nd)
        (dss_cons (ds_par 5 6 sc__law_bent.nd (da_cons (de_call G__law_next len__law_next (hr.mono (by decide)) (by rfl) T.g7 T.f7.kp T.b7 (da_cons (dv 0) (da_cons de_int da_nil))) (da_cons (de_call G__law_next len__law_next (hr.mono (by decide)) (by rfl) T.g7 T.f7.kp T.b7 (da_cons (dv 0) (da_cons (de_op op_addA o_add (de_callB (DL.CallR.or call_len call_lenD) o_len (by rfl) T.z_len (by decide +kernel) (da_cons (dv 1) da_nil)) de_int) da_nil))) da_nil)))
        (dss_cons (ds_set 4 sc__law_bent.nd (de_ix ix_seq o_ix (dv 2) (de_call G__law_next len__law_next (hr.mono (by decide)) (by rfl) T.g7 T.f7.kp T.b7 (da_cons (dv 0) (da_cons (de_callB (DL.CallR.or call_len call_lenD) o_len (by rfl) T.z_len (by decide +kernel) (da_cons (dv 2) da_nil)) da_nil)))))
        (dss_one (ds_set 1 sc__law_bent.nd (de_ix ix_seq o_ix (de_lst (da_cons (de_op op_addA o_add (de_op op_addA o_add (de_slice sl_all o_sl (dv 1) do_none (do_some (dv 6))) (dv 4)) (de_slice sl_all o_sl (dv 1) (do_some (dv 6)) do_none)) (da_cons (de_op op_addA o_add (de_op op_addA o_add (de_slice sl_all o_sl (dv 1) do_none (do_some (dv 6))) (dv 4)) (de_slice sl_all o_sl (dv 1) (do_some (de_op op_addA o_add (dv 6) de_int)) do_none)) (da_cons (de_op op_addA o_add (de_slice sl_all o_sl (dv 1) do_none (do_some (dv 6))) (de_slice sl_all o_sl (dv 1) (do_some (de_op op_addA o_add (dv 6) de_int)) do_none)) da_nil)))) (dv 5)))))))
      (dss_one (ds_ret (dv 1))))), fun ds s Qd h => ?_⟩)
  exact read__law_bent ds s Qd h
abbrev names_law : List Str := ["_law_script", "_law_deck_here", "_law_tried", "_law_turn", "_law_value", "_law_text_here"]
theorem sc_law : FnScope names_law ["_law_script"] (defScope s_law) := ⟨rfl, rfl, rfl, by decide +kernel, rfl, by decide +kernel, by decide +kernel⟩
theorem len_law : ∀ ds s Qd, (spLaw : DSp Mem.deck) ds s Qd → ds.length = 1 := spLaw_len
theorem ok_law (T : Tx K mg a d) : FnOk P w K mg base CX0 6 (a 13) (d 13) ["_law_script"] (lift K Mem.deck 1 spLaw) := by
  have G_is_path := ok_is_path (P := P) (w := w) (base := base) (m := Mem.deck) T
  have G__law_deck := ok__law_deck (P := P) (w := w) (base := base) T
  have G__law_says := ok__law_says (P := P) (w := w) (base := base) (m := Mem.deck) T
  have G__law_is_path := ok__law_is_path (P := P) (w := w) (base := base) (m := Mem.deck) T
  have G__law_odd := ok__law_odd (P := P) (w := w) (base := base) T
  have G__law_text := ok__law_text (P := P) (w := w) (base := base) T
  have G__law_bent := ok__law_bent (P := P) (w := w) (base := base) T
  refine dfn T.f13 sc_law rfl (fun cdv A outer s0 H E En hr => ⟨_, (dss_cons (ds_set 1 sc_law.nd (de_call G__law_deck len__law_deck (hr.mono (by decide)) (by rfl) T.g6 T.f6.kp T.b6 (da_cons (dv 0) da_nil)))
      (dss_cons (ds_set 2 sc_law.nd (de_lst (da_cons de_str (da_cons de_str (da_cons (de_op op_addA o_add (de_op op_mulA o_mul de_str de_int) de_str) (da_cons (de_op op_addA o_add (de_op op_mulA o_mul de_str de_int) de_str) (da_cons de_str (da_cons (de_op op_mulA o_mul de_str de_int) (da_cons (de_op op_addA o_add (de_op op_mulA o_mul de_str de_int) de_str) da_nil)))))))))
      (dss_cons (ds_for rfl (di_range1 (by rfl) T.z_range (da_cons de_int da_nil)) (dg_name 3 sc_law.nd)
        (dss_cons (ds_set 5 sc_law.nd (de_call G__law_text len__law_text (hr.mono (by decide)) (by rfl) T.g11 T.f11.kp T.b11 (da_cons (dv 1) da_nil)))
        (dss_one (ds_set 2 sc_law.nd (de_op op_addA o_add (dv 2) (de_lst (da_cons (dv 5) (da_cons (de_op op_addA o_add (dv 5) de_str) (da_cons (de_call G__law_bent len__law_bent (hr.mono (by decide)) (by rfl) T.g12 T.f12.kp T.b12 (da_cons (dv 1) (da_cons (dv 5) da_nil))) (da_cons (de_call G__law_odd len__law_odd (hr.mono (by decide)) (by rfl) T.g10 T.f10.kp T.b10 (da_cons (dv 1) (da_cons (dv 5) da_nil))) da_nil))))))))))
      (dss_cons (ds_for rfl (di_seq (de_op op_addA o_add (dv 2) (de_slice sl_all o_sl (dv 2) do_none (do_some de_int)))) (dg_name 4 sc_law.nd)
        (dss_one (ds_if (dt_not (dt_truth (de_call G__law_says len__law_says (hr.mono (by decide)) (by rfl) T.g8 T.f8.kp T.b8 (da_cons (de_call G_is_path len_is_path (hr.mono (by decide)) (by rfl) T.g4 T.f4.kp T.b4 (da_cons (dv 4) da_nil)) (da_cons (de_call G__law_is_path len__law_is_path (hr.mono (by decide)) (by rfl) T.g9 T.f9.kp T.b9 (da_cons (dv 4) da_nil)) da_nil)))))
          (dss_one (ds_ret de_bl))
          dss_nil)))
      (dss_one (ds_ret de_bl)))))), fun ds s Qd h => ?_⟩)
  exact read_law_k01 ds s Qd h
end
theorem all_mk {l : PySem.W.OpenLaw} {w : World} {K : PySem.W.Frag} {h : Heap} {mg : Str → Option Value} {fa : Addr} (X : K.In h) (G : h.Ns mainGlobals mg) (hfa : mg "law" = some (.ref fa))
    {f6 : Addr} {od6 an6 : Option Addr} {sl6 : Array (Option Value)} {oc6 kV6 dc6 pm6 cd6 ct6 : Value}
    (a6 : PySem.W.nsIn K mainGlobals "_law_deck" = some (some (.ref f6))) (l6 : K.lookup f6 = some ⟨oc6, od6, .func (PySem.W.fnOf "_law_deck" "_law_deck" (defArgs s__law_deck) (defBody s__law_deck) (defScope s__law_deck) .none kV6 dc6 pm6 an6 cd6 ct6), sl6⟩) (c6 : PySem.W.codeIn K cd6 "_law_deck" = true) (k6 : PySem.W.keepIn K (.ref f6) = true)
    {f7 : Addr} {od7 an7 : Option Addr} {sl7 : Array (Option Value)} {oc7 kV7 dc7 pm7 cd7 ct7 : Value}
    (a7 : PySem.W.nsIn K mainGlobals "_law_next" = some (some (.ref f7))) (l7 : K.lookup f7 = some ⟨oc7, od7, .func (PySem.W.fnOf "_law_next" "_law_next" (defArgs s__law_next) (defBody s__law_next) (defScope s__law_next) .none kV7 dc7 pm7 an7 cd7 ct7), sl7⟩) (c7 : PySem.W.codeIn K cd7 "_law_next" = true) (k7 : PySem.W.keepIn K (.ref f7) = true)
    {f3 : Addr} {od3 an3 : Option Addr} {sl3 : Array (Option Value)} {oc3 kV3 dc3 pm3 cd3 ct3 : Value}
    (a3 : PySem.W.nsIn K mainGlobals "_is_name" = some (some (.ref f3))) (l3 : K.lookup f3 = some ⟨oc3, od3, .func (PySem.W.fnOf "_is_name" "_is_name" (defArgs s__is_name) (defBody s__is_name) (defScope s__is_name) .none kV3 dc3 pm3 an3 cd3 ct3), sl3⟩) (c3 : PySem.W.codeIn K cd3 "_is_name" = true) (k3 : PySem.W.keepIn K (.ref f3) = true)
    {f4 : Addr} {od4 an4 : Option Addr} {sl4 : Array (Option Value)} {oc4 kV4 dc4 pm4 cd4 ct4 : Value}
    (a4 : PySem.W.nsIn K mainGlobals "is_path" = some (some (.ref f4))) (l4 : K.lookup f4 = some ⟨oc4, od4, .func (PySem.W.fnOf "is_path" "is_path" (defArgs s_is_path) (defBody s_is_path) (defScope s_is_path) .none kV4 dc4 pm4 an4 cd4 ct4), sl4⟩) (c4 : PySem.W.codeIn K cd4 "is_path" = true) (k4 : PySem.W.keepIn K (.ref f4) = true)
    {f8 : Addr} {od8 an8 : Option Addr} {sl8 : Array (Option Value)} {oc8 kV8 dc8 pm8 cd8 ct8 : Value}
    (a8 : PySem.W.nsIn K mainGlobals "_law_says" = some (some (.ref f8))) (l8 : K.lookup f8 = some ⟨oc8, od8, .func (PySem.W.fnOf "_law_says" "_law_says" (defArgs s__law_says) (defBody s__law_says) (defScope s__law_says) .none kV8 dc8 pm8 an8 cd8 ct8), sl8⟩) (c8 : PySem.W.codeIn K cd8 "_law_says" = true) (k8 : PySem.W.keepIn K (.ref f8) = true)
    {f9 : Addr} {od9 an9 : Option Addr} {sl9 : Array (Option Value)} {oc9 kV9 dc9 pm9 cd9 ct9 : Value}
    (a9 : PySem.W.nsIn K mainGlobals "_law_is_path" = some (some (.ref f9))) (l9 : K.lookup f9 = some ⟨oc9, od9, .func (PySem.W.fnOf "_law_is_path" "_law_is_path" (defArgs s__law_is_path) (defBody s__law_is_path) (defScope s__law_is_path) .none kV9 dc9 pm9 an9 cd9 ct9), sl9⟩) (c9 : PySem.W.codeIn K cd9 "_law_is_path" = true) (k9 : PySem.W.keepIn K (.ref f9) = true)
    {f10 : Addr} {od10 an10 : Option Addr} {sl10 : Array (Option Value)} {oc10 kV10 dc10 pm10 cd10 ct10 : Value}
    (a10 : PySem.W.nsIn K mainGlobals "_law_odd" = some (some (.ref f10))) (l10 : K.lookup f10 = some ⟨oc10, od10, .func (PySem.W.fnOf "_law_odd" "_law_odd" (defArgs s__law_odd) (defBody s__law_odd) (defScope s__law_odd) .none kV10 dc10 pm10 an10 cd10 ct10), sl10⟩) (c10 : PySem.W.codeIn K cd10 "_law_odd" = true) (k10 : PySem.W.keepIn K (.ref f10) = true)
    {f11 : Addr} {od11 an11 : Option Addr} {sl11 : Array (Option Value)} {oc11 kV11 dc11 pm11 cd11 ct11 : Value}
    (a11 : PySem.W.nsIn K mainGlobals "_law_text" = some (some (.ref f11))) (l11 : K.lookup f11 = some ⟨oc11, od11, .func (PySem.W.fnOf "_law_text" "_law_text" (defArgs s__law_text) (defBody s__law_text) (defScope s__law_text) .none kV11 dc11 pm11 an11 cd11 ct11), sl11⟩) (c11 : PySem.W.codeIn K cd11 "_law_text" = true) (k11 : PySem.W.keepIn K (.ref f11) = true)
    {f12 : Addr} {od12 an12 : Option Addr} {sl12 : Array (Option Value)} {oc12 kV12 dc12 pm12 cd12 ct12 : Value}
    (a12 : PySem.W.nsIn K mainGlobals "_law_bent" = some (some (.ref f12))) (l12 : K.lookup f12 = some ⟨oc12, od12, .func (PySem.W.fnOf "_law_bent" "_law_bent" (defArgs s__law_bent) (defBody s__law_bent) (defScope s__law_bent) .none kV12 dc12 pm12 an12 cd12 ct12), sl12⟩) (c12 : PySem.W.codeIn K cd12 "_law_bent" = true) (k12 : PySem.W.keepIn K (.ref f12) = true)
    {f13 : Addr} {od13 an13 : Option Addr} {sl13 : Array (Option Value)} {oc13 kV13 dc13 pm13 cd13 ct13 : Value}
    (a13 : PySem.W.nsIn K mainGlobals "law" = some (some (.ref f13))) (l13 : K.lookup f13 = some ⟨oc13, od13, .func (PySem.W.fnOf "law" "law" (defArgs s_law) (defBody s_law) (defScope s_law) .none kV13 dc13 pm13 an13 cd13 ct13), sl13⟩) (c13 : PySem.W.codeIn K cd13 "law" = true) (k13 : PySem.W.keepIn K (.ref f13) = true)
    (z_abs : PySem.W.nsIn K mainGlobals "abs" = some none)
    (z_all : PySem.W.nsIn K mainGlobals "all" = some none)
    (z_bool : PySem.W.nsIn K mainGlobals "bool" = some none)
    (z_int : PySem.W.nsIn K mainGlobals "int" = some none)
    (z_isinstance : PySem.W.nsIn K mainGlobals "isinstance" = some none)
    (z_len : PySem.W.nsIn K mainGlobals "len" = some none)
    (z_range : PySem.W.nsIn K mainGlobals "range" = some none)
    (z_str : PySem.W.nsIn K mainGlobals "str" = some none)
    {t_MAX_NAMES : Tok} (c_MAX_NAMES : PySem.W.nsIn K mainGlobals "MAX_NAMES" = some (some (.int 6 t_MAX_NAMES)))
    {t__MAX_LETTERS : Tok} (c__MAX_LETTERS : PySem.W.nsIn K mainGlobals "_MAX_LETTERS" = some (some (.int 8 t__MAX_LETTERS)))
    : ∃ fd : FuncData, (∀ (s : Shared) (v : Value), BindsTo s fd ⟨[v], []⟩ [("_law_script", v)]) ∧ ∀ base : Heap, K.In base → base.Ns mainGlobals mg → FnOk l.prog w K mg base CX0 6 fa fd ["_law_script"] (lift K Mem.deck 1 spLaw) := by
  have e := hfa.symm.trans (PySem.W.mg_of X G a13)
  cases e
  have F6 := fun_mk (st := s__law_deck) l6 c6 k6
  have b6 := F6.binds (ps := ["_law_script"]) fun _ _ _ _ _ _ us hl => match us, hl with | [_], _ => rfl
  have F7 := fun_mk (st := s__law_next) l7 c7 k7
  have b7 := F7.binds (ps := ["_law_deck_here", "_law_many"]) fun _ _ _ _ _ _ us hl => match us, hl with | [_, _], _ => rfl
  have F3 := fun_mk (st := s__is_name) l3 c3 k3
  have b3 := F3.binds (ps := ["text"]) fun _ _ _ _ _ _ us hl => match us, hl with | [_], _ => rfl
  have F4 := fun_mk (st := s_is_path) l4 c4 k4
  have b4 := F4.binds (ps := ["value"]) fun _ _ _ _ _ _ us hl => match us, hl with | [_], _ => rfl
  have F8 := fun_mk (st := s__law_says) l8 c8 k8
  have b8 := F8.binds (ps := ["_law_found", "_law_due"]) fun _ _ _ _ _ _ us hl => match us, hl with | [_, _], _ => rfl
  have F9 := fun_mk (st := s__law_is_path) l9 c9 k9
  have b9 := F9.binds (ps := ["_law_value"]) fun _ _ _ _ _ _ us hl => match us, hl with | [_], _ => rfl
  have F10 := fun_mk (st := s__law_odd) l10 c10 k10
  have b10 := F10.binds (ps := ["_law_deck_here", "_law_path"]) fun _ _ _ _ _ _ us hl => match us, hl with | [_, _], _ => rfl
  have F11 := fun_mk (st := s__law_text) l11 c11 k11
  have b11 := F11.binds (ps := ["_law_deck_here"]) fun _ _ _ _ _ _ us hl => match us, hl with | [_], _ => rfl
  have F12 := fun_mk (st := s__law_bent) l12 c12 k12
  have b12 := F12.binds (ps := ["_law_deck_here", "_law_text_here"]) fun _ _ _ _ _ _ us hl => match us, hl with | [_, _], _ => rfl
  have F13 := fun_mk (st := s_law) l13 c13 k13
  have b13 := F13.binds (ps := ["_law_script"]) fun _ _ _ _ _ _ us hl => match us, hl with | [_], _ => rfl
  have T : Tx K mg (fun i => if i = 6 then f6 else if i = 7 then f7 else if i = 3 then f3 else if i = 4 then f4 else if i = 8 then f8 else if i = 9 then f9 else if i = 10 then f10 else if i = 11 then f11 else if i = 12 then f12 else if i = 13 then fa else 0) (fun i => if i = 6 then PySem.W.fnOf "_law_deck" "_law_deck" (defArgs s__law_deck) (defBody s__law_deck) (defScope s__law_deck) .none kV6 dc6 pm6 an6 cd6 ct6 else if i = 7 then PySem.W.fnOf "_law_next" "_law_next" (defArgs s__law_next) (defBody s__law_next) (defScope s__law_next) .none kV7 dc7 pm7 an7 cd7 ct7 else if i = 3 then PySem.W.fnOf "_is_name" "_is_name" (defArgs s__is_name) (defBody s__is_name) (defScope s__is_name) .none kV3 dc3 pm3 an3 cd3 ct3 else if i = 4 then PySem.W.fnOf "is_path" "is_path" (defArgs s_is_path) (defBody s_is_path) (defScope s_is_path) .none kV4 dc4 pm4 an4 cd4 ct4 else if i = 8 then PySem.W.fnOf "_law_says" "_law_says" (defArgs s__law_says) (defBody s__law_says) (defScope s__law_says) .none kV8 dc8 pm8 an8 cd8 ct8 else if i = 9 then PySem.W.fnOf "_law_is_path" "_law_is_path" (defArgs s__law_is_path) (defBody s__law_is_path) (defScope s__law_is_path) .none kV9 dc9 pm9 an9 cd9 ct9 else if i = 10 then PySem.W.fnOf "_law_odd" "_law_odd" (defArgs s__law_odd) (defBody s__law_odd) (defScope s__law_odd) .none kV10 dc10 pm10 an10 cd10 ct10 else if i = 11 then PySem.W.fnOf "_law_text" "_law_text" (defArgs s__law_text) (defBody s__law_text) (defScope s__law_text) .none kV11 dc11 pm11 an11 cd11 ct11 else if i = 12 then PySem.W.fnOf "_law_bent" "_law_bent" (defArgs s__law_bent) (defBody s__law_bent) (defScope s__law_bent) .none kV12 dc12 pm12 an12 cd12 ct12 else if i = 13 then PySem.W.fnOf "law" "law" (defArgs s_law) (defBody s_law) (defScope s_law) .none kV13 dc13 pm13 an13 cd13 ct13 else PySem.W.fnOf "" "" (defArgs (topS 0)) [] (defScope (topS 0)) .none .none .none .none none .none .none) := ⟨F6, PySem.W.mg_of X G a6, b6, F7, PySem.W.mg_of X G a7, b7, F3, PySem.W.mg_of X G a3, b3, F4, PySem.W.mg_of X G a4, b4, F8, PySem.W.mg_of X G a8, b8, F9, PySem.W.mg_of X G a9, b9, F10, PySem.W.mg_of X G a10, b10, F11, PySem.W.mg_of X G a11, b11, F12, PySem.W.mg_of X G a12, b12, F13, PySem.W.mg_of X G a13, b13, PySem.W.mg_none_of X G z_abs, PySem.W.mg_none_of X G z_all, PySem.W.mg_none_of X G z_bool, PySem.W.mg_none_of X G z_int, PySem.W.mg_none_of X G z_isinstance, PySem.W.mg_none_of X G z_len, PySem.W.mg_none_of X G z_range, PySem.W.mg_none_of X G z_str, ⟨t_MAX_NAMES, PySem.W.mg_of X G c_MAX_NAMES⟩, ⟨t__MAX_LETTERS, PySem.W.mg_of X G c__MAX_LETTERS⟩⟩
  exact ⟨PySem.W.fnOf "law" "law" (defArgs s_law) (defBody s_law) (defScope s_law) .none kV13 dc13 pm13 an13 cd13 ct13, fun s v => .of_eq rfl, fun base _ _ => ok_law (P := l.prog) (w := w) (base := base) T⟩
end K01
open PySem PySem.W PyProof.Rows
set_option maxRecDepth 100000 in
set_option maxHeartbeats 0 in
theorem PySem.Challenge.cw_mayrest_k01_path_forms_holds : PySem.Challenge.rw_mayrest_k01_path_forms.Holds := by
  w_on; o_law; k_head; (case hw => w_witness2)
  k_fill
  refine L2.walk_ofK (l := PySem.Challenge.rw_mayrest_k01_path_forms) (n := 63) (k := 6) (x := "_law_script") (CX := L2.CX0) (sp := fun K => DL.lift K DL.Mem.deck 1 DL.spLaw) rfl (by decide) rfl ⟨rfl, by decide, by decide⟩ (fun w h Y => PySem.W.kIn_of Y) ?F (fun K H a ns hl hO hS => DL.law_start hl hO hS) (fun _ _ _ _ h => h)
  case F =>
    intro w mg fa h KX G hmg
    refine' K01.all_mk KX G hmg ?a6 ?l6 ?c6 ?k6 ?a7 ?l7 ?c7 ?k7 ?a3 ?l3 ?c3 ?k3 ?a4 ?l4 ?c4 ?k4 ?a8 ?l8 ?c8 ?k8 ?a9 ?l9 ?c9 ?k9 ?a10 ?l10 ?c10 ?k10 ?a11 ?l11 ?c11 ?k11 ?a12 ?l12 ?c12 ?k12 ?a13 ?l13 ?c13 ?k13 ?z_abs ?z_all ?z_bool ?z_int ?z_isinstance ?z_len ?z_range ?z_str ?c_MAX_NAMES ?c__MAX_LETTERS
    (case a6 => k_is); (case l6 => k_is); (case c6 => k_is); (case k6 => k_is); (case a7 => k_is); (case l7 => k_is); (case c7 => k_is); (case k7 => k_is); (case a3 => k_is); (case l3 => k_is); (case c3 => k_is); (case k3 => k_is); (case a4 => k_is); (case l4 => k_is); (case c4 => k_is); (case k4 => k_is); (case a8 => k_is); (case l8 => k_is); (case c8 => k_is); (case k8 => k_is); (case a9 => k_is); (case l9 => k_is); (case c9 => k_is); (case k9 => k_is); (case a10 => k_is); (case l10 => k_is); (case c10 => k_is); (case k10 => k_is); (case a11 => k_is); (case l11 => k_is); (case c11 => k_is); (case k11 => k_is); (case a12 => k_is); (case l12 => k_is); (case c12 => k_is); (case k12 => k_is); (case a13 => k_is); (case l13 => k_is); (case c13 => k_is); (case k13 => k_is); (case z_abs => k_is); (case z_all => k_is); (case z_bool => k_is); (case z_int => k_is); (case z_isinstance => k_is); (case z_len => k_is); (case z_range => k_is); (case z_str => k_is); (case c_MAX_NAMES => k_is); (case c__MAX_LETTERS => k_is)


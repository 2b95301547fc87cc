import PyProof.Rows.All
import Wide.All
import OpenK.AllK
import Wide.FinOn
import HandS.Base
import HandS.Call
import HandS.List
import HandS.Comp
import HandS.Words
import HandS.ExcInit
import HandS.Ends
import HandS.Flow
import HandS.Iter
import HandS.WordsList
import HandS.Text
import HandS.TupAny
import HandS.TupLe
import HandS.Wide
import HandS.IsInst
import HandS.Deep
import HandS.Style
import HandS.StrMore
import HandS.WordsDict
import PyProof.StrBlock2
import PyProof.Rows.RegStrFacts
import HandS.Dict
import PyProof.StrLawsIn
import PyProof.StrLawsLast
import HandS.ExcIs
import HandS.ExcValue
import KE.KExcInit
import KE.KExcIs
import HandS.Zip
import PyProof.StrLawsRepr
import HandS.Small
import PyProof.Rows.StrCut
import HandS.More
import KE.GoesMore
import PyProof.Draws
import PyProof.EnumMake
import PyProof.NeKinds
import HandS.SortOrd
import HandS.Strs
import HandS.Property
import HandS.OwnEq
import HandS.FStr
import HandS.Star
import KE.KCallOwn
import HandS.TupSets
import HandS.SetTxt0
import HandS.SortInts
import HandS.SetFor
import PyProof.ReprLen
import HandS.NoneIn
import PyProof.SetRoads
import HandS.Defaults
import HandS.MakeKwOnly
import PyProof.DictUpdate
import PyProof.DictDisplay
import KE.DataMinMax
import KE.SortData
import HandS.SetBool
import KE.DataMinKey
import HandS.SortKw
import PyProof.ListStr
import HandS.ClsMeth
import HandS.DictComp
import HandS.DictTup
import PyProof.TupleCall
import PyProof.CollectWalk
import HandS.Lambda
import HandS.EndTab
import PySem.Challenge.RW_mayrest_k12_first_chains
set_option Elab.async false
set_option linter.all false
set_option maxRecDepth 100000
/-! DL: a layer of data over HandS: values as trees, one state of what may change, and readings that speak of data alone. -/
namespace DL
open PySem PySem.Spec PyProof.Rows L2

/-- data: what a value is, all the way down -/
inductive D where
  | non | bl (b : Bool) | int (i : Int) | str (x : Str) | lst (xs : List D) | tup (xs : List D)
  | dic (ks : List Key) (vs : List D) | ins (C : Addr) (ns : List Str) (vs : List D) | any (v : V) | fz (xs : List D) | exc (C : Addr) (ns : List Str) (vs : List D)

/-- the texts that are spoken of -/
abbrev strLim : Nat := 1000000
def sOk (x : Str) : Bool := decide (x.length ≤ strLim) && x.cps.toList.all (fun c => decide (c < 0x110000))
theorem sOk_len {x : Str} (h : sOk x = true) : x.length ≤ strLim := by
  unfold sOk at h
  rw [Bool.and_eq_true] at h
  exact of_decide_eq_true h.1
theorem sOk_cps {x : Str} (h : sOk x = true) : ∀ c ∈ x.cps.toList, c < 0x110000 := fun c hc => by
  unfold sOk at h
  rw [Bool.and_eq_true] at h
  exact of_decide_eq_true (List.all_eq_true.mp h.2 c hc)
theorem sOk_of {x : Str} (h : x.length ≤ strLim) (k : ∀ c ∈ x.cps.toList, c < 0x110000) : sOk x = true := by
  unfold sOk
  rw [Bool.and_eq_true]
  exact ⟨decide_eq_true h, List.all_eq_true.mpr fun c hc => decide_eq_true (k c hc)⟩
theorem strLim_line : strLim + 2 ≤ sizeLine := by decide
mutual
/-- the value v is the data d, by what stands in F (which never changes) -/
def Rep (K : PySem.W.Frag) (F : Hp) : D → V → Prop
  | .non, v => v = .non
  | .bl b, v => v = .bl b
  | .int i, v => v = .int i
  | .str x, v => v = .str x ∧ sOk x = true
  | .lst ds, v => ∃ a vs, v = .ref a ∧ F a = some (.lst vs) ∧ vs.length ≤ sizeLine ∧ Reps K F ds vs
  | .tup ds, v => ∃ a vs, v = .ref a ∧ SqT K F a vs ∧ vs.length ≤ sizeLine ∧ Reps K F ds vs
  | .dic ks ds, v => ∃ a kvs, v = .ref a ∧ F a = some (.dK kvs) ∧ kvs.length ≤ sizeLine ∧ kvs.map (·.1) = ks ∧ Reps K F ds (kvs.map (·.2))
  | .ins C ns ds, v => ∃ a dx fs, v = .ref a ∧ F a = some (.ins C dx fs) ∧ fs.map (·.1) = ns ∧ Reps K F ds (fs.map (·.2))
  | .any w, v => v = w
  | .fz ds, v => ∃ a vs, v = .ref a ∧ SqL K F a vs ∧ vs.length ≤ sizeLine ∧ Reps K F ds vs
  | .exc C ns ds, v => ∃ a d fs, v = .ref a ∧ F a = some (exo a C d) ∧ (∀ x, d = some x → F x = some (exd x fs)) ∧ (d = none → fs = []) ∧ fs.map (·.1) = ns ∧ Reps K F ds (fs.map (·.2))
def Reps (K : PySem.W.Frag) (F : Hp) : List D → List V → Prop
  | [], vs => vs = []
  | d :: ds, vs => ∃ v r, vs = v :: r ∧ Rep K F d v ∧ Reps K F ds r
end

theorem Same.seqT {K : PySem.W.Frag} {H H' : Hp} {a : Addr} {xs : List V} (e : Same H H') (h : SqT K H a xs) : SqT K H' a xs := by
  rcases h with (h | ⟨o, h⟩) | h
  · exact .inl (.inl (e _ _ h))
  · exact .inl (.inr ⟨o, e _ _ h⟩)
  · exact .inr h
mutual
theorem Rep.mono {K : PySem.W.Frag} {F F' : Hp} (s : Same F F') : ∀ (d : D) (v : V), Rep K F d v → Rep K F' d v
  | .non, _, h => h
  | .bl _, _, h => h
  | .int _, _, h => h
  | .str _, _, h => h
  | .lst ds, _, ⟨a, vs, e, h, l, r⟩ => ⟨a, vs, e, s _ _ h, l, Reps.mono s ds _ r⟩
  | .tup ds, _, ⟨a, vs, e, h, l, r⟩ => ⟨a, vs, e, Same.seqT s h, l, Reps.mono s ds _ r⟩
  | .dic _ ds, _, ⟨a, kvs, e, h, l, k, r⟩ => ⟨a, kvs, e, s _ _ h, l, k, Reps.mono s ds _ r⟩
  | .ins _ _ ds, _, ⟨a, dx, fs, e, h, k, r⟩ => ⟨a, dx, fs, e, s _ _ h, k, Reps.mono s ds _ r⟩
  | .any _, _, h => h
  | .fz ds, _, ⟨a, vs, e, h, l, r⟩ => ⟨a, vs, e, Same.seq s h, l, Reps.mono s ds _ r⟩
  | .exc _ _ ds, _, ⟨a, d, fs, e, h, h2, h3, k, r⟩ => ⟨a, d, fs, e, s _ _ h, fun x ex => s _ _ (h2 x ex), h3, k, Reps.mono s ds _ r⟩
theorem Reps.mono {K : PySem.W.Frag} {F F' : Hp} (s : Same F F') : ∀ (ds : List D) (vs : List V), Reps K F ds vs → Reps K F' ds vs
  | [], _, h => h
  | d :: ds, _, ⟨v, r, e, h, t⟩ => ⟨v, r, e, Rep.mono s d v h, Reps.mono s ds r t⟩
end
theorem Reps.length {K : PySem.W.Frag} {F : Hp} : ∀ {ds : List D} {vs : List V}, Reps K F ds vs → vs.length = ds.length
  | [], _, h => by cases h; rfl
  | d :: ds, _, ⟨v, r, e, _, t⟩ => by subst e; rw [List.length_cons, List.length_cons, Reps.length t]
theorem Reps.nil {K : PySem.W.Frag} {F : Hp} : Reps K F [] [] := rfl
theorem Reps.cons {K : PySem.W.Frag} {F : Hp} {d : D} {ds : List D} {v : V} {vs : List V} (h : Rep K F d v) (t : Reps K F ds vs) : Reps K F (d :: ds) (v :: vs) := ⟨v, vs, rfl, h, t⟩
theorem Reps.get {K : PySem.W.Frag} {F : Hp} : ∀ {ds : List D} {vs : List V} {i : Nat} {d : D}, Reps K F ds vs → ds[i]? = some d → ∃ v, vs[i]? = some v ∧ Rep K F d v
  | [], _, _, _, _, e => by simp at e
  | x :: ds, _, 0, d, ⟨v, r, e, h, _⟩, q => by
    subst e
    have q' : x = d := by simpa using q
    subst q'
    exact ⟨v, rfl, h⟩
  | x :: ds, _, i + 1, d, ⟨v, r, e, _, t⟩, q => by
    subst e
    have q' : ds[i]? = some d := by simpa using q
    obtain ⟨w, h1, h2⟩ := Reps.get t q'
    exact ⟨w, by simpa using h1, h2⟩
theorem Reps.append {K : PySem.W.Frag} {F : Hp} : ∀ {ds es : List D} {vs ws : List V}, Reps K F ds vs → Reps K F es ws → Reps K F (ds ++ es) (vs ++ ws)
  | [], _, _, _, h, t => by cases h; exact t
  | d :: ds, _, _, _, ⟨v, r, e, h, t⟩, u => by subst e; exact ⟨v, _, rfl, h, Reps.append t u⟩
theorem Reps.one {K : PySem.W.Frag} {F : Hp} {d : D} {v : V} (h : Rep K F d v) : Reps K F [d] [v] := .cons h .nil
theorem Reps.take {K : PySem.W.Frag} {F : Hp} : ∀ {ds : List D} {vs : List V} (n : Nat), Reps K F ds vs → Reps K F (ds.take n) (vs.take n)
  | _, _, 0, _ => by simp; exact .nil
  | [], _, _ + 1, h => by cases h; simp; exact .nil
  | d :: ds, _, n + 1, ⟨v, r, e, h, t⟩ => by subst e; exact .cons h (Reps.take n t)
theorem Reps.drop {K : PySem.W.Frag} {F : Hp} : ∀ {ds : List D} {vs : List V} (n : Nat), Reps K F ds vs → Reps K F (ds.drop n) (vs.drop n)
  | _, _, 0, h => h
  | [], _, _ + 1, h => by cases h; simp; exact .nil
  | d :: ds, _, n + 1, ⟨v, r, e, h, t⟩ => by subst e; exact Reps.drop n t
theorem Reps.set {K : PySem.W.Frag} {F : Hp} {d : D} {v : V} (h : Rep K F d v) : ∀ {ds : List D} {vs : List V} (i : Nat), Reps K F ds vs → Reps K F (ds.set i d) (vs.set i v)
  | [], _, _, t => by cases t; exact .nil
  | _ :: _, _, 0, ⟨w, r, e, _, t⟩ => by subst e; exact .cons h t
  | _ :: _, _, i + 1, ⟨w, r, e, h', t⟩ => by subst e; exact .cons h' (Reps.set h i t)
theorem Reps.reverse {K : PySem.W.Frag} {F : Hp} : ∀ {ds : List D} {vs : List V}, Reps K F ds vs → Reps K F ds.reverse vs.reverse
  | [], _, h => by cases h; exact .nil
  | d :: ds, _, ⟨v, r, e, h, t⟩ => by
    subst e
    rw [List.reverse_cons, List.reverse_cons]
    exact (Reps.reverse t).append (.one h)
theorem Reps.split {K : PySem.W.Frag} {F : Hp} {x : D} : ∀ {pre post : List D} {vs : List V}, Reps K F (pre ++ x :: post) vs → ∃ v, vs[pre.length]? = some v ∧ Rep K F x v := fun h => h.get (by simp)
theorem reps_ints {K : PySem.W.Frag} {F : Hp} : ∀ {ns : List Int} {vs : List V}, Reps K F (ns.map D.int) vs → vs = ns.map V.int
  | [], _, h => by cases h; rfl
  | n :: ns, _, ⟨v, r, e, h, t⟩ => by subst e; cases h; rw [reps_ints t]; rfl
theorem reps_of_ints {K : PySem.W.Frag} {F : Hp} : ∀ (ns : List Int), Reps K F (ns.map D.int) (ns.map V.int)
  | [] => .nil
  | n :: ns => .cons rfl (reps_of_ints ns)
theorem reps_strs {K : PySem.W.Frag} {F : Hp} : ∀ {ns : List Str} {vs : List V}, Reps K F (ns.map D.str) vs → vs = ns.map V.str ∧ ∀ x ∈ ns, sOk x = true
  | [], _, h => by cases h; exact ⟨rfl, by simp⟩
  | n :: ns, _, ⟨v, r, e, h, t⟩ => by
    subst e
    obtain ⟨h1, h2⟩ := h
    obtain ⟨h3, h4⟩ := reps_strs t
    subst h1 h3
    exact ⟨rfl, fun x hx => by rcases List.mem_cons.mp hx with e | hx; · subst e; exact h2
                               · exact h4 x hx⟩
theorem reps_of_strs {K : PySem.W.Frag} {F : Hp} : ∀ (ns : List Str), (∀ x ∈ ns, sOk x = true) → Reps K F (ns.map D.str) (ns.map V.str)
  | [], _ => .nil
  | n :: ns, h => .cons ⟨rfl, h n List.mem_cons_self⟩ (reps_of_strs ns fun x hx => h x (List.mem_cons_of_mem _ hx))
theorem reps_bls {K : PySem.W.Frag} {F : Hp} : ∀ {ns : List Bool} {vs : List V}, Reps K F (ns.map D.bl) vs → vs = ns.map V.bl
  | [], _, h => by cases h; rfl
  | n :: ns, _, ⟨v, r, e, h, t⟩ => by subst e; cases h; rw [reps_bls t]; rfl

/-! ### what may change -/
/-- what a law's defs change: its state, how the heap bears it, where it lies -/
structure Mem where
  S : Type
  M : S → Hp → Prop
  R : S → Addr → Prop
  loc : ∀ s H H', M s H → (∀ a, R s a → H' a = H a) → M s H'
  there : ∀ s H a, M s H → R s a → H a ≠ none
/-- nothing -/
def Mem.nil : Mem := ⟨Unit, fun _ _ => True, fun _ _ => False, fun _ _ _ _ _ => trivial, fun _ _ _ _ h => h.elim⟩

/-- an object that a def has made and alone knows: it may be changed -/
inductive Ob where
  | lst (ds : List D)
  | dic (ks : List Key) (ds : List D)
  | ins (x dx C : Addr) (ns : List Str) (ds : List D)
  | box (g : Addr → HO)
  | bag (g : List (Addr × List Str) → Addr → HO) (ks : List (List Str))
inductive Sl where
  | no
  | sh (d : D)
  | ow (o : Ob)
def ObAt (K : PySem.W.Frag) (F : Hp) : Ob → Addr → HO → Prop
  | .ins x dx C ns ds, p, o => p = x ∧ ∃ fs : List (Str × V), o = .ins C dx fs ∧ fs.map (·.1) = ns ∧ Reps K F ds (fs.map (·.2))
  | .box g, p, o => o = g p
  | .bag g ks, p, o => ∃ L : List (Addr × List Str), o = g L p ∧ (L.map (·.2)).Perm ks ∧ ∀ q ∈ L, SqT K F q.1 (q.2.map V.str)
  | .lst ds, _, o => ∃ vs, o = .lst vs ∧ vs.length ≤ sizeLine ∧ Reps K F ds vs
  | .dic ks ds, _, o => ∃ kvs : List (Key × V), o = .dK kvs ∧ kvs.length ≤ sizeLine ∧ kvs.map (·.1) = ks ∧ Reps K F ds (kvs.map (·.2))
theorem ObAt.mono {K : PySem.W.Frag} {F F' : Hp} (s : Same F F') {o : Ob} {p : Addr} {ho : HO} (h : ObAt K F o p ho) : ObAt K F' o p ho := by
  cases o with
  | lst ds => obtain ⟨vs, e, l, r⟩ := h; exact ⟨vs, e, l, Reps.mono s _ _ r⟩
  | dic ks ds => obtain ⟨kvs, e, l, k, r⟩ := h; exact ⟨kvs, e, l, k, Reps.mono s _ _ r⟩
  | ins x dx C ns ds => obtain ⟨e0, fs, e, k, r⟩ := h; exact ⟨e0, fs, e, k, Reps.mono s _ _ r⟩
  | box g => exact h
  | bag g ks => obtain ⟨L, e, p, a⟩ := h; exact ⟨L, e, p, fun q hq => Same.seqT s (a q hq)⟩
/-- .. as data that does not change any more -/
def Ob.d : Ob → Option D
  | .lst ds => some (.lst ds)
  | .dic ks ds => some (.dic ks ds)
  | .ins _ _ C ns ds => some (.ins C ns ds)
  | .box _ => none
  | .bag _ _ => none
theorem ObAt.rep {K : PySem.W.Frag} {F F' : Hp} {o : Ob} {ho : HO} {a : Addr} {d : D} (h : ObAt K F o a ho) (s : Same F F') (e : F' a = some ho) (hd : o.d = some d) : Rep K F' d (.ref a) := by
  cases o with
  | lst ds => cases hd; obtain ⟨vs, rfl, l, r⟩ := h; exact ⟨a, vs, rfl, e, l, Reps.mono s _ _ r⟩
  | dic ks ds => cases hd; obtain ⟨kvs, rfl, l, k, r⟩ := h; exact ⟨a, kvs, rfl, e, l, k, Reps.mono s _ _ r⟩
  | ins x dx C ns ds => cases hd; obtain ⟨e0, fs, rfl, k, r⟩ := h; exact ⟨a, dx, fs, rfl, e, k, Reps.mono s _ _ r⟩
  | box g => cases hd
  | bag g ks => cases hd

/-- the slot i owns the object at p -/
def Owns (σ : L2.St) (ρ : List Sl) (i : Nat) (p : Addr) : Prop := (∃ o, ρ[i]? = some (Sl.ow o)) ∧ σ[i]? = some (some (V.ref p))

structure Rel (K : PySem.W.Frag) (m : Mem) (F H : Hp) (σ : L2.St) (ρ : List Sl) (s : m.S) : Prop where
  sub : Same F H
  mem : m.M s H
  reg : ∀ a, m.R s a → F a = none
  len : σ.length = ρ.length
  sh : ∀ (i : Nat) d, ρ[i]? = some (Sl.sh d) → ∃ v, σ[i]? = some (some v) ∧ Rep K F d v
  ow : ∀ (i : Nat) o, ρ[i]? = some (Sl.ow o) → ∃ p ho, σ[i]? = some (some (V.ref p)) ∧ H p = some ho ∧ ObAt K F o p ho
  owF : ∀ (i : Nat) p, Owns σ ρ i p → F p = none ∧ ¬ m.R s p
  uq : ∀ (i j : Nat) p, Owns σ ρ i p → Owns σ ρ j p → i = j

/-- from one state to a later one, the slots' values σ the same -/
structure Stp (m : Mem) (F H : Hp) (σ : L2.St) (ρ : List Sl) (s : m.S) (F' H' : Hp) (ρ' : List Sl) (s' : m.S) : Prop where
  ext : Same F F'
  keep : ∀ a o, H a = some o → ¬ m.R s a → H' a = some o
  alive : ∀ a, H a ≠ none → H' a ≠ none
  fresh : ∀ a o, F' a = some o → F a = some o ∨ H a = none ∨ ∃ i, Owns σ ρ i a
  regf : ∀ a, m.R s' a → m.R s a ∨ H a = none
  shr : ∀ (i : Nat) o, ρ'[i]? = some (Sl.ow o) → ρ[i]? = some (Sl.ow o)
theorem Stp.refl {m : Mem} {F H : Hp} {σ : L2.St} {ρ : List Sl} {s : m.S} : Stp m F H σ ρ s F H ρ s :=
  ⟨Same.refl F, fun _ _ h _ => h, fun _ h => h, fun _ _ h => .inl h, fun _ h => .inl h, fun _ _ h => h⟩
theorem Stp.owns {m : Mem} {F H F' H' : Hp} {σ : L2.St} {ρ ρ' : List Sl} {s s' : m.S} (a : Stp m F H σ ρ s F' H' ρ' s') {i : Nat} {p : Addr} (h : Owns σ ρ' i p) : Owns σ ρ i p := by
  obtain ⟨⟨o, e⟩, q⟩ := h
  exact ⟨⟨o, a.shr i o e⟩, q⟩
theorem Stp.trans {m : Mem} {F H F1 H1 F2 H2 : Hp} {σ : L2.St} {ρ ρ1 ρ2 : List Sl} {s s1 s2 : m.S} (a : Stp m F H σ ρ s F1 H1 ρ1 s1) (b : Stp m F1 H1 σ ρ1 s1 F2 H2 ρ2 s2) : Stp m F H σ ρ s F2 H2 ρ2 s2 where
  ext := a.ext.trans b.ext
  keep := fun p o h n => b.keep p o (a.keep p o h n) fun r => by
    rcases a.regf p r with r | r
    · exact n r
    · rw [r] at h; cases h
  alive := fun p h => b.alive p (a.alive p h)
  fresh := fun p o h => by
    rcases b.fresh p o h with h | h | ⟨i, h⟩
    · exact a.fresh p o h
    · refine .inr (.inl ?_)
      cases q : H p with
      | none => rfl
      | some u => exact absurd h (a.alive p (by rw [q]; simp))
    · exact .inr (.inr ⟨i, a.owns h⟩)
  regf := fun p h => by
    rcases b.regf p h with h | h
    · exact a.regf p h
    · refine .inr ?_
      cases q : H p with
      | none => rfl
      | some u => exact absurd h (a.alive p (by rw [q]; simp))
  shr := fun i o h => a.shr i o (b.shr i o h)

/-- new objects alone -/
structure Grow (F H F' H' : Hp) : Prop where
  fF : Same F F'
  hH : Same H H'
  fH : Same F' H'
  fresh : ∀ a o, F' a = some o → F a = some o ∨ H a = none
theorem Grow.refl {F H : Hp} (h : Same F H) : Grow F H F H := ⟨Same.refl _, Same.refl _, h, fun _ _ h => .inl h⟩
theorem same_upd {H : Hp} {p : Addr} {o : HO} (h : H p = none) : Same H (upd H p o) := fun b x e => by
  rw [upd_ne (ne_of_none e h)]
  exact e
theorem Grow.new {F H : Hp} {p : Addr} {o : HO} (h : Same F H) (n : H p = none) : Grow F H (upd F p o) (upd H p o) := by
  have nF : F p = none := h.free n
  refine ⟨same_upd nF, same_upd n, fun b x e => ?_, fun b x e => ?_⟩
  · by_cases hb : b = p
    · subst hb; rw [upd_same] at e ⊢; exact e
    · rw [upd_ne hb] at e ⊢; exact h _ _ e
  · by_cases hb : b = p
    · subst hb; exact .inr n
    · rw [upd_ne hb] at e; exact .inl e
theorem Grow.trans {F H F1 H1 F2 H2 : Hp} (a : Grow F H F1 H1) (b : Grow F1 H1 F2 H2) : Grow F H F2 H2 :=
  ⟨a.fF.trans b.fF, a.hH.trans b.hH, b.fH, fun p o h => by
    rcases b.fresh p o h with h | h
    · exact a.fresh p o h
    · exact .inr (a.hH.free h)⟩
section
variable {K : PySem.W.Frag} {m : Mem} {F H F' H' : Hp} {σ : L2.St} {ρ : List Sl} {s : m.S}
theorem Grow.stp (g : Grow F H F' H') : Stp m F H σ ρ s F' H' ρ s :=
  ⟨g.fF, fun a o h _ => g.hH a o h, fun a h => by
    cases q : H a with
    | none => exact absurd q h
    | some u => rw [g.hH a u q]; simp, fun a o h => (g.fresh a o h).elim .inl fun z => .inr (.inl z), fun _ h => .inl h, fun _ _ h => h⟩
theorem Rel.grow (r : Rel K m F H σ ρ s) (g : Grow F H F' H') : Rel K m F' H' σ ρ s where
  sub := g.fH
  mem := m.loc s H H' r.mem fun a ha => by
    have q := m.there s H a r.mem ha
    cases e : H a with
    | none => exact absurd e q
    | some u => exact g.hH a u e
  reg := fun a ha => by
    cases e : F' a with
    | none => rfl
    | some u =>
      rcases g.fresh a u e with z | z
      · rw [r.reg a ha] at z; cases z
      · exact absurd z (m.there s H a r.mem ha)
  len := r.len
  sh := fun i d e => by
    obtain ⟨v, h1, h2⟩ := r.sh i d e
    exact ⟨v, h1, Rep.mono g.fF _ _ h2⟩
  ow := fun i o e => by
    obtain ⟨p, ho, h1, h2, h3⟩ := r.ow i o e
    exact ⟨p, ho, h1, g.hH _ _ h2, h3.mono g.fF⟩
  owF := fun i p h => by
    obtain ⟨h1, h2⟩ := r.owF i p h
    refine ⟨?_, h2⟩
    cases e : F' p with
    | none => rfl
    | some u =>
      rcases g.fresh p u e with z | z
      · rw [h1] at z; cases z
      · obtain ⟨⟨o, q1⟩, q2⟩ := h
        obtain ⟨p', ho, e1, e2, _⟩ := r.ow i o q1
        rw [q2] at e1; cases e1
        rw [z] at e2; cases e2
  uq := r.uq
/-- an owned object is known, and changes no more -/
theorem Rel.own_at (r : Rel K m F H σ ρ s) {i : Nat} {o : Ob} (e : ρ[i]? = some (Sl.ow o)) : ∃ p ho, σ[i]? = some (some (V.ref p)) ∧ H p = some ho ∧ ObAt K F o p ho ∧ F p = none ∧ ¬ m.R s p := by
  obtain ⟨p, ho, h1, h2, h3⟩ := r.ow i o e
  obtain ⟨h4, h5⟩ := r.owF i p ⟨⟨o, e⟩, h1⟩
  exact ⟨p, ho, h1, h2, h3, h4, h5⟩
/-- an object that no slot owns becomes known -/
theorem Rel.adopt (r : Rel K m F H σ ρ s) {p : Addr} {ho : HO} (h : H p = some ho) (n : F p = none) (nr : ¬ m.R s p) (no : ∀ i, ¬ Owns σ ρ i p) : Rel K m (upd F p ho) H σ ρ s where
  sub := fun b x e => by
    by_cases hb : b = p
    · subst hb; rw [upd_same] at e; cases e; exact h
    · rw [upd_ne hb] at e; exact r.sub _ _ e
  mem := r.mem
  reg := fun a ha => by
    have hb : a ≠ p := fun z => nr (z ▸ ha)
    rw [upd_ne hb]; exact r.reg a ha
  len := r.len
  sh := fun i d e => by
    obtain ⟨v, h1, h2⟩ := r.sh i d e
    exact ⟨v, h1, Rep.mono (same_upd n) _ _ h2⟩
  ow := fun i o e => by
    obtain ⟨q, ho', h1, h2, h3⟩ := r.ow i o e
    exact ⟨q, ho', h1, h2, h3.mono (same_upd n)⟩
  owF := fun i q hq => by
    obtain ⟨h1, h2⟩ := r.owF i q hq
    have hb : q ≠ p := fun z => no i (z ▸ hq)
    exact ⟨by rw [upd_ne hb]; exact h1, h2⟩
  uq := r.uq
/-- a slot forgotten, or one that was owned now shared -/
theorem Rel.share (r : Rel K m F H σ ρ s) {i : Nat} {o : Ob} {p : Addr} {ho : HO} {d : D} (hd : o.d = some d) (e : ρ[i]? = some (Sl.ow o)) (eσ : σ[i]? = some (some (V.ref p))) (h : H p = some ho) (ob : ObAt K F o p ho) :
    Rel K m (upd F p ho) H σ (ρ.set i (.sh d)) s ∧ Stp m F H σ ρ s (upd F p ho) H (ρ.set i (.sh d)) s ∧ Rep K (upd F p ho) d (.ref p) := by
  obtain ⟨n, nr⟩ := r.owF i p ⟨⟨o, e⟩, eσ⟩
  have hi : i < ρ.length := (List.getElem?_eq_some_iff.mp e).1
  have sm : Same F (upd F p ho) := same_upd n
  have rp : Rep K (upd F p ho) d (.ref p) := ob.rep sm upd_same hd
  have back : ∀ j q, Owns σ (ρ.set i (.sh d)) j q → j ≠ i ∧ Owns σ ρ j q := fun j q ⟨⟨o', h1⟩, h2⟩ => by
    by_cases hj : i = j
    · subst hj; rw [List.getElem?_set_self hi] at h1; cases h1
    · rw [List.getElem?_set_ne hj] at h1; exact ⟨Ne.symm hj, ⟨o', h1⟩, h2⟩
  refine ⟨⟨fun b x z => ?_, r.mem, fun a ha => ?_, by rw [List.length_set]; exact r.len, fun j d' z => ?_, fun j o' z => ?_, fun j q z => ?_, fun j k q h1 h2 => r.uq j k q (back j q h1).2 (back k q h2).2⟩, ?_, rp⟩
  · by_cases hb : b = p
    · subst hb; rw [upd_same] at z; cases z; exact h
    · rw [upd_ne hb] at z; exact r.sub _ _ z
  · have hb : a ≠ p := fun z => nr (z ▸ ha)
    rw [upd_ne hb]; exact r.reg a ha
  · by_cases hj : i = j
    · subst hj
      rw [List.getElem?_set_self hi] at z
      cases z
      exact ⟨_, eσ, rp⟩
    · rw [List.getElem?_set_ne hj] at z
      obtain ⟨v, h1, h2⟩ := r.sh j d' z
      exact ⟨v, h1, Rep.mono sm _ _ h2⟩
  · by_cases hj : i = j
    · subst hj
      rw [List.getElem?_set_self hi] at z
      cases z
    · rw [List.getElem?_set_ne hj] at z
      obtain ⟨q, ho', h1, h2, h3⟩ := r.ow j o' z
      exact ⟨q, ho', h1, h2, h3.mono sm⟩
  · obtain ⟨hj, hq⟩ := back j q z
    obtain ⟨h1, h2⟩ := r.owF j q hq
    have hb : q ≠ p := fun w => hj (r.uq j i q hq (by rw [w]; exact ⟨⟨o, e⟩, eσ⟩))
    exact ⟨by rw [upd_ne hb]; exact h1, h2⟩
  · refine ⟨sm, fun _ _ z _ => z, fun _ z => z, fun a x z => ?_, fun _ z => .inl z, fun j o' z => ?_⟩
    · by_cases hb : a = p
      · subst hb; exact .inr (.inr ⟨i, ⟨o, e⟩, eσ⟩)
      · rw [upd_ne hb] at z; exact .inl z
    · by_cases hj : i = j
      · subst hj; rw [List.getElem?_set_self hi] at z; cases z
      · rw [List.getElem?_set_ne hj] at z; exact z
/-- a slot is set to known data -/
theorem Rel.put (r : Rel K m F H σ ρ s) {i : Nat} {d : D} {v : V} (h : Rep K F d v) : Rel K m F H (σ.set i (some v)) (ρ.set i (.sh d)) s := by
  have back : ∀ j q, Owns (σ.set i (some v)) (ρ.set i (.sh d)) j q → Owns σ ρ j q := fun j q ⟨⟨o', h1⟩, h2⟩ => by
    by_cases hj : i = j
    · subst hj
      by_cases hi : i < ρ.length
      · rw [List.getElem?_set_self hi] at h1; cases h1
      · rw [List.getElem?_eq_none (by simpa using hi)] at h1; cases h1
    · rw [List.getElem?_set_ne hj] at h1 h2; exact ⟨⟨o', h1⟩, h2⟩
  refine ⟨r.sub, r.mem, r.reg, by rw [List.length_set, List.length_set]; exact r.len, fun j d' z => ?_, fun j o' z => ?_, fun j q z => r.owF j q (back j q z), fun j k q h1 h2 => r.uq j k q (back j q h1) (back k q h2)⟩
  · by_cases hj : i = j
    · subst hj
      have hi : i < ρ.length := by
        have := (List.getElem?_eq_some_iff.mp z).1
        rw [List.length_set] at this; exact this
      rw [List.getElem?_set_self hi] at z
      cases z
      exact ⟨v, List.getElem?_set_self (by rw [r.len]; exact hi), h⟩
    · rw [List.getElem?_set_ne hj] at z
      obtain ⟨w, h1, h2⟩ := r.sh j d' z
      exact ⟨w, by rw [List.getElem?_set_ne hj]; exact h1, h2⟩
  · by_cases hj : i = j
    · subst hj
      have hi : i < ρ.length := by
        have := (List.getElem?_eq_some_iff.mp z).1
        rw [List.length_set] at this; exact this
      rw [List.getElem?_set_self hi] at z
      cases z
    · rw [List.getElem?_set_ne hj] at z
      obtain ⟨q, ho', h1, h2, h3⟩ := r.ow j o' z
      exact ⟨q, ho', by rw [List.getElem?_set_ne hj]; exact h1, h2, h3⟩
/-- a slot is set to a new object of its own -/
theorem Rel.putO (r : Rel K m F H σ ρ s) {i : Nat} {o : Ob} {p : Addr} {ho : HO} (n : H p = none) (ob : ObAt K F o p ho) : Rel K m F (upd H p ho) (σ.set i (some (.ref p))) (ρ.set i (.ow o)) s := by
  have nF : F p = none := r.sub.free n
  have nr : ¬ m.R s p := fun z => m.there s H p r.mem z n
  have other : ∀ j q, i ≠ j → Owns (σ.set i (some (.ref p))) (ρ.set i (.ow o)) j q → Owns σ ρ j q := fun j q hj ⟨⟨o', h1⟩, h2⟩ => by
    rw [List.getElem?_set_ne hj] at h1 h2; exact ⟨⟨o', h1⟩, h2⟩
  have old : ∀ j q, Owns σ ρ j q → q ≠ p := fun j q ⟨⟨o', h1⟩, h2⟩ z => by
    obtain ⟨q', ho', e1, e2, _⟩ := r.ow j o' h1
    rw [h2] at e1; cases e1
    rw [z, n] at e2; cases e2
  have self : ∀ q, Owns (σ.set i (some (.ref p))) (ρ.set i (.ow o)) i q → q = p := fun q ⟨⟨o', h1⟩, h2⟩ => by
    have hi : i < σ.length := by
      have := (List.getElem?_eq_some_iff.mp h2).1
      rw [List.length_set] at this; exact this
    rw [List.getElem?_set_self hi] at h2
    cases h2; rfl
  refine ⟨fun b x e => ?_, m.loc s H _ r.mem fun a ha => upd_ne fun z => nr (z ▸ ha), r.reg, by rw [List.length_set, List.length_set]; exact r.len, fun j d' z => ?_, fun j o' z => ?_, fun j q z => ?_, fun j k q h1 h2 => ?_⟩
  · have hb : b ≠ p := fun z => by subst z; rw [nF] at e; cases e
    rw [upd_ne hb]; exact r.sub _ _ e
  · by_cases hj : i = j
    · subst hj
      have hi : i < ρ.length := by
        have := (List.getElem?_eq_some_iff.mp z).1
        rw [List.length_set] at this; exact this
      rw [List.getElem?_set_self hi] at z
      cases z
    · rw [List.getElem?_set_ne hj] at z
      obtain ⟨w, h1, h2⟩ := r.sh j d' z
      exact ⟨w, by rw [List.getElem?_set_ne hj]; exact h1, h2⟩
  · by_cases hj : i = j
    · subst hj
      have hi : i < ρ.length := by
        have := (List.getElem?_eq_some_iff.mp z).1
        rw [List.length_set] at this; exact this
      rw [List.getElem?_set_self hi] at z
      cases z
      exact ⟨p, ho, List.getElem?_set_self (by rw [r.len]; exact hi), upd_same, ob⟩
    · rw [List.getElem?_set_ne hj] at z
      obtain ⟨q, ho', h1, h2, h3⟩ := r.ow j o' z
      have hq : q ≠ p := old j q ⟨⟨o', z⟩, h1⟩
      exact ⟨q, ho', by rw [List.getElem?_set_ne hj]; exact h1, by rw [upd_ne hq]; exact h2, h3⟩
  · by_cases hj : i = j
    · subst hj
      rw [self q z]; exact ⟨nF, nr⟩
    · exact r.owF j q (other j q hj z)
  · by_cases hj : i = j
    · subst hj
      by_cases hk : i = k
      · exact hk
      · exact absurd (self q h1) (old k q (other k q hk h2))
    · by_cases hk : i = k
      · subst hk
        exact absurd (self q h2) (old j q (other j q hj h1))
      · exact r.uq j k q (other j q hj h1) (other k q hk h2)
/-- an owned object is written -/
theorem Rel.write (r : Rel K m F H σ ρ s) {i : Nat} {o o' : Ob} {p : Addr} {ho : HO} (e : ρ[i]? = some (Sl.ow o)) (eσ : σ[i]? = some (some (V.ref p))) (ob : ObAt K F o' p ho) : Rel K m F (upd H p ho) σ (ρ.set i (.ow o')) s := by
  obtain ⟨nF, nr⟩ := r.owF i p ⟨⟨o, e⟩, eσ⟩
  have hi : i < ρ.length := (List.getElem?_eq_some_iff.mp e).1
  have back : ∀ j q, Owns σ (ρ.set i (.ow o')) j q → Owns σ ρ j q := fun j q ⟨⟨u, h1⟩, h2⟩ => by
    by_cases hj : i = j
    · subst hj; exact ⟨⟨o, e⟩, h2⟩
    · rw [List.getElem?_set_ne hj] at h1; exact ⟨⟨u, h1⟩, h2⟩
  refine ⟨fun b x z => ?_, m.loc s H _ r.mem fun a ha => upd_ne fun z => nr (z ▸ ha), r.reg, by rw [List.length_set]; exact r.len, fun j d' z => ?_, fun j u z => ?_, fun j q z => r.owF j q (back j q z), fun j k q h1 h2 => r.uq j k q (back j q h1) (back k q h2)⟩
  · have hb : b ≠ p := fun w => by subst w; rw [nF] at z; cases z
    rw [upd_ne hb]; exact r.sub _ _ z
  · by_cases hj : i = j
    · subst hj; rw [List.getElem?_set_self hi] at z; cases z
    · rw [List.getElem?_set_ne hj] at z; exact r.sh j d' z
  · by_cases hj : i = j
    · subst hj
      rw [List.getElem?_set_self hi] at z
      cases z
      exact ⟨p, ho, eσ, upd_same, ob⟩
    · rw [List.getElem?_set_ne hj] at z
      obtain ⟨q, ho', h1, h2, h3⟩ := r.ow j u z
      have hq : q ≠ p := fun w => hj (r.uq i j p ⟨⟨o, e⟩, eσ⟩ ⟨⟨u, z⟩, by rw [← w]; exact h1⟩)
      exact ⟨q, ho', h1, by rw [upd_ne hq]; exact h2, h3⟩
end
end DL

set_option Elab.async false
set_option linter.all false
set_option maxRecDepth 100000
/-! DG: calls that also know that no repr is under way (FnG, RoomG), from the law's call down. -/
namespace DL
open PySem PySem.Spec PyProof.Rows L2
/-- room for so many calls, and no repr around -/
structure RoomG (k : Nat) (A : Around) : Prop where
  r : Room k A
  g : A.guards = some []
theorem RoomG.mono {j k : Nat} {A : Around} (h : RoomG k A) (l : j ≤ k) : RoomG j A := ⟨h.r.mono l, h.g⟩
theorem RoomG.deeper {k : Nat} {A : Around} (h : RoomG (k + 1) A) (env : Env) : RoomG k (A.deeper env) := ⟨h.r.deeper env, h.g⟩
theorem RoomG.in1 {k : Nat} {A : Around} (h : RoomG (k + 1) A) : RoomG k A.in1 := ⟨h.r.in1, h.g⟩
theorem RoomG.make {k : Nat} {A : Around} (h : RoomG (k + 1) A) (C : Addr) (us : List Value) (kw : List (Str × Value)) : RoomG k (A.under (.builtin "type.__call__" ⟨.ref C :: us, kw⟩)) :=
  ⟨h.r.make C us kw, by
    have e : (A.under (.builtin "type.__call__" ⟨.ref C :: us, kw⟩)).guards = A.guards := by
      first | rfl | (simp [Around.under, Code.guards, Code.isGuard, pushGuards, guardIds])
    rw [e]; exact h.g⟩
/-- a def keeps its promise wherever it is called with no repr around -/
structure FnG (P : Program) (w : World) (K : PySem.W.Frag) (mg : Str → Option Value) (base : Heap) (CX : CXT) (k : Nat) (f : Addr) (fd : FuncData) (ps : List Str) (sp : Sp) : Prop where
  len : ∀ vs H Q E, sp vs H Q E → vs.length = ps.length
  run : ∀ (A : Around) (outer : List Env) (s : Shared) (H : Hp) (args : Args) (us : List Value) (vs : List V) (Q : VK) (E : XK),
    RoomG k A → Env0 P w K mg base A outer s H → BindsTo s fd args (ps.zip us) → Vals vs us → sp vs H Q E → codeAny (model P w) A (.call (.ref f) args) (CR CX outer P w H s Q E) s
section
variable {P : Program} {w : World} {K : PySem.W.Frag} {mg : Str → Option Value} {base : Heap} {CX : CXT} {k : Nat} {f : Addr} {fd : FuncData} {ps : List Str} {sp : Sp}
theorem fnG_of (F : FnOk P w K mg base CX k f fd ps sp) : FnG P w K mg base CX k f fd ps sp := ⟨F.len, fun A o s H a us vs Q E hr => F.run A o s H a us vs Q E hr.r⟩
theorem FnG.mono {j : Nat} (F : FnG P w K mg base CX j f fd ps sp) (h : j ≤ k) : FnG P w K mg base CX k f fd ps sp := ⟨F.len, fun A o s H a us vs Q E hr => F.run A o s H a us vs Q E (hr.mono h)⟩
theorem FnG.imp {sp' : Sp} (F : FnG P w K mg base CX k f fd ps sp) (h : ∀ vs H Q E, sp' vs H Q E → sp vs H Q E) : FnG P w K mg base CX k f fd ps sp' :=
  ⟨fun vs H Q E q => F.len _ _ _ _ (h vs H Q E q), fun A o s H a us vs Q E hr e b r q => F.run A o s H a us vs Q E hr e b r (h vs H Q E q)⟩
end
section
variable {X : Cx} {CX : CXT} {k : Nat} {f : Addr} {fd : FuncData} {ps : List Str} {sp : Sp} {dvs : List V} {ds : List Value} {E : XK} {x : Str} {p pos : Pos} {e : Expr} {es : List Expr} {t : TA}
theorem go_fn {pins : List (Addr × Obj)} {σ : L2.St} {H : Hp} {s : Shared} {Q : VK} {us : List Value} {vs : List V} (G : FnG X.prog X.w X.K X.mg X.base CX k f fd ps sp) (hr : RoomG k X.A) (hb : Binds X.K fd ps ds) (hd : Vals dvs ds) (hx : Passes CX X E)
    (I : Inv X pins σ H s) (rv : Vals vs us) (q : sp (vs ++ dvs) H Q E) : wpAny (model X.prog X.w) X.A (call (.ref f) us) (EP X pins σ Q) X.xe s := by
  have rr : Vals (vs ++ dvs) (us ++ ds) := rv.append hd
  have many : (us ++ ds).length = ps.length := rr.length.symm.trans (G.len _ _ _ _ q)
  refine wpAny_call (codeAny_mono (G.run X.A X.stack s H ⟨us, []⟩ (us ++ ds) (vs ++ dvs) Q E hr I.env0 (hb s us I.kIn many) rr q) fun r s' z => ?_)
  rcases r with er | (_ | _ | _ | u)
  · exact hx pins σ H s er s' I z
  · exact z.elim
  · exact z.elim
  · exact z.elim
  · exact I.after z
theorem pg_call (G : FnG X.prog X.w X.K X.mg X.base CX k f fd ps sp) (hr : RoomG k X.A) (hg : Gl X x) (hm : X.mg x = some (.ref f)) (hk : PySem.W.keepIn X.K (.ref f) = true) (hb : Binds X.K fd ps ds) (hd : Vals dvs ds) (hx : Passes CX X E) (ha : PA X (e :: es) t)
    (hdb : (x == ("__debug__" : Str)) = false := by decide) (he : starEach (e :: es) X.env = (false, eval e X.env) :: starEach es X.env := by rfl) (hpl : (backTo pos (starEach es X.env)).any (·.1) = false := by rfl) : PE X (.Call (.Name x p) (e :: es) [] pos) (tCall sp dvs E t) :=
  ⟨fun pins s σ H Q I h => wpAny_Call_Name_kw (ld_glob I hg hm (PySem.W.callWith_K (h₀ := X.base) I.ok.mod.kin hk (thn (ha.run pos pins s σ H _ I h) fun us s1 ⟨vs, H1, I1, rv, q⟩ => ⟨I1.kIn, go_fn G hr hb hd hx I1 rv q⟩) he hpl) hdb)⟩
end
section
variable {P : Program} {w : World} {K : PySem.W.Frag} {mg : Str → Option Value} {base : Heap}
/-- a def by its body -/
theorem Fun.okG {CX : CXT} {x qual : Str} {st : Stmt} {f : Addr} {fd : FuncData} {N ps : List Str} {k : Nat} {sp : Sp} (F : Fun K x qual st f fd) (S : FnScope N ps (defScope st)) (len : ∀ vs H Q E, sp vs H Q E → vs.length = ps.length)
    (body : ∀ (cdv : Value) (A : Around) (outer : List Env) (s : Shared) (H : Hp) (vs : List V) (Q : VK) (E : XK), RoomG k (A.deeper (envOfC qual (defScope st) s.heap.objs.size f cdv)) → sp vs H Q E →
      ∃ t, PSs (cxOf CX P w K mg base N qual (defScope st) f cdv A outer s H E) (defBody st) t ∧ t { nx := fun _ H' => Q .non H', rt := Q } (start N vs) H) : FnG P w K mg base CX (k + 1) f fd ps sp := by
  obtain ⟨oc, od, kV, doc, pm, an, cdv, ct, osl, rfl, lk, code⟩ := F.ex
  refine ⟨len, fun A outer s H args us vs Q E hr e0 hb rv hsp => ?_⟩
  have Kin : K.In s.heap := e0.mod.kin.keeps fun b o z => (e0.bs b o z).1
  have nl : s.heap.NoLimit := e0.mod.nolimit.keeps fun b o z => (e0.bs b o z).1
  have places : ∀ y ∈ ps.zip us, (defScope st).names.lookup y.1 = some .local ∨ ((defScope st).names.lookup y.1 = some .cell ∧ ((cellsFrom (s.heap.objs.size + 1) (defScope st).names []).lookup y.1).isSome = true) := fun y hy =>
    (S.par y.1 (List.of_mem_zip (show (y.1, y.2) ∈ ps.zip us from hy)).1).elim .inl fun q => .inr ⟨q, PySem.W.cellsFrom_some _ _ _ (.inl q)⟩
  refine codeAny_call_function hr.r.depth (Kin _ _ lk) rfl S.co S.gen rfl (PySem.W.codeRec_of Kin code) (hb _ _ _ _ (wpAny_newFunctionEnv_cells S.kind places fun env he s1 new => ?_))
  subst he
  obtain ⟨t, ht, hq⟩ := body cdv A outer s H vs Q E (hr.deeper _) hsp
  have J : Inv (cxOf CX P w K mg base N qual (defScope st) f cdv A outer s H E) [] (start N vs) H s1 := inv_start S hr.r.hd e0 (len _ _ _ _ hsp) rv new
  refine ⟨nl.keeps new.toInCall.keep, codeAny_func (wpAny_mono (ht.run [] s1 (start N vs) H _ J hq) (fun fl s' z => ?_) fun _ _ z => z)⟩
  rcases fl with _ | _ | _ | u
  · obtain ⟨σ', H', J', q⟩ := z
    exact ⟨V.non, H', J'.os, J'.bare, J'.base, J'.hok, rfl, q⟩
  · obtain ⟨_, _, _, q⟩ := z
    exact q.elim
  · obtain ⟨_, _, _, q⟩ := z
    exact q.elim
  · obtain ⟨v, σ', H', J', r', q⟩ := z
    exact ⟨v, H', J'.os, J'.bare, J'.base, J'.hok, r', q⟩
end
/-! ### the law's call -/
section
/-- the script as it is handed over: known, unless it is one of the module's own objects -/
def scrO (vs : List Value) : Obj := { cls := .type "list", data := .seq vs.toArray }
variable {P : Program} {w : World} {K : PySem.W.Frag} {mg mb : Str → Option Value} {k : Nat} {fa a : Addr} {fd : FuncData} {x : Str} {sp : Sp} {s : Shared} {vs : List Value} {ns : List Int}
end
end DL

set_option Elab.async false
set_option linter.all false
set_option maxRecDepth 100000
namespace DL
open PySem PySem.Spec PyProof.Rows L2

/-! ### readings over data -/
abbrev DK (m : Mem) := D → List Sl → m.S → Prop
abbrev DT (m : Mem) := List Sl → m.S → DK m → Prop
abbrev DTT (m : Mem) := List Sl → m.S → (Bool → List Sl → m.S → Prop) → Prop
abbrev DTA (m : Mem) := List Sl → m.S → (List D → List Sl → m.S → Prop) → Prop
def up (K : PySem.W.Frag) (m : Mem) (t : DT m) : TE := fun σ H Q => ∃ F ρ s Qd, Rel K m F H σ ρ s ∧ t ρ s Qd ∧ ∀ d ρ' s' v F' H', Qd d ρ' s' → Rel K m F' H' σ ρ' s' → Stp m F H σ ρ s F' H' ρ' s' → Rep K F' d v → Q v H'
def upT (K : PySem.W.Frag) (m : Mem) (t : DTT m) : TT := fun σ H Q => ∃ F ρ s Qd, Rel K m F H σ ρ s ∧ t ρ s Qd ∧ ∀ b ρ' s' F' H', Qd b ρ' s' → Rel K m F' H' σ ρ' s' → Stp m F H σ ρ s F' H' ρ' s' → Q b H'
def upA (K : PySem.W.Frag) (m : Mem) (t : DTA m) : TA := fun σ H Q => ∃ F ρ s Qd, Rel K m F H σ ρ s ∧ t ρ s Qd ∧ ∀ ds ρ' s' vs F' H', Qd ds ρ' s' → Rel K m F' H' σ ρ' s' → Stp m F H σ ρ s F' H' ρ' s' → Reps K F' ds vs → Q vs H'

section
variable {X : Cx} {e a b c : Expr} {es : List Expr} {pos : Pos}
theorem PE.imp {t t' : TE} (h : PE X e t) (w : ∀ σ H Q, t' σ H Q → t σ H Q) : PE X e t' := ⟨fun pins s σ H Q I q => h.run pins s σ H Q I (w σ H Q q)⟩
theorem PT.imp {t t' : TT} (h : PT X e t) (w : ∀ σ H Q, t' σ H Q → t σ H Q) : PT X e t' := ⟨fun pins s σ H Q I q => h.run pins s σ H Q I (w σ H Q q)⟩
theorem PW.imp {t t' : TT} (h : PW X e t) (w : ∀ σ H Q, t' σ H Q → t σ H Q) : PW X e t' := ⟨fun wh pins s σ H Q I q => h.run wh pins s σ H Q I (w σ H Q q)⟩
theorem PA.imp {t t' : TA} (h : PA X es t) (w : ∀ σ H Q, t' σ H Q → t σ H Q) : PA X es t' := ⟨fun p pins s σ H Q I q => h.run p pins s σ H Q I (w σ H Q q)⟩
theorem PS.imp {st : Stmt} {t t' : TS} (h : PS X st t) (w : ∀ D σ H, t' D σ H → t D σ H) : PS X st t' := ⟨fun pins s σ H D I q => h.run pins s σ H D I (w D σ H q)⟩
theorem PSs.imp {st : List Stmt} {t t' : TS} (h : PSs X st t) (w : ∀ D σ H, t' D σ H → t D σ H) : PSs X st t' := ⟨fun pins s σ H D I q => h.run pins s σ H D I (w D σ H q)⟩
end

/-- a way by a bool -/
def ifB (b : Bool) (x y : Prop) : Prop := match b with
  | true => x
  | false => y
theorem ifB_t {x y : Prop} (h : ifB true x y) : x := h
theorem ifB_f {x y : Prop} (h : ifB false x y) : y := h
theorem ifB2 {b : Bool} {x y : Prop} (h1 : b = true → x) (h2 : b = false → y) : ifB b x y := by
  cases b with
  | true => exact h1 rfl
  | false => exact h2 rfl
theorem ifBd {c : Prop} [Decidable c] {x y : Prop} (h1 : c → x) (h2 : ¬ c → y) : ifB (decide c) x y := ifB2 (fun h => h1 (of_decide_eq_true h)) fun h => h2 (of_decide_eq_false h)
/-! ### names and constants -/
def dVar {m : Mem} (i : Nat) : DT m := fun ρ s Q => match ρ[i]? with
  | some (.sh d) => Q d ρ s
  | some (.ow o) => match o.d with
    | some d => Q d (ρ.set i (.sh d)) s
    | none => False
  | _ => False
def dC {m : Mem} (d : D) : DT m := fun ρ s Q => Q d ρ s
section
variable {X : Cx} {m : Mem} {e a b c : Expr} {es : List Expr} {pos : Pos}
theorem up_var {K : PySem.W.Frag} {i : Nat} {σ : L2.St} {H : Hp} {Q : VK} (h : up K m (dVar i) σ H Q) : tVar i σ H Q := by
  obtain ⟨F, ρ, s, Qd, r, ht, hQ⟩ := h
  unfold dVar at ht
  cases e : ρ[i]? with
  | none => rw [e] at ht; exact ht.elim
  | some sl =>
    rw [e] at ht
    cases sl with
    | no => exact ht.elim
    | sh d =>
      obtain ⟨v, h1, h2⟩ := r.sh i d e
      exact ⟨v, h1, hQ d ρ s v F H ht r Stp.refl h2⟩
    | ow o =>
      obtain ⟨p, ho, h1, h2, h3, h4, h5⟩ := r.own_at e
      cases hd : o.d with
      | none =>
        dsimp only at ht
        rw [hd] at ht
        exact ht.elim
      | some d =>
        dsimp only at ht
        rw [hd] at ht
        obtain ⟨r', st, rp⟩ := r.share hd e h1 h2 h3
        exact ⟨_, h1, hQ _ _ _ _ _ _ ht r' st rp⟩
theorem dv (i : Nat) {x : Str} (hN : X.N[i]? = some x := by rfl) (hv : Vis X.env.scope x := by first | exact Or.inl rfl | exact Or.inr (Or.inl rfl) | exact Or.inr (Or.inr rfl)) (hd : (x == ("__debug__" : Str)) = false := by decide)
    (hcd : (x == ("__classdict__" : Str)) = false := by decide) : PE X (.Name x pos) (up X.K m (dVar i)) := PE.imp (pv i hN hv hd hcd) fun _ _ _ h => up_var h
theorem up_const {K : PySem.W.Frag} {d : D} {v : V} {σ : L2.St} {H : Hp} {Q : VK} (hr : ∀ F, Rep K F d v) (h : up K m (dC d) σ H Q) : tC v σ H Q := by
  obtain ⟨F, ρ, s, Qd, r, ht, hQ⟩ := h
  exact hQ d ρ s v F H ht r Stp.refl (hr F)
theorem de_int {i : Int} {j pos} : PE X (.Constant (.int i) j pos) (up X.K m (dC (.int i))) := PE.imp pe_int fun _ _ _ h => up_const (d := .int i) (fun _ => rfl) h
theorem de_bl {b : Bool} {j pos} : PE X (.Constant (.bool b) j pos) (up X.K m (dC (.bl b))) := PE.imp pe_bl fun _ _ _ h => up_const (d := .bl b) (fun _ => rfl) h
theorem de_non {j pos} : PE X (.Constant .none j pos) (up X.K m (dC .non)) := PE.imp pe_non fun _ _ _ h => up_const (d := .non) (fun _ => rfl) h
theorem de_str {x : Str} {j pos} (hl : sOk x = true := by decide +kernel) : PE X (.Constant (.str x) j pos) (up X.K m (dC (.str x))) := PE.imp pe_str fun _ _ _ h => up_const (d := .str x) (fun _ => ⟨rfl, hl⟩) h
/-- a module's constant -/
theorem de_glob {x : Str} {d : D} {v : V} {u : Value} (hg : Gl X x) (hm : X.mg x = some u) (r : RelV v u) (hr : ∀ F, Rep X.K F d v) (hd : (x == ("__debug__" : Str)) = false := by decide) : PE X (.Name x pos) (up X.K m (dC d)) :=
  PE.imp (pe_glob hg hm r hd) fun _ _ _ h => up_const hr h
/-- a builtin's name as a value -/
theorem de_bltn {x : Str} {v : V} {u : Value} (hg : Gl X x) (hm : X.mg x = none) (hv : bootBuiltins x = some u) (r : RelV v u) (hn : x ≠ "__name__" := by decide) (hd : (x == ("__debug__" : Str)) = false := by decide) : PE X (.Name x pos) (up X.K m (dC (.any v))) :=
  PE.imp (pe_bltn hg hm hv r hn hd) fun _ _ _ h => up_const (d := .any v) (fun _ => rfl) h

/-! ### operations by data -/
def Op2 (K : PySem.W.Frag) (r : R2) (f : D → D → (D → Prop) → Prop) : Prop := ∀ F H dx dy x y Qd Q, Same F H → Rep K F dx x → Rep K F dy y → f dx dy Qd → (∀ d v F' H', Qd d → Grow F H F' H' → Rep K F' d v → Q v H') → r x y H Q
def Op1 (K : PySem.W.Frag) (r : V → Hp → VK → Prop) (f : D → (D → Prop) → Prop) : Prop := ∀ F H dx x Qd Q, Same F H → Rep K F dx x → f dx Qd → (∀ d v F' H', Qd d → Grow F H F' H' → Rep K F' d v → Q v H') → r x H Q
def OpN (K : PySem.W.Frag) (r : List V → Hp → VK → Prop) (f : List D → (D → Prop) → Prop) : Prop := ∀ F H ds vs Qd Q, Same F H → Reps K F ds vs → f ds Qd → (∀ d v F' H', Qd d → Grow F H F' H' → Rep K F' d v → Q v H') → r vs H Q
def OpM (K : PySem.W.Frag) (r : V → List V → Hp → VK → Prop) (f : D → List D → (D → Prop) → Prop) : Prop := ∀ F H dx x ds vs Qd Q, Same F H → Rep K F dx x → Reps K F ds vs → f dx ds Qd → (∀ d v F' H', Qd d → Grow F H F' H' → Rep K F' d v → Q v H') → r x vs H Q
/-- a comparison: its answer is a bool -/
def Cm2 (K : PySem.W.Frag) (r : R2) (f : D → D → (Bool → Prop) → Prop) : Prop := ∀ F H dx dy x y Qd Q, Same F H → Rep K F dx x → Rep K F dy y → f dx dy Qd → (∀ b F' H', Qd b → Grow F H F' H' → Q (.bl b) H') → r x y H Q
def dOp {m : Mem} (f : D → D → (D → Prop) → Prop) (ta tb : DT m) : DT m := fun ρ s Q => ta ρ s fun x ρ1 s1 => tb ρ1 s1 fun y ρ2 s2 => f x y fun d => Q d ρ2 s2
def dUn {m : Mem} (f : D → (D → Prop) → Prop) (ta : DT m) : DT m := fun ρ s Q => ta ρ s fun x ρ1 s1 => f x fun d => Q d ρ1 s1
def dCm {m : Mem} (f : D → D → (Bool → Prop) → Prop) (ta tb : DT m) : DT m := fun ρ s Q => ta ρ s fun x ρ1 s1 => tb ρ1 s1 fun y ρ2 s2 => f x y fun k => Q (.bl k) ρ2 s2
def dCmT {m : Mem} (f : D → D → (Bool → Prop) → Prop) (ta tb : DT m) : DTT m := fun ρ s Q => ta ρ s fun x ρ1 s1 => tb ρ1 s1 fun y ρ2 s2 => f x y fun k => Q k ρ2 s2
/-- two expressions in a row -/
theorem up2 {K : PySem.W.Frag} {ta tb : DT m} {F H : Hp} {σ : L2.St} {ρ : List Sl} {s : m.S} {R : V → V → Hp → Prop} {Qd : D → D → List Sl → m.S → Prop} (r : Rel K m F H σ ρ s) (h : ta ρ s fun x ρ1 s1 => tb ρ1 s1 fun y ρ2 s2 => Qd x y ρ2 s2)
    (hR : ∀ dx dy x y F2 H2 ρ2 s2, Qd dx dy ρ2 s2 → Rel K m F2 H2 σ ρ2 s2 → Stp m F H σ ρ s F2 H2 ρ2 s2 → Rep K F2 dx x → Rep K F2 dy y → R x y H2) : up K m ta σ H fun x H1 => up K m tb σ H1 fun y H2 => R x y H2 :=
  ⟨F, ρ, s, _, r, h, fun dx ρ1 s1 x F1 H1 q1 r1 st1 rx => ⟨F1, ρ1, s1, _, r1, q1, fun dy ρ2 s2 y F2 H2 q2 r2 st2 ry => hR dx dy x y F2 H2 ρ2 s2 q2 r2 (st1.trans st2) (Rep.mono st2.ext _ _ rx) ry⟩⟩
theorem up_op {K : PySem.W.Frag} {r : R2} {f : D → D → (D → Prop) → Prop} {ta tb : DT m} {σ : L2.St} {H : Hp} {Q : VK} (ho : Op2 K r f) (h : up K m (dOp f ta tb) σ H Q) : tOp r (up K m ta) (up K m tb) σ H Q := by
  obtain ⟨F, ρ, s, Qd, rl, ht, hQ⟩ := h
  refine up2 (R := fun x y H2 => r x y H2 Q) rl ht fun dx dy x y F2 H2 ρ2 s2 q r2 st rx ry => ?_
  exact ho F2 H2 dx dy x y _ Q r2.sub rx ry q fun d v F' H' qd g rv => hQ d ρ2 s2 v F' H' qd (r2.grow g) (st.trans g.stp) rv
theorem up_cm {K : PySem.W.Frag} {r : R2} {f : D → D → (Bool → Prop) → Prop} {ta tb : DT m} {σ : L2.St} {H : Hp} {Q : VK} (ho : Cm2 K r f) (h : up K m (dCm f ta tb) σ H Q) : tOp r (up K m ta) (up K m tb) σ H Q := by
  obtain ⟨F, ρ, s, Qd, rl, ht, hQ⟩ := h
  refine up2 (R := fun x y H2 => r x y H2 Q) rl ht fun dx dy x y F2 H2 ρ2 s2 q r2 st rx ry => ?_
  exact ho F2 H2 dx dy x y _ Q r2.sub rx ry q fun b F' H' qd g => hQ (.bl b) ρ2 s2 _ F' H' qd (r2.grow g) (st.trans g.stp) rfl
variable {ta tb tc : DT m}
theorem de_op {op : Operator} {r : R2} {f : D → D → (D → Prop) → Prop} (ho : OpR X (binaryOp op) r) (hf : Op2 X.K r f) (ha : PE X a (up X.K m ta)) (hb : PE X b (up X.K m tb)) : PE X (.BinOp a op b pos) (up X.K m (dOp f ta tb)) :=
  PE.imp (pe_op ho ha hb) fun _ _ _ h => up_op hf h
theorem de_un {op : UnaryOp} {r : V → Hp → VK → Prop} {f : D → (D → Prop) → Prop} (ho : UnR X (unaryOp op) r) (hf : Op1 X.K r f) (ha : PE X a (up X.K m ta)) : PE X (.UnaryOp op a pos) (up X.K m (dUn f ta)) :=
  PE.imp (pe_un ho ha) fun σ H Q h => by
    obtain ⟨F, ρ, s, Qd, rl, ht, hQ⟩ := h
    exact ⟨F, ρ, s, _, rl, ht, fun dx ρ1 s1 x F1 H1 q1 r1 st1 rx => hf F1 H1 dx x _ Q r1.sub rx q1 fun d v F' H' qd g rv => hQ d ρ1 s1 v F' H' qd (r1.grow g) (st1.trans g.stp) rv⟩
theorem de_cmp {op : CmpOp} {r : R2} {f : D → D → (Bool → Prop) → Prop} (ho : OpR X (compareOp op) r) (hf : Cm2 X.K r f) (ha : PE X a (up X.K m ta)) (hb : PE X b (up X.K m tb)) (hm : behindInMarks op b = false := by first | exact nomark _ | rfl) :
    PE X (.Compare a [op] [b] pos) (up X.K m (dCm f ta tb)) := PE.imp (pe_cmpR ho ha hb hm) fun _ _ _ h => up_cm hf h
theorem dt_cmp {op : CmpOp} {r : R2} {f : D → D → (Bool → Prop) → Prop} (ho : OpR X (compareOp op) r) (hf : Cm2 X.K r f) (ha : PE X a (up X.K m ta)) (hb : PE X b (up X.K m tb)) (hm : behindInMarks op b = false := by first | exact nomark _ | rfl) :
    PT X (.Compare a [op] [b] pos) (upT X.K m (dCmT f ta tb)) := PT.imp (pt_cmpR ho ha hb hm) fun σ H Q h => by
  obtain ⟨F, ρ, s, Qd, rl, ht, hQ⟩ := h
  refine up2 (R := fun x y H2 => r x y H2 _) rl ht fun dx dy x y F2 H2 ρ2 s2 q r2 st rx ry => ?_
  exact hf F2 H2 dx dy x y _ _ r2.sub rx ry q fun b F' H' qd g => ⟨b, rfl, hQ b ρ2 s2 F' H' qd (r2.grow g) (st.trans g.stp)⟩
/-- a op1 b op2 c -/
def dCh {m : Mem} (f g : D → D → (Bool → Prop) → Prop) (ta tb tc : DT m) : DT m := fun ρ s Q => ta ρ s fun x ρ1 s1 => tb ρ1 s1 fun y ρ2 s2 => f x y fun k => ifB k (tc ρ2 s2 fun z ρ3 s3 => g y z fun k' => Q (.bl k') ρ3 s3) (Q (.bl false) ρ2 s2)
theorem de_chain {op op' : CmpOp} {r r' : R2} {f g : D → D → (Bool → Prop) → Prop} (ho : OpR X (compareOp op) r) (ho' : OpR X (compareOp op') r') (hf : Cm2 X.K r f) (hg : Cm2 X.K r' g)
    (ha : PE X a (up X.K m ta)) (hb : PE X b (up X.K m tb)) (hc : PE X c (up X.K m tc)) (hm : lastMarks [op, op'] [b, c] = false := by with_unfolding_all rfl) : PE X (.Compare a [op, op'] [b, c] pos) (up X.K m (dCh f g ta tb tc)) :=
  PE.imp (pe_chain ho ho' ha hb hc hm) fun σ H Q h => by
    obtain ⟨F, ρ, s, Qd, rl, ht, hQ⟩ := h
    refine up2 (R := fun x y H2 => r x y H2 _) rl ht fun dx dy x y F2 H2 ρ2 s2 q r2 st rx ry => ?_
    refine hf F2 H2 dx dy x y _ _ r2.sub rx ry q fun b F' H' qd gr => ⟨b, rfl, ?_⟩
    cases b with
    | false => exact iteF (hQ (.bl false) ρ2 s2 _ F' H' (ifB_f qd) (r2.grow gr) (st.trans gr.stp) rfl)
    | true =>
      have qd := ifB_t qd
      refine iteT ⟨F', ρ2, s2, _, r2.grow gr, qd, fun dz ρ3 s3 z F3 H3 q3 r3 st3 rz => ?_⟩
      exact hg F3 H3 dy dz y z _ _ r3.sub (Rep.mono (gr.fF.trans st3.ext) _ _ ry) rz q3 fun b' F4 H4 q4 g4 => hQ (.bl b') ρ3 s3 _ F4 H4 q4 (r3.grow g4) ((st.trans gr.stp).trans (st3.trans g4.stp)) rfl
/-! ### tests -/
/-- a value's truth -/
def tru : D → Option Bool
  | .non => some false
  | .bl b => some b
  | .int i => some (i != 0)
  | .str x => some ((x.length : Int) != 0)
  | .lst xs => some (!xs.isEmpty)
  | .tup xs => some (!xs.isEmpty)
  | .dic ks _ => some (!ks.isEmpty)
  | _ => none
theorem reps_empty {K : PySem.W.Frag} {F : Hp} {ds : List D} {vs : List V} (h : Reps K F ds vs) : vs.isEmpty = ds.isEmpty := by
  have := h.length
  cases ds <;> cases vs <;> simp_all
theorem tru_rep {K : PySem.W.Frag} {F H : Hp} {d : D} {v : V} {k : Bool} (h : Rep K F d v) (sub : Same F H) (e : tru d = some k) : TruV K v H k := by
  cases d with
  | non => cases h; exact (Option.some.inj e).symm
  | bl b => cases h; exact (Option.some.inj e).symm
  | int i => cases h; exact (Option.some.inj e).symm
  | str x => obtain ⟨rfl, hl⟩ := h; exact ⟨Nat.le_trans (sOk_len hl) (Nat.le_trans (Nat.le_add_right _ 2) strLim_line), (Option.some.inj e).symm⟩
  | lst xs =>
    obtain ⟨a, vs, rfl, h1, _, r⟩ := h
    exact .inl ⟨vs, .inl (.inl (sub _ _ h1)), by rw [reps_empty r]; exact (Option.some.inj e).symm⟩
  | tup xs =>
    obtain ⟨a, vs, rfl, h1, _, r⟩ := h
    exact .inr (.inl ⟨vs, Same.seqT sub h1, by rw [reps_empty r]; exact (Option.some.inj e).symm⟩)
  | dic ks ds =>
    obtain ⟨a, kvs, rfl, h1, _, r, _⟩ := h
    refine .inr (.inr ⟨kvs, sub _ _ h1, ?_⟩)
    have e' := (Option.some.inj e).symm
    rw [e', ← r]
    cases kvs <;> rfl
  | ins _ _ _ => cases e
  | any _ => cases e
  | fz _ => cases e
  | exc _ _ _ => cases e
def dTr {m : Mem} (ta : DT m) : DTT m := fun ρ s Q => ta ρ s fun x ρ1 s1 => ∃ k, tru x = some k ∧ Q k ρ1 s1
theorem dt_truth (ha : PE X a (up X.K m ta)) (he : ∀ whole, isTrue a X.env whole = (do let v ← whole; standAt a.pos; holding [v] (truthy v)) := by intro _; rfl) : PT X a (upT X.K m (dTr ta)) :=
  PT.imp (pt_truth ha he) fun σ H Q h => by
    obtain ⟨F, ρ, s, Qd, rl, ht, hQ⟩ := h
    exact ⟨F, ρ, s, _, rl, ht, fun dx ρ1 s1 x F1 H1 ⟨k, e, q1⟩ r1 st1 rx => ⟨k, tru_rep rx r1.sub e, hQ k ρ1 s1 F1 H1 q1 r1 st1⟩⟩
variable {tA tB : DTT m} {rest : List Expr}
def dAndT {m : Mem} (t u : DTT m) : DTT m := fun ρ s Q => t ρ s fun k ρ1 s1 => ifB k (u ρ1 s1 Q) (Q false ρ1 s1)
def dOrT {m : Mem} (t u : DTT m) : DTT m := fun ρ s Q => t ρ s fun k ρ1 s1 => ifB k (Q true ρ1 s1) (u ρ1 s1 Q)
def dNotT {m : Mem} (t : DTT m) : DTT m := fun ρ s Q => t ρ s fun k ρ1 s1 => Q (!k) ρ1 s1
theorem dw_and1 (ha : PT X a (upT X.K m tA)) : PW X (.BoolOp .And [a] pos) (upT X.K m tA) := pw_and1 ha
theorem dw_or1 (ha : PT X a (upT X.K m tA)) : PW X (.BoolOp .Or [a] pos) (upT X.K m tA) := pw_or1 ha
theorem dw_and (ha : PT X a (upT X.K m tA)) (hb : PW X (.BoolOp .And (b :: rest) pos) (upT X.K m tB)) : PW X (.BoolOp .And (a :: b :: rest) pos) (upT X.K m (dAndT tA tB)) :=
  PW.imp (pw_and ha hb) fun σ H Q h => by
    obtain ⟨F, ρ, s, Qd, rl, ht, hQ⟩ := h
    refine ⟨F, ρ, s, _, rl, ht, fun k ρ1 s1 F1 H1 q1 r1 st1 => ?_⟩
    cases k with
    | true =>
      have q1 := ifB_t q1
      exact iteT ⟨F1, ρ1, s1, _, r1, q1, fun k ρ2 s2 F2 H2 q2 r2 st2 => hQ k ρ2 s2 F2 H2 q2 r2 (st1.trans st2)⟩
    | false => exact iteF (hQ false ρ1 s1 F1 H1 (ifB_f q1) r1 st1)
theorem dw_or (ha : PT X a (upT X.K m tA)) (hb : PW X (.BoolOp .Or (b :: rest) pos) (upT X.K m tB)) : PW X (.BoolOp .Or (a :: b :: rest) pos) (upT X.K m (dOrT tA tB)) :=
  PW.imp (pw_or ha hb) fun σ H Q h => by
    obtain ⟨F, ρ, s, Qd, rl, ht, hQ⟩ := h
    refine ⟨F, ρ, s, _, rl, ht, fun k ρ1 s1 F1 H1 q1 r1 st1 => ?_⟩
    cases k with
    | false =>
      exact iteF ⟨F1, ρ1, s1, _, r1, ifB_f q1, fun k ρ2 s2 F2 H2 q2 r2 st2 => hQ k ρ2 s2 F2 H2 q2 r2 (st1.trans st2)⟩
    | true => exact iteT (hQ true ρ1 s1 F1 H1 (ifB_t q1) r1 st1)
theorem dt_not (ha : PT X a (upT X.K m tA)) : PT X (.UnaryOp .Not a pos) (upT X.K m (dNotT tA)) :=
  PT.imp (pt_not ha) fun σ H Q h => by
    obtain ⟨F, ρ, s, Qd, rl, ht, hQ⟩ := h
    exact ⟨F, ρ, s, _, rl, ht, fun k ρ1 s1 F1 H1 q1 r1 st1 => hQ (!k) ρ1 s1 F1 H1 q1 r1 st1⟩
/-- a if t else b -/
def dIfE {m : Mem} (t : DTT m) (ta tb : DT m) : DT m := fun ρ s Q => t ρ s fun k ρ1 s1 => ifB k (ta ρ1 s1 Q) (tb ρ1 s1 Q)
theorem de_ifExp (hc : PT X c (upT X.K m tA)) (ha : PE X a (up X.K m ta)) (hb : PE X b (up X.K m tb)) : PE X (.IfExp c a b pos) (up X.K m (dIfE tA ta tb)) :=
  PE.imp (pe_ifExp hc ha hb) fun σ H Q h => by
    obtain ⟨F, ρ, s, Qd, rl, ht, hQ⟩ := h
    refine ⟨F, ρ, s, _, rl, ht, fun k ρ1 s1 F1 H1 q1 r1 st1 => ?_⟩
    cases k with
    | true =>
      have q1 := ifB_t q1
      exact iteT ⟨F1, ρ1, s1, _, r1, q1, fun d ρ2 s2 v F2 H2 q2 r2 st2 rv => hQ d ρ2 s2 v F2 H2 q2 r2 (st1.trans st2) rv⟩
    | false => exact iteF ⟨F1, ρ1, s1, _, r1, ifB_f q1, fun d ρ2 s2 v F2 H2 q2 r2 st2 rv => hQ d ρ2 s2 v F2 H2 q2 r2 (st1.trans st2) rv⟩

/-! ### argument lists, displays, calls -/
def daNil {m : Mem} : DTA m := fun ρ s Q => Q [] ρ s
def daCons {m : Mem} (t : DT m) (u : DTA m) : DTA m := fun ρ s Q => t ρ s fun d ρ1 s1 => u ρ1 s1 fun ds ρ2 s2 => Q (d :: ds) ρ2 s2
theorem da_nil : PA X [] (upA X.K m daNil) := PA.imp pa_nil fun σ H Q h => by
  obtain ⟨F, ρ, s, Qd, rl, ht, hQ⟩ := h
  exact hQ [] ρ s [] F H ht rl Stp.refl .nil
theorem up_cons {K : PySem.W.Frag} {t : DT m} {u : DTA m} {σ : L2.St} {H : Hp} {Q : List V → Hp → Prop} (h : upA K m (daCons t u) σ H Q) : tCons (up K m t) (upA K m u) σ H Q := by
  obtain ⟨F, ρ, s, Qd, rl, ht, hQ⟩ := h
  exact ⟨F, ρ, s, _, rl, ht, fun d ρ1 s1 v F1 H1 q1 r1 st1 rv => ⟨F1, ρ1, s1, _, r1, q1, fun ds ρ2 s2 vs F2 H2 q2 r2 st2 rs => hQ (d :: ds) ρ2 s2 (v :: vs) F2 H2 q2 r2 (st1.trans st2) (.cons (Rep.mono st2.ext _ _ rv) rs)⟩⟩
theorem da_cons {t : DT m} {u : DTA m} (ha : PE X e (up X.K m t)) (hr : PA X es (upA X.K m u)) (hs : starEach (e :: es) X.env = (false, eval e X.env) :: starEach es X.env := by rfl) : PA X (e :: es) (upA X.K m (daCons t u)) :=
  PA.imp (pa_cons ha hr hs) fun _ _ _ h => up_cons h
def dTup {m : Mem} (t : DTA m) : DT m := fun ρ s Q => t ρ s fun ds ρ1 s1 => ds.length ≤ sizeLine ∧ Q (.tup ds) ρ1 s1
def dLst {m : Mem} (t : DTA m) : DT m := fun ρ s Q => t ρ s fun ds ρ1 s1 => ds.length ≤ sizeLine ∧ Q (.lst ds) ρ1 s1
variable {u : DTA m}
theorem de_tup {k : Nat} (h : PA X es (upA X.K m u)) : PE X (.Tuple es k pos) (up X.K m (dTup u)) := PE.imp (pe_tup h) fun σ H Q h => by
  obtain ⟨F, ρ, s, Qd, rl, ht, hQ⟩ := h
  refine ⟨F, ρ, s, _, rl, ht, fun ds ρ1 s1 vs F1 H1 ⟨hl, q1⟩ r1 st1 rs => ⟨by rw [rs.length]; exact hl, fun p np => ?_⟩⟩
  have g : Grow F1 H1 (upd F1 p (.tup vs)) (upd H1 p (.tup vs)) := Grow.new r1.sub np
  exact hQ _ ρ1 s1 _ _ _ q1 (r1.grow g) (st1.trans g.stp) ⟨p, vs, rfl, .inl (.inl upd_same), by rw [rs.length]; exact hl, Reps.mono g.fF _ _ rs⟩
theorem de_lst (h : PA X es (upA X.K m u)) : PE X (.List es pos) (up X.K m (dLst u)) := PE.imp (pe_lst h) fun σ H Q h => by
  obtain ⟨F, ρ, s, Qd, rl, ht, hQ⟩ := h
  refine ⟨F, ρ, s, _, rl, ht, fun ds ρ1 s1 vs F1 H1 ⟨hl, q1⟩ r1 st1 rs => ⟨by rw [rs.length]; exact hl, fun p np => ?_⟩⟩
  have g : Grow F1 H1 (upd F1 p (.lst vs)) (upd H1 p (.lst vs)) := Grow.new r1.sub np
  exact hQ _ ρ1 s1 _ _ _ q1 (r1.grow g) (st1.trans g.stp) ⟨p, vs, rfl, upd_same, by rw [rs.length]; exact hl, Reps.mono g.fF _ _ rs⟩
/-- a call of a builtin by name: by its rule over data -/
def dB {m : Mem} (f : List D → (D → Prop) → Prop) (t : DTA m) : DT m := fun ρ s Q => t ρ s fun ds ρ1 s1 => f ds fun d => Q d ρ1 s1
theorem up_b {K : PySem.W.Frag} {r : List V → Hp → VK → Prop} {f : List D → (D → Prop) → Prop} {σ : L2.St} {H : Hp} {Q : VK} (hf : OpN K r f) (h : up K m (dB f u) σ H Q) : tCB r (upA K m u) σ H Q := by
  obtain ⟨F, ρ, s, Qd, rl, ht, hQ⟩ := h
  exact ⟨F, ρ, s, _, rl, ht, fun ds ρ1 s1 vs F1 H1 q1 r1 st1 rs => hf F1 H1 ds vs _ Q r1.sub rs q1 fun d v F2 H2 q2 g rv => hQ d ρ1 s1 v F2 H2 q2 (r1.grow g) (st1.trans g.stp) rv⟩
variable {x : Str} {p : Pos} {id T : String} {r : List V → Hp → VK → Prop} {f : List D → (D → Prop) → Prop}
theorem de_callB (hc : CallR X (.builtin id) r) (hf : OpN X.K r f) (hg : Gl X x) (hm : X.mg x = none) (hv : bootBuiltins x = some (.builtin id)) (ha : PA X (e :: es) (upA X.K m u)) (hn : x ≠ "__name__" := by decide) (hdb : (x == ("__debug__" : Str)) = false := by decide)
    (he : starEach (e :: es) X.env = (false, eval e X.env) :: starEach es X.env := by rfl) (hpl : (backTo pos (starEach es X.env)).any (·.1) = false := by rfl) : PE X (.Call (.Name x p) (e :: es) [] pos) (up X.K m (dB f u)) :=
  PE.imp (pe_callB hc hg hm hv ha hn hdb he hpl) fun _ _ _ h => up_b hf h
theorem de_callTy (hc : CallR X (.type T) r) (hf : OpN X.K r f) (hg : Gl X x) (hm : X.mg x = none) (hv : bootBuiltins x = some (.type T)) (ha : PA X (e :: es) (upA X.K m u)) (hn : x ≠ "__name__" := by decide) (hdb : (x == ("__debug__" : Str)) = false := by decide)
    (he : starEach (e :: es) X.env = (false, eval e X.env) :: starEach es X.env := by rfl) (hpl : (backTo pos (starEach es X.env)).any (·.1) = false := by rfl) : PE X (.Call (.Name x p) (e :: es) [] pos) (up X.K m (dB f u)) :=
  PE.imp (pe_callTy hc hg hm hv ha hn hdb he hpl) fun _ _ _ h => up_b hf h
/-! ### methods of built-in types -/
def tyD : D → String → Bool
  | .str _, T => T == "str"
  | .lst _, T => T == "list"
  | .dic _ _, T => T == "dict"
  | _, _ => false
theorem tyD_ok {K : PySem.W.Frag} {F H : Hp} {d : D} {v : V} {T : String} (h : Rep K F d v) (sub : Same F H) (e : tyD d T = true) : tyV K T v H := by
  cases d with
  | str x => obtain ⟨rfl, _⟩ := h; exact beq_iff_eq.mp e
  | lst xs => obtain ⟨a, vs, rfl, h1, _, _⟩ := h; exact .inl ⟨beq_iff_eq.mp e, vs, .inl (.inl (sub _ _ h1))⟩
  | dic ks ds => obtain ⟨a, kvs, rfl, h1, _, _⟩ := h; exact .inr (.inr (.inl ⟨beq_iff_eq.mp e, .inl ⟨kvs, sub _ _ h1⟩⟩))
  | _ => exact absurd e (by simp [tyD])
def dMt {m : Mem} (T : String) (f : D → List D → (D → Prop) → Prop) (to : DT m) (t : DTA m) : DT m := fun ρ s Q => to ρ s fun x ρ1 s1 => tyD x T = true ∧ t ρ1 s1 fun ds ρ2 s2 => f x ds fun d => Q d ρ2 s2
variable {o : Expr} {to : DT m} {name : Str} {apos cpos : Pos} {rM : V → List V → Hp → VK → Prop} {fM : D → List D → (D → Prop) → Prop}
theorem de_m (pa : PlainAttrs T) (slot : Slot T name id) (hty : typeOf (.builtin id) = pure (.type "method_descriptor")) (hm : MtR X id rM) (hf : OpM X.K rM fM) (ho : PE X o (up X.K m to)) (ha : PA X (e :: es) (upA X.K m u))
    (hbase : attributeBase o name X.env (eval o X.env) = eval o X.env := by rfl)
    (hfew : ((backTo cpos (starEach (e :: es) X.env)).all (fun x => !x.1) && (backToKw cpos (keywordEach [] X.env)).all (fun x => x.1.isSome)
      && decide ((e :: es).length + ([] : List Keyword).length + (if ([] : List Keyword).isEmpty then 0 else 1) < 30)) = true := by rfl)
    (hline : (apos.endLine == cpos.line) = true := by rfl) (hs : starEach (e :: es) X.env = (false, eval e X.env) :: starEach es X.env := by rfl) (hplain : (backTo cpos (starEach es X.env)).any (·.1) = false := by rfl) :
    PE X (.Call (.Attribute o name apos) (e :: es) [] cpos) (up X.K m (dMt T fM to u)) := PE.imp (pe_bm pa slot hty hm ho ha hbase hfew hline hs hplain) fun σ H Q h => by
  obtain ⟨F, ρ, s, Qd, rl, ht, hQ⟩ := h
  refine ⟨F, ρ, s, _, rl, ht, fun dx ρ1 s1 x F1 H1 ⟨hT, q1⟩ r1 st1 rx => ⟨tyD_ok rx r1.sub hT, F1, ρ1, s1, _, r1, q1, fun ds ρ2 s2 vs F2 H2 q2 r2 st2 rs => ?_⟩⟩
  exact hf F2 H2 dx x ds vs _ Q r2.sub (Rep.mono st2.ext _ _ rx) rs q2 fun d v F3 H3 q3 g rv => hQ d ρ2 s2 v F3 H3 q3 (r2.grow g) ((st1.trans st2).trans g.stp) rv
/-! ### subscripts, slices -/
theorem de_ix {r2 : R2} {f2 : D → D → (D → Prop) → Prop} (hr : IxR X r2) (hf : Op2 X.K r2 f2) (ha : PE X a (up X.K m ta)) (hb : PE X b (up X.K m tb)) (hs : PlainIx b := by exact fun _ _ => rfl) : PE X (.Subscript a b pos) (up X.K m (dOp f2 ta tb)) :=
  PE.imp (pe_ix hr ha hb hs) fun _ _ _ h => up_op hf h
abbrev DTO (m : Mem) := List Sl → m.S → (Option Int → List Sl → m.S → Prop) → Prop
def upO (K : PySem.W.Frag) (m : Mem) (t : DTO m) : TO := fun σ H Q => ∃ F ρ s Qd, Rel K m F H σ ρ s ∧ t ρ s Qd ∧ ∀ b ρ' s' F' H', Qd b ρ' s' → Rel K m F' H' σ ρ' s' → Stp m F H σ ρ s F' H' ρ' s' → Q b H'
theorem PO.imp {eo : Option Expr} {t t' : TO} (h : PO X eo t) (w : ∀ σ H Q, t' σ H Q → t σ H Q) : PO X eo t' := ⟨fun pins s σ H Q I q => h.run pins s σ H Q I (w σ H Q q)⟩
def doNone {m : Mem} : DTO m := fun ρ s Q => Q none ρ s
def doSome {m : Mem} (t : DT m) : DTO m := fun ρ s Q => t ρ s fun d ρ1 s1 => ∃ i, d = .int i ∧ Q (some i) ρ1 s1
theorem do_none : PO X none (upO X.K m doNone) := PO.imp po_none fun σ H Q h => by
  obtain ⟨F, ρ, s, Qd, rl, ht, hQ⟩ := h
  exact hQ none ρ s F H ht rl Stp.refl
theorem do_some (he : PE X e (up X.K m ta)) : PO X (some e) (upO X.K m (doSome ta)) := PO.imp (po_some he) fun σ H Q h => by
  obtain ⟨F, ρ, s, Qd, rl, ht, hQ⟩ := h
  refine ⟨F, ρ, s, _, rl, ht, fun d ρ1 s1 x F1 H1 ⟨i, e, q1⟩ r1 st1 rx => ?_⟩
  subst e
  cases rx
  exact ⟨i, rfl, hQ (some i) ρ1 s1 F1 H1 q1 r1 st1⟩
def OpS (K : PySem.W.Frag) (r : V → Option Int → Option Int → Hp → VK → Prop) (f : D → Option Int → Option Int → (D → Prop) → Prop) : Prop := ∀ F H dx x lo hi Qd Q, Same F H → Rep K F dx x → f dx lo hi Qd → (∀ d v F' H', Qd d → Grow F H F' H' → Rep K F' d v → Q v H') → r x lo hi H Q
def dSl {m : Mem} (f : D → Option Int → Option Int → (D → Prop) → Prop) (te : DT m) (tl th : DTO m) : DT m := fun ρ s Q => te ρ s fun x ρ1 s1 => tl ρ1 s1 fun l ρ2 s2 => th ρ2 s2 fun h ρ3 s3 => f x l h fun d => Q d ρ3 s3
theorem de_slice {rs : V → Option Int → Option Int → Hp → VK → Prop} {fs : D → Option Int → Option Int → (D → Prop) → Prop} {lo hi : Option Expr} {tl th : DTO m} {p2 : Pos} (hr : SlR X rs) (hf : OpS X.K rs fs) (he : PE X e (up X.K m ta)) (hl : PO X lo (upO X.K m tl)) (hh : PO X hi (upO X.K m th)) :
    PE X (.Subscript e (.Slice lo hi none p2) pos) (up X.K m (dSl fs ta tl th)) := PE.imp (pe_slice hr he hl hh) fun σ H Q h => by
  obtain ⟨F, ρ, s, Qd, rl, ht, hQ⟩ := h
  refine ⟨F, ρ, s, _, rl, ht, fun dx ρ1 s1 x F1 H1 q1 r1 st1 rx => ⟨F1, ρ1, s1, _, r1, q1, fun l ρ2 s2 F2 H2 q2 r2 st2 => ⟨F2, ρ2, s2, _, r2, q2, fun h ρ3 s3 F3 H3 q3 r3 st3 => ?_⟩⟩⟩
  exact hf F3 H3 dx x l h _ Q r3.sub (Rep.mono (st2.ext.trans st3.ext) _ _ rx) q3 fun d v F4 H4 q4 g rv => hQ d ρ3 s3 v F4 H4 q4 (r3.grow g) ((st1.trans st2).trans (st3.trans g.stp)) rv
/-! ### and, or, not of values by truth -/
def dAndV {m : Mem} (ta tb : DT m) : DT m := fun ρ s Q => ta ρ s fun x ρ1 s1 => ∃ k, tru x = some k ∧ ifB k (tb ρ1 s1 Q) (Q x ρ1 s1)
def dOrV {m : Mem} (ta tb : DT m) : DT m := fun ρ s Q => ta ρ s fun x ρ1 s1 => ∃ k, tru x = some k ∧ ifB k (Q x ρ1 s1) (tb ρ1 s1 Q)
theorem de_one {op} (h : PE X a (up X.K m ta)) : PE X (.BoolOp op [a] pos) (up X.K m ta) := pe_one h
theorem de_and (ha : PE X a (up X.K m ta)) (hb : PE X (.BoolOp .And (b :: rest) pos) (up X.K m tb)) : PE X (.BoolOp .And (a :: b :: rest) pos) (up X.K m (dAndV ta tb)) :=
  PE.imp (pe_andT ha hb) fun σ H Q h => by
    obtain ⟨F, ρ, s, Qd, rl, ht, hQ⟩ := h
    refine ⟨F, ρ, s, _, rl, ht, fun d ρ1 s1 x F1 H1 ⟨k, ek, q1⟩ r1 st1 rx => ⟨k, tru_rep rx r1.sub ek, ?_⟩⟩
    cases k with
    | true =>
      have q1 := ifB_t q1
      exact iteT ⟨F1, ρ1, s1, _, r1, q1, fun d ρ2 s2 v F2 H2 q2 r2 st2 rv => hQ d ρ2 s2 v F2 H2 q2 r2 (st1.trans st2) rv⟩
    | false => exact iteF (hQ d ρ1 s1 x F1 H1 (ifB_f q1) r1 st1 rx)
theorem de_or (ha : PE X a (up X.K m ta)) (hb : PE X (.BoolOp .Or (b :: rest) pos) (up X.K m tb)) : PE X (.BoolOp .Or (a :: b :: rest) pos) (up X.K m (dOrV ta tb)) :=
  PE.imp (pe_orT ha hb) fun σ H Q h => by
    obtain ⟨F, ρ, s, Qd, rl, ht, hQ⟩ := h
    refine ⟨F, ρ, s, _, rl, ht, fun d ρ1 s1 x F1 H1 ⟨k, ek, q1⟩ r1 st1 rx => ⟨k, tru_rep rx r1.sub ek, ?_⟩⟩
    cases k with
    | false => exact iteF ⟨F1, ρ1, s1, _, r1, ifB_f q1, fun d ρ2 s2 v F2 H2 q2 r2 st2 rv => hQ d ρ2 s2 v F2 H2 q2 r2 (st1.trans st2) rv⟩
    | true => exact iteT (hQ d ρ1 s1 x F1 H1 (ifB_t q1) r1 st1 rx)
/-! ### a def's promise over data, its call -/
abbrev DSp (m : Mem) := List D → m.S → (D → m.S → Prop) → Prop
structure CStp (m : Mem) (F H : Hp) (s : m.S) (F' H' : Hp) (s' : m.S) : Prop where
  ext : Same F F'
  keep : ∀ a o, H a = some o → ¬ m.R s a → H' a = some o
  alive : ∀ a, H a ≠ none → H' a ≠ none
  fresh : ∀ a o, F' a = some o → F a = some o ∨ H a = none
  regf : ∀ a, m.R s' a → m.R s a ∨ H a = none
  sub : Same F' H'
  mem : m.M s' H'
  reg : ∀ a, m.R s' a → F' a = none
def lift (K : PySem.W.Frag) (m : Mem) (n : Nat) (sp : DSp m) : Sp := fun vs H Q _ => vs.length = n ∧ ∃ F ds s Qd, Same F H ∧ m.M s H ∧ (∀ a, m.R s a → F a = none) ∧ Reps K F ds vs ∧ sp ds s Qd ∧
  ∀ d s' v F' H', Qd d s' → CStp m F H s F' H' s' → Rep K F' d v → Q v H'
theorem CStp.stp {F H F' H' : Hp} {s s' : m.S} (c : CStp m F H s F' H' s') {σ : L2.St} {ρ : List Sl} : Stp m F H σ ρ s F' H' ρ s' :=
  ⟨c.ext, c.keep, c.alive, fun a o h => (c.fresh a o h).elim .inl fun z => .inr (.inl z), c.regf, fun _ _ h => h⟩
theorem Rel.call {K : PySem.W.Frag} {F H F' H' : Hp} {σ : L2.St} {ρ : List Sl} {s s' : m.S} (r : Rel K m F H σ ρ s) (c : CStp m F H s F' H' s') : Rel K m F' H' σ ρ s' where
  sub := c.sub
  mem := c.mem
  reg := c.reg
  len := r.len
  sh := fun i d e => by
    obtain ⟨v, h1, h2⟩ := r.sh i d e
    exact ⟨v, h1, Rep.mono c.ext _ _ h2⟩
  ow := fun i o e => by
    obtain ⟨p, ho, h1, h2, h3, h4, h5⟩ := r.own_at e
    exact ⟨p, ho, h1, c.keep p ho h2 h5, h3.mono c.ext⟩
  owF := fun i p h => by
    obtain ⟨⟨o, e⟩, hσ⟩ := id h
    obtain ⟨p', ho, h1, h2, h3, h4, h5⟩ := r.own_at e
    rw [hσ] at h1; cases h1
    refine ⟨?_, fun z => ?_⟩
    · cases q : F' p with
      | none => rfl
      | some u =>
        rcases c.fresh p u q with z | z
        · rw [h4] at z; cases z
        · rw [z] at h2; cases h2
    · rcases c.regf p z with z | z
      · exact h5 z
      · rw [z] at h2; cases h2
  uq := r.uq
def dCall {m : Mem} (sp : DSp m) (t : DTA m) : DT m := fun ρ s Q => t ρ s fun ds ρ1 s1 => sp ds s1 fun d s' => Q d ρ1 s'
theorem up_call {K : PySem.W.Frag} {n : Nat} {sp : DSp m} {σ : L2.St} {H : Hp} {Q : VK} {E : XK} (hn : ∀ ds s Qd, sp ds s Qd → ds.length = n) (h : up K m (dCall sp u) σ H Q) : tCall (lift K m n sp) [] E (upA K m u) σ H Q := by
  obtain ⟨F, ρ, s, Qd, rl, ht, hQ⟩ := h
  refine ⟨F, ρ, s, _, rl, ht, fun ds ρ1 s1 vs F1 H1 q1 r1 st1 rs => ?_⟩
  show lift K m n sp (vs ++ []) H1 Q E
  rw [List.append_nil]
  exact ⟨by rw [rs.length]; exact hn _ _ _ q1, F1, ds, s1, _, r1.sub, r1.mem, r1.reg, rs, q1, fun d s' v F2 H2 q2 c rv => hQ d ρ1 s' v F2 H2 q2 (r1.call c) (st1.trans c.stp) rv⟩
theorem de_call {k n : Nat} {fa : Addr} {fd : FuncData} {ps : List Str} {sp : DSp m} (G : FnG X.prog X.w X.K X.mg X.base CX0 k fa fd ps (lift X.K m n sp)) (hn : ∀ ds s Qd, sp ds s Qd → ds.length = n) (hr : RoomG k X.A) (hg : Gl X x) (hm : X.mg x = some (.ref fa)) (hk : PySem.W.keepIn X.K (.ref fa) = true) (hb : Binds X.K fd ps [])
    (ha : PA X (e :: es) (upA X.K m u)) (hdb : (x == ("__debug__" : Str)) = false := by decide) (he : starEach (e :: es) X.env = (false, eval e X.env) :: starEach es X.env := by rfl) (hpl : (backTo pos (starEach es X.env)).any (·.1) = false := by rfl) :
    PE X (.Call (.Name x p) (e :: es) [] pos) (up X.K m (dCall sp u)) := PE.imp (pg_call G hr hg hm hk hb .nil pass0 ha hdb he hpl) fun _ _ _ h => up_call hn h
end
end DL

set_option Elab.async false
set_option linter.all false
set_option maxRecDepth 100000
namespace DL
open PySem PySem.Spec PyProof.Rows L2

/-! ### statements -/
/-- the state at a def's entry -/
structure Ent (m : Mem) where
  F : Hp
  H : Hp
  s : m.S
/-- what has become of it -/
structure Own (m : Mem) (E : Ent m) (F H : Hp) (σ : L2.St) (ρ : List Sl) (s : m.S) : Prop where
  ext : Same E.F F
  keep : ∀ a o, E.H a = some o → ¬ m.R E.s a → H a = some o
  alive : ∀ a, E.H a ≠ none → H a ≠ none
  fresh : ∀ a o, F a = some o → E.F a = some o ∨ E.H a = none
  regf : ∀ a, m.R s a → m.R E.s a ∨ E.H a = none
  own : ∀ (i : Nat) p, Owns σ ρ i p → E.H p = none
theorem Own.stp {m : Mem} {E : Ent m} {F H F' H' : Hp} {σ : L2.St} {ρ ρ' : List Sl} {s s' : m.S} (o : Own m E F H σ ρ s) (st : Stp m F H σ ρ s F' H' ρ' s') : Own m E F' H' σ ρ' s' where
  ext := o.ext.trans st.ext
  keep := fun a x h n => st.keep a x (o.keep a x h n) fun r => by
    rcases o.regf a r with z | z
    · exact n z
    · rw [z] at h; cases h
  alive := fun a h => st.alive a (o.alive a h)
  fresh := fun a x h => by
    rcases st.fresh a x h with z | z | ⟨i, z⟩
    · exact o.fresh a x z
    · refine .inr ?_
      cases q : E.H a with
      | none => rfl
      | some u => exact absurd z (o.alive a (by rw [q]; simp))
    · exact .inr (o.own i a z)
  regf := fun a h => by
    rcases st.regf a h with z | z
    · exact o.regf a z
    · refine .inr ?_
      cases q : E.H a with
      | none => rfl
      | some u => exact absurd z (o.alive a (by rw [q]; simp))
  own := fun i p h => o.own i p (st.owns h)
structure DEnds (m : Mem) where
  nx : List Sl → m.S → Prop
  rt : D → m.S → Prop
  bk : List Sl → m.S → Prop := fun _ _ => False
  ct : List Sl → m.S → Prop := fun _ _ => False
abbrev DTS (m : Mem) := DEnds m → List Sl → m.S → Prop
structure Fits (K : PySem.W.Frag) (m : Mem) (E : Ent m) (F0 : Hp) (dd : DEnds m) (DD : Ends) : Prop where
  nx : ∀ F H σ ρ s, Same F0 F → Rel K m F H σ ρ s → Own m E F H σ ρ s → dd.nx ρ s → DD.nx σ H
  rt : ∀ F H σ ρ s d v, Same F0 F → Rel K m F H σ ρ s → Own m E F H σ ρ s → Rep K F d v → dd.rt d s → DD.rt v H
  bk : ∀ F H σ ρ s, Same F0 F → Rel K m F H σ ρ s → Own m E F H σ ρ s → dd.bk ρ s → DD.bk σ H
  ct : ∀ F H σ ρ s, Same F0 F → Rel K m F H σ ρ s → Own m E F H σ ρ s → dd.ct ρ s → DD.ct σ H
theorem Fits.mono {K : PySem.W.Frag} {m : Mem} {E : Ent m} {F0 F1 : Hp} {dd : DEnds m} {DD : Ends} (f : Fits K m E F0 dd DD) (h : Same F0 F1) : Fits K m E F1 dd DD :=
  ⟨fun F H σ ρ s q => f.nx F H σ ρ s (h.trans q), fun F H σ ρ s d v q => f.rt F H σ ρ s d v (h.trans q), fun F H σ ρ s q => f.bk F H σ ρ s (h.trans q), fun F H σ ρ s q => f.ct F H σ ρ s (h.trans q)⟩
def upS (K : PySem.W.Frag) (m : Mem) (E : Ent m) (t : DTS m) : TS := fun DD σ H => ∃ F ρ s dd, Rel K m F H σ ρ s ∧ Own m E F H σ ρ s ∧ t dd ρ s ∧ Fits K m E F dd DD

section
variable {X : Cx} {m : Mem} {E : Ent m} {st : Stmt} {rest : List Stmt} {t u : DTS m} {e : Expr} {te : DT m} {pos : Pos}
def dNext {m : Mem} : DTS m := fun dd ρ s => dd.nx ρ s
def dSeq {m : Mem} (t u : DTS m) : DTS m := fun dd ρ s => t { dd with nx := u dd } ρ s
theorem dss_nil : PSs X [] (upS X.K m E dNext) := PSs.imp pss_nil fun DD σ H h => by
  obtain ⟨F, ρ, s, dd, r, o, ht, f⟩ := h
  exact f.nx F H σ ρ s (Same.refl F) r o ht
theorem dss_cons (h1 : PS X st (upS X.K m E t)) (h2 : PSs X rest (upS X.K m E u)) : PSs X (st :: rest) (upS X.K m E (dSeq t u)) := PSs.imp (pss_cons h1 h2) fun DD σ H h => by
  obtain ⟨F, ρ, s, dd, r, o, ht, f⟩ := h
  exact ⟨F, ρ, s, _, r, o, ht, ⟨fun F' H' σ' ρ' s' sm r' o' q => ⟨F', ρ', s', dd, r', o', q, f.mono sm⟩, f.rt, f.bk, f.ct⟩⟩
theorem dss_one (h1 : PS X st (upS X.K m E t)) : PSs X [st] (upS X.K m E t) := pss_one h1
def dRet {m : Mem} (te : DT m) : DTS m := fun dd ρ s => te ρ s fun d _ s1 => dd.rt d s1
theorem ds_ret (he : PE X e (up X.K m te)) : PS X (.Return (some e) pos) (upS X.K m E (dRet te)) := PS.imp (ps_ret he) fun DD σ H h => by
  obtain ⟨F, ρ, s, dd, r, o, ht, f⟩ := h
  exact ⟨F, ρ, s, _, r, ht, fun d ρ1 s1 v F1 H1 q1 r1 st1 rv => f.rt F1 H1 σ ρ1 s1 d v st1.ext r1 (o.stp st1) rv q1⟩
def dIf {m : Mem} (c : DTT m) (t u : DTS m) : DTS m := fun dd ρ s => c ρ s fun b ρ1 s1 => ifB b (t dd ρ1 s1) (u dd ρ1 s1)
theorem ds_if {c : Expr} {a b : List Stmt} {tc : DTT m} (hc : PT X c (upT X.K m tc)) (ha : PSs X a (upS X.K m E t)) (hb : PSs X b (upS X.K m E u)) : PS X (.If c a b pos) (upS X.K m E (dIf tc t u)) := PS.imp (ps_if hc ha hb) fun DD σ H h => by
  obtain ⟨F, ρ, s, dd, r, o, ht, f⟩ := h
  refine ⟨F, ρ, s, _, r, ht, fun b ρ1 s1 F1 H1 q1 r1 st1 => ?_⟩
  cases b with
  | true =>
    have q1 := ifB_t q1
    exact iteT ⟨F1, ρ1, s1, dd, r1, o.stp st1, q1, f.mono st1.ext⟩
  | false => exact iteF ⟨F1, ρ1, s1, dd, r1, o.stp st1, ifB_f q1, f.mono st1.ext⟩

/-! ### names stored -/
theorem Own.put {K : PySem.W.Frag} {F H : Hp} {σ : L2.St} {ρ : List Sl} {s : m.S} (o : Own m E F H σ ρ s) {i : Nat} {d : D} {v : V} : Own m E F H (σ.set i (some v)) (ρ.set i (.sh d)) s :=
  ⟨o.ext, o.keep, o.alive, o.fresh, o.regf, fun j p ⟨⟨ob, h1⟩, h2⟩ => by
    by_cases hj : i = j
    · subst hj
      by_cases hi : i < ρ.length
      · rw [List.getElem?_set_self hi] at h1; cases h1
      · rw [List.getElem?_eq_none (by simpa using hi)] at h1; cases h1
    · rw [List.getElem?_set_ne hj] at h1 h2; exact o.own j p ⟨⟨ob, h1⟩, h2⟩⟩
def dSet {m : Mem} (i : Nat) (te : DT m) : DTS m := fun dd ρ s => te ρ s fun d ρ1 s1 => dd.nx (ρ1.set i (.sh d)) s1
theorem ds_set (i : Nat) {x : Str} {pos' : Pos} (hN : X.N.Nodup) (he : PE X e (up X.K m te)) (hi : X.N[i]? = some x := by rfl) (hx : Loc X.env.scope x := by first | exact Or.inl rfl | exact Or.inr rfl) (hs : swapsWith e (some (.Name x pos')) pos.line X.env = pure false := by rfl)
    (hf : X.fn x = true ∨ X.env.scope.names.lookup x = some .local := by first | exact .inl rfl | exact .inr rfl) :
    PS X (.Assign [.Name x pos'] e pos) (upS X.K m E (dSet i te)) := PS.imp (ps_set hN hi hx he hs hf) fun DD σ H h => by
  obtain ⟨F, ρ, s, dd, r, o, ht, f⟩ := h
  exact ⟨F, ρ, s, _, r, ht, fun d ρ1 s1 v F1 H1 q1 r1 st1 rv => f.nx F1 H1 _ _ s1 st1.ext (r1.put rv) ((o.stp st1).put (K := X.K)) q1⟩
/-- x = [..], the list to be changed by this def -/
theorem Own.putO {K : PySem.W.Frag} {F H : Hp} {σ : L2.St} {ρ : List Sl} {s : m.S} (r : Rel K m F H σ ρ s) (o : Own m E F H σ ρ s) {i : Nat} {ob : Ob} {p : Addr} {ho : HO} (n : H p = none) : Own m E F (upd H p ho) (σ.set i (some (.ref p))) (ρ.set i (.ow ob)) s := by
  have eH : E.H p = none := by
    cases q : E.H p with
    | none => rfl
    | some u => exact absurd n (o.alive p (by rw [q]; simp))
  refine ⟨o.ext, fun a x h nr => ?_, fun a h => ?_, o.fresh, o.regf, fun j q ⟨⟨ob', h1⟩, h2⟩ => ?_⟩
  · rw [upd_ne (ne_of_none h eH)]; exact o.keep a x h nr
  · have hp : a ≠ p := fun z => h (z ▸ eH)
    rw [upd_ne hp]; exact o.alive a h
  · by_cases hj : i = j
    · subst hj
      have hi : i < σ.length := by
        have := (List.getElem?_eq_some_iff.mp h2).1
        rw [List.length_set] at this; exact this
      rw [List.getElem?_set_self hi] at h2
      cases h2
      exact eH
    · rw [List.getElem?_set_ne hj] at h1 h2; exact o.own j q ⟨⟨ob', h1⟩, h2⟩
def dSetL {m : Mem} (i : Nat) (ta : DTA m) : DTS m := fun dd ρ s => ta ρ s fun ds ρ1 s1 => ds.length ≤ sizeLine ∧ dd.nx (ρ1.set i (.ow (.lst ds))) s1
theorem ds_setL (i : Nat) {x : Str} {es : List Expr} {pos' lpos : Pos} {ta : DTA m} (hN : X.N.Nodup) (ha : PA X es (upA X.K m ta)) (hi : X.N[i]? = some x := by rfl) (hx : Loc X.env.scope x := by first | exact Or.inl rfl | exact Or.inr rfl)
    (hs : swapsWith (.List es lpos) (some (.Name x pos')) pos.line X.env = pure false := by rfl) (hf : X.fn x = true ∨ X.env.scope.names.lookup x = some .local := by first | exact .inl rfl | exact .inr rfl) :
    PS X (.Assign [.Name x pos'] (.List es lpos) pos) (upS X.K m E (dSetL i ta)) := PS.imp (ps_set hN hi hx (pe_lst ha) hs hf) fun DD σ H h => by
  obtain ⟨F, ρ, s, dd, r, o, ht, f⟩ := h
  refine ⟨F, ρ, s, _, r, ht, fun ds ρ1 s1 vs F1 H1 ⟨hl, q1⟩ r1 st1 rs => ⟨by rw [rs.length]; exact hl, fun p np => ?_⟩⟩
  exact f.nx F1 _ _ _ s1 st1.ext (r1.putO (o := .lst ds) np ⟨vs, rfl, by rw [rs.length]; exact hl, rs⟩) (Own.putO r1 (o.stp st1) np) q1
/-- x.append(e), the list x's own -/
def dApp {m : Mem} (i : Nat) (te : DT m) : DTS m := fun dd ρ s => (∃ ds0, ρ[i]? = some (.ow (.lst ds0))) ∧ te ρ s fun d ρ1 s1 => ∃ ds, ρ1[i]? = some (.ow (.lst ds)) ∧ ds.length < sizeLine ∧ dd.nx (ρ1.set i (.ow (.lst (ds ++ [d])))) s1
theorem Own.write {K : PySem.W.Frag} {F H : Hp} {σ : L2.St} {ρ : List Sl} {s : m.S} (o : Own m E F H σ ρ s) {i : Nat} {ob ob' : Ob} {p : Addr} {ho : HO} (e : ρ[i]? = some (.ow ob)) (eσ : σ[i]? = some (some (V.ref p))) : Own m E F (upd H p ho) σ (ρ.set i (.ow ob')) s := by
  have eH : E.H p = none := o.own i p ⟨⟨ob, e⟩, eσ⟩
  refine ⟨o.ext, fun a x h nr => ?_, fun a h => ?_, o.fresh, o.regf, fun j q ⟨⟨u, h1⟩, h2⟩ => ?_⟩
  · rw [upd_ne (ne_of_none h eH)]; exact o.keep a x h nr
  · have hp : a ≠ p := fun z => h (z ▸ eH)
    rw [upd_ne hp]; exact o.alive a h
  · by_cases hj : i = j
    · subst hj; exact o.own i q ⟨⟨ob, e⟩, h2⟩
    · rw [List.getElem?_set_ne hj] at h1; exact o.own j q ⟨⟨u, h1⟩, h2⟩
theorem ds_app (i : Nat) {x : Str} {xpos apos cpos : Pos} (he : PE X e (up X.K m te)) (hN : X.N[i]? = some x := by rfl) (hv : Vis X.env.scope x := by first | exact Or.inl rfl | exact Or.inr (Or.inl rfl) | exact Or.inr (Or.inr rfl))
    (hd : (x == ("__debug__" : Str)) = false := by decide) (hcd : (x == ("__classdict__" : Str)) = false := by decide)
    (hbase : attributeBase (.Name x xpos) "append" X.env (eval (.Name x xpos) X.env) = eval (.Name x xpos) X.env := by rfl)
    (hfew : ((backTo cpos (starEach [e] X.env)).all (fun x => !x.1) && (backToKw cpos (keywordEach [] X.env)).all (fun x => x.1.isSome)
      && decide ([e].length + ([] : List Keyword).length + (if ([] : List Keyword).isEmpty then 0 else 1) < 30)) = true := by rfl)
    (hline : (apos.endLine == cpos.line) = true := by rfl) (hs : starEach [e] X.env = [(false, eval e X.env)] := by rfl)
    (hsw : swapsWith (.Call (.Attribute (.Name x xpos) "append" apos) [e] [] cpos) none pos.line X.env = pure false := by rfl) :
    PS X (.Expr (.Call (.Attribute (.Name x xpos) "append" apos) [e] [] cpos) pos) (upS X.K m E (dApp i te)) :=
  PS.imp (ps_expr (pe_bm PySem.F.plainAttrs_list PySem.F.slot_list_append PySem.F.type_list_append mt_append (pv i hN hv hd hcd) (pa_cons he pa_nil (by rw [hs]; rfl)) hbase hfew hline (by rw [hs]; rfl) rfl) hsw) fun DD σ H h => by
  obtain ⟨F, ρ, s, dd, r, o, ⟨⟨ds0, e0⟩, ht⟩, f⟩ := h
  obtain ⟨p, ho, h1, h2, ⟨vs0, rfl, hl0, rs0⟩, h4, h5⟩ := r.own_at e0
  refine ⟨_, h1, .inl ⟨rfl, vs0, .inl (.inl h2)⟩, F, ρ, s, _, r, ht, fun d ρ1 s1 v F1 H1 ⟨ds, e1, hz, q1⟩ r1 st1 rv => ?_⟩
  obtain ⟨p', ho, g1, g2, ⟨vs, rfl, hl, rs⟩, g4, g5⟩ := r1.own_at e1
  rw [h1] at g1; cases g1
  have hlen := rs.length
  refine ⟨p, vs, v, rfl, rfl, g2, by omega, ?_⟩
  refine f.nx F1 _ σ _ s1 st1.ext (r1.write (o' := .lst (ds ++ [d])) e1 h1 ⟨vs ++ [v], rfl, by rw [List.length_append]; exact (by simp; omega), rs.append (.one rv)⟩) ((o.stp st1).write (K := X.K) e1 h1) q1

/-! ### what a target is bound to -/
abbrev DG := D → List Sl → (List Sl → Prop) → Prop
/-- ts: the slots that the target stores -/
def upG (K : PySem.W.Frag) (m : Mem) (ts : List Nat) (g : DG) : TG := fun v σ H Q => ∃ F ρ s d Qd, Rel K m F H σ ρ s ∧ Rep K F d v ∧ g d ρ Qd ∧
  ∀ σ' ρ', Qd ρ' → Rel K m F H σ' ρ' s → (∀ i p, Owns σ' ρ' i p → Owns σ ρ i p) → (σ'.length = σ.length ∧ ∀ j, j ∉ ts → σ'[j]? = σ[j]?) → Q σ' H
def upGs (K : PySem.W.Frag) (m : Mem) (ts : List Nat) (g : List D → List Sl → (List Sl → Prop) → Prop) : TGs := fun vs σ H Q => ∃ F ρ s ds Qd, Rel K m F H σ ρ s ∧ Reps K F ds vs ∧ g ds ρ Qd ∧
  ∀ σ' ρ', Qd ρ' → Rel K m F H σ' ρ' s → (∀ i p, Owns σ' ρ' i p → Owns σ ρ i p) → (σ'.length = σ.length ∧ ∀ j, j ∉ ts → σ'[j]? = σ[j]?) → Q σ' H
theorem PG.imp {tg : Expr} {g g' : TG} (h : PG X tg g) (w : ∀ v σ H Q, g' v σ H Q → g v σ H Q) : PG X tg g' := ⟨fun pins s σ H v u Q I r q => h.run pins s σ H v u Q I r (w v σ H Q q)⟩
theorem PGs.imp {tg : List Expr} {g g' : TGs} (h : PGs X tg g) (w : ∀ v σ H Q, g' v σ H Q → g v σ H Q) : PGs X tg g' := ⟨fun pins s σ H v u Q I r q => h.run pins s σ H v u Q I r (w v σ H Q q)⟩
def gN (i : Nat) : DG := fun d ρ Q => Q (ρ.set i (.sh d))
theorem owns_put {σ : L2.St} {ρ : List Sl} {i : Nat} {d : D} {v : V} {j : Nat} {q : Addr} (h : Owns (σ.set i (some v)) (ρ.set i (.sh d)) j q) : Owns σ ρ j q := by
  obtain ⟨⟨o', h1⟩, h2⟩ := h
  by_cases hj : i = j
  · subst hj
    by_cases hi : i < ρ.length
    · rw [List.getElem?_set_self hi] at h1; cases h1
    · rw [List.getElem?_eq_none (by simpa using hi)] at h1; cases h1
  · rw [List.getElem?_set_ne hj] at h1 h2; exact ⟨⟨o', h1⟩, h2⟩
theorem dg_name (i : Nat) {x : Str} (hN : X.N.Nodup) (hi : X.N[i]? = some x := by rfl) (hx : Loc X.env.scope x := by first | exact Or.inl rfl | exact Or.inr rfl) (hf : X.fn x = true ∨ X.env.scope.names.lookup x = some .local := by first | exact .inl rfl | exact .inr rfl) :
    PG X (.Name x pos) (upG X.K m [i] (gN i)) := PG.imp (pg_name hN hi hx hf) fun v σ H Q h => by
  obtain ⟨F, ρ, s, d, Qd, r, rv, hg, hQ⟩ := h
  exact hQ _ _ hg (r.put rv) (fun j p h => owns_put h) ⟨by rw [List.length_set], fun j hj => List.getElem?_set_ne (by simpa using Ne.symm (by simpa using hj))⟩
def gNil' : List D → List Sl → (List Sl → Prop) → Prop := fun ds ρ Q => ds = [] ∧ Q ρ
def gCons' (g : DG) (u : List D → List Sl → (List Sl → Prop) → Prop) : List D → List Sl → (List Sl → Prop) → Prop := fun ds ρ Q => ∃ d r, ds = d :: r ∧ g d ρ fun ρ1 => u r ρ1 Q
theorem dgs_nil : PGs X [] (upGs X.K m [] gNil') := PGs.imp pgs_nil fun vs σ H Q h => by
  obtain ⟨F, ρ, s, ds, Qd, r, rv, ⟨hg, hq⟩, hQ⟩ := h
  subst hg
  cases rv
  exact ⟨rfl, hQ σ ρ hq r (fun _ _ h => h) ⟨rfl, fun _ _ => rfl⟩⟩
theorem dgs_cons {es : List Expr} {ts us : List Nat} {g : DG} {u : List D → List Sl → (List Sl → Prop) → Prop} (h1 : PG X e (upG X.K m ts g)) (h2 : PGs X es (upGs X.K m us u)) (hs : (assignEach (e :: es) X.env).map (·.2) = assign e X.env :: (assignEach es X.env).map (·.2) := by rfl) :
    PGs X (e :: es) (upGs X.K m (ts ++ us) (gCons' g u)) := PGs.imp (pgs_cons h1 h2 hs) fun vs σ H Q h => by
  obtain ⟨F, ρ, s, ds, Qd, r, rv, ⟨d, rr, hd, hg⟩, hQ⟩ := h
  subst hd
  obtain ⟨v, vr, rfl, rv1, rv2⟩ := rv
  refine ⟨v, vr, rfl, F, ρ, s, d, _, r, rv1, hg, fun σ1 ρ1 q1 r1 o1 k1 => ⟨F, ρ1, s, rr, _, r1, rv2, q1, fun σ2 ρ2 q2 r2 o2 k2 => ?_⟩⟩
  exact hQ σ2 ρ2 q2 r2 (fun i p h => o1 i p (o2 i p h)) ⟨k2.1.trans k1.1, fun j hj => (k2.2 j fun z => hj (List.mem_append_right _ z)).trans (k1.2 j fun z => hj (List.mem_append_left _ z))⟩
def gTup' (n : Nat) (u : List D → List Sl → (List Sl → Prop) → Prop) : DG := fun d ρ Q => ∃ ds, d = .tup ds ∧ ds.length = n ∧ u ds ρ Q
theorem dg_tup {es : List Expr} {k : Nat} {us : List Nat} {u : List D → List Sl → (List Sl → Prop) → Prop} {n : Nat} (hc : X.calm = true) (h : PGs X es (upGs X.K m us u)) (hn : (assignEach es X.env).length = n := by rfl) (hst : (assignEach es X.env).findIdx? (·.1) = none := by rfl) :
    PG X (.Tuple es k pos) (upG X.K m us (gTup' n u)) := PG.imp (pg_tup hc h hn hst) fun v σ H Q h => by
  obtain ⟨F, ρ, s, d, Qd, r, rv, ⟨ds, hd, hl, hg⟩, hQ⟩ := h
  subst hd
  obtain ⟨a, vs, rfl, hT, _, rs⟩ := rv
  exact ⟨a, vs, rfl, Same.seqT r.sub hT, by rw [rs.length]; exact hl, F, ρ, s, ds, Qd, r, rs, hg, hQ⟩
theorem Own.tgt {F H : Hp} {σ σ' : L2.St} {ρ ρ' : List Sl} {s : m.S} (o : Own m E F H σ ρ s) (h : ∀ i p, Owns σ' ρ' i p → Owns σ ρ i p) : Own m E F H σ' ρ' s := ⟨o.ext, o.keep, o.alive, o.fresh, o.regf, fun i p q => o.own i p (h i p q)⟩
/-- target = e, any target -/
def dAsg {m : Mem} (te : DT m) (g : DG) : DTS m := fun dd ρ s => te ρ s fun d ρ1 s1 => g d ρ1 fun ρ2 => dd.nx ρ2 s1
theorem ds_asg {tg : Expr} {ts : List Nat} {g : DG} (he : PE X e (up X.K m te)) (hg : PG X tg (upG X.K m ts g)) (hs : swapsWithSole [tg] e pos.line X.env = pure false := by rfl) (hw : swappedStores [tg] e X.env = pure none := by rfl)
    (h1 : (assignEach [tg] X.env).map (·.2) = [assign tg X.env] := by rfl) : PS X (.Assign [tg] e pos) (upS X.K m E (dAsg te g)) := PS.imp (ps_asg he hg hs hw h1) fun DD σ H h => by
  obtain ⟨F, ρ, s, dd, r, o, ht, f⟩ := h
  refine ⟨F, ρ, s, _, r, ht, fun d ρ1 s1 v F1 H1 q1 r1 st1 rv => ⟨F1, ρ1, s1, d, _, r1, rv, q1, fun σ2 ρ2 q2 r2 o2 _ => ?_⟩⟩
  exact f.nx F1 H1 σ2 ρ2 s1 st1.ext r2 ((o.stp st1).tgt o2) q2
/-- a, b = x, y with plain local names -/
def dPar {m : Mem} (i j : Nat) (ta : DTA m) : DTS m := fun dd ρ s => ta ρ s fun ds ρ1 s1 => ∃ d d', ds = [d, d'] ∧ dd.nx ((ρ1.set i (.sh d)).set j (.sh d')) s1
theorem ds_par (i j : Nat) {x y : Str} {a b : Expr} {ta : DTA m} {px py pt : Pos} {kt k2 pt2} (hN : X.N.Nodup) (ha : PA X [a, b] (upA X.K m ta)) (hc : X.calm = true := by rfl) (hi : X.N[i]? = some x := by rfl) (hj : X.N[j]? = some y := by rfl) (hij : i ≠ j := by decide)
    (hx : X.env.scope.names.lookup x = some .local := by rfl) (hy : X.env.scope.names.lookup y = some .local := by rfl)
    (hw : swappedStores [.Tuple [.Name x px, .Name y py] kt pt] (.Tuple [a, b] k2 pt2) X.env = pure (some [x, y]) := by rfl)
    (hs : swapsWithSole [.Tuple [.Name x px, .Name y py] kt pt] (.Tuple [a, b] k2 pt2) pos.line X.env = pure false := by rfl) :
    PS X (.Assign [.Tuple [.Name x px, .Name y py] kt pt] (.Tuple [a, b] k2 pt2) pos) (upS X.K m E (dPar i j ta)) := PS.imp (ps_par hc hN hi hj hij hx hy ha hw hs) fun DD σ H h => by
  obtain ⟨F, ρ, s, dd, r, o, ht, f⟩ := h
  refine ⟨F, ρ, s, _, r, ht, fun ds ρ1 s1 vs F1 H1 ⟨d, d', e, q1⟩ r1 st1 rs => ?_⟩
  subst e
  obtain ⟨v, _, rfl, rv, w, _, rfl, rw', rn⟩ := rs
  cases rn
  exact ⟨v, w, rfl, f.nx F1 H1 _ _ s1 st1.ext ((r1.put rv).put rw') (((o.stp st1).put (K := X.K)).put (K := X.K)) q1⟩
/-- x op= e -/
def dAug {m : Mem} (i : Nat) (f : D → D → (D → Prop) → Prop) (te : DT m) : DTS m := fun dd ρ s => ∃ x, ρ[i]? = some (.sh x) ∧ te ρ s fun y ρ1 s1 => f x y fun z => dd.nx (ρ1.set i (.sh z)) s1
theorem ds_aug (i : Nat) {x : Str} {op : Operator} {r2 : R2} {f2 : D → D → (D → Prop) → Prop} {pos' : Pos} (hN : X.N.Nodup) (ho : OpR X (inplaceOp op) r2) (hf2 : Op2 X.K r2 f2) (he : PE X e (up X.K m te)) (hi : X.N[i]? = some x := by rfl) (hx : Loc X.env.scope x := by first | exact Or.inl rfl | exact Or.inr rfl)
    (hf : X.fn x = true ∨ X.env.scope.names.lookup x = some .local := by first | exact .inl rfl | exact .inr rfl) : PS X (.AugAssign (.Name x pos') op e pos) (upS X.K m E (dAug i f2 te)) := PS.imp (ps_aug (ti := r2) hN hi hx he (fun pins s σ H x y v u Q I r1 r2 h => ho pins s σ H x y v u Q I r1 r2 h) hf) fun DD σ H h => by
  obtain ⟨F, ρ, s, dd, r, o, ⟨x, ex, ht⟩, f⟩ := h
  obtain ⟨v, h1, rv⟩ := r.sh i x ex
  refine ⟨v, h1, F, ρ, s, _, r, ht, fun y ρ1 s1 w F1 H1 q1 r1 st1 rw' => ?_⟩
  exact hf2 F1 H1 x y v w _ _ r1.sub (Rep.mono st1.ext _ _ rv) rw' q1 fun z u F2 H2 q2 g ru => f.nx F2 H2 _ _ s1 (st1.ext.trans g.fF) ((r1.grow g).put ru) ((o.stp (st1.trans g.stp)).put (K := X.K)) q2

/-! ### loops -/
/-- an iterator over known items: what it hands out is the data, in their order -/
def Walks (K : PySem.W.Frag) (F : Hp) (J : It) (ds : List D) : Prop := ∀ F' H', Same F F' → Same F' H' →
  (∀ i, ds.length ≤ i → J.stop i H') ∧ ∀ i d, ds[i]? = some d → J.go i H' ∧ ∀ x H2, J.yld i H' x H2 → ∃ F2, Grow F' H' F2 H2 ∧ Rep K F2 d x
theorem Walks.mono {K : PySem.W.Frag} {F F1 : Hp} {J : It} {ds : List D} (w : Walks K F J ds) (h : Same F F1) : Walks K F1 J ds := fun F' H' a b => w F' H' (h.trans a) b
abbrev DTI (m : Mem) := List Sl → m.S → (List D → List Sl → m.S → Prop) → Prop
def upI (K : PySem.W.Frag) (m : Mem) (t : DTI m) : TI := fun σ H R => ∃ F ρ s Qd, Rel K m F H σ ρ s ∧ t ρ s Qd ∧ ∀ ds ρ' s' J F' H', Qd ds ρ' s' → Rel K m F' H' σ ρ' s' → Stp m F H σ ρ s F' H' ρ' s' → Walks K F' J ds → R J H'
theorem PI.imp {tg iter : Expr} {t t' : TI} (h : PI X tg iter t) (w : ∀ σ H Q, t' σ H Q → t σ H Q) : PI X tg iter t' := ⟨fun pins s σ H R I q => h.run pins s σ H R I (w σ H R q)⟩
/-- a list or a tuple -/
def seqD : D → Option (List D)
  | .lst ds => some ds
  | .tup ds => some ds
  | .fz ds => some ds
  | _ => none
def diSeq {m : Mem} (te : DT m) : DTI m := fun ρ s Q => te ρ s fun d ρ1 s1 => ∃ ds, seqD d = some ds ∧ Q ds ρ1 s1
theorem walks_list {K : PySem.W.Frag} {F : Hp} {a : Addr} {ds : List D} {vs : List V} (h : SqL K F a vs) (rs : Reps K F ds vs) : Walks K F (Itl K a) ds := fun F' H' s1 s2 => by
  have q : SqL K H' a vs := Same.seq s2 (Same.seq s1 h)
  have hl := rs.length
  refine ⟨fun i hi => ⟨vs, q, by omega⟩, fun i d e => ?_⟩
  obtain ⟨v, ev, rv⟩ := rs.get e
  refine ⟨⟨vs, v, q, ev⟩, fun x H2 y => ?_⟩
  obtain ⟨e1, y⟩ := y
  subst e1
  have e2 := y vs q
  rw [ev] at e2
  cases e2
  exact ⟨F', Grow.refl s2, Rep.mono s1 _ _ rv⟩
theorem walks_tup {K : PySem.W.Frag} {F : Hp} {a : Addr} {ds : List D} {vs : List V} (h : SqT K F a vs) (rs : Reps K F ds vs) : Walks K F (Itt K a) ds := fun F' H' s1 s2 => by
  have q : SqT K H' a vs := Same.seqT s2 (Same.seqT s1 h)
  have hl := rs.length
  refine ⟨fun i hi => ⟨vs, q, by omega⟩, fun i d e => ?_⟩
  obtain ⟨v, ev, rv⟩ := rs.get e
  refine ⟨⟨vs, v, q, ev⟩, fun x H2 y => ?_⟩
  obtain ⟨e1, y⟩ := y
  subst e1
  have e2 := y vs q
  rw [ev] at e2
  cases e2
  exact ⟨F', Grow.refl s2, Rep.mono s1 _ _ rv⟩
theorem pi_seq {tg l : Expr} {tl : TE} (hl : PE X l tl) : PI X tg l (fun σ H R => tl σ H fun x H1 => ∃ a, x = .ref a ∧ (((∃ xs, SqL X.K H1 a xs) ∧ R (Itl X.K a) H1) ∨ ((∃ xs, SqT X.K H1 a xs) ∧ R (Itt X.K a) H1))) := by
  refine ⟨fun pins s σ H R I h => ?_⟩
  refine thn (hl.run pins s σ H _ I h) fun v s1 ⟨x, H1, I1, r1, q1⟩ => ?_
  obtain ⟨a, e, q⟩ := q1
  subst e
  cases r1
  rcases q with ⟨⟨xs, hq⟩, q⟩ | ⟨⟨xs, hq⟩, q⟩
  · obtain ⟨its, rv, p, hz⟩ := I1.list hq
    refine wpAny_pyIter_list p.isList ?_
    refine ⟨s1.heap.objs.size, [s1.heap.objs.size], _, _, H1, rfl, I1.kept (t' := s1.toks) fun b o e => Heap.get?_push_of_some _ e, turn_list a _, ⟨_, Heap.get?_push_size _ rfl, rfl, rfl⟩, fun b hb => ?_, q⟩
    have e : b = s1.heap.objs.size := by simpa using hb
    subst e
    exact I1.fpOk (Nat.le_refl _) (I1.hok.fresh (Nat.le_refl _))
  · obtain ⟨its, rv, p, hz⟩ := I1.tuple hq
    refine wpAny_pyIter_tuple (show s1.heap.IsTuple a its.toArray from p) ?_
    refine ⟨s1.heap.objs.size, [s1.heap.objs.size], _, _, H1, rfl, I1.kept (t' := s1.toks) fun b o e => Heap.get?_push_of_some _ e, turn_tuple a _, ⟨_, Heap.get?_push_size _ rfl, rfl, rfl⟩, fun b hb => ?_, q⟩
    have e : b = s1.heap.objs.size := by simpa using hb
    subst e
    exact I1.fpOk (Nat.le_refl _) (I1.hok.fresh (Nat.le_refl _))
theorem di_seq {tg l : Expr} (hl : PE X l (up X.K m te)) : PI X tg l (upI X.K m (diSeq te)) := PI.imp (pi_seq hl) fun σ H R h => by
  obtain ⟨F, ρ, s, Qd, r, ht, hQ⟩ := h
  refine ⟨F, ρ, s, _, r, ht, fun d ρ1 s1 v F1 H1 ⟨ds, e, q1⟩ r1 st1 rv => ?_⟩
  cases d with
  | lst es =>
    cases e
    obtain ⟨a, vs, rfl, h1, _, rs⟩ := rv
    exact ⟨a, rfl, .inl ⟨⟨vs, .inl (.inl (r1.sub _ _ h1))⟩, hQ _ ρ1 s1 _ F1 H1 q1 r1 st1 (walks_list (.inl (.inl h1)) rs)⟩⟩
  | tup es =>
    cases e
    obtain ⟨a, vs, rfl, h1, _, rs⟩ := rv
    exact ⟨a, rfl, .inr ⟨⟨vs, Same.seqT r1.sub h1⟩, hQ _ ρ1 s1 _ F1 H1 q1 r1 st1 (walks_tup h1 rs)⟩⟩
  | fz es =>
    cases e
    obtain ⟨a, vs, rfl, h1, _, rs⟩ := rv
    exact ⟨a, rfl, .inl ⟨⟨vs, Same.seq r1.sub h1⟩, hQ _ ρ1 s1 _ F1 H1 q1 r1 st1 (walks_list h1 rs)⟩⟩
  | _ => cases e
/-- lo, lo + 1, .. -/
def rngD (lo : Int) (n : Nat) : List D := (List.range n).map fun (i : Nat) => D.int (lo + (i : Int))
theorem rngD_length (lo : Int) (n : Nat) : (rngD lo n).length = n := by simp [rngD]
theorem walks_rng {K : PySem.W.Frag} {F : Hp} (lo : Int) (n : Nat) : Walks K F (Itr lo n) (rngD lo n) := fun F' H' s1 s2 => by
  refine ⟨fun i hi => by rw [rngD_length] at hi; exact hi, fun i d e => ?_⟩
  have hi : i < n := by
    have := (List.getElem?_eq_some_iff.mp e).1
    rw [rngD_length] at this; exact this
  refine ⟨hi, fun x H2 y => ?_⟩
  obtain ⟨e1, e2⟩ := y
  subst e1 e2
  refine ⟨F', Grow.refl s2, ?_⟩
  have e' : d = D.int (lo + (i : Int)) := by
    unfold rngD at e
    rw [List.getElem?_map, List.getElem?_range hi] at e
    exact (Option.some.inj e).symm
  subst e'
  rfl
def diR1 {m : Mem} (ta : DTA m) : DTI m := fun ρ s Q => ta ρ s fun ds ρ1 s1 => ∃ j : Int, ds = [.int j] ∧ -(2 ^ 62) ≤ j ∧ j < 2 ^ 62 ∧ Q (rngD 0 j.toNat) ρ1 s1
theorem di_range1 {tg a : Expr} {ta : DTA m} {p pos : Pos} (hg : Gl X "range") (hm : X.mg "range" = none) (ha : PA X [a] (upA X.K m ta)) (hs : starEach [a] X.env = [(false, eval a X.env)] := by rfl) : PI X tg (.Call (.Name "range" p) [a] [] pos) (upI X.K m (diR1 ta)) :=
  PI.imp (pi_range1 hg hm ha hs) fun σ H R h => by
    obtain ⟨F, ρ, s, Qd, r, ht, hQ⟩ := h
    refine ⟨F, ρ, s, _, r, ht, fun ds ρ1 s1 vs F1 H1 ⟨j, e, h1, h2, q1⟩ r1 st1 rs => ?_⟩
    subst e
    have e2 := reps_ints (ns := [j]) rs
    exact ⟨j, e2, h1, h2, hQ _ ρ1 s1 _ F1 H1 q1 r1 st1 (walks_rng 0 j.toNat)⟩
/-- a text, sign by sign -/
def chD (x : Str) : List D := x.cps.toList.map fun c => D.str ⟨#[c]⟩
def diStr {m : Mem} (te : DT m) : DTI m := fun ρ s Q => te ρ s fun d ρ1 s1 => ∃ x, d = .str x ∧ Q (chD x) ρ1 s1
theorem walks_str {K : PySem.W.Frag} {F : Hp} (x : Str) (hx : ∀ c ∈ x.cps.toList, c < 0x110000) : Walks K F (Its x) (chD x) := fun F' H' s1 s2 => by
  have hl : (chD x).length = x.cps.size := by simp [chD]
  refine ⟨fun i hi => by rw [hl] at hi; exact hi, fun i d e => ?_⟩
  have hi : i < x.cps.size := by
    have := (List.getElem?_eq_some_iff.mp e).1
    rw [hl] at this; exact this
  refine ⟨hi, fun y H2 q => ?_⟩
  obtain ⟨e1, c, e2, e3⟩ := q
  subst e1 e3
  refine ⟨F', Grow.refl s2, ?_⟩
  have e' : d = D.str ⟨#[c]⟩ := by
    unfold chD at e
    rw [List.getElem?_map, Array.getElem?_toList, e2] at e
    exact (Option.some.inj e).symm
  subst e'
  refine ⟨rfl, sOk_of (by show 1 ≤ strLim; decide) fun c' hc' => ?_⟩
  have hc2 : c' = c := by simpa using hc'
  subst hc2
  exact hx c' (by rw [← Array.getElem?_toList] at e2; exact List.mem_of_getElem? e2)
theorem di_str {tg l : Expr} (hl : PE X l (up X.K m te)) : PI X tg l (upI X.K m (diStr te)) := PI.imp (pi_str hl) fun σ H R h => by
  obtain ⟨F, ρ, s, Qd, r, ht, hQ⟩ := h
  refine ⟨F, ρ, s, _, r, ht, fun d ρ1 s1 v F1 H1 ⟨x, e, q1⟩ r1 st1 rv => ?_⟩
  subst e
  obtain ⟨rfl, hx⟩ := rv
  exact ⟨x, rfl, hQ _ ρ1 s1 _ F1 H1 q1 r1 st1 (walks_str x (sOk_cps hx))⟩
/-- for target in a walked thing: I says what holds when some are done -/
def dFor {m : Mem} (src : DTI m) (g : DG) (tb : DTS m) : DTS m := fun dd ρ s => src ρ s fun ds ρ1 s1 => ∃ I : List D → List Sl → m.S → Prop, I [] ρ1 s1 ∧
  (∀ pre x post ρ s, ds = pre ++ x :: post → I pre ρ s → g x ρ fun ρ2 => tb { dd with nx := I (pre ++ [x]), ct := I (pre ++ [x]), bk := dd.nx } ρ2 s) ∧ (∀ ρ s, I ds ρ s → dd.nx ρ s)
theorem for_core {K : PySem.W.Frag} {g : DG} {ts : List Nat} {tb : DTS m} {DD : Ends} {dd : DEnds m} {J : It} {σ : L2.St} {F0 F H : Hp} {ρ : List Sl} {s : m.S} {ds : List D} (r : Rel K m F H σ ρ s) (o : Own m E F H σ ρ s) (f : Fits K m E F0 dd DD) (h0 : Same F0 F) (hJ : Walks K F J ds)
    {I : List D → List Sl → m.S → Prop} (i0 : I [] ρ s) (turn : ∀ pre x post ρ s, ds = pre ++ x :: post → I pre ρ s → g x ρ fun ρ2 => tb { dd with nx := I (pre ++ [x]), ct := I (pre ++ [x]), bk := dd.nx } ρ2 s) (done : ∀ ρ s, I ds ρ s → dd.nx ρ s) :
    ∃ W : Nat → Nat → L2.St → Hp → Prop, (∃ m, W 0 m σ H) ∧ ∀ i n σ H, W i n σ H →
      (J.stop i H ∧ DD.nx σ H) ∨ (J.go i H ∧ ∃ N : L2.St → Hp → Prop, (∀ σ' H', N σ' H' → ∃ m', m' < n ∧ W (i + 1) m' σ' H') ∧ ∀ x H', J.yld i H x H' → upG K m ts g x σ H' fun σ2 H2 => upS K m E tb { DD with nx := N, ct := N, bk := DD.nx } σ2 H2) := by
  refine ⟨fun i n σ H => n = ds.length - i ∧ i ≤ ds.length ∧ ∃ F' ρ' s', Same F F' ∧ Rel K m F' H σ ρ' s' ∧ Own m E F' H σ ρ' s' ∧ I (ds.take i) ρ' s', ⟨ds.length, by simp, Nat.zero_le _, F, ρ, s, Same.refl F, r, o, by simpa using i0⟩, ?_⟩
  rintro i n σ1 H1 ⟨rfl, hi, F1, ρ1, s1, sm, r1, o1, hI⟩
  obtain ⟨hstop, hgo⟩ := hJ F1 H1 sm r1.sub
  by_cases hlt : i < ds.length
  · obtain ⟨h1, h2⟩ := hgo i _ (List.getElem?_eq_getElem hlt)
    refine .inr ⟨h1, fun σ' H' => ∃ F' ρ' s', Same F F' ∧ Rel K m F' H' σ' ρ' s' ∧ Own m E F' H' σ' ρ' s' ∧ I (ds.take (i + 1)) ρ' s', fun σ' H' ⟨F', ρ', s', q1, q2, q3, q4⟩ => ⟨ds.length - (i + 1), by omega, rfl, hlt, F', ρ', s', q1, q2, q3, q4⟩, fun x H' y => ?_⟩
    obtain ⟨F2, g2, rv⟩ := h2 x H' y
    have hsplit : ds = ds.take i ++ ds[i] :: ds.drop (i + 1) := by
      rw [List.getElem_cons_drop, List.take_append_drop]
    have etake : ds.take (i + 1) = ds.take i ++ [ds[i]] := List.take_succ_eq_append_getElem hlt
    have o2 := o1.stp (g2.stp (m := m) (s := s1) (ρ := ρ1) (σ := σ1))
    refine ⟨F2, ρ1, s1, ds[i], _, r1.grow g2, rv, turn _ _ _ _ _ hsplit hI, fun σ2 ρ2 q2 r2 o3 _ => ⟨F2, ρ2, s1, _, r2, o2.tgt o3, q2, ?_⟩⟩
    have fit : ∀ F' H' σ' ρ' s', Same F2 F' → Rel K m F' H' σ' ρ' s' → Own m E F' H' σ' ρ' s' → I (ds.take i ++ [ds[i]]) ρ' s' → ∃ F'' ρ'' s'', Same F F'' ∧ Rel K m F'' H' σ' ρ'' s'' ∧ Own m E F'' H' σ' ρ'' s'' ∧ I (ds.take (i + 1)) ρ'' s'' :=
      fun F' H' σ' ρ' s' a b c d => ⟨F', ρ', s', (sm.trans g2.fF).trans a, b, c, by rw [etake]; exact d⟩
    have f1 := f.mono ((h0.trans sm).trans g2.fF)
    exact ⟨fit, f1.rt, f1.nx, fit⟩
  · have e : i = ds.length := by omega
    subst e
    rw [List.take_length] at hI
    exact .inl ⟨hstop _ (Nat.le_refl _), f.nx F1 H1 σ1 ρ1 s1 (h0.trans sm) r1 o1 (done _ _ hI)⟩
theorem ds_for {tg iter : Expr} {body : List Stmt} {src : DTI m} {g : DG} {ts : List Nat} {tb : DTS m} (hc : X.calm = true) (hi : PI X tg iter (upI X.K m src)) (hg : PG X tg (upG X.K m ts g)) (hb : PSs X body (upS X.K m E tb)) (hp : PassesOwn (model X.prog X.w) X.A X.env X.xe := by exact PassesOwn.never)
    (hs : ∀ x, foldedSetIterable iter X.env x = pure x := by intro _; rfl) : PS X (.For tg iter body [] pos) (upS X.K m E (dFor src g tb)) := PS.imp (ps_for hp hc hi hg hb hs) fun DD σ H h => by
  obtain ⟨F, ρ, s, dd, r, o, ht, f⟩ := h
  exact ⟨F, ρ, s, _, r, ht, fun ds ρ1 s1 J F1 H1 ⟨I, i0, turn, done⟩ r1 st1 w => for_core r1 (o.stp st1) f st1.ext w i0 turn done⟩
/-- while: I by a number that falls -/
def dWhile {m : Mem} (c : DTT m) (tb : DTS m) : DTS m := fun dd ρ s => ∃ I : Nat → List Sl → m.S → Prop, (∃ n, I n ρ s) ∧ ∀ n ρ s, I n ρ s → c ρ s fun b ρ1 s1 => ifB b (tb { dd with nx := fun ρ' s' => ∃ n', n' < n ∧ I n' ρ' s', ct := fun ρ' s' => ∃ n', n' < n ∧ I n' ρ' s', bk := dd.nx } ρ1 s1) (dd.nx ρ1 s1)
theorem ds_while {c : Expr} {body : List Stmt} {tc : DTT m} {tb : DTS m} (hc : PT X c (upT X.K m tc)) (hb : PSs X body (upS X.K m E tb)) (hp : PassesOwn (model X.prog X.w) X.A X.env X.xe := by exact PassesOwn.never) : PS X (.While c body [] pos) (upS X.K m E (dWhile tc tb)) := PS.imp (ps_while hp hc hb) fun DD σ H h => by
  obtain ⟨F, ρ, s, dd, r, o, ⟨I, ⟨n0, i0⟩, turn⟩, f⟩ := h
  refine ⟨fun n σ H => ∃ F' ρ' s', Same F F' ∧ Rel X.K m F' H σ ρ' s' ∧ Own m E F' H σ ρ' s' ∧ I n ρ' s', ⟨n0, F, ρ, s, Same.refl F, r, o, i0⟩, ?_⟩
  rintro n σ1 H1 ⟨F1, ρ1, s1, sm, r1, o1, hI⟩
  refine ⟨F1, ρ1, s1, _, r1, turn n ρ1 s1 hI, fun b ρ2 s2 F2 H2 q2 r2 st2 => ?_⟩
  have f2 := f.mono (sm.trans st2.ext)
  cases b with
  | false => exact f2.nx F2 H2 σ1 ρ2 s2 (Same.refl _) r2 (o1.stp st2) (ifB_f q2)
  | true =>
    have q2 := ifB_t q2
    refine ⟨fun σ' H' => ∃ n', n' < n ∧ ∃ F' ρ' s', Same F F' ∧ Rel X.K m F' H' σ' ρ' s' ∧ Own m E F' H' σ' ρ' s' ∧ I n' ρ' s', fun σ' H' q => q, F2, ρ2, s2, _, r2, o1.stp st2, q2, ?_⟩
    have fit : ∀ F' H' σ' ρ' s', Same F2 F' → Rel X.K m F' H' σ' ρ' s' → Own m E F' H' σ' ρ' s' → (∃ n', n' < n ∧ I n' ρ' s') → ∃ n', n' < n ∧ ∃ F'' ρ'' s'', Same F F'' ∧ Rel X.K m F'' H' σ' ρ'' s'' ∧ Own m E F'' H' σ' ρ'' s'' ∧ I n' ρ'' s'' :=
      fun F' H' σ' ρ' s' a b c ⟨n', h1, h2⟩ => ⟨n', h1, F', ρ', s', (sm.trans st2.ext).trans a, b, c, h2⟩
    exact ⟨fit, f2.rt, f2.nx, fit⟩
end
end DL

set_option Elab.async false
set_option linter.all false
set_option maxRecDepth 100000
namespace DL
open PySem PySem.Spec PyProof.Rows L2

/-! ### comprehensions -/
section
variable {X : Cx} {m : Mem}
/-- from an inner state (the same heaps, other slots) the outer one is carried along -/
theorem Rel.carry {K : PySem.W.Frag} {F H F' H' : Hp} {σ σ2 : L2.St} {ρ ρ2 : List Sl} {s s' : m.S} (r : Rel K m F H σ ρ s) (st : Stp m F H σ2 ρ2 s F' H' ρ2 s') (r2 : Rel K m F' H' σ2 ρ2 s') : Rel K m F' H' σ ρ s' where
  sub := r2.sub
  mem := r2.mem
  reg := r2.reg
  len := r.len
  sh := fun i d e => by
    obtain ⟨v, h1, h2⟩ := r.sh i d e
    exact ⟨v, h1, Rep.mono st.ext _ _ h2⟩
  ow := fun i o e => by
    obtain ⟨p, ho, h1, h2, h3, h4, h5⟩ := r.own_at e
    exact ⟨p, ho, h1, st.keep p ho h2 h5, h3.mono st.ext⟩
  owF := fun i p h => by
    obtain ⟨⟨o, e⟩, hσ⟩ := id h
    obtain ⟨p', ho, h1, h2, h3, h4, h5⟩ := r.own_at e
    rw [hσ] at h1; cases h1
    refine ⟨?_, fun z => ?_⟩
    · cases q : F' p with
      | none => rfl
      | some u =>
        rcases st.fresh p u q with z | z | ⟨j, z⟩
        · rw [h4] at z; cases z
        · rw [z] at h2; cases h2
        · rw [(r2.owF j p z).1] at q; cases q
    · rcases st.regf p z with z | z
      · exact h5 z
      · rw [z] at h2; cases h2
  uq := r.uq
/-- an object that is known to nobody stays so -/
theorem Stp.hid {F H F' H' : Hp} {K : PySem.W.Frag} {σ2 : L2.St} {ρ2 : List Sl} {s s' : m.S} (st : Stp m F H σ2 ρ2 s F' H' ρ2 s') (r2 : Rel K m F' H' σ2 ρ2 s') {p : Addr} {ho : HO} (h : H p = some ho) (n : F p = none) (nr : ¬ m.R s p) : H' p = some ho ∧ F' p = none ∧ ¬ m.R s' p := by
  refine ⟨st.keep p ho h nr, ?_, fun z => ?_⟩
  · cases q : F' p with
    | none => rfl
    | some u =>
      rcases st.fresh p u q with z | z | ⟨j, z⟩
      · rw [n] at z; cases z
      · rw [z] at h; cases h
      · rw [(r2.owF j p z).1] at q; cases q
  · rcases st.regf p z with z | z
    · exact nr z
    · rw [z] at h; cases h
/-- the block's own names forgotten -/
def wipeD (ρ : List Sl) : List Nat → List Sl
  | [] => ρ
  | v :: vs => (wipeD ρ vs).set v .no
theorem wipeD_length (ρ : List Sl) : ∀ vs : List Nat, (wipeD ρ vs).length = ρ.length
  | [] => rfl
  | v :: vs => by unfold wipeD; rw [List.length_set, wipeD_length ρ vs]
theorem wipeD_some {ρ : List Sl} {i : Nat} {x : Sl} (hx : x ≠ .no) : ∀ {vs : List Nat}, (wipeD ρ vs)[i]? = some x → ρ[i]? = some x ∧ i ∉ vs
  | [], h => ⟨h, by simp⟩
  | v :: vs, h => by
    unfold wipeD at h
    by_cases hi : v = i
    · subst hi
      by_cases hv : v < (wipeD ρ vs).length
      · rw [List.getElem?_set_self hv] at h
        exact absurd (Option.some.inj h).symm hx
      · rw [List.getElem?_eq_none (by simpa using hv)] at h; cases h
    · rw [List.getElem?_set_ne hi] at h
      obtain ⟨h1, h2⟩ := wipeD_some hx h
      exact ⟨h1, by simp only [List.mem_cons, not_or]; exact ⟨fun e => hi e.symm, h2⟩⟩
theorem wipe_get {σ : L2.St} {i : Nat} : ∀ {vs : List Nat}, i ∉ vs → (wipe σ vs)[i]? = σ[i]?
  | [], _ => rfl
  | v :: vs, h => by
    have h1 : v ≠ i := fun e => h (by rw [e]; exact List.mem_cons_self)
    have h2 : i ∉ vs := fun m => h (List.mem_cons_of_mem _ m)
    unfold wipe
    rw [List.getElem?_set_ne h1]
    exact wipe_get h2
theorem wipe_in {σ : L2.St} {i : Nat} : ∀ {vs : List Nat}, i ∈ vs → i < σ.length → (wipe σ vs)[i]? = some none
  | [], h, _ => by cases h
  | v :: vs, h, hi => by
    unfold wipe
    by_cases e : v = i
    · subst e
      exact List.getElem?_set_self (by rw [wipe_length]; exact hi)
    · rw [List.getElem?_set_ne e]
      exact wipe_in ((List.mem_cons.mp h).resolve_left (Ne.symm e)) hi
theorem wipe_eq {σ σ' : L2.St} {vs ts : List Nat} (hl : σ'.length = σ.length) (h : ∀ j, j ∉ ts → σ'[j]? = σ[j]?) (hs : ∀ j ∈ ts, j ∈ vs) : wipe σ' vs = wipe σ vs := by
  refine List.ext_getElem? fun i => ?_
  by_cases hi : i ∈ vs
  · by_cases hlt : i < σ.length
    · rw [wipe_in hi (by omega), wipe_in hi hlt]
    · rw [List.getElem?_eq_none (by rw [wipe_length]; omega), List.getElem?_eq_none (by rw [wipe_length]; omega)]
  · rw [wipe_get hi, wipe_get hi]
    exact h i fun z => hi (hs i z)
theorem Rel.wipe {K : PySem.W.Frag} {F H : Hp} {σ : L2.St} {ρ : List Sl} {s : m.S} (r : Rel K m F H σ ρ s) (vs : List Nat) : Rel K m F H (L2.wipe σ vs) (wipeD ρ vs) s := by
  have back : ∀ i p, Owns (L2.wipe σ vs) (wipeD ρ vs) i p → Owns σ ρ i p := fun i p ⟨⟨o, h1⟩, h2⟩ => by
    obtain ⟨e1, n⟩ := wipeD_some (by intro z; cases z) h1
    rw [wipe_get n] at h2
    exact ⟨⟨o, e1⟩, h2⟩
  refine ⟨r.sub, r.mem, r.reg, by rw [wipe_length, wipeD_length]; exact r.len, fun i d e => ?_, fun i o e => ?_, fun i p h => r.owF i p (back i p h), fun i j p h1 h2 => r.uq i j p (back i p h1) (back j p h2)⟩
  · obtain ⟨e1, n⟩ := wipeD_some (by intro z; cases z) e
    obtain ⟨v, h1, h2⟩ := r.sh i d e1
    exact ⟨v, by rw [wipe_get n]; exact h1, h2⟩
  · obtain ⟨e1, n⟩ := wipeD_some (by intro z; cases z) e
    obtain ⟨p, ho, h1, h2, h3⟩ := r.ow i o e1
    exact ⟨p, ho, by rw [wipe_get n]; exact h1, h2, h3⟩

theorem wipe_wipe {σ : L2.St} {vs : List Nat} : wipe (wipe σ vs) vs = wipe σ vs := by
  refine List.ext_getElem? fun i => ?_
  by_cases hi : i ∈ vs
  · by_cases hlt : i < σ.length
    · rw [wipe_in hi (by rw [wipe_length]; exact hlt), wipe_in hi hlt]
    · rw [List.getElem?_eq_none (by rw [wipe_length, wipe_length]; omega), List.getElem?_eq_none (by rw [wipe_length]; omega)]
  · rw [wipe_get hi]
/-- an inner step is one for the outer slots, too -/
theorem Stp.outer {K : PySem.W.Frag} {F H F' H' : Hp} {σ σ2 : L2.St} {ρ ρ2 : List Sl} {s s' : m.S} (st : Stp m F H σ2 ρ2 s F' H' ρ2 s') (r2 : Rel K m F' H' σ2 ρ2 s') : Stp m F H σ ρ s F' H' ρ s' :=
  ⟨st.ext, st.keep, st.alive, fun a o h => by
    rcases st.fresh a o h with z | z | ⟨j, z⟩
    · exact .inl z
    · exact .inr (.inl z)
    · have z' := (r2.owF j a z).1
      rw [h] at z'
      exact absurd z' (by simp), st.regf, fun _ _ h => h⟩
/-- a hidden object is written -/
theorem Rel.hidW {K : PySem.W.Frag} {F H : Hp} {σ : L2.St} {ρ : List Sl} {s : m.S} (r : Rel K m F H σ ρ s) {p : Addr} {ho : HO} (n : F p = none) (nr : ¬ m.R s p) (no : ∀ i, ¬ Owns σ ρ i p) : Rel K m F (upd H p ho) σ ρ s := by
  refine ⟨fun b x e => ?_, m.loc s H _ r.mem fun a ha => upd_ne fun z => nr (z ▸ ha), r.reg, r.len, r.sh, fun i o e => ?_, r.owF, r.uq⟩
  · rw [upd_ne (ne_of_none e n)]; exact r.sub _ _ e
  · obtain ⟨q, ho', h1, h2, h3⟩ := r.ow i o e
    have hq : q ≠ p := fun z => no i (z ▸ ⟨⟨o, e⟩, h1⟩)
    exact ⟨q, ho', h1, by rw [upd_ne hq]; exact h2, h3⟩
theorem Stp.hidW {F H F' H' : Hp} {σ : L2.St} {ρ ρ' : List Sl} {s s' : m.S} (st : Stp m F H σ ρ s F' H' ρ' s') {p : Addr} {ho : HO} (n : H p = none) : Stp m F H σ ρ s F' (upd H' p ho) ρ' s' :=
  ⟨st.ext, fun a o h nr => by rw [upd_ne (ne_of_none h n)]; exact st.keep a o h nr, fun a h => by
    by_cases e : a = p
    · subst e; rw [upd_same]; simp
    · rw [upd_ne e]; exact st.alive a h, st.fresh, st.regf, st.shr⟩

abbrev dYes {m : Mem} : DTT m := fun ρ s Q => Q true ρ s
theorem PTs.imp {ifs : List Expr} {t t' : TT} (h : PTs X ifs t) (w : ∀ σ H Q, t' σ H Q → t σ H Q) : PTs X ifs t' := ⟨fun pins s σ H Q I q => h.run pins s σ H Q I (w σ H Q q)⟩
theorem dts_nil : PTs X [] (upT X.K m dYes) := PTs.imp pts_nil fun σ H Q h => by
  obtain ⟨F, ρ, s, Qd, r, ht, hQ⟩ := h
  exact hQ true ρ s F H ht r Stp.refl
theorem dts_one {c : Expr} {t : DTT m} (h : PT X c (upT X.K m t)) : PTs X [c] (upT X.K m t) := pts_one h
/-- [e for target in source if test], the source's items known: I says what list has been made of those that are done -/
def lcK {m : Mem} (g : DG) (tt : DTT m) (te : DT m) (vs : List Nat) (Q : DK m) : List D → List Sl → m.S → Prop := fun ds ρ1 s1 => ds.length ≤ sizeLine ∧ ∃ I : List D → List D → m.S → Prop, I [] [] s1 ∧
  (∀ pre x post acc s, ds = pre ++ x :: post → acc.length ≤ pre.length → I pre acc s → g x (wipeD ρ1 vs) fun ρ2 => tt ρ2 s fun b ρ3 s3 => ρ3 = ρ2 ∧ ifB b (te ρ2 s3 fun y ρ4 s4 => ρ4 = ρ2 ∧ I (pre ++ [x]) (acc ++ [y]) s4) (I (pre ++ [x]) acc s3)) ∧
  (∀ acc s, acc.length ≤ ds.length → I ds acc s → Q (.lst acc) ρ1 s)
/-- [e for target in source if test] -/
def dLc {m : Mem} (src : DTI m) (g : DG) (tt : DTT m) (te : DT m) (vs : List Nat) : DT m := fun ρ s Q => src ρ s (lcK g tt te vs Q)
theorem up_lc {K : PySem.W.Frag} {src : DTI m} {g : DG} {tt : DTT m} {te : DT m} {vs ts : List Nat} (hts : ∀ j ∈ ts, j ∈ vs) {σ : L2.St} {H : Hp} {Q : VK} {Qd : DK m} {F : Hp} {ρ : List Sl} {s : m.S} (r : Rel K m F H σ ρ s) (ht : dLc src g tt te vs ρ s Qd)
    (hQ : ∀ ds ρ' s' p ws F' H', Qd (.lst ds) ρ' s' → Rel K m F' H' σ ρ' s' → Stp m F H σ ρ s F' H' ρ' s' → H' p = some (.lst ws) → F' p = none → ¬ m.R s' p → (∀ i, ¬ Owns σ ρ' i p) → H p = none → ws.length ≤ sizeLine → Reps K F' ds ws → Q (.ref p) H') :
    tLc (upI K m src) (upG K m ts g) (upT K m tt) (up K m te) vs σ H Q := by
  refine ⟨F, ρ, s, _, r, ht, fun ds ρ1 s1 J F1 H1 ⟨hz, I, i0, turn, done⟩ r1 st1 w D nD => ?_⟩
  have nF : F1 D = none := r1.sub.free nD
  have nR : ¬ m.R s1 D := fun z => m.there s1 H1 D r1.mem z nD
  have nO : ∀ i, ¬ Owns σ ρ1 i D := fun i ⟨⟨o, e⟩, hσ⟩ => by
    obtain ⟨p, ho, h1, h2, _⟩ := r1.own_at e
    rw [hσ] at h1; cases h1
    rw [nD] at h2; cases h2
  have nD0 : H D = none := by
    cases q : H D with
    | none => rfl
    | some u => exact absurd nD (st1.alive D (by rw [q]; simp))
  -- the start: the new list at D
  have r0 : Rel K m F1 (upd H1 D (.lst [])) σ ρ1 s1 := by
    refine ⟨fun b x e => ?_, m.loc s1 H1 _ r1.mem fun a ha => upd_ne fun z => nR (z ▸ ha), r1.reg, r1.len, r1.sh, fun i o e => ?_, r1.owF, r1.uq⟩
    · rw [upd_ne (ne_of_none e nF)]; exact r1.sub _ _ e
    · obtain ⟨p, ho, h1, h2, h3⟩ := r1.ow i o e
      exact ⟨p, ho, h1, by rw [upd_ne (ne_of_none h2 nD)]; exact h2, h3⟩
  have st0 : Stp m F H σ ρ s F1 (upd H1 D (.lst [])) ρ1 s1 :=
    ⟨st1.ext, fun a o h n => by rw [upd_ne (ne_of_none h nD0)]; exact st1.keep a o h n, fun a h => by
      by_cases e : a = D
      · subst e; rw [upd_same]; simp
      · rw [upd_ne e]; exact st1.alive a h, st1.fresh, st1.regf, st1.shr⟩
  refine ⟨fun i n H2 => n = ds.length - i ∧ i ≤ ds.length ∧ ∃ F2 s2 acc ws, Rel K m F2 H2 σ ρ1 s2 ∧ Stp m F H σ ρ s F2 H2 ρ1 s2 ∧ Same F1 F2 ∧ H2 D = some (.lst ws) ∧ F2 D = none ∧ ¬ m.R s2 D ∧ Reps K F2 acc ws ∧ acc.length ≤ i ∧ I (ds.take i) acc s2,
    ⟨ds.length, by simp, Nat.zero_le _, F1, s1, [], [], r0, st0, Same.refl _, upd_same, nF, nR, .nil, Nat.le_refl _, by simpa using i0⟩, ?_⟩
  rintro i n H2 ⟨rfl, hi, F2, s2, acc, ws, r2, st2, sm, hD, nF2, nR2, rs, hacc, hI⟩
  obtain ⟨hstop, hgo⟩ := w F2 H2 sm r2.sub
  by_cases hlt : i < ds.length
  · obtain ⟨h1, h2⟩ := hgo i _ (List.getElem?_eq_getElem hlt)
    have hsplit : ds = ds.take i ++ ds[i] :: ds.drop (i + 1) := by
      rw [List.getElem_cons_drop, List.take_append_drop]
    have etake : ds.take (i + 1) = ds.take i ++ [ds[i]] := List.take_succ_eq_append_getElem hlt
    refine .inr ⟨h1, fun H' => ∃ F' s' acc' ws', Rel K m F' H' σ ρ1 s' ∧ Stp m F H σ ρ s F' H' ρ1 s' ∧ Same F1 F' ∧ H' D = some (.lst ws') ∧ F' D = none ∧ ¬ m.R s' D ∧ Reps K F' acc' ws' ∧ acc'.length ≤ i + 1 ∧ I (ds.take (i + 1)) acc' s',
      fun H' ⟨F', s', acc', ws', q⟩ => ⟨ds.length - (i + 1), by omega, rfl, hlt, F', s', acc', ws', q⟩, fun x H3 y => ?_⟩
    obtain ⟨F3, g3, rv⟩ := h2 x H3 y
    have r3 := r2.grow g3
    have hD3 : H3 D = some (.lst ws) := g3.hH _ _ hD
    have nF3 : F3 D = none := by
      cases q : F3 D with
      | none => rfl
      | some u =>
        rcases g3.fresh D u q with z | z
        · rw [nF2] at z; cases z
        · rw [z] at hD; cases hD
    have st3 := st2.trans (g3.stp (m := m) (s := s2) (ρ := ρ1) (σ := σ))
    have htk : (ds.take i).length = i := by rw [List.length_take]; omega
    refine ⟨F3, wipeD ρ1 vs, s2, ds[i], _, r3.wipe vs, rv, turn _ _ _ acc _ hsplit (by omega) hI, fun σ2 ρ2 q2 r4 o4 k4 => ⟨(wipe_eq k4.1 k4.2 hts).trans wipe_wipe, ?_⟩⟩
    refine ⟨F3, ρ2, s2, _, r4, q2, fun b ρ3 s3 F4 H4 ⟨e, q3⟩ r5 st5 => ?_⟩
    subst e
    obtain ⟨hD4, nF4, nR4⟩ := st5.hid r5 hD3 nF3 nR2
    have r6 := r3.carry st5 r5
    have st6 := st3.trans (st5.outer (σ := σ) (ρ := ρ1) r5)
    have sm4 : Same F1 F4 := (sm.trans g3.fF).trans st5.ext
    have rs4 := Reps.mono (g3.fF.trans st5.ext) _ _ rs
    have hlw := rs.length
    cases b with
    | false =>
      have q3 := ifB_f q3
      exact iteF ⟨F4, s3, acc, ws, r6, st6, sm4, hD4, nF4, nR4, rs4, by omega, by rw [etake]; exact q3⟩
    | true =>
      have q3 := ifB_t q3
      refine iteT ⟨F4, ρ3, s3, _, r5, q3, fun y ρ4 s4 v F5 H5 ⟨e, q4⟩ r7 st7 rvy => ?_⟩
      subst e
      obtain ⟨hD5, nF5, nR5⟩ := st7.hid r7 hD4 nF4 nR4
      have r8 := r6.carry st7 r7
      have st8 := st6.trans (st7.outer (σ := σ) (ρ := ρ1) r7)
      refine ⟨ws, hD5, by omega, F5, s4, acc ++ [y], ws ++ [v], r8.hidW nF5 nR5 nO, st8.hidW nD0, sm4.trans st7.ext, upd_same, nF5, nR5, (Reps.mono st7.ext _ _ rs4).append (.one rvy), by rw [List.length_append]; simp; omega, by rw [etake]; exact q4⟩
  · have e : i = ds.length := by omega
    subst e
    rw [List.take_length] at hI
    exact .inl ⟨hstop _ (Nat.le_refl _), hQ acc ρ1 s2 D ws F2 H2 (done acc s2 (by omega) hI) r2 st2 hD nF2 nR2 nO nD0 (by rw [rs.length]; omega) rs⟩
theorem de_lc {elt tg iter : Expr} {ifs : List Expr} {scope : Scope} {own : List (Str × Nat)} {pos : Pos} {src : DTI m} {g : DG} {ts : List Nat} {tt : DTT m} {te : DT m} (hN : X.N.Nodup) (hi : PI X tg iter (upI X.K m src)) (ok : BlkOk X.N X.env.scope scope own)
    (hg : ∀ (s : Shared) (H : Hp) (C : Addr) (cl : List (Str × Addr)) (fp : List Addr), PG (X.blk s H scope (compEnvC scope cl C X.env) fp) tg (upG X.K m ts g)) (ht : ∀ (s : Shared) (H : Hp) (C : Addr) (cl : List (Str × Addr)) (fp : List Addr), PTs (X.blk s H scope (compEnvC scope cl C X.env) fp) ifs (upT X.K m tt))
    (he : ∀ (s : Shared) (H : Hp) (C : Addr) (cl : List (Str × Addr)) (fp : List Addr), PE (X.blk s H scope (compEnvC scope cl C X.env) fp) elt (up X.K m te)) (hts : ∀ j ∈ ts, j ∈ own.map (·.2) := by decide) (hc : X.calm = true := by rfl) (hs : ∀ x, foldedSetIterable iter X.env x = pure x := by intro _; rfl) :
    PE X (.ListComp elt [⟨tg, iter, ifs, 0⟩] scope pos) (up X.K m (dLc src g tt te (own.map (·.2)))) := PE.imp (pe_lc hc hN hi ok hg ht he hs) fun σ H Q h => by
  obtain ⟨F, ρ, s, Qd, r, h, hQ⟩ := h
  refine up_lc hts r h fun ds ρ' s' p ws F' H' q r' st hp nF nR nO nH hz rs => ?_
  have sm : Same F' (upd F' p (.lst ws)) := same_upd nF
  refine hQ _ ρ' s' _ (upd F' p (.lst ws)) H' q (r'.adopt hp nF nR nO) ⟨st.ext.trans sm, st.keep, st.alive, fun a o e => ?_, st.regf, st.shr⟩ ⟨p, ws, rfl, upd_same, hz, Reps.mono sm _ _ rs⟩
  by_cases ha : a = p
  · subst ha; exact .inr (.inl nH)
  · rw [upd_ne ha] at e; exact st.fresh a o e
variable {E : Ent m}
/-- .. a list that this def will change -/
def dSetLcO {m : Mem} (i : Nat) (src : DTI m) (g : DG) (tt : DTT m) (te : DT m) (vs : List Nat) : DTS m := fun dd ρ s => dLc src g tt te vs ρ s fun d ρ1 s1 => ∃ ds, d = .lst ds ∧ dd.nx (ρ1.set i (.ow (.lst ds))) s1
theorem ds_setLcO (i : Nat) {y : Str} {py : Pos} {elt tg iter : Expr} {ifs : List Expr} {scope : Scope} {own : List (Str × Nat)} {pos spos : Pos} {src : DTI m} {g : DG} {ts : List Nat} {tt : DTT m} {te : DT m} (hN : X.N.Nodup) (hi : PI X tg iter (upI X.K m src)) (ok : BlkOk X.N X.env.scope scope own)
    (hg : ∀ (s : Shared) (H : Hp) (C : Addr) (cl : List (Str × Addr)) (fp : List Addr), PG (X.blk s H scope (compEnvC scope cl C X.env) fp) tg (upG X.K m ts g)) (ht : ∀ (s : Shared) (H : Hp) (C : Addr) (cl : List (Str × Addr)) (fp : List Addr), PTs (X.blk s H scope (compEnvC scope cl C X.env) fp) ifs (upT X.K m tt))
    (he : ∀ (s : Shared) (H : Hp) (C : Addr) (cl : List (Str × Addr)) (fp : List Addr), PE (X.blk s H scope (compEnvC scope cl C X.env) fp) elt (up X.K m te)) (hy : X.N[i]? = some y := by rfl) (hyl : X.env.scope.names.lookup y = some .local := by rfl)
    (hsw : swapsWith (.ListComp elt [⟨tg, iter, ifs, 0⟩] scope pos) (some (.Name y py)) spos.line X.env = pure true := by exact sw_true rfl rfl rfl (by decide +kernel)) (hts : ∀ j ∈ ts, j ∈ own.map (·.2) := by decide) (hc : X.calm = true := by rfl) (hs : ∀ x, foldedSetIterable iter X.env x = pure x := by intro _; rfl) :
    PS X (.Assign [.Name y py] (.ListComp elt [⟨tg, iter, ifs, 0⟩] scope pos) spos) (upS X.K m E (dSetLcO i src g tt te (own.map (·.2)))) := PS.imp (ps_setLc hc hN hy hyl hsw hi ok hg ht he hs) fun DD σ H h => by
  obtain ⟨F, ρ, s, dd, r, o, h, f⟩ := h
  refine up_lc hts r h fun ds ρ' s' p ws F' H' ⟨es, e, q⟩ r' st hp nF nR nO nH hz rs => ?_
  cases e
  have o' := o.stp st
  have eH : E.H p = none := by
    cases q : E.H p with
    | none => rfl
    | some u => exact absurd nH (o.alive p (by rw [q]; simp))
  have other : ∀ (j : Nat) q, i ≠ j → Owns (σ.set i (some (.ref p))) (ρ'.set i (.ow (.lst ds))) j q → Owns σ ρ' j q := fun j q hj ⟨⟨o', h1⟩, h2⟩ => by
    rw [List.getElem?_set_ne hj] at h1 h2; exact ⟨⟨o', h1⟩, h2⟩
  have self : ∀ q, Owns (σ.set i (some (.ref p))) (ρ'.set i (.ow (.lst ds))) i q → q = p := fun q ⟨⟨o', h1⟩, h2⟩ => by
    have hi : i < σ.length := by
      have := (List.getElem?_eq_some_iff.mp h2).1
      rw [List.length_set] at this; exact this
    rw [List.getElem?_set_self hi] at h2
    cases h2; rfl
  refine f.nx F' H' _ _ s' st.ext ⟨r'.sub, r'.mem, r'.reg, by rw [List.length_set, List.length_set]; exact r'.len, fun j d' z => ?_, fun j o' z => ?_, fun j q z => ?_, fun j k q h1 h2 => ?_⟩ ⟨o'.ext, o'.keep, o'.alive, o'.fresh, o'.regf, fun j q z => ?_⟩ q
  · by_cases hj : i = j
    · subst hj
      have hi : i < ρ'.length := by
        have := (List.getElem?_eq_some_iff.mp z).1
        rw [List.length_set] at this; exact this
      rw [List.getElem?_set_self hi] at z
      cases z
    · rw [List.getElem?_set_ne hj] at z
      obtain ⟨w, h1, h2⟩ := r'.sh j d' z
      exact ⟨w, by rw [List.getElem?_set_ne hj]; exact h1, h2⟩
  · by_cases hj : i = j
    · subst hj
      have hi : i < ρ'.length := by
        have := (List.getElem?_eq_some_iff.mp z).1
        rw [List.length_set] at this; exact this
      rw [List.getElem?_set_self hi] at z
      cases z
      exact ⟨p, _, List.getElem?_set_self (by rw [r'.len]; exact hi), hp, ws, rfl, hz, rs⟩
    · rw [List.getElem?_set_ne hj] at z
      obtain ⟨q, ho', h1, h2, h3⟩ := r'.ow j o' z
      exact ⟨q, ho', by rw [List.getElem?_set_ne hj]; exact h1, h2, h3⟩
  · by_cases hj : i = j
    · subst hj
      rw [self q z]; exact ⟨nF, nR⟩
    · exact r'.owF j q (other j q hj z)
  · by_cases hj : i = j
    · subst hj
      by_cases hk : i = k
      · exact hk
      · exact absurd ((self q h1) ▸ other k q hk h2) (nO k)
    · by_cases hk : i = k
      · subst hk
        exact absurd ((self q h2) ▸ other j q hj h1) (nO j)
      · exact r'.uq j k q (other j q hj h1) (other k q hk h2)
  · by_cases hj : i = j
    · subst hj
      rw [self q z]; exact eH
    · exact o'.own j q (other j q hj z)
end

/-! ### a def -/
/-- the slots at a def's entry -/
def startD (N : List Str) (ds : List D) : List Sl := ds.map .sh ++ List.replicate (N.length - ds.length) .no
section
variable {P : Program} {w : World} {K : PySem.W.Frag} {mg : Str → Option Value} {base : Heap} {m : Mem}
theorem rel_start {F H : Hp} {s : m.S} {N : List Str} {ds : List D} {vs : List V} (sub : Same F H) (hm : m.M s H) (hr : ∀ a, m.R s a → F a = none) (rs : Reps K F ds vs) : Rel K m F H (L2.start N vs) (startD N ds) s := by
  have hl := rs.length
  have no : ∀ (i : Nat) o, (startD N ds)[i]? ≠ some (Sl.ow o) := fun i o e => by
    unfold startD at e
    by_cases hi : i < ds.length
    · rw [List.getElem?_append_left (by simpa using hi), List.getElem?_map, List.getElem?_eq_getElem hi] at e; cases e
    · rw [List.getElem?_append_right (by simpa using hi), List.getElem?_replicate] at e
      split at e <;> cases e
  refine ⟨sub, hm, hr, by unfold L2.start startD; simp [hl], fun i d e => ?_, fun i o e => absurd e (no i o), fun i p ⟨⟨o, e⟩, _⟩ => absurd e (no i o), fun i j p ⟨⟨o, e⟩, _⟩ _ => absurd e (no i o)⟩
  unfold startD at e
  by_cases hi : i < ds.length
  · rw [List.getElem?_append_left (by simpa using hi), List.getElem?_map, List.getElem?_eq_getElem hi] at e
    cases e
    obtain ⟨v, h1, h2⟩ := rs.get (List.getElem?_eq_getElem hi)
    refine ⟨v, ?_, h2⟩
    unfold L2.start
    rw [List.getElem?_append_left (by simp; omega), List.getElem?_map, h1]
    rfl
  · rw [List.getElem?_append_right (by simpa using hi), List.getElem?_replicate] at e
    split at e <;> cases e
/-- what a def's body is to reach -/
abbrev endsOf {m : Mem} (Qd : D → m.S → Prop) : DEnds m := { nx := fun _ s' => Qd .non s', rt := Qd }
/-- THE RULE for a def, over data -/
theorem dfn {x qual : Str} {st : Stmt} {f : Addr} {fd : FuncData} {N ps : List Str} {k n : Nat} {sp : DSp m} (F : Fun K x qual st f fd) (S : FnScope N ps (defScope st)) (hn : n = ps.length)
    (hb : ∀ (cdv : Value) (A : Around) (outer : List Env) (s : Shared) (H : Hp) (E : XK) (En : Ent m), RoomG k (A.deeper (envOfC qual (defScope st) s.heap.objs.size f cdv)) →
      ∃ t, PSs (cxOf CX0 P w K mg base N qual (defScope st) f cdv A outer s H E).nox (defBody st) (upS K m En t) ∧ ∀ ds s Qd, sp ds s Qd → t (endsOf Qd) (startD N ds) s) : FnG P w K mg base CX0 (k + 1) f fd ps (lift K m n sp) := by
  subst hn
  refine Fun.okG F S (fun vs H Q E h => h.1) (fun cdv A outer s H vs Q E hr h => ?_)
  obtain ⟨hl, F0, ds, s0, Qd, sub, hm, hreg, rs, hsp, hQ⟩ := h
  obtain ⟨t, ht, hq⟩ := hb cdv A outer s H E ⟨F0, H, s0⟩ hr
  refine ⟨_, ht.nox, F0, startD N ds, s0, _, rel_start sub hm hreg rs, ⟨Same.refl _, fun _ _ h _ => h, fun _ h => h, fun _ _ h => .inl h, fun _ h => .inl h, fun i p ⟨⟨o, e⟩, _⟩ => ?_⟩, hq ds s0 Qd hsp, ?_⟩
  · unfold startD at e
    by_cases hi : i < ds.length
    · rw [List.getElem?_append_left (by simpa using hi), List.getElem?_map, List.getElem?_eq_getElem hi] at e; cases e
    · rw [List.getElem?_append_right (by simpa using hi), List.getElem?_replicate] at e
      split at e <;> cases e
  · have cs : ∀ F' H' σ ρ s, Rel K m F' H' σ ρ s → Own m ⟨F0, H, s0⟩ F' H' σ ρ s → CStp m F0 H s0 F' H' s := fun F' H' σ ρ s r o => ⟨o.ext, o.keep, o.alive, o.fresh, o.regf, r.sub, r.mem, r.reg⟩
    exact ⟨fun F' H' σ ρ s _ r o q => hQ .non s _ F' H' q (cs F' H' σ ρ s r o) rfl, fun F' H' σ ρ s d v _ r o rv q => hQ d s v F' H' q (cs F' H' σ ρ s r o) rv, fun _ _ _ _ _ _ _ _ q => q.elim, fun _ _ _ _ _ _ _ _ q => q.elim⟩
end
end DL

set_option Elab.async false
set_option linter.all false
set_option maxRecDepth 100000
namespace DL
open PySem PySem.Spec PyProof.Rows L2 TL

/-! ### what operations do with data -/
section
variable {K : PySem.W.Frag} {X : Cx}
/-- + -/
def addD : D → D → (D → Prop) → Prop
  | .int i, .int j, Q => Q (.int (i + j))
  | .str a, .str b, Q => a.length + b.length ≤ strLim ∧ Q (.str (a ++ b))
  | .lst a, .lst b, Q => a.length + b.length ≤ sizeLine ∧ Q (.lst (a ++ b))
  | .tup a, .tup b, Q => a.length + b.length ≤ sizeLine ∧ Q (.tup (a ++ b))
  | _, _, _ => False
def rAddA (K : PySem.W.Frag) : R2 := fun x y H Q => (∃ i j, x = .int i ∧ y = .int j ∧ Q (.int (i + j)) H) ∨ (∃ i j, x = .str i ∧ y = .str j ∧ i.length + j.length ≤ sizeLine ∧ Q (.str (i ++ j)) H) ∨ rCat x y H Q ∨ rCatA K x y H Q
theorem op_addA : OpR X (binaryOp .Add) (rAddA X.K) := op_add.or (op_add_str.or (op_cat.or op_catA))
theorem sOk_app {a b : Str} (h : sOk a = true) (k : sOk b = true) (l : a.length + b.length ≤ strLim) : sOk (a ++ b) = true := by
  refine sOk_of ?_ fun c hc => ?_
  · rw [len_tl, tl_append, List.length_append, ← len_tl, ← len_tl]; exact l
  · rw [show (a ++ b).cps.toList = tl a ++ tl b from tl_append a b] at hc
    rcases List.mem_append.mp hc with z | z
    · exact sOk_cps h c z
    · exact sOk_cps k c z
theorem o_add : Op2 K (rAddA K) addD := by
  intro F H dx dy x y Qd Q sub rx ry h hQ
  cases dx with
  | int i =>
    cases dy with
    | int j => cases rx; cases ry; exact .inl ⟨i, j, rfl, rfl, hQ _ _ F H h (Grow.refl sub) rfl⟩
    | _ => exact False.elim h
  | str a =>
    cases dy with
    | str b =>
      obtain ⟨rfl, ha⟩ := rx
      obtain ⟨rfl, hb⟩ := ry
      obtain ⟨hl, h⟩ := h
      exact .inr (.inl ⟨a, b, rfl, rfl, Nat.le_trans hl (Nat.le_trans (Nat.le_add_right _ 2) strLim_line), hQ _ _ F H h (Grow.refl sub) ⟨rfl, sOk_app ha hb hl⟩⟩)
    | _ => exact False.elim h
  | lst a =>
    cases dy with
    | lst b =>
      obtain ⟨p, vs, rfl, h1, _, rs⟩ := rx
      obtain ⟨q, ws, rfl, h2, _, rt⟩ := ry
      obtain ⟨hl, h⟩ := h
      have l1 := rs.length
      have l2 := rt.length
      refine .inr (.inr (.inl ⟨p, q, vs, ws, rfl, rfl, sub _ _ h1, sub _ _ h2, by omega, fun n nn => ?_⟩))
      have g : Grow F H (upd F n (.lst (vs ++ ws))) (upd H n (.lst (vs ++ ws))) := Grow.new sub nn
      exact hQ _ _ _ _ h g ⟨n, _, rfl, upd_same, by rw [List.length_append]; omega, (Reps.mono g.fF _ _ rs).append (Reps.mono g.fF _ _ rt)⟩
    | _ => exact False.elim h
  | tup a =>
    cases dy with
    | tup b =>
      have rx' := rx
      have ry' := ry
      obtain ⟨p, vs, rfl, h1, _, rs⟩ := rx
      obtain ⟨q, ws, rfl, h2, _, rt⟩ := ry
      obtain ⟨hl, h⟩ := h
      have l1 := rs.length
      have l2 := rt.length
      refine .inr (.inr (.inr ⟨p, q, vs, ws, rfl, rfl, Same.seqT sub h1, Same.seqT sub h2, by omega, fun e => ?_, fun _ e => ?_, fun _ _ n nn => ?_⟩))
      · subst e
        have e' : a = [] := by cases a with | nil => rfl | cons _ _ => cases l1
        subst e'
        exact hQ _ _ F H h (Grow.refl sub) ry'
      · subst e
        have e' : b = [] := by cases b with | nil => rfl | cons _ _ => cases l2
        subst e'
        rw [List.append_nil] at h
        exact hQ _ _ F H h (Grow.refl sub) rx'
      · have g : Grow F H (upd F n (.tup (vs ++ ws))) (upd H n (.tup (vs ++ ws))) := Grow.new sub nn
        exact hQ _ _ _ _ h g ⟨n, _, rfl, .inl (.inl upd_same), by rw [List.length_append]; omega, (Reps.mono g.fF _ _ rs).append (Reps.mono g.fF _ _ rt)⟩
    | _ => exact False.elim h
  | _ => cases dy <;> exact False.elim h
/-- - -/
def subD : D → D → (D → Prop) → Prop
  | .int i, .int j, Q => Q (.int (i - j))
  | _, _, _ => False
theorem o_ints0 {g : Int → Int → Int} {f : D → D → (D → Prop) → Prop} (h : ∀ x y Qd, f x y Qd → ∃ i j, x = .int i ∧ y = .int j ∧ Qd (.int (g i j))) : Op2 K (rI0 fun i j => .int (g i j)) f := by
  intro F H dx dy x y Qd Q sub rx ry q hQ
  obtain ⟨i, j, rfl, rfl, q2⟩ := h _ _ _ q
  cases rx
  cases ry
  exact ⟨i, j, rfl, rfl, hQ _ _ F H q2 (Grow.refl sub) rfl⟩
theorem o_sub : Op2 K (rI0 fun i j => .int (i - j)) subD := o_ints0 fun x y Qd h => by
  cases x with
  | int i => cases y with
    | int j => exact ⟨i, j, rfl, rfl, h⟩
    | _ => exact False.elim h
  | _ => cases y <;> exact False.elim h
/-- *: of ints, one of them below 2 ^ 64; a text or a list some times -/
def mulD : D → D → (D → Prop) → Prop
  | .int i, .int j, Q => CMul i j ∧ Q (.int (i * j))
  | .str a, .int n, Q => (0 ≤ n ∧ n ≤ strLim ∧ a.length * n.toNat ≤ strLim) ∧ Q (.str ⟨((List.replicate n.toNat a.cps.toList).flatten).toArray⟩)
  | .lst a, .int n, Q => (0 ≤ n ∧ n < 2 ^ 62 ∧ a.length * n.toNat ≤ sizeLine) ∧ Q (.lst (List.replicate n.toNat a).flatten)
  | _, _, _ => False
theorem mul_txt {a : Str} {n : Int} (h0 : 0 ≤ n) : Txt.mul a n = ⟨((List.replicate n.toNat a.cps.toList).flatten).toArray⟩ := by
  have fold : ∀ (k : Nat) (acc : Array Nat), ((List.replicate k a.cps).foldl (· ++ ·) acc).toList = acc.toList ++ (List.replicate k a.cps.toList).flatten := by
    intro k
    induction k with
    | zero => intro acc; simp
    | succ k ih => intro acc; rw [List.replicate_succ, List.foldl_cons, ih, List.replicate_succ, List.flatten_cons, Array.toList_append, List.append_assoc]
  refine ext_tl ?_
  show tl (Txt.mul a n) = (List.replicate n.toNat a.cps.toList).flatten
  unfold Txt.mul
  by_cases h1 : n < 1
  · rw [if_pos h1]
    have e : n.toNat = 0 := by omega
    rw [e]
    rfl
  · rw [if_neg h1]
    by_cases h2 : (n == 1 || a.length == 0) = true
    · rw [if_pos h2]
      rw [Bool.or_eq_true] at h2
      rcases h2 with h2 | h2
      · have e : n = 1 := by simpa using h2
        subst e
        show tl a = (List.replicate 1 (tl a)).flatten
        simp
      · have e : tl a = [] := by
          have : a.length = 0 := by simpa using h2
          exact List.eq_nil_of_length_eq_zero (by rw [← len_tl]; exact this)
        show tl a = (List.replicate n.toNat (tl a)).flatten
        rw [e]
        simp
    · rw [if_neg h2]
      show ((List.replicate n.toNat a.cps).foldl (· ++ ·) #[]).toList = _
      rw [fold]
      simp
theorem op_mul_str : OpR X (binaryOp .Mult) (fun x y H Q => ∃ a n, x = .str a ∧ y = .int n ∧ (0 ≤ n ∧ n ≤ strLim ∧ a.length * n.toNat ≤ strLim) ∧ Q (.str ⟨((List.replicate n.toNat a.cps.toList).flatten).toArray⟩) H) := by
  intro pins s σ H x y v u Q I rx ry h
  obtain ⟨a, n, rfl, rfl, ⟨h0, h1, h2⟩, q⟩ := h
  obtain ⟨t, rfl⟩ := rx
  obtain ⟨t', rfl⟩ := ry
  have hs : strLim = 1000000 := rfl
  refine PySem.SB.mul ⟨?_, fun _ _ => ?_, fun _ _ => ?_⟩ fun t' k => ⟨.str _, H, I.tok _, ⟨t', by rw [mul_txt h0]⟩, q⟩
  · rw [decide_eq_false (by omega), decide_eq_false (by omega)]; rfl
  · have hn : 0 < n := by omega
    have : (a.length : Int) * n ≤ strLim := by
      have e : (n.toNat : Int) = n := by omega
      have : ((a.length * n.toNat : Nat) : Int) ≤ ((strLim : Nat) : Int) := by exact_mod_cast h2
      rw [Int.natCast_mul, e] at this
      exact this
    have q2 : (a.length : Int) ≤ (2 ^ 63 - 1) / n := (Int.le_ediv_iff_mul_le hn).mpr (Int.le_trans this (by decide))
    omega
  · unfold Builtin.Str.tooLong
    have := strLim_line
    exact decide_eq_false (by omega)
def rMulA : R2 := fun x y H Q => (∃ i j, x = .int i ∧ y = .int j ∧ CMul i j ∧ Q (.int (i * j)) H) ∨ (∃ a n, x = .str a ∧ y = .int n ∧ (0 ≤ n ∧ n ≤ strLim ∧ a.length * n.toNat ≤ strLim) ∧ Q (.str ⟨((List.replicate n.toNat a.cps.toList).flatten).toArray⟩) H) ∨ rRep x y H Q
theorem op_mulA : OpR X (binaryOp .Mult) rMulA := op_mul.or (op_mul_str.or op_rep)
theorem flat_rep_len {α : Type} (l : List α) : ∀ n : Nat, (List.replicate n l).flatten.length = l.length * n
  | 0 => by simp
  | n + 1 => by rw [List.replicate_succ, List.flatten_cons, List.length_append, flat_rep_len l n, Nat.mul_succ, Nat.add_comm]
theorem Reps.rep {K : PySem.W.Frag} {F : Hp} {ds : List D} {vs : List V} (h : Reps K F ds vs) : ∀ n : Nat, Reps K F (List.replicate n ds).flatten (List.replicate n vs).flatten
  | 0 => .nil
  | n + 1 => by rw [List.replicate_succ, List.replicate_succ, List.flatten_cons, List.flatten_cons]; exact h.append (Reps.rep h n)
theorem o_mul : Op2 K rMulA mulD := by
  intro F H dx dy x y Qd Q sub rx ry h hQ
  cases dx with
  | int i =>
    cases dy with
    | int j => cases rx; cases ry; exact .inl ⟨i, j, rfl, rfl, h.1, hQ _ _ F H h.2 (Grow.refl sub) rfl⟩
    | _ => exact False.elim h
  | str a =>
    cases dy with
    | int n =>
      obtain ⟨rfl, ha⟩ := rx
      cases ry
      refine .inr (.inl ⟨a, n, rfl, rfl, h.1, hQ _ _ F H h.2 (Grow.refl sub) ⟨rfl, sOk_of ?_ fun c hc => ?_⟩⟩)
      · show (((List.replicate n.toNat a.cps.toList).flatten).toArray).size ≤ strLim
        rw [List.size_toArray, flat_rep_len, Array.length_toList]
        exact h.1.2.2
      · have hc' : c ∈ (List.replicate n.toNat a.cps.toList).flatten := hc
        obtain ⟨l, hl, hcl⟩ := List.mem_flatten.mp hc'
        rw [(List.mem_replicate.mp hl).2] at hcl
        exact sOk_cps ha c hcl
    | _ => exact False.elim h
  | lst a =>
    cases dy with
    | int n =>
      obtain ⟨p, vs, rfl, h1, _, rs⟩ := rx
      cases ry
      obtain ⟨⟨h0, h2, h3⟩, h⟩ := h
      have l1 := rs.length
      refine .inr (.inr ⟨p, n, vs, rfl, rfl, sub _ _ h1, by omega, by omega, by rw [l1]; exact h3, fun q nq => ?_⟩)
      have g : Grow F H (upd F q (.lst (List.replicate n.toNat vs).flatten)) (upd H q (.lst (List.replicate n.toNat vs).flatten)) := Grow.new sub nq
      exact hQ _ _ _ _ h g ⟨q, _, rfl, upd_same, by rw [flat_rep_len, l1]; exact h3, (Reps.mono g.fF _ _ rs).rep _⟩
    | _ => exact False.elim h
  | _ => cases dy <;> exact False.elim h
/-- -x -/
def negD : D → (D → Prop) → Prop
  | .int i, Q => Q (.int (-i))
  | _, _ => False
theorem o_neg : Op1 K (rU fun i => .int (-i)) negD := by
  intro F H dx x Qd Q sub rx h hQ
  cases dx with
  | int i => cases rx; exact ⟨i, rfl, hQ _ _ F H h (Grow.refl sub) rfl⟩
  | _ => exact False.elim h

/-! ### comparisons -/
def ltS (a b : Str) : Bool := decide (a.cps.toList < b.cps.toList)
def ltD : D → D → (Bool → Prop) → Prop
  | .int i, .int j, Q => Q (decide (i < j))
  | .str a, .str b, Q => Q (ltS a b)
  | _, _, _ => False
def leD : D → D → (Bool → Prop) → Prop
  | .int i, .int j, Q => Q (decide (i ≤ j))
  | .str a, .str b, Q => Q (!ltS b a)
  | _, _, _ => False
def gtD : D → D → (Bool → Prop) → Prop
  | .int i, .int j, Q => Q (decide (j < i))
  | .str a, .str b, Q => Q (ltS b a)
  | _, _, _ => False
def rIS (f : Int → Int → Bool) (g : Str → Str → Bool) : R2 := fun x y H Q => (∃ i j, x = .int i ∧ y = .int j ∧ Q (.bl (f i j)) H) ∨ (∃ i j, x = .str i ∧ y = .str j ∧ Q (.bl (g i j)) H)
theorem op_ltA : OpR X (compareOp .Lt) (rIS (fun i j => decide (i < j)) ltS) := op_lt.or op_lt_str
theorem op_leA : OpR X (compareOp .LtE) (rIS (fun i j => decide (i ≤ j)) fun a b => !ltS b a) := op_le.or op_le_str
theorem op_gtA : OpR X (compareOp .Gt) (rIS (fun i j => decide (j < i)) fun a b => ltS b a) := op_gt.or op_gt_str
theorem o_is {f : Int → Int → Bool} {g : Str → Str → Bool} {c : D → D → (Bool → Prop) → Prop} (h : ∀ x y Qd, c x y Qd → (∃ i j, x = .int i ∧ y = .int j ∧ Qd (f i j)) ∨ ∃ i j, x = .str i ∧ y = .str j ∧ Qd (g i j)) : Cm2 K (rIS f g) c := by
  intro F H dx dy x y Qd Q sub rx ry q hQ
  rcases h _ _ _ q with ⟨i, j, rfl, rfl, q2⟩ | ⟨i, j, rfl, rfl, q2⟩
  · cases rx; cases ry; exact .inl ⟨i, j, rfl, rfl, hQ _ F H q2 (Grow.refl sub)⟩
  · obtain ⟨rfl, _⟩ := rx
    obtain ⟨rfl, _⟩ := ry
    exact .inr ⟨i, j, rfl, rfl, hQ _ F H q2 (Grow.refl sub)⟩
theorem o_lt : Cm2 K (rIS (fun i j => decide (i < j)) ltS) ltD := o_is fun x y Qd h => by
  cases x <;> cases y <;> first | exact False.elim h | exact .inl ⟨_, _, rfl, rfl, h⟩ | exact .inr ⟨_, _, rfl, rfl, h⟩
theorem o_le : Cm2 K (rIS (fun i j => decide (i ≤ j)) fun a b => !ltS b a) leD := o_is fun x y Qd h => by
  cases x <;> cases y <;> first | exact False.elim h | exact .inl ⟨_, _, rfl, rfl, h⟩ | exact .inr ⟨_, _, rfl, rfl, h⟩
theorem o_gt : Cm2 K (rIS (fun i j => decide (j < i)) fun a b => ltS b a) gtD := o_is fun x y Qd h => by
  cases x <;> cases y <;> first | exact False.elim h | exact .inl ⟨_, _, rfl, rfl, h⟩ | exact .inr ⟨_, _, rfl, rfl, h⟩
/-- is None, is not None -/
def isNo : D → Bool
  | .non => true
  | _ => false
def isD : D → D → (Bool → Prop) → Prop
  | x, .non, Q => Q (isNo x)
  | _, _, _ => False
def isntD : D → D → (Bool → Prop) → Prop
  | x, .non, Q => Q (!isNo x)
  | _, _, _ => False
theorem rep_no {F : Hp} {d : D} {v : V} (h : Rep K F d v) (n : ∀ w, d ≠ .any w) : decide (v = .non) = isNo d := by
  cases d with
  | non => cases h; rfl
  | bl b => cases h; rfl
  | int i => cases h; rfl
  | str x => obtain ⟨rfl, _⟩ := h; rfl
  | lst xs => obtain ⟨a, vs, rfl, _⟩ := h; rfl
  | tup xs => obtain ⟨a, vs, rfl, _⟩ := h; rfl
  | dic ks ds => obtain ⟨a, vs, rfl, _⟩ := h; rfl
  | ins C ns ds => obtain ⟨a, dx, fs, rfl, _⟩ := h; rfl
  | any w => exact absurd rfl (n w)
  | fz xs => obtain ⟨a, vs, rfl, _⟩ := h; rfl
  | exc C ns ds => obtain ⟨a, d, fs, rfl, _⟩ := h; rfl
def isD' (x y : D) (Q : Bool → Prop) : Prop := (∀ w, x ≠ .any w) ∧ isD x y Q
def isntD' (x y : D) (Q : Bool → Prop) : Prop := (∀ w, x ≠ .any w) ∧ isntD x y Q
theorem o_isN : Cm2 K (fun x y H Q => y = .non ∧ Q (.bl (decide (x = .non))) H) isD' := by
  intro F H dx dy x y Qd Q sub rx ry h hQ
  obtain ⟨n, h⟩ := h
  cases dy with
  | non => cases ry; exact ⟨rfl, by rw [rep_no rx n]; exact hQ _ F H h (Grow.refl sub)⟩
  | _ => cases dx <;> exact False.elim h
theorem o_notN : Cm2 K (fun x y H Q => y = .non ∧ Q (.bl (!decide (x = .non))) H) isntD' := by
  intro F H dx dy x y Qd Q sub rx ry h hQ
  obtain ⟨n, h⟩ := h
  cases dy with
  | non => cases ry; exact ⟨rfl, by rw [rep_no rx n]; exact hQ _ F H h (Grow.refl sub)⟩
  | _ => cases dx <;> exact False.elim h

/-! ### == and != -/
mutual
/-- data without dicts, objects and the like, at most so deep -/
def plainD : Nat → D → Bool
  | _, .non => true
  | _, .bl _ => true
  | _, .int _ => true
  | _, .str _ => true
  | n, .lst xs => match n with
    | 0 => false
    | k + 1 => plainDs k xs
  | n, .tup xs => match n with
    | 0 => false
    | k + 1 => plainDs k xs
  | _, _ => false
def plainDs : Nat → List D → Bool
  | _, [] => true
  | n, d :: ds => plainD n d && plainDs n ds
end
mutual
def eqD : D → D → Bool
  | .non, .non => true
  | .bl a, .bl b => a == b
  | .bl a, .int j => (if a then 1 else 0) == j
  | .int i, .bl b => i == (if b then 1 else 0)
  | .int i, .int j => i == j
  | .str x, .str y => x == y
  | .lst xs, .lst ys => eqDs xs ys
  | .tup xs, .tup ys => eqDs xs ys
  | _, _ => false
def eqDs : List D → List D → Bool
  | [], [] => true
  | x :: xs, y :: ys => eqD x y && eqDs xs ys
  | _, _ => false
end
mutual
def toPy : D → PyData
  | .non => .none
  | .bl b => .bool b
  | .int i => .int i
  | .str x => .str x
  | .lst xs => .list (toPys xs)
  | .tup xs => .tuple (toPys xs)
  | _ => .none
def toPys : List D → List PyData
  | [] => []
  | d :: ds => toPy d :: toPys ds
end
mutual
theorem rep_dp {F H : Hp} (sub : Same F H) : ∀ (n : Nat) (d : D) (v : V), plainD n d = true → Rep K F d v → Dp K H v (toPy d)
  | _, .non, _, _, h => by cases h; exact .non
  | _, .bl b, _, _, h => by cases h; exact .bl b
  | _, .int i, _, _, h => by cases h; exact .int i
  | _, .str x, _, _, h => by obtain ⟨rfl, _⟩ := h; exact .str x
  | 0, .lst xs, _, p, _ => by simp [plainD] at p
  | n + 1, .lst xs, _, p, h => by
    obtain ⟨a, vs, rfl, h1, _, r⟩ := h
    exact .lst (.inl (.inl (sub _ _ h1))) (reps_dp sub n xs vs (by simpa [plainD] using p) r)
  | 0, .tup xs, _, p, _ => by simp [plainD] at p
  | n + 1, .tup xs, _, p, h => by
    obtain ⟨a, vs, rfl, h1, _, r⟩ := h
    exact .tup (Same.seqT sub h1) (reps_dp sub n xs vs (by simpa [plainD] using p) r)
  | _, .dic _ _, _, p, _ => by simp [plainD] at p
  | _, .ins _ _ _, _, p, _ => by simp [plainD] at p
  | _, .any _, _, p, _ => by simp [plainD] at p
  | _, .fz _, _, p, _ => by simp [plainD] at p
  | _, .exc _ _ _, _, p, _ => by simp [plainD] at p
theorem reps_dp {F H : Hp} (sub : Same F H) : ∀ (n : Nat) (ds : List D) (vs : List V), plainDs n ds = true → Reps K F ds vs → DpAll K H vs (toPys ds)
  | _, [], _, _, h => by cases h; exact .nil
  | n, d :: ds, _, p, ⟨v, r, e, h, t⟩ => by
    subst e
    rw [plainDs, Bool.and_eq_true] at p
    exact .cons (rep_dp sub n d v p.1 h) (reps_dp sub n ds r p.2 t)
end
theorem strOk_of {x : Str} (h : sOk x = true) : PyData.strOk x = true := by
  unfold PyData.strOk
  rw [← Array.all_toList]
  exact List.all_eq_true.mpr fun c hc => decide_eq_true (sOk_cps h c hc)
mutual
theorem lay_of {F : Hp} : ∀ (n : Nat) (d : D) (v : V), plainD n d = true → Rep K F d v → (toPy d).canLay0 = true ∧ (toPy d).depth ≤ n
  | _, .non, _, _, _ => ⟨rfl, Nat.zero_le _⟩
  | _, .bl b, _, _, _ => ⟨rfl, Nat.zero_le _⟩
  | _, .int i, _, _, _ => ⟨rfl, Nat.zero_le _⟩
  | _, .str x, _, _, h => by obtain ⟨_, h⟩ := h; exact ⟨by simpa [toPy, PyData.canLay0] using strOk_of h, by simp [toPy, PyData.depth]⟩
  | 0, .lst xs, _, p, _ => by simp [plainD] at p
  | n + 1, .lst xs, _, p, h => by
    obtain ⟨a, vs, rfl, h1, _, r⟩ := h
    obtain ⟨q1, q2⟩ := lay_ofs n xs vs (by simpa [plainD] using p) r
    exact ⟨by simpa [toPy, PyData.canLay0] using q1, by simp only [toPy, PyData.depth]; omega⟩
  | 0, .tup xs, _, p, _ => by simp [plainD] at p
  | n + 1, .tup xs, _, p, h => by
    obtain ⟨a, vs, rfl, h1, _, r⟩ := h
    obtain ⟨q1, q2⟩ := lay_ofs n xs vs (by simpa [plainD] using p) r
    exact ⟨by simpa [toPy, PyData.canLay0] using q1, by simp only [toPy, PyData.depth]; omega⟩
  | _, .dic _ _, _, p, _ => by simp [plainD] at p
  | _, .ins _ _ _, _, p, _ => by simp [plainD] at p
  | _, .any _, _, p, _ => by simp [plainD] at p
  | _, .fz _, _, p, _ => by simp [plainD] at p
  | _, .exc _ _ _, _, p, _ => by simp [plainD] at p
theorem lay_ofs {F : Hp} : ∀ (n : Nat) (ds : List D) (vs : List V), plainDs n ds = true → Reps K F ds vs → PyData.canLayAll0 (toPys ds) = true ∧ PyData.depthAll (toPys ds) ≤ n
  | _, [], _, _, _ => ⟨rfl, Nat.zero_le _⟩
  | n, d :: ds, _, p, ⟨v, r, e, h, t⟩ => by
    rw [plainDs, Bool.and_eq_true] at p
    obtain ⟨q1, q2⟩ := lay_of n d v p.1 h
    obtain ⟨q3, q4⟩ := lay_ofs n ds r p.2 t
    exact ⟨by simp only [toPys, PyData.canLayAll0, q1, q3, Bool.and_self], by simp only [toPys, PyData.depthAll]; omega⟩
end
mutual
theorem eqv_of : ∀ (n m : Nat) (d e : D), plainD n d = true → plainD m e = true → PyData.eqv (toPy d) (toPy e) = eqD d e
  | _, _, .non, e, _, q => by cases e <;> simp_all [toPy, eqD, PyData.eqv, plainD]
  | _, _, .bl b, e, _, q => by cases e <;> simp_all [toPy, eqD, PyData.eqv, plainD]
  | _, _, .int i, e, _, q => by cases e <;> simp_all [toPy, eqD, PyData.eqv, plainD]
  | _, _, .str x, e, _, q => by cases e <;> simp_all [toPy, eqD, PyData.eqv, plainD]
  | n, m, .lst xs, e, p, q => by
    cases e with
    | lst ys =>
      cases n with
      | zero => simp [plainD] at p
      | succ n =>
        cases m with
        | zero => simp [plainD] at q
        | succ m => simpa only [toPy, eqD, PyData.eqv] using eqv_ofs n m xs ys (by simpa [plainD] using p) (by simpa [plainD] using q)
    | _ => simp_all [toPy, eqD, PyData.eqv, plainD]
  | n, m, .tup xs, e, p, q => by
    cases e with
    | tup ys =>
      cases n with
      | zero => simp [plainD] at p
      | succ n =>
        cases m with
        | zero => simp [plainD] at q
        | succ m => simpa only [toPy, eqD, PyData.eqv] using eqv_ofs n m xs ys (by simpa [plainD] using p) (by simpa [plainD] using q)
    | _ => simp_all [toPy, eqD, PyData.eqv, plainD]
  | _, _, .dic _ _, _, p, _ => by simp [plainD] at p
  | _, _, .ins _ _ _, _, p, _ => by simp [plainD] at p
  | _, _, .any _, _, p, _ => by simp [plainD] at p
  | _, _, .fz _, _, p, _ => by simp [plainD] at p
  | _, _, .exc _ _ _, _, p, _ => by simp [plainD] at p
theorem eqv_ofs : ∀ (n m : Nat) (d e : List D), plainDs n d = true → plainDs m e = true → PyData.eqvAll (toPys d) (toPys e) = eqDs d e
  | _, _, [], [], _, _ => rfl
  | _, _, [], _ :: _, _, _ => rfl
  | _, _, _ :: _, [], _, _ => rfl
  | n, m, d :: ds, e :: es, p, q => by
    rw [plainDs, Bool.and_eq_true] at p q
    simp only [toPys, PyData.eqvAll, eqDs]
    rw [eqv_of n m d e p.1 q.1, eqv_ofs n m ds es p.2 q.2]
end
def eqC (x y : D) (Q : Bool → Prop) : Prop := plainD 60 x = true ∧ plainD 60 y = true ∧ Q (eqD x y)
def neC (x y : D) (Q : Bool → Prop) : Prop := plainD 60 x = true ∧ plainD 60 y = true ∧ Q (!eqD x y)
theorem shaped_of {F : Hp} {d : D} {v : V} (p : plainD 60 d = true) (h : Rep K F d v) : SeqAt.shaped (toPy d) = true := by
  obtain ⟨h1, h2⟩ := lay_of 60 d v p h
  unfold SeqAt.shaped
  rw [h1, decide_eq_true (by omega)]
  rfl
theorem o_eq : Cm2 K (rEqD K) eqC := by
  intro F H dx dy x y Qd Q sub rx ry h hQ
  obtain ⟨p1, p2, h⟩ := h
  refine ⟨toPy dx, toPy dy, rep_dp sub 60 dx x p1 rx, rep_dp sub 60 dy y p2 ry, shaped_of p1 rx, shaped_of p2 ry, ?_⟩
  rw [eqv_of 60 60 dx dy p1 p2]
  exact hQ _ F H h (Grow.refl sub)
theorem o_ne : Cm2 K (rNeD K) neC := by
  intro F H dx dy x y Qd Q sub rx ry h hQ
  obtain ⟨p1, p2, h⟩ := h
  refine ⟨toPy dx, toPy dy, rep_dp sub 60 dx x p1 rx, rep_dp sub 60 dy y p2 ry, shaped_of p1 rx, shaped_of p2 ry, ?_⟩
  rw [eqv_of 60 60 dx dy p1 p2]
  exact hQ _ F H h (Grow.refl sub)
/-! ### in, not in -/
def strIn (a z : Str) : Bool := !(Builtin.Str.occurrences z a 0 z.length 1).isEmpty
def inD : D → D → (Bool → Prop) → Prop
  | .str a, .str z, Q => Q (strIn a z)
  | x, .lst ys, Q => plainD 58 x = true ∧ plainDs 58 ys = true ∧ Q (ys.any fun y => eqD y x)
  | _, _, _ => False
def notInD : D → D → (Bool → Prop) → Prop
  | .str a, .str z, Q => Q (!strIn a z)
  | x, .lst ys, Q => plainD 58 x = true ∧ plainDs 58 ys = true ∧ Q (!ys.any fun y => eqD y x)
  | _, _, _ => False
def rInA (K : PySem.W.Frag) : R2 := fun x y H Q => (∃ i j, x = .str i ∧ y = .str j ∧ Q (.bl (strIn i j)) H) ∨ rInD K x y H Q
def rNotInA (K : PySem.W.Frag) : R2 := fun x y H Q => (∃ i j, x = .str i ∧ y = .str j ∧ Q (.bl (!strIn i j)) H) ∨ rNotInD K x y H Q
theorem op_inA (hu : X.A.units + 65 < cLine) : OpR X (compareOp .In) (rInA X.K) := op_in_str.or (op_inD hu)
theorem op_notInA (hu : X.A.units + 65 < cLine) : OpR X (compareOp .NotIn) (rNotInA X.K) := op_notin_str.or (op_notInD hu)
theorem any_eqv (n m : Nat) (x : D) (hx : plainD n x = true) : ∀ (ys : List D), plainDs m ys = true → (toPys ys).any (fun z => PyData.eqv z (toPy x)) = ys.any fun y => eqD y x
  | [], _ => rfl
  | y :: ys, h => by
    rw [plainDs, Bool.and_eq_true] at h
    rw [toPys, List.any_cons, List.any_cons, eqv_of m n y x h.1 hx, any_eqv n m x hx ys h.2]
mutual
theorem plain_mono : ∀ (n m : Nat) (d : D), n ≤ m → plainD n d = true → plainD m d = true
  | _, _, .non, _, _ => by simp [plainD]
  | _, _, .bl _, _, _ => by simp [plainD]
  | _, _, .int _, _, _ => by simp [plainD]
  | _, _, .str _, _, _ => by simp [plainD]
  | 0, _, .lst xs, _, p => by simp [plainD] at p
  | n + 1, 0, .lst xs, h, _ => absurd h (by omega)
  | n + 1, m + 1, .lst xs, h, p => by simpa [plainD] using plain_monos n m xs (by omega) (by simpa [plainD] using p)
  | 0, _, .tup xs, _, p => by simp [plainD] at p
  | n + 1, 0, .tup xs, h, _ => absurd h (by omega)
  | n + 1, m + 1, .tup xs, h, p => by simpa [plainD] using plain_monos n m xs (by omega) (by simpa [plainD] using p)
  | _, _, .dic _ _, _, p => by simp [plainD] at p
  | _, _, .ins _ _ _, _, p => by simp [plainD] at p
  | _, _, .any _, _, p => by simp [plainD] at p
  | _, _, .fz _, _, p => by simp [plainD] at p
theorem plain_monos : ∀ (n m : Nat) (d : List D), n ≤ m → plainDs n d = true → plainDs m d = true
  | _, _, [], _, _ => by simp [plainDs]
  | n, m, d :: ds, h, p => by
    rw [plainDs, Bool.and_eq_true] at p ⊢
    exact ⟨plain_mono n m d h p.1, plain_monos n m ds h p.2⟩
end
theorem in_core {F H : Hp} {dx : D} {ys : List D} {x y : V} (sub : Same F H) (rx : Rep K F dx x) (ry : Rep K F (.lst ys) y) (p1 : plainD 58 dx = true) (p2 : plainDs 58 ys = true) :
    ∃ d ds, Dp K H x d ∧ Dp K H y (.list ds) ∧ SeqAt.shaped d = true ∧ SeqAt.shaped (.list ds) = true ∧ (ds.any fun z => PyData.eqv z d) = ys.any fun y => eqD y dx := by
  have q1 := plain_mono 58 60 dx (by omega) p1
  have q2 : plainD 60 (.lst ys) = true := by
    have := plain_monos 58 59 ys (by omega) p2
    simpa [plainD] using this
  exact ⟨toPy dx, toPys ys, rep_dp sub 60 dx x q1 rx, rep_dp sub 60 _ y q2 ry, shaped_of q1 rx, shaped_of q2 ry, any_eqv 58 58 dx p1 ys p2⟩
theorem o_in : Cm2 K (rInA K) inD := by
  intro F H dx dy x y Qd Q sub rx ry h hQ
  cases dy with
  | lst ys =>
    have h' : plainD 58 dx = true ∧ plainDs 58 ys = true ∧ Qd (ys.any fun y => eqD y dx) := by cases dx <;> exact h
    obtain ⟨p1, p2, q⟩ := h'
    obtain ⟨d, ds, a1, a2, a3, a4, e⟩ := in_core sub rx ry p1 p2
    exact .inr ⟨d, ds, a1, a2, a3, a4, by rw [e]; exact hQ _ F H q (Grow.refl sub)⟩
  | str z =>
    cases dx with
    | str a =>
      obtain ⟨rfl, _⟩ := rx
      obtain ⟨rfl, _⟩ := ry
      exact .inl ⟨a, z, rfl, rfl, hQ _ F H h (Grow.refl sub)⟩
    | _ => exact False.elim h
  | _ => cases dx <;> exact False.elim h
theorem o_notIn : Cm2 K (rNotInA K) notInD := by
  intro F H dx dy x y Qd Q sub rx ry h hQ
  cases dy with
  | lst ys =>
    have h' : plainD 58 dx = true ∧ plainDs 58 ys = true ∧ Qd (!ys.any fun y => eqD y dx) := by cases dx <;> exact h
    obtain ⟨p1, p2, q⟩ := h'
    obtain ⟨d, ds, a1, a2, a3, a4, e⟩ := in_core sub rx ry p1 p2
    exact .inr ⟨d, ds, a1, a2, a3, a4, by rw [e]; exact hQ _ F H q (Grow.refl sub)⟩
  | str z =>
    cases dx with
    | str a =>
      obtain ⟨rfl, _⟩ := rx
      obtain ⟨rfl, _⟩ := ry
      exact .inl ⟨a, z, rfl, rfl, hQ _ F H h (Grow.refl sub)⟩
    | _ => exact False.elim h
  | _ => cases dx <;> exact False.elim h

/-! ### subscripts and slices -/
def ixD : D → D → (D → Prop) → Prop
  | .lst ds, .int i, Q => ∃ d, atI ds i = some d ∧ Q d
  | .tup ds, .int i, Q => ∃ d, atI ds i = some d ∧ Q d
  | .str z, .int i, Q => ∃ c, atI z.cps.toList i = some c ∧ Q (.str ⟨#[c]⟩)
  | _, _, _ => False
theorem Reps.atI {F : Hp} {ds : List D} {vs : List V} {i : Int} {d : D} (h : Reps K F ds vs) (e : L2.atI ds i = some d) : ∃ v, L2.atI vs i = some v ∧ Rep K F d v := by
  unfold L2.atI at e ⊢
  rw [h.length]
  cases q : ixN ds.length i with
  | none => rw [q] at e; cases e
  | some j =>
    rw [q] at e
    exact h.get e
theorem sOk_one {c : Nat} (h : c < 0x110000) : sOk ⟨#[c]⟩ = true := sOk_of (by show 1 ≤ strLim; decide) fun c' hc' => by
  have e : c' = c := by simpa using hc'
  subst e
  exact h
theorem o_ix : Op2 K (rIx K) ixD := by
  intro F H dx dy x y Qd Q sub rx ry h hQ
  cases dx with
  | lst ds =>
    cases dy with
    | int i =>
      obtain ⟨a, vs, rfl, h1, _, rs⟩ := rx
      cases ry
      obtain ⟨d, e, q⟩ := h
      obtain ⟨v, e2, rv⟩ := rs.atI e
      exact .inl ⟨a, vs, i, v, rfl, rfl, .inl (.inl (sub _ _ h1)), e2, hQ d v F H q (Grow.refl sub) rv⟩
    | _ => exact False.elim h
  | tup ds =>
    cases dy with
    | int i =>
      obtain ⟨a, vs, rfl, h1, _, rs⟩ := rx
      cases ry
      obtain ⟨d, e, q⟩ := h
      obtain ⟨v, e2, rv⟩ := rs.atI e
      exact .inr (.inl ⟨a, vs, i, v, rfl, rfl, Same.seqT sub h1, e2, hQ d v F H q (Grow.refl sub) rv⟩)
    | _ => exact False.elim h
  | str z =>
    cases dy with
    | int i =>
      obtain ⟨rfl, hz⟩ := rx
      cases ry
      obtain ⟨c, e, q⟩ := h
      obtain ⟨j, _, hj, _, _, _⟩ := atI_get e
      exact .inr (.inr ⟨z, i, c, rfl, rfl, Nat.le_trans (sOk_len hz) (Nat.le_trans (Nat.le_add_right _ 2) strLim_line), e, hQ _ _ F H q (Grow.refl sub) ⟨rfl, sOk_one (sOk_cps hz c (List.mem_of_getElem? hj))⟩⟩)
    | _ => exact False.elim h
  | _ => cases dy <;> exact False.elim h
def cutD (xs : List D) (lo hi : Option Int) : List D := (xs.drop (HT.sIx xs.length 0 lo)).take (HT.sIx xs.length xs.length hi - HT.sIx xs.length 0 lo)
theorem Reps.cut {F : Hp} {ds : List D} {vs : List V} (h : Reps K F ds vs) (lo hi : Option Int) : Reps K F (cutD ds lo hi) (cutV vs lo hi) := by
  unfold cutD cutV
  rw [h.length]
  exact (h.drop _).take _
def slD : D → Option Int → Option Int → (D → Prop) → Prop
  | .lst ds, lo, hi, Q => Q (.lst (cutD ds lo hi))
  | .tup ds, lo, hi, Q => Q (.tup (cutD ds lo hi))
  | .str z, lo, hi, Q => Q (.str (cutS z lo hi))
  | _, _, _, _ => False
def rSlAll (K : PySem.W.Frag) : V → Option Int → Option Int → Hp → VK → Prop := fun x lo hi H Q => rSlL K x lo hi H Q ∨ rSlA K x lo hi H Q ∨ rSlS x lo hi H Q
theorem sl_all : SlR X (rSlAll X.K) := sl_list.or (sl_tupA.or sl_str)
theorem sOk_cut {z : Str} (h : sOk z = true) (lo hi : Option Int) : sOk (cutS z lo hi) = true := sOk_of (Nat.le_trans (cutS_length z lo hi) (sOk_len h)) fun c hc => by
  have hc' : c ∈ (z.cps.toList.drop (HT.sIx z.length 0 lo)).take (HT.sIx z.length z.length hi - HT.sIx z.length 0 lo) := hc
  exact sOk_cps h c (List.mem_of_mem_drop (List.mem_of_mem_take hc'))
theorem o_sl : OpS K (rSlAll K) slD := by
  intro F H dx x lo hi Qd Q sub rx h hQ
  cases dx with
  | lst ds =>
    obtain ⟨a, vs, rfl, h1, hl, rs⟩ := rx
    refine .inl ⟨a, vs, rfl, .inl (.inl (sub _ _ h1)), fun p np => ?_⟩
    have g : Grow F H (upd F p (.lst (cutV vs lo hi))) (upd H p (.lst (cutV vs lo hi))) := Grow.new sub np
    exact hQ _ _ _ _ h g ⟨p, _, rfl, upd_same, Nat.le_trans (cutV_length vs lo hi) hl, (Reps.mono g.fF _ _ rs).cut lo hi⟩
  | tup ds =>
    have rx' := rx
    obtain ⟨a, vs, rfl, h1, hl, rs⟩ := rx
    refine .inr (.inl ⟨a, vs, rfl, Same.seqT sub h1, fun e => ?_, fun _ p np => ?_⟩)
    · have e2 : cutD ds lo hi = ds := by
        unfold cutD
        rw [rs.length] at e
        rw [e.1, e.2, List.drop_zero, Nat.sub_zero, List.take_length]
      have h' : Qd (.tup (cutD ds lo hi)) := h
      rw [e2] at h'
      exact hQ _ _ F H h' (Grow.refl sub) rx'
    · have g : Grow F H (upd F p (.tup (cutV vs lo hi))) (upd H p (.tup (cutV vs lo hi))) := Grow.new sub np
      exact hQ _ _ _ _ h g ⟨p, _, rfl, .inl (.inl upd_same), Nat.le_trans (cutV_length vs lo hi) hl, (Reps.mono g.fF _ _ rs).cut lo hi⟩
  | str z =>
    obtain ⟨rfl, hz⟩ := rx
    exact .inr (.inr ⟨z, rfl, Nat.le_trans (sOk_len hz) (Nat.le_trans (Nat.le_add_right _ 2) strLim_line), hQ _ _ F H h (Grow.refl sub) ⟨rfl, sOk_cut hz lo hi⟩⟩)
  | _ => exact False.elim h
/-! ### built-in functions -/
def lenOf : D → Option Nat
  | .lst ds => some ds.length
  | .tup ds => some ds.length
  | .str z => some z.length
  | .dic ks _ => some ks.length
  | _ => none
def lenD (ds : List D) (Q : D → Prop) : Prop := ∃ d n, ds = [d] ∧ lenOf d = some n ∧ Q (.int (n : Nat))
def rLenA (K : PySem.W.Frag) : List V → Hp → VK → Prop := fun xs H Q => (∃ x n, xs = [x] ∧ LenV K x H n ∧ Q (.int n) H) ∨ (∃ a kvs, xs = [V.ref a] ∧ H a = some (.dK kvs) ∧ Q (.int kvs.length) H)
theorem CallR.or {f : Value} {r r' : List V → Hp → VK → Prop} (h : CallR X f r) (h' : CallR X f r') : CallR X f (fun xs H Q => r xs H Q ∨ r' xs H Q) := by
  intro pins s σ H xs us Q I rx q
  rcases q with q | q
  · exact h pins s σ H xs us Q I rx q
  · exact h' pins s σ H xs us Q I rx q
theorem o_len : OpN K (rLenA K) lenD := by
  intro F H ds vs Qd Q sub rs h hQ
  obtain ⟨d, n, rfl, e, q⟩ := h
  obtain ⟨v, _, rfl, rv, rn⟩ := rs
  cases rn
  have fin : Q (.int (n : Nat)) H := hQ _ _ F H q (Grow.refl sub) rfl
  cases d with
  | lst xs =>
    obtain ⟨a, ws, rfl, h1, _, r⟩ := rv
    cases e
    exact .inl ⟨_, xs.length, rfl, .inl ⟨ws, .inl (.inl (sub _ _ h1)), r.length.symm⟩, fin⟩
  | tup xs =>
    obtain ⟨a, ws, rfl, h1, _, r⟩ := rv
    cases e
    exact .inl ⟨_, xs.length, rfl, .inr ⟨ws, Same.seqT sub h1, r.length.symm⟩, fin⟩
  | str z =>
    obtain ⟨rfl, hz⟩ := rv
    cases e
    exact .inl ⟨_, z.length, rfl, ⟨Nat.le_trans (sOk_len hz) (Nat.le_trans (Nat.le_add_right _ 2) strLim_line), rfl⟩, fin⟩
  | dic ks xs =>
    obtain ⟨a, kvs, rfl, h1, _, ek, r⟩ := rv
    cases e
    refine .inr ⟨a, kvs, rfl, sub _ _ h1, ?_⟩
    have e2 : kvs.length = ks.length := by rw [← ek, List.length_map]
    rw [e2]
    exact fin
  | _ => cases e
theorem int2 {F : Hp} {i j : Int} {vs : List V} (h : Reps K F [.int i, .int j] vs) : vs = [.int i, .int j] := reps_ints (ns := [i, j]) h
def minD (ds : List D) (Q : D → Prop) : Prop := ∃ i j, ds = [.int i, .int j] ∧ Q (.int (if j < i then j else i))
theorem o_min : OpN K (fun xs H Q => ∃ i j, xs = [.int i, .int j] ∧ Q (.int (if j < i then j else i)) H) minD := by
  intro F H ds vs Qd Q sub rs h hQ
  obtain ⟨i, j, rfl, q⟩ := h
  exact ⟨i, j, int2 rs, hQ _ _ F H q (Grow.refl sub) rfl⟩
def allD (ds : List D) (Q : D → Prop) : Prop := ∃ bs : List Bool, ds = [.lst (bs.map .bl)] ∧ Q (.bl (bs.all id))
def anyD (ds : List D) (Q : D → Prop) : Prop := ∃ bs : List Bool, ds = [.lst (bs.map .bl)] ∧ Q (.bl (bs.any id))
theorem o_all : OpN K (rAll K) allD := by
  intro F H ds vs Qd Q sub rs h hQ
  obtain ⟨bs, rfl, q⟩ := h
  obtain ⟨v, _, rfl, ⟨a, ws, rfl, h1, _, r⟩, rn⟩ := rs
  cases rn
  have e := reps_bls r
  subst e
  exact ⟨a, bs, rfl, .inl (.inl (sub _ _ h1)), hQ _ _ F H q (Grow.refl sub) rfl⟩
theorem o_any : OpN K (rAny K) anyD := by
  intro F H ds vs Qd Q sub rs h hQ
  obtain ⟨bs, rfl, q⟩ := h
  obtain ⟨v, _, rfl, ⟨a, ws, rfl, h1, _, r⟩, rn⟩ := rs
  cases rn
  have e := reps_bls r
  subst e
  exact ⟨a, bs, rfl, .inl (.inl (sub _ _ h1)), hQ _ _ F H q (Grow.refl sub) rfl⟩
/-- tuple(xs), list(xs) -/
def tupD (ds : List D) (Q : D → Prop) : Prop := ∃ d xs, ds = [d] ∧ seqD d = some xs ∧ Q (.tup xs)
theorem o_tuple : OpN K (fun xs H Q => ∃ p ys, xs = [.ref p] ∧ ((SqL K H p ys ∧ ∀ l, H l = none → Q (.ref l) (upd H l (.tup ys))) ∨ (SqT K H p ys ∧ Q (.ref p) H))) tupD := by
  intro F H ds vs Qd Q sub rs h hQ
  obtain ⟨d, xs, rfl, e, q⟩ := h
  obtain ⟨v, _, rfl, rv, rn⟩ := rs
  cases rn
  cases d with
  | lst xs =>
    cases e
    obtain ⟨a, ws, rfl, h1, hl, r⟩ := rv
    refine ⟨a, ws, rfl, .inl ⟨.inl (.inl (sub _ _ h1)), fun p np => ?_⟩⟩
    have g : Grow F H (upd F p (.tup ws)) (upd H p (.tup ws)) := Grow.new sub np
    exact hQ _ _ _ _ q g ⟨p, _, rfl, .inl (.inl upd_same), hl, Reps.mono g.fF _ _ r⟩
  | tup xs =>
    cases e
    have rv' := rv
    obtain ⟨a, ws, rfl, h1, hl, r⟩ := rv
    exact ⟨a, ws, rfl, .inr ⟨Same.seqT sub h1, hQ _ _ F H q (Grow.refl sub) rv'⟩⟩
  | fz xs =>
    cases e
    obtain ⟨a, ws, rfl, h1, hl, r⟩ := rv
    refine ⟨a, ws, rfl, .inl ⟨Same.seq sub h1, fun p np => ?_⟩⟩
    have g : Grow F H (upd F p (.tup ws)) (upd H p (.tup ws)) := Grow.new sub np
    exact hQ _ _ _ _ q g ⟨p, _, rfl, .inl (.inl upd_same), hl, Reps.mono g.fF _ _ r⟩
  | _ => cases e
/-- isinstance(x, T), T a built-in type -/
inductive Tg where
  | non | bl | int | str | lst | tup | dic
def tgS : Tg → String
  | .non => "NoneType"
  | .bl => "bool"
  | .int => "int"
  | .str => "str"
  | .lst => "list"
  | .tup => "tuple"
  | .dic => "dict"
def tyT : D → Option Tg
  | .non => some .non
  | .bl _ => some .bl
  | .int _ => some .int
  | .str _ => some .str
  | .lst _ => some .lst
  | .tup _ => some .tup
  | .dic _ _ => some .dic
  | _ => none
/-- what isinstance says -/
def isTg : Tg → Tg → Bool
  | .non, .non => true
  | .bl, .bl => true
  | .bl, .int => true
  | .int, .int => true
  | .str, .str => true
  | .lst, .lst => true
  | .tup, .tup => true
  | .dic, .dic => true
  | _, _ => false
theorem kitB_ok (t T : Tg) (h : T ≠ .non) : kitB (tgS t) (tgS T) = some (isTg t T) := by
  cases T with
  | non => exact absurd rfl h
  | bl => cases t <;> decide +kernel
  | int => cases t <;> decide +kernel
  | str => cases t <;> decide +kernel
  | lst => cases t <;> decide +kernel
  | tup => cases t <;> decide +kernel
  | dic => cases t <;> decide +kernel
def isiD (ds : List D) (Q : D → Prop) : Prop := ∃ x T t, ds = [x, .any (.ty (tgS T))] ∧ tyT x = some t ∧ T ≠ .non ∧ Q (.bl (isTg t T))
theorem ty_of {F H : Hp} {d : D} {v : V} {t : Tg} (sub : Same F H) (h : Rep K F d v) (e : tyT d = some t) : TyX K H v (.type (tgS t)) := by
  cases d with
  | non => cases e; cases h; exact .base .non
  | bl b => cases e; cases h; exact .base (.bl b)
  | int i => cases e; cases h; exact .base (.int i)
  | str x => cases e; obtain ⟨rfl, _⟩ := h; exact .base (.str x)
  | lst xs => cases e; obtain ⟨a, vs, rfl, h1, _, _⟩ := h; exact .base (.lst (sub _ _ h1))
  | tup xs =>
    cases e
    obtain ⟨a, vs, rfl, h1, _, _⟩ := h
    rcases h1 with (h1 | ⟨o, h1⟩) | ⟨o, its, n, h1, h2, _⟩
    · exact .base (.tup (sub _ _ h1))
    · exact .fTuple (sub _ _ h1)
    · exact .kTuple h1 h2
  | dic ks ds => cases e; obtain ⟨a, vs, rfl, h1, _⟩ := h; exact .base (.dK (sub _ _ h1))
  | ins _ _ _ => cases e
  | any _ => cases e
  | fz _ => cases e
  | exc _ _ _ => cases e
theorem o_isi : OpN K (rIsi K) isiD := by
  intro F H ds vs Qd Q sub rs h hQ
  obtain ⟨x, T, t, rfl, e1, e2, q⟩ := h
  obtain ⟨v, _, rfl, rv, w, _, rfl, rw', rn⟩ := rs
  cases rn
  cases rw'
  exact ⟨v, .ty (tgS T), .type (tgS t), .type (tgS T), _, rfl, .ty _, ty_of sub rv e1, kit_ty (kitB_ok t T e2), hQ _ _ F H q (Grow.refl sub) rfl⟩
/-- isinstance(x, (T1, T2)), the types written -/
theorem kitAny_ok {t : Tg} : ∀ Ts : List Tg, (∀ T ∈ Ts, T ≠ .non) → PySem.W.kitAny K (.type (tgS t)) (Ts.map fun T => .type (tgS T)) = some (Ts.any (isTg t))
  | [], _ => rfl
  | T :: Ts, h => by
    have e : PySem.W.kitOne K (.type (tgS t)) (.type (tgS T)) = some (isTg t T) := kit_ty (kitB_ok t T (h T List.mem_cons_self))
    have ih := kitAny_ok (t := t) Ts fun T' h' => h T' (List.mem_cons_of_mem _ h')
    rw [List.map_cons, List.any_cons]
    refine kitAny_cons e (fun z => ?_) (fun z => ?_)
    · rw [z, Bool.false_or]; exact ih
    · rw [z, Bool.true_or]
def dIsT {m : Mem} (te : DT m) (T1 T2 : Tg) : DT m := fun ρ s Q => te ρ s fun x ρ1 s1 => ∃ t, tyT x = some t ∧ Q (.bl (isTg t T1 || isTg t T2)) ρ1 s1
theorem de_isT {m : Mem} {e : Expr} {te : DT m} {x1 x2 : Str} {t1 t2 : Tg} {p p1 p2 pt pos : Pos} {k : Nat} (hg : Gl X "isinstance") (hm : X.mg "isinstance" = none) (he : PE X e (up X.K m te)) (hg1 : Gl X x1) (hm1 : X.mg x1 = none) (hv1 : bootBuiltins x1 = some (.type (tgS t1))) (hg2 : Gl X x2) (hm2 : X.mg x2 = none) (hv2 : bootBuiltins x2 = some (.type (tgS t2)))
    (h1 : t1 ≠ .non := by intro z; cases z) (h2 : t2 ≠ .non := by intro z; cases z) (n1 : x1 ≠ "__name__" := by decide) (n2 : x2 ≠ "__name__" := by decide) (d1 : (x1 == ("__debug__" : Str)) = false := by decide) (d2 : (x2 == ("__debug__" : Str)) = false := by decide)
    (hs : starEach [e, .Tuple [.Name x1 p1, .Name x2 p2] k pt] X.env = [(false, eval e X.env), (false, eval (.Tuple [.Name x1 p1, .Name x2 p2] k pt) X.env)] := by rfl)
    (hs2 : starEach [.Name x1 p1, .Name x2 p2] X.env = [(false, eval (.Name x1 p1) X.env), (false, eval (.Name x2 p2) X.env)] := by rfl) (hs3 : starEach [.Name x2 p2] X.env = [(false, eval (.Name x2 p2) X.env)] := by rfl)
    (hs4 : starEach [.Tuple [.Name x1 p1, .Name x2 p2] k pt] X.env = [(false, eval (.Tuple [.Name x1 p1, .Name x2 p2] k pt) X.env)] := by rfl) :
    PE X (.Call (.Name "isinstance" p) [e, .Tuple [.Name x1 p1, .Name x2 p2] k pt] [] pos) (up X.K m (dIsT te t1 t2)) :=
  PE.imp (pe_callB call_isiT hg hm (by decide +kernel) (pa_cons he (pa_cons (pe_tup (pa_cons (pe_bltn (v := .ty (tgS t1)) hg1 hm1 hv1 rfl n1 d1) (pa_cons (pe_bltn (v := .ty (tgS t2)) hg2 hm2 hv2 rfl n2 d2) pa_nil (by rw [hs3]; rfl)) (by rw [hs2, hs3]))) pa_nil (by rw [hs4]; rfl)) (by rw [hs, hs4])) (by decide) (by decide) (by rw [hs, hs4]) (by rw [hs4]; rfl)) fun σ H Q h => by
    obtain ⟨F, ρ, s, Qd, r, ht, hQ⟩ := h
    refine ⟨F, ρ, s, _, r, ht, fun d ρ1 s1 v F1 H1 ⟨t, e1, q1⟩ r1 st1 rv => ⟨by show 2 ≤ sizeLine; decide, fun q nq => ?_⟩⟩
    have g : Grow F1 H1 (upd F1 q (.tup [.ty (tgS t1), .ty (tgS t2)])) (upd H1 q (.tup [.ty (tgS t1), .ty (tgS t2)])) := Grow.new r1.sub nq
    refine ⟨v, q, [.ty (tgS t1), .ty (tgS t2)], .type (tgS t), [.type (tgS t1), .type (tgS t2)], _, rfl, upd_same, .cons (.ty _) (.cons (.ty _) .nil), ty_of g.fH (Rep.mono g.fF _ _ rv) e1, kitAny_ok [t1, t2] (fun T h => ?_), ?_⟩
    · rcases List.mem_cons.mp h with rfl | h
      · exact h1
      · rw [List.mem_singleton.mp h]; exact h2
    · have e : [t1, t2].any (isTg t) = (isTg t t1 || isTg t t2) := by simp
      rw [e]
      exact hQ _ ρ1 s1 _ _ _ q1 (r1.grow g) (st1.trans g.stp) rfl

/-! ### methods of texts -/
theorem line2 {a : Str} (h : sOk a = true) : a.length + 2 ≤ sizeLine := Nat.le_trans (Nat.add_le_add_right (sOk_len h) 2) strLim_line
theorem line0 {a : Str} (h : sOk a = true) : a.length ≤ sizeLine := Nat.le_trans (Nat.le_add_right _ 2) (line2 h)
/-- a text cut at a text of one sign: its parts -/
theorem spl_mem {S : List Nat} : ∀ (k : Nat) (acc l : List Nat), ∀ p ∈ spl S k acc l, p.length ≤ acc.length + l.length ∧ ∀ c ∈ p, c ∈ acc ∨ c ∈ l
  | _, acc, [], p, hp => by
    rw [spl_nil] at hp
    have e : p = acc := by simpa using hp
    subst e
    exact ⟨by simp, fun c hc => .inl hc⟩
  | 0, acc, c :: r, p, hp => by
    cases h : pre S (c :: r) with
    | true =>
      rw [spl_hit h] at hp
      rcases List.mem_cons.mp hp with e | hp
      · subst e; exact ⟨by simp, fun c hc => .inl hc⟩
      · obtain ⟨h1, h2⟩ := spl_mem (S.length - 1) [] r p hp
        exact ⟨by simp at h1 ⊢; omega, fun c' hc => .inr (List.mem_cons_of_mem _ ((h2 c' hc).resolve_left (by simp)))⟩
    | false =>
      rw [spl_miss h] at hp
      obtain ⟨h1, h2⟩ := spl_mem 0 (acc ++ [c]) r p hp
      refine ⟨by simp at h1 ⊢; omega, fun c' hc => ?_⟩
      rcases h2 c' hc with z | z
      · rcases List.mem_append.mp z with z | z
        · exact .inl z
        · exact .inr (by have : c' = c := by simpa using z
                         subst this
                         exact List.mem_cons_self)
      · exact .inr (List.mem_cons_of_mem _ z)
  | k + 1, acc, c :: r, p, hp => by
    have e : spl S (k + 1) acc (c :: r) = spl S k acc r := rfl
    rw [e] at hp
    obtain ⟨h1, h2⟩ := spl_mem k acc r p hp
    exact ⟨by simp; omega, fun c' hc => (h2 c' hc).elim .inl fun z => .inr (List.mem_cons_of_mem _ z)⟩
/-- the parts of a text between signs c -/
def splS (c : Nat) (x : Str) : List Str := (spl [c] 0 [] (tl x)).map fun l => ⟨l.toArray⟩
theorem split_splS {c : Nat} (hc : c < 256) (x : Str) : Txt.split x ⟨#[c]⟩ = splS c x := by
  refine map_tl_inj ?_
  rw [split_spl x ⟨#[c]⟩ (by simp) (kind_ok (by simpa using hc))]
  unfold splS
  rw [List.map_map]
  show spl [c] 0 [] (tl x) = (spl [c] 0 [] (tl x)).map (fun l => l)
  rw [List.map_id']
theorem sOk_spl {c : Nat} {x : Str} (h : sOk x = true) : ∀ y ∈ splS c x, sOk y = true := fun y hy => by
  obtain ⟨l, hl, rfl⟩ := List.mem_map.mp hy
  obtain ⟨h1, h2⟩ := spl_mem 0 [] (tl x) l hl
  refine sOk_of ?_ fun c' hc => sOk_cps h c' ((h2 c' hc).resolve_left (by simp))
  have := sOk_len h
  rw [len_tl] at this
  show l.toArray.size ≤ strLim
  rw [List.size_toArray]
  rw [List.length_nil, Nat.zero_add] at h1
  exact Nat.le_trans h1 this
def splitD : D → List D → (D → Prop) → Prop := fun x ds Q => ∃ z c, x = .str z ∧ ds = [.str ⟨#[c]⟩] ∧ c < 256 ∧ Q (.lst ((splS c z).map .str))
theorem new_strs {F H : Hp} {ys : List Str} {Qd : D → Prop} {Q : VK} (sub : Same F H) (hl : ys.length ≤ sizeLine) (hy : ∀ y ∈ ys, sOk y = true) (h : Qd (.lst (ys.map .str))) (hQ : ∀ d v F' H', Qd d → Grow F H F' H' → Rep K F' d v → Q v H') : rNewStrs ys H Q := fun p np => by
  have g : Grow F H (upd F p (.lst (ys.map V.str))) (upd H p (.lst (ys.map V.str))) := Grow.new sub np
  exact hQ _ _ _ _ h g ⟨p, _, rfl, upd_same, by rw [List.length_map]; exact hl, reps_of_strs ys hy⟩
theorem o_split : OpM K (fun x xs H Q => ∃ a b, x = .str a ∧ xs = [.str b] ∧ (b.length == 0) = false ∧ a.length + 2 ≤ sizeLine ∧ rNewStrs (Txt.split a b) H Q) splitD := by
  intro F H dx x ds vs Qd Q sub rx rs h hQ
  obtain ⟨z, c, rfl, rfl, hc, q⟩ := h
  obtain ⟨rfl, hz⟩ := rx
  obtain ⟨v, _, rfl, ⟨rfl, _⟩, rn⟩ := rs
  cases rn
  refine ⟨z, ⟨#[c]⟩, rfl, rfl, rfl, line2 hz, ?_⟩
  have hl := PyProof.Rows.split_le z ⟨#[c]⟩
  have h2 := line2 hz
  rw [split_splS hc] at hl ⊢
  exact new_strs sub (by omega) (sOk_spl hz) q hQ
def joinS (z : Str) (ys : List Str) : Str := Str.join z ys
theorem joinL_len (S : List Nat) : ∀ ps : List (List Nat), (joinL S ps).length ≤ (ps.map List.length).sum + ps.length * S.length
  | [] => by simp [joinL]
  | [p] => by simp [joinL]
  | p :: q :: r => by
    have ih := joinL_len S (q :: r)
    have e : joinL S (p :: q :: r) = p ++ S ++ joinL S (q :: r) := (List.append_assoc _ _ _).symm
    rw [e]
    simp only [List.length_append, List.map_cons, List.sum_cons, List.length_cons] at ih ⊢
    have e2 : (r.length + 1 + 1) * S.length = (r.length + 1) * S.length + S.length := Nat.succ_mul _ _
    omega
theorem joinL_mem (S : List Nat) {c : Nat} : ∀ ps : List (List Nat), c ∈ joinL S ps → c ∈ S ∨ ∃ p ∈ ps, c ∈ p
  | [], h => by simp [joinL] at h
  | [p], h => .inr ⟨p, by simp, h⟩
  | p :: q :: r, h => by
    have e : joinL S (p :: q :: r) = p ++ S ++ joinL S (q :: r) := (List.append_assoc _ _ _).symm
    rw [e] at h
    rcases List.mem_append.mp h with h | h
    · rcases List.mem_append.mp h with h | h
      · exact .inr ⟨p, by simp, h⟩
      · exact .inl h
    · rcases joinL_mem S (q :: r) h with h | ⟨u, hu, hc⟩
      · exact .inl h
      · exact .inr ⟨u, List.mem_cons_of_mem _ hu, hc⟩
def joinD : D → List D → (D → Prop) → Prop := fun x ds Q => ∃ z ys, x = .str z ∧ (ds = [.lst (ys.map .str)] ∨ ds = [.tup (ys.map .str)]) ∧ (ys.map (·.length)).sum + ys.length * z.length ≤ strLim ∧ Q (.str (joinS z ys))
theorem o_join : OpM K (fun x xs H Q => ∃ a p, ∃ ys : List Str, x = .str a ∧ xs = [.ref p] ∧ (SqL K H p (ys.map V.str) ∨ SqT K H p (ys.map V.str)) ∧
    (ys.map (·.length)).sum + ys.length * a.length ≤ 16777216 ∧ Q (.str (Txt.join a ys)) H) joinD := by
  intro F H dx x ds vs Qd Q sub rx rs h hQ
  obtain ⟨z, ys, rfl, hd, hl, q⟩ := h
  obtain ⟨rfl, hz⟩ := rx
  have hs : strLim = 1000000 := rfl
  have fin : ∀ (hy : ∀ y ∈ ys, sOk y = true), Q (.str (Txt.join z ys)) H := fun hy => by
    rw [join_eq]
    refine hQ _ _ F H q (Grow.refl sub) ⟨rfl, sOk_of ?_ fun c hc => ?_⟩
    · rw [len_tl]
      show (tl (Str.join z ys)).length ≤ strLim
      rw [tl_join]
      refine Nat.le_trans (joinL_len _ _) ?_
      rw [List.map_map, List.length_map, ← len_tl]
      have e : ys.map (List.length ∘ tl) = ys.map (·.length) := List.map_congr_left fun y _ => (len_tl y).symm
      rw [e]
      exact hl
    · have hc' : c ∈ tl (Str.join z ys) := hc
      rw [tl_join] at hc'
      rcases joinL_mem _ _ hc' with h | ⟨p, hp, hcp⟩
      · exact sOk_cps hz c h
      · obtain ⟨y, hy', rfl⟩ := List.mem_map.mp hp
        exact sOk_cps (hy y hy') c hcp
  rcases hd with rfl | rfl
  · obtain ⟨v, _, rfl, ⟨a, ws, rfl, h1, _, r⟩, rn⟩ := rs
    cases rn
    obtain ⟨rfl, hy⟩ := reps_strs r
    exact ⟨z, a, ys, rfl, rfl, .inl (.inl (.inl (sub _ _ h1))), by omega, fin hy⟩
  · obtain ⟨v, _, rfl, ⟨a, ws, rfl, h1, _, r⟩, rn⟩ := rs
    cases rn
    obtain ⟨rfl, hy⟩ := reps_strs r
    exact ⟨z, a, ys, rfl, rfl, .inr (Same.seqT sub h1), by omega, fin hy⟩
def swD : D → List D → (D → Prop) → Prop := fun x ds Q => ∃ a b, x = .str a ∧ ds = [.str b] ∧ Q (.bl (Txt.startswith a b))
theorem o_sw : OpM K (fun x xs H Q => ∃ a b, x = .str a ∧ xs = [.str b] ∧ Q (.bl (Txt.startswith a b)) H) swD := by
  intro F H dx x ds vs Qd Q sub rx rs h hQ
  obtain ⟨a, b, rfl, rfl, q⟩ := h
  obtain ⟨rfl, _⟩ := rx
  obtain ⟨v, _, rfl, ⟨rfl, _⟩, rn⟩ := rs
  cases rn
  exact ⟨a, b, rfl, rfl, hQ _ _ F H q (Grow.refl sub) rfl⟩
/-- rpartition -/
theorem mt_rpartition : MtR X "str.rpartition" (fun x xs H Q => ∃ a b, x = .str a ∧ xs = [.str b] ∧ (b.length == 0) = false ∧ a.length ≤ sizeLine ∧
    ∀ p, H p = none → Q (.ref p) (upd H p (.tup [.str (Txt.rpartition a b).1, .str (Txt.rpartition a b).2.1, .str (Txt.rpartition a b).2.2]))) := by
  intro pins s σ H x xs v us Q I rx rs h
  obtain ⟨a, b, rfl, rfl, hb, hz, h⟩ := h
  obtain ⟨t, rfl⟩ := rx
  cases rs with
  | cons r1 rs =>
    cases rs
    obtain ⟨u, rfl⟩ := r1
    refine call_meets PySem.F.slot_str_rpartition (typeIs_str _ _ _) PySem.F.entry_str_rpartition (PySem.F.args_str_rpartition_2 _ _) (meets_str_rpartition a b t u hb hz) ?_
    unfold Txt.rpartition at h
    revert h
    cases Builtin.Str.lastOccurrence a b 0 a.length with
    | none => intro h; exact laid_parts I h
    | some i => intro h; exact laid_parts I h
def rpartD : D → List D → (D → Prop) → Prop := fun x ds Q => ∃ z c, x = .str z ∧ ds = [.str ⟨#[c]⟩] ∧ c < 0x110000 ∧ Q (.tup [.str (Txt.rpartition z ⟨#[c]⟩).1, .str (Txt.rpartition z ⟨#[c]⟩).2.1, .str (Txt.rpartition z ⟨#[c]⟩).2.2])
theorem sOk_sub {z : Str} (h : sOk z = true) (i j : Nat) : sOk (Builtin.Str.strSub z i j) = true := by
  refine sOk_of ?_ fun c hc => ?_
  · rw [len_tl, tl_strSub, List.length_take, List.length_drop]
    have := sOk_len h
    rw [len_tl] at this
    omega
  · have hc' : c ∈ tl (Builtin.Str.strSub z i j) := hc
    rw [tl_strSub] at hc'
    exact sOk_cps h c (List.mem_of_mem_drop (List.mem_of_mem_take hc'))
theorem sOk_rpart {z : Str} {b : Str} (h : sOk z = true) (hb : sOk b = true) : sOk (Txt.rpartition z b).1 = true ∧ sOk (Txt.rpartition z b).2.1 = true ∧ sOk (Txt.rpartition z b).2.2 = true := by
  unfold Txt.rpartition
  cases Builtin.Str.lastOccurrence z b 0 z.length with
  | none => exact ⟨by show sOk Str.empty = true; decide, by show sOk Str.empty = true; decide, h⟩
  | some i => exact ⟨sOk_sub h _ _, hb, sOk_sub h _ _⟩
theorem o_rpart : OpM K (fun x xs H Q => ∃ a b, x = .str a ∧ xs = [.str b] ∧ (b.length == 0) = false ∧ a.length ≤ sizeLine ∧
    ∀ p, H p = none → Q (.ref p) (upd H p (.tup [.str (Txt.rpartition a b).1, .str (Txt.rpartition a b).2.1, .str (Txt.rpartition a b).2.2]))) rpartD := by
  intro F H dx x ds vs Qd Q sub rx rs h hQ
  obtain ⟨z, c, rfl, rfl, hc, q⟩ := h
  obtain ⟨rfl, hz⟩ := rx
  obtain ⟨v, _, rfl, ⟨rfl, hb⟩, rn⟩ := rs
  cases rn
  obtain ⟨k1, k2, k3⟩ := sOk_rpart hz hb
  refine ⟨z, ⟨#[c]⟩, rfl, rfl, rfl, line0 hz, fun p np => ?_⟩
  have g : Grow F H (upd F p (.tup [.str (Txt.rpartition z ⟨#[c]⟩).1, .str (Txt.rpartition z ⟨#[c]⟩).2.1, .str (Txt.rpartition z ⟨#[c]⟩).2.2])) (upd H p (.tup [.str (Txt.rpartition z ⟨#[c]⟩).1, .str (Txt.rpartition z ⟨#[c]⟩).2.1, .str (Txt.rpartition z ⟨#[c]⟩).2.2])) := Grow.new sub np
  exact hQ _ _ _ _ q g ⟨p, _, rfl, .inl (.inl upd_same), by show 3 ≤ sizeLine; decide, .cons ⟨rfl, k1⟩ (.cons ⟨rfl, k2⟩ (.one ⟨rfl, k3⟩))⟩
end
end DL

set_option Elab.async false
set_option linter.all false
set_option maxRecDepth 100000
namespace DL
open PySem PySem.Spec PyProof.Rows L2 TL

/-! ### a list that is a def's own: its items read and stored, its length -/
section
variable {X : Cx} {m : Mem} {E : Ent m} {e b : Expr} {te tb : DT m} {pos : Pos}
def dIxO {m : Mem} (i : Nat) (tb : DT m) : DT m := fun ρ s Q => (∃ ds0, ρ[i]? = some (.ow (.lst ds0))) ∧ tb ρ s fun y ρ1 s1 => ∃ k ds d, y = .int k ∧ ρ1[i]? = some (.ow (.lst ds)) ∧ atI ds k = some d ∧ Q d ρ1 s1
theorem de_ixO (i : Nat) {x : Str} {xpos : Pos} (hb : PE X b (up X.K m tb)) (hN : X.N[i]? = some x := by rfl) (hv : Vis X.env.scope x := by first | exact Or.inl rfl | exact Or.inr (Or.inl rfl) | exact Or.inr (Or.inr rfl))
    (hd : (x == ("__debug__" : Str)) = false := by decide) (hcd : (x == ("__classdict__" : Str)) = false := by decide) (hs : PlainIx b := by exact fun _ _ => rfl) : PE X (.Subscript (.Name x xpos) b pos) (up X.K m (dIxO i tb)) :=
  PE.imp (pe_ix ix_list (pv i hN hv hd hcd) hb hs) fun σ H Q h => by
    obtain ⟨F, ρ, s, Qd, r, ⟨⟨ds0, e0⟩, ht⟩, hQ⟩ := h
    obtain ⟨p, ho, h1, h2, ⟨vs0, rfl, hl0, rs0⟩, h4, h5⟩ := r.own_at e0
    refine ⟨_, h1, F, ρ, s, _, r, ht, fun y ρ1 s1 v F1 H1 ⟨k, ds, d, ey, e1, ea, q1⟩ r1 st1 rv => ?_⟩
    subst ey
    cases rv
    obtain ⟨p', ho, g1, g2, ⟨vs, rfl, hl, rs⟩, g4, g5⟩ := r1.own_at e1
    rw [h1] at g1; cases g1
    obtain ⟨w, ew, rw'⟩ := rs.atI ea
    exact ⟨p, vs, k, w, rfl, rfl, .inl (.inl g2), ew, hQ d ρ1 s1 w F1 H1 q1 r1 st1 rw'⟩
def dLenO {m : Mem} (i : Nat) : DT m := fun ρ s Q => ∃ ds, ρ[i]? = some (.ow (.lst ds)) ∧ Q (.int (ds.length : Nat)) ρ s
theorem de_lenO (i : Nat) {x : Str} {xpos p : Pos} (hg : Gl X "len") (hm : X.mg "len" = none) (hN : X.N[i]? = some x := by rfl) (hv : Vis X.env.scope x := by first | exact Or.inl rfl | exact Or.inr (Or.inl rfl) | exact Or.inr (Or.inr rfl))
    (hd : (x == ("__debug__" : Str)) = false := by decide) (hcd : (x == ("__classdict__" : Str)) = false := by decide)
    (hs : starEach [.Name x xpos] X.env = [(false, eval (.Name x xpos) X.env)] := by rfl) : PE X (.Call (.Name "len" p) [.Name x xpos] [] pos) (up X.K m (dLenO i)) :=
  PE.imp (pe_callB call_len_seq hg hm PySem.boot_len (pa_cons (pv i hN hv hd hcd) pa_nil (by rw [hs]; rfl)) (by decide) (by decide) (by rw [hs]; rfl) rfl) fun σ H Q h => by
    obtain ⟨F, ρ, s, Qd, r, ⟨ds, e0, q⟩, hQ⟩ := h
    obtain ⟨p, ho, h1, h2, ⟨vs, rfl, hl, rs⟩, h4, h5⟩ := r.own_at e0
    refine ⟨_, h1, p, vs, rfl, .inl (.inl (.inl h2)), ?_⟩
    rw [rs.length]
    exact hQ _ ρ s _ F H q r Stp.refl rfl
/-- x[i] = e -/
def dStO {m : Mem} (i : Nat) (te tb : DT m) : DTS m := fun dd ρ s => te ρ s fun d ρ1 s1 => (∃ ds0, ρ1[i]? = some (.ow (.lst ds0))) ∧ tb ρ1 s1 fun y ρ2 s2 => ∃ k ds j, y = .int k ∧ ρ2[i]? = some (.ow (.lst ds)) ∧ ixN ds.length k = some j ∧ dd.nx (ρ2.set i (.ow (.lst (ds.set j d)))) s2
theorem ds_stO (i : Nat) {x : Str} {xpos spos : Pos} (he : PE X e (up X.K m te)) (hb : PE X b (up X.K m tb)) (hN : X.N[i]? = some x := by rfl) (hv : Vis X.env.scope x := by first | exact Or.inl rfl | exact Or.inr (Or.inl rfl) | exact Or.inr (Or.inr rfl))
    (hd : (x == ("__debug__" : Str)) = false := by decide) (hcd : (x == ("__classdict__" : Str)) = false := by decide)
    (ha : ∀ v, assign (.Subscript (.Name x xpos) b spos) X.env v = (do
      let ov ← holding [v] (eval (.Name x xpos) X.env)
      let iv ← holding [v, ov] (eval b X.env)
      standAt spos
      holding [v, ov, iv] (setItem ov iv v)
      release [v, ov, iv] []) := by intro _; rfl)
    (hs : swapsWithSole [.Subscript (.Name x xpos) b spos] e pos.line X.env = pure false := by rfl) (hw : swappedStores [.Subscript (.Name x xpos) b spos] e X.env = pure none := by rfl)
    (h1 : (assignEach [.Subscript (.Name x xpos) b spos] X.env).map (·.2) = [assign (.Subscript (.Name x xpos) b spos) X.env] := by rfl) :
    PS X (.Assign [.Subscript (.Name x xpos) b spos] e pos) (upS X.K m E (dStO i te tb)) :=
  PS.imp (ps_asg he (pg_sub (pv i hN hv hd hcd) hb set_list ha) hs hw h1) fun DD σ H h => by
    obtain ⟨F, ρ, s, dd, r, o, ht, f⟩ := h
    refine ⟨F, ρ, s, _, r, ht, fun d ρ1 s1 v F1 H1 ⟨⟨ds0, e0⟩, q1⟩ r1 st1 rv => ?_⟩
    obtain ⟨p, ho, h1, h2, ⟨vs0, rfl, hl0, rs0⟩, h4, h5⟩ := r1.own_at e0
    refine ⟨_, h1, F1, ρ1, s1, _, r1, q1, fun y ρ2 s2 u F2 H2 ⟨k, ds, j, ey, e2, ej, q2⟩ r2 st2 ru => ?_⟩
    subst ey
    cases ru
    obtain ⟨p', ho, g1, g2, ⟨vs, rfl, hl, rs⟩, g4, g5⟩ := r2.own_at e2
    rw [h1] at g1; cases g1
    refine ⟨p, vs, k, j, rfl, rfl, g2, by rw [rs.length]; exact ej, ?_⟩
    refine f.nx F2 _ σ _ s2 (st1.ext.trans st2.ext) (r2.write (o' := .lst (ds.set j d)) e2 h1 ⟨vs.set j v, rfl, by rw [List.length_set]; exact hl, rs.set (Rep.mono st2.ext _ _ rv) j⟩) (((o.stp st1).stp st2).write (K := X.K) e2 h1) q2
end

/-! ### further -/
section
variable {X : Cx} {m : Mem} {E : Ent m}
def dNever {m : Mem} : DTS m := fun _ _ _ => False
theorem ds_never {st : Stmt} : PS X st (upS X.K m E dNever) := PS.imp ps_never fun DD σ H h => by
  obtain ⟨F, ρ, s, dd, r, o, ht, f⟩ := h
  exact ht.elim
theorem u64R {A : Around} {k : Nat} (hr : Room k A) : A.units + 64 < cLine := by have := hr.un; omega
theorem u1 {A : Around} {k : Nat} (hr : RoomG k A) : A.units + 1 < cLine := by have := hr.r.un; omega
theorem u64 {A : Around} {k : Nat} (hr : RoomG k A) : A.units + 64 < cLine := by have := hr.r.un; omega
theorem u65 {A : Around} {k : Nat} (hr : RoomG k A) : A.units + 65 < cLine := by have := hr.r.un; omega
end

/-! ### the deck: the draws of a script -/
structure DkS where
  adr : Option (Addr × Addr × Addr)
  n : Nat
def DkAt (H : Hp) (a b c : Addr) (n : Nat) : Prop := a ≠ b ∧ a ≠ c ∧ b ≠ c ∧ ∃ (big all : List Int) (t : Int), H a = some (.lst [.ref b, .ref c, .int t]) ∧ H b = some (.lst (big.map V.int)) ∧ H c = some (.lst (all.map V.int)) ∧ all ≠ [] ∧ all.length ≤ 1000 ∧ big.length ≤ 1000 ∧ 0 ≤ t ∧ t ≤ n
def Mem.deck : Mem where
  S := DkS
  M := fun s H => ∀ a b c, s.adr = some (a, b, c) → DkAt H a b c s.n
  R := fun s x => ∃ a b c, s.adr = some (a, b, c) ∧ (x = a ∨ x = b ∨ x = c)
  loc := fun s H H' h k a b c e => by
    obtain ⟨n1, n2, n3, big, all, t, h1, h2, h3, r⟩ := h a b c e
    exact ⟨n1, n2, n3, big, all, t, (k a ⟨a, b, c, e, .inl rfl⟩).trans h1, (k b ⟨a, b, c, e, .inr (.inl rfl)⟩).trans h2, (k c ⟨a, b, c, e, .inr (.inr rfl)⟩).trans h3, r⟩
  there := fun s H x h ⟨a, b, c, e, hx⟩ => by
    obtain ⟨n1, n2, n3, big, all, t, h1, h2, h3, r⟩ := h a b c e
    rcases hx with rfl | rfl | rfl
    · rw [h1]; simp
    · rw [h2]; simp
    · rw [h3]; simp
/-- how many draws there may be -/
abbrev drawLim : Nat := 2 ^ 60
/-- a draw: a number below many -/
def spNext : DSp Mem.deck := fun ds s Q => ∃ a b c n, s.adr = some (a, b, c) ∧ ds = [.any (.ref a), .int n] ∧ 0 < n ∧ n < 1073741824 ∧ s.n < drawLim ∧ ∀ (r : Int) (k : Nat), 0 ≤ r → r < n → k = s.n + 1 → Q (.int r) ⟨s.adr, k⟩
theorem spNext_len : ∀ ds s Qd, spNext ds s Qd → ds.length = 2 := fun ds s Qd ⟨_, _, _, _, _, e, _⟩ => by rw [e]; rfl
/-- the deck of a script -/
def spDeck : DSp Mem.deck := fun ds s Q => ∃ ns : List Int, ds = [.fz (ns.map .int)] ∧ ns.length ≤ 63 ∧ s.adr = none ∧ ∀ a b c, Q (.any (.ref a)) ⟨some (a, b, c), s.n⟩
theorem spDeck_len : ∀ ds s Qd, spDeck ds s Qd → ds.length = 1 := fun ds s Qd ⟨_, e, _⟩ => by rw [e]; rfl
def absI (i : Int) : Int := if i < 0 then -i else i
theorem ix0 (x : Int) (bg : List Int) : ixN (((x :: bg).map V.int).length) 0 = some 0 := by
  unfold ixN
  rw [if_pos (by decide), if_pos (by rw [List.length_map, List.length_cons]; omega)]
  rfl
theorem fnG_never {P : Program} {w : World} {K : PySem.W.Frag} {mg : Str → Option Value} {base : Heap} {m : Mem} {k n : Nat} {f : Addr} {fd : FuncData} {ps : List Str} (h : n = ps.length) : FnG P w K mg base CX0 k f fd ps (lift K m n fun _ _ _ => False) :=
  ⟨fun vs H Q E q => by rw [← h]; exact q.1, fun A o s H a us vs Q E _ _ _ _ q => by
    obtain ⟨_, _, _, _, _, _, _, _, _, z, _⟩ := q
    exact z.elim⟩
end DL

set_option Elab.async false
set_option linter.all false
set_option maxRecDepth 100000
namespace DL
open PySem PySem.Spec PyProof.Rows L2 TL

section
variable {X : Cx} {m : Mem} {pos : Pos}
theorem de_globI {x : Str} {i : Int} (hg : Gl X x) (hm : ∃ t, X.mg x = some (.int i t)) (hd : (x == ("__debug__" : Str)) = false := by decide) : PE X (.Name x pos) (up X.K m (dC (.int i))) := by
  obtain ⟨t, hm⟩ := hm
  exact de_glob (v := .int i) hg hm ⟨_, rfl⟩ (fun _ => rfl) hd
end
/-! ### small facts -/
theorem pick_ints (l : List Int) (r : Int) (h0 : 0 ≤ r) (h1 : r < (l.length : Nat)) : ∃ k ∈ l, atI (l.map D.int) r = some (.int k) := by
  obtain ⟨j, hj⟩ : ∃ j : Nat, r = (j : Int) := ⟨r.toNat, by omega⟩
  subst hj
  have hj2 : j < l.length := by omega
  exact ⟨l[j], List.getElem_mem hj2, atI_nat (by rw [List.getElem?_map, List.getElem?_eq_getElem hj2]; rfl)⟩
theorem pick_any {α : Type} (l : List α) (r : Int) (h0 : 0 ≤ r) (h1 : r < (l.length : Nat)) : ∃ k ∈ l, atI l r = some k := by
  obtain ⟨j, hj⟩ : ∃ j : Nat, r = (j : Int) := ⟨r.toNat, by omega⟩
  subst hj
  have hj2 : j < l.length := by omega
  exact ⟨l[j], List.getElem_mem hj2, atI_nat (List.getElem?_eq_getElem hj2)⟩
theorem pick_map {α : Type} (f : α → D) (l : List α) (r : Int) (h0 : 0 ≤ r) (h1 : r < (l.length : Nat)) : ∃ k ∈ l, atI (l.map f) r = some (f k) := by
  obtain ⟨d, hd, e⟩ := pick_any (l.map f) r h0 (by rw [List.length_map]; exact h1)
  obtain ⟨k, hk, rfl⟩ := List.mem_map.mp hd
  exact ⟨k, hk, e⟩
/-- one letter -/
def one (c : Nat) : Str := ⟨#[c]⟩
theorem join0 (ls : List Nat) : tl (joinS ⟨#[]⟩ (ls.map one)) = ls := by
  show tl (Str.join ⟨#[]⟩ (ls.map one)) = ls
  rw [tl_join, List.map_map]
  show joinL [] (ls.map fun c => [c]) = ls
  have h : ∀ l : List Nat, joinL [] (l.map fun c => [c]) = l := fun l => by
    induction l with
    | nil => rfl
    | cons a r ih =>
      cases r with
      | nil => rfl
      | cons b t =>
        show [a] ++ ([] ++ joinL [] ((b :: t).map fun c => [c])) = a :: b :: t
        rw [ih]
        rfl
  exact h ls
theorem letters_tl : tl ("abcdefghijklmnopqrstuvwxyz" : Str) = [97, 98, 99, 100, 101, 102, 103, 104, 105, 106, 107, 108, 109, 110, 111, 112, 113, 114, 115, 116, 117, 118, 119, 120, 121, 122] := by decide +kernel
theorem letter_at {r : Int} (h0 : 0 ≤ r) (h1 : r < 26) : ∃ c, 97 ≤ c ∧ c ≤ 122 ∧ atI (tl ("abcdefghijklmnopqrstuvwxyz" : Str)) r = some c := by
  rw [letters_tl]
  obtain ⟨c, hc, e⟩ := pick_any [97, 98, 99, 100, 101, 102, 103, 104, 105, 106, 107, 108, 109, 110, 111, 112, 113, 114, 115, 116, 117, 118, 119, 120, 121, 122] r h0 h1
  have hall : ∀ c ∈ [97, 98, 99, 100, 101, 102, 103, 104, 105, 106, 107, 108, 109, 110, 111, 112, 113, 114, 115, 116, 117, 118, 119, 120, 121, 122], 97 ≤ c ∧ c ≤ 122 := by decide
  exact ⟨c, (hall c hc).1, (hall c hc).2, e⟩
/-- a name: one to eight letters -/
def NameOk (x : Str) : Prop := 1 ≤ x.length ∧ x.length ≤ 8 ∧ ∀ c ∈ tl x, 97 ≤ c ∧ c ≤ 122
theorem nameOk_of {ls : List Nat} (h1 : 1 ≤ ls.length) (h8 : ls.length ≤ 8) (h : ∀ c ∈ ls, 97 ≤ c ∧ c ≤ 122) : NameOk (joinS ⟨#[]⟩ (ls.map one)) := by
  have e := join0 ls
  exact ⟨by rw [len_tl, e]; exact h1, by rw [len_tl, e]; exact h8, by rw [e]; exact h⟩
theorem sum_ones (ls : List Nat) : ((ls.map one).map (·.length)).sum = ls.length := by
  induction ls with
  | nil => rfl
  | cons a r ih => rw [List.map_cons, List.map_cons, List.sum_cons, ih, List.length_cons]; show 1 + r.length = _; omega

/-! ### what the law's own defs promise -/
def spName : DSp Mem.deck := fun ds s Q => ∃ a b c, s.adr = some (a, b, c) ∧ ds = [.any (.ref a)] ∧ s.n + 20 < drawLim ∧ ∀ x k, NameOk x → k ≤ s.n + 20 → Q (.str x) ⟨s.adr, k⟩
theorem spName_len : ∀ ds s Qd, spName ds s Qd → ds.length = 1 := fun ds s Qd ⟨_, _, _, _, e, _⟩ => by rw [e]; rfl
def spPool : DSp Mem.deck := fun ds s Q => ∃ a b c n, s.adr = some (a, b, c) ∧ ds = [.any (.ref a), .int n] ∧ 2 ≤ n ∧ n ≤ 10 ∧ s.n + 300 < drawLim ∧ ∀ (xs : List Str) k, (xs.length : Nat) = n.toNat → (∀ x ∈ xs, NameOk x) → k ≤ s.n + 300 → Q (.lst (xs.map .str)) ⟨s.adr, k⟩
theorem spPool_len : ∀ ds s Qd, spPool ds s Qd → ds.length = 2 := fun ds s Qd ⟨_, _, _, _, _, e, _⟩ => by rw [e]; rfl
/-- a path: names of a pool with dots between -/
def PathOf (pool : List Str) (most : Int) (x : Str) : Prop := ∃ ns : List Str, 1 ≤ ns.length ∧ (ns.length : Int) ≤ most ∧ (∀ y ∈ ns, y ∈ pool) ∧ x = joinS ⟨#[46]⟩ ns
def spPath : DSp Mem.deck := fun ds s Q => ∃ a b c pool most, s.adr = some (a, b, c) ∧ ds = [.any (.ref a), .lst (pool.map .str), .int most] ∧ 1 ≤ most ∧ most ≤ 10 ∧ 0 < pool.length ∧ pool.length ≤ 100 ∧ (∀ x ∈ pool, x.length ≤ 8) ∧ s.n + 20 < drawLim ∧
  ∀ x k, PathOf pool most x → k ≤ s.n + 20 → Q (.str x) ⟨s.adr, k⟩
theorem spPath_len : ∀ ds s Qd, spPath ds s Qd → ds.length = 3 := fun ds s Qd ⟨_, _, _, _, _, _, e, _⟩ => by rw [e]; rfl
theorem sum_le8 {ns : List Str} (h : ∀ y ∈ ns, y.length ≤ 8) : (ns.map (·.length)).sum ≤ 8 * ns.length := by
  induction ns with
  | nil => exact Nat.zero_le _
  | cons a r ih =>
    have h1 := h a List.mem_cons_self
    have h2 := ih fun y hy => h y (List.mem_cons_of_mem _ hy)
    rw [List.map_cons, List.sum_cons, List.length_cons]
    omega
theorem joinS_len {z : Str} {ns : List Str} : (joinS z ns).length ≤ (ns.map (·.length)).sum + ns.length * z.length := by
  rw [len_tl]
  show (tl (Str.join z ns)).length ≤ _
  rw [tl_join]
  refine Nat.le_trans (joinL_len _ _) ?_
  rw [List.map_map, List.length_map, ← len_tl]
  have e : ns.map (List.length ∘ tl) = ns.map (·.length) := List.map_congr_left fun y _ => (len_tl y).symm
  rw [e]
  exact Nat.le_refl _
theorem PathOf.len {pool : List Str} {most : Int} {x : Str} (h : PathOf pool most x) (hp : ∀ y ∈ pool, y.length ≤ 8) (hm : most ≤ 10) : x.length ≤ 90 := by
  obtain ⟨ns, h1, h2, h3, rfl⟩ := h
  have q1 := joinS_len (z := ⟨#[46]⟩) (ns := ns)
  have q2 := sum_le8 fun y hy => hp y (h3 y hy)
  have q3 : (⟨#[46]⟩ : Str).length = 1 := rfl
  rw [q3] at q1
  omega

/-! ### paths of the program -/
def dot : Str := ⟨#[46]⟩
def coversS (p o : Str) : Bool := o == p || Txt.startswith o (p ++ dot)
/-- .. as the law reads it -/
def lcov (p o : Str) : Bool := (splS 46 o).take (splS 46 p).length == splS 46 p
def spCovers {m : Mem} : DSp m := fun ds s Q => ∃ p o : Str, ds = [.str p, .str o] ∧ p.length ≤ 1000 ∧ Q (.bl (coversS p o)) s
theorem spCovers_len {m : Mem} : ∀ ds s Qd, (spCovers : DSp m) ds s Qd → ds.length = 2 := fun ds s Qd ⟨_, _, e, _⟩ => by rw [e]; rfl
def spLcov {m : Mem} : DSp m := fun ds s Q => ∃ p o : Str, ds = [.str p, .str o] ∧ Q (.bl (lcov p o)) s
theorem spLcov_len {m : Mem} : ∀ ds s Qd, (spLcov : DSp m) ds s Qd → ds.length = 2 := fun ds s Qd ⟨_, _, e, _⟩ => by rw [e]; rfl
def optS : Option Str → D
  | none => .non
  | some x => .str x
def spCovered {m : Mem} : DSp m := fun ds s Q => ∃ (ps : List Str) (x : Str), ds = [.tup (ps.map .str), .str x] ∧ (∀ p ∈ ps, p.length ≤ 1000) ∧ Q (optS (ps.find? fun p => coversS p x)) s
theorem spCovered_len {m : Mem} : ∀ ds s Qd, (spCovered : DSp m) ds s Qd → ds.length = 2 := fun ds s Qd ⟨_, _, e, _⟩ => by rw [e]; rfl
end DL

set_option Elab.async false
set_option linter.all false
set_option maxRecDepth 100000
namespace DL
open PySem PySem.Spec PyProof.Rows L2 TL

/-! ### texts cut at one sign -/
def cutL (c : Nat) : List Nat → List Nat → List (List Nat)
  | acc, [] => [acc]
  | acc, x :: r => if x = c then acc :: cutL c [] r else cutL c (acc ++ [x]) r
theorem spl_cut (c : Nat) : ∀ (l acc : List Nat), spl [c] 0 acc l = cutL c acc l
  | [], acc => spl_nil _ _ _
  | x :: r, acc => by
    by_cases h : x = c
    · subst h
      have e : pre [x] (x :: r) = true := pre_self [x] r
      rw [spl_hit e, cutL, if_pos rfl]
      show acc :: spl [x] 0 [] r = _
      rw [spl_cut x r []]
    · rw [spl_miss (pre_of_head [] r h), cutL, if_neg h, spl_cut c r]
theorem cutL_ne (c : Nat) : ∀ (l acc : List Nat), cutL c acc l ≠ []
  | [], acc => by simp [cutL]
  | x :: r, acc => by
    rw [cutL]
    by_cases h : x = c
    · rw [if_pos h]; simp
    · rw [if_neg h]; exact cutL_ne c r _
theorem cutL_app (c : Nat) (b : List Nat) : ∀ (a acc : List Nat), cutL c acc (a ++ c :: b) = cutL c acc a ++ cutL c [] b
  | [], acc => by
    show (if c = c then acc :: cutL c [] b else cutL c (acc ++ [c]) b) = acc :: cutL c [] b
    rw [if_pos rfl]
  | x :: r, acc => by
    show cutL c acc (x :: (r ++ c :: b)) = _
    rw [cutL, cutL]
    by_cases h : x = c
    · rw [if_pos h, if_pos h, cutL_app c b r]; rfl
    · rw [if_neg h, if_neg h, cutL_app c b r]
theorem joinL_cons (S p : List Nat) {q : List (List Nat)} (h : q ≠ []) : joinL S (p :: q) = p ++ (S ++ joinL S q) := by
  cases q with
  | nil => exact absurd rfl h
  | cons a r => rfl
theorem joinL_app (S : List Nat) {B : List (List Nat)} (hB : B ≠ []) : ∀ {A : List (List Nat)}, A ≠ [] → joinL S (A ++ B) = joinL S A ++ (S ++ joinL S B)
  | [], h => absurd rfl h
  | [p], _ => by
    show joinL S (p :: B) = p ++ _
    rw [joinL_cons S p hB]
  | p :: q :: r, _ => by
    show joinL S (p :: ((q :: r) ++ B)) = _
    rw [joinL_cons S p (by simp), joinL_app S hB (by simp), joinL_cons S p (by simp)]
    simp only [List.append_assoc]
theorem joinL_cut (c : Nat) : ∀ (l acc : List Nat), joinL [c] (cutL c acc l) = acc ++ l
  | [], acc => by simp [cutL, joinL]
  | x :: r, acc => by
    rw [cutL]
    by_cases h : x = c
    · rw [if_pos h, joinL_cons _ _ (cutL_ne c r []), joinL_cut c r, h]; simp
    · rw [if_neg h, joinL_cut c r]; simp
/-- the parts of a text, and the text again -/
theorem tl_splS (c : Nat) (x : Str) : (splS c x).map tl = cutL c [] (tl x) := by
  unfold splS
  rw [spl_cut, List.map_map]
  exact List.map_id' _
theorem splS_ne (c : Nat) (x : Str) : splS c x ≠ [] := fun h => by
  have := tl_splS c x
  rw [h] at this
  exact cutL_ne c _ _ this.symm
theorem join_splS (c : Nat) (x : Str) : joinS ⟨#[c]⟩ (splS c x) = x := by
  refine ext_tl ?_
  show tl (Str.join _ _) = _
  rw [tl_join, tl_splS]
  exact joinL_cut c _ _
theorem splS_inj {c : Nat} {x y : Str} (h : splS c x = splS c y) : x = y := by rw [← join_splS c x, h, join_splS]
theorem splS_app (c : Nat) (x y : Str) : splS c (x ++ ⟨#[c]⟩ ++ y) = splS c x ++ splS c y := by
  refine map_tl_inj ?_
  rw [List.map_append, tl_splS, tl_splS, tl_splS, tl_append, tl_append]
  show cutL c [] (tl x ++ [c] ++ tl y) = _
  rw [List.append_assoc]
  exact cutL_app c _ _ _
theorem splS_join {c : Nat} {ns : List Str} (h : ns ≠ []) (hf : ∀ x ∈ ns, c ∉ tl x) : splS c (joinS ⟨#[c]⟩ ns) = ns := by
  refine map_tl_inj ?_
  rw [tl_splS, ← spl_cut]
  show spl [c] 0 [] (tl (Str.join _ _)) = _
  rw [tl_join]
  exact spl_join (by simpa using h) fun p hp => by
    obtain ⟨x, hx, rfl⟩ := List.mem_map.mp hp
    exact hf x hx
/-- a text begins with another -/
theorem sw_iff (x y : Str) : Txt.startswith x y = true ↔ ∃ r, x = y ++ r := by
  have key : Txt.startswith x y = true ↔ (tl x).take (tl y).length = tl y := by
    show (decide (0 + y.length ≤ x.length) && Builtin.Str.subAt x y 0) = true ↔ _
    rw [Bool.and_eq_true, StrLaws.subAt_eq, List.drop_zero, len_tl, len_tl]
    constructor
    · rintro ⟨_, h⟩; exact eq_of_beq h
    · intro h
      refine ⟨decide_eq_true ?_, by rw [h]; exact beq_self_eq_true _⟩
      have := congrArg List.length h
      rw [List.length_take] at this
      omega
  rw [key]
  constructor
  · intro h
    refine ⟨⟨((tl x).drop (tl y).length).toArray⟩, ext_tl ?_⟩
    rw [tl_append]
    show tl x = tl y ++ (tl x).drop (tl y).length
    have e := List.take_append_drop (tl y).length (tl x)
    rw [h] at e
    exact e.symm
  · rintro ⟨r, rfl⟩
    rw [tl_append, List.take_left]
/-- the two ways to say: p covers o -/
theorem cov_eq (p o : Str) : coversS p o = lcov p o := by
  have key : coversS p o = true ↔ lcov p o = true := by
    unfold coversS lcov
    rw [Bool.or_eq_true, sw_iff, beq_iff_eq, beq_iff_eq]
    constructor
    · rintro (rfl | ⟨r, rfl⟩)
      · rw [List.take_length]
      · rw [show p ++ dot ++ r = p ++ ⟨#[46]⟩ ++ r from rfl, splS_app, List.take_left]
    · intro h
      have e := List.take_append_drop (splS 46 p).length (splS 46 o)
      rw [h] at e
      cases q : (splS 46 o).drop (splS 46 p).length with
      | nil => rw [q, List.append_nil] at e; exact .inl (splS_inj e).symm
      | cons a r =>
        rw [q] at e
        refine .inr ⟨joinS dot (a :: r), ?_⟩
        have e2 := join_splS 46 o
        rw [← e] at e2
        rw [← e2]
        refine ext_tl ?_
        show tl (Str.join _ _) = tl (p ++ dot ++ Str.join _ _)
        rw [tl_join, List.map_append, joinL_app _ (by simp) (by simpa using splS_ne 46 p), tl_append, tl_append, tl_join, List.append_assoc]
        have e3 := congrArg tl (join_splS 46 p)
        have e4 : tl (joinS ⟨#[46]⟩ (splS 46 p)) = joinL [46] ((splS 46 p).map tl) := tl_join _ _
        rw [e4] at e3
        show joinL [46] _ ++ _ = _
        rw [e3]
        rfl
  cases h1 : coversS p o <;> cases h2 : lcov p o
  · rfl
  · rw [key.mpr h2] at h1; cases h1
  · rw [key.mp h1] at h2; cases h2
  · rfl
end DL

set_option Elab.async false
set_option linter.all false
set_option maxRecDepth 100000
namespace DL
open PySem PySem.Spec PyProof.Rows L2 TL
theorem eqs (a b : Str) : eqD (.str a) (.str b) = decide (a = b) := by
  show (a == b) = _
  by_cases h : a = b
  · rw [decide_eq_true h, h]; simp
  · rw [decide_eq_false h]; exact beq_eq_false_iff_ne.mpr h
theorem eqss : ∀ (xs ys : List Str), eqDs (xs.map .str) (ys.map .str) = (xs == ys)
  | [], [] => rfl
  | [], _ :: _ => rfl
  | _ :: _, [] => rfl
  | x :: xs, y :: ys => by
    show (eqD (.str x) (.str y) && eqDs (xs.map .str) (ys.map .str)) = (x == y && xs == ys)
    rw [eqss xs ys]
    rfl
theorem plain_strs : ∀ (n : Nat) (xs : List Str), plainDs n (xs.map .str) = true
  | _, [] => by simp [plainDs]
  | n, x :: xs => by
    have := plain_strs n xs
    simp only [List.map_cons, plainDs, this, Bool.and_true]
    simp [plainD]
theorem plain_lst (xs : List Str) : plainD 60 (.lst (xs.map .str)) = true := by
  simp only [plainD]
  exact plain_strs 59 xs
theorem beq_dec (a b : Str) : (a == b) = decide (a = b) := by
  by_cases h : a = b
  · rw [decide_eq_true h, h]; simp
  · rw [decide_eq_false h]; exact beq_eq_false_iff_ne.mpr h

theorem map_str_inj : ∀ {xs ys : List Str}, xs.map D.str = ys.map D.str → xs = ys
  | [], [], _ => rfl
  | [], _ :: _, h => by cases h
  | _ :: _, [], h => by cases h
  | x :: xs, y :: ys, h => by
    rw [List.map_cons, List.map_cons] at h
    injection h with h1 h2
    injection h1 with h1
    rw [h1, map_str_inj h2]
theorem cut_take (xs : List D) (n : Nat) : cutD xs none (some (n : Int)) = xs.take n := by
  unfold cutD
  rw [HT.sIx_none, List.drop_zero, Nat.sub_zero, show HT.sIx xs.length xs.length (some (n : Int)) = min n xs.length from HT.sIx_nat _ _ n]
  by_cases h : n ≤ xs.length
  · rw [Nat.min_eq_left h]
  · rw [Nat.min_eq_right (by omega), List.take_length, List.take_of_length_le (by omega)]
theorem ixN_n {n j : Nat} (hj : j < n) : ixN n (j : Int) = some j := by
  unfold ixN
  rw [if_pos (by omega), if_pos (by omega)]
  simp
theorem tl_cut (x : Str) (n : Nat) : tl (cutS x none (some (n : Int))) = (tl x).take n := by
  show (((x.cps.toList.drop (HT.sIx x.length 0 none)).take (HT.sIx x.length x.length (some (n : Int)) - HT.sIx x.length 0 none)).toArray).toList = (tl x).take n
  rw [HT.sIx_none, List.drop_zero, Nat.sub_zero, show HT.sIx x.length x.length (some (n : Int)) = min n x.length from HT.sIx_nat _ _ n]
  show (tl x).take (min n x.length) = (tl x).take n
  by_cases h : n ≤ x.length
  · rw [Nat.min_eq_left h]
  · rw [Nat.min_eq_right (by omega), len_tl, List.take_length, List.take_of_length_le (by rw [← len_tl]; omega)]
theorem rng_pre {lo : Int} {n : Nat} {pre : List D} {x : D} {post : List D} (h : rngD lo n = pre ++ x :: post) : pre.length < n ∧ x = .int (lo + (pre.length : Int)) := by
  have hl := congrArg List.length h
  rw [rngD_length, List.length_append, List.length_cons] at hl
  have hp : pre.length < n := by omega
  refine ⟨hp, ?_⟩
  have e : (rngD lo n)[pre.length]? = some x := by rw [h]; simp
  unfold rngD at e
  rw [List.getElem?_map, List.getElem?_range hp] at e
  exact (Option.some.inj e).symm
def T_covers {m : Mem} : DTS m :=
  (dRet (dOrV (dCm eqC (dVar 1) (dVar 0)) (dMt "str" swD (dVar 1) (daCons (dOp addD (dVar 0) (dC (D.str (Str.ofString ".")))) daNil))))
theorem read_covers {m : Mem} : ∀ ds s Qd, (spCovers : DSp m) ds s Qd → (T_covers : DTS m) (endsOf Qd) (startD ["path", "other"] ds) s := by
  intro ds s Qd h
  obtain ⟨p, o, rfl, hl, hQ⟩ := h
  have hd : (Str.ofString ".") = dot := by decide +kernel
  refine ⟨rfl, rfl, _, rfl, ?_⟩
  rw [eqs]
  unfold coversS at hQ
  rw [beq_dec] at hQ
  by_cases e : o = p
  · rw [decide_eq_true e, Bool.true_or] at hQ
    rw [decide_eq_true e]
    exact hQ
  · rw [decide_eq_false e, Bool.false_or] at hQ
    rw [decide_eq_false e]
    refine ⟨rfl, ?_, o, p ++ Str.ofString ".", rfl, rfl, ?_⟩
    · rw [hd]
      show p.length + 1 ≤ strLim
      have : strLim = 1000000 := rfl
      omega
    · rw [hd]
      exact hQ
def T_covered {m : Mem} : DTS m :=
  (dSeq (dFor (diSeq (dVar 0)) (gN 2)
        (dIf (dTr (dCall spCovers (daCons (dVar 2) (daCons (dVar 1) daNil)))) (dRet (dVar 2)) dNext))
      (dRet (dC D.non)))
theorem read_covered {m : Mem} : ∀ ds s Qd, (spCovered : DSp m) ds s Qd → (T_covered : DTS m) (endsOf Qd) (startD ["paths", "path", "candidate"] ds) s := by
  intro ds s Qd h
  obtain ⟨ps, x, rfl, hl, hQ⟩ := h
  -- the loop: none of those that are done covers x
  refine ⟨_, rfl, fun pre ρ s' => s' = s ∧ (∃ c, ρ = [.sh (.tup (ps.map .str)), .sh (.str x), c]) ∧ ∃ qs, pre = qs.map D.str ∧ ∀ p ∈ qs, coversS p x = false, ⟨rfl, ⟨_, rfl⟩, [], rfl, by simp⟩, ?_, ?_⟩
  · rintro pre y post ρ s' e ⟨rfl, ⟨c, rfl⟩, qs, rfl, hq⟩
    obtain ⟨q, rs, e1, rfl, rfl⟩ : ∃ q rs, ps = qs ++ q :: rs ∧ y = D.str q ∧ post = rs.map .str := by
      obtain ⟨l1, l2, e1, e2, e3⟩ := List.map_eq_append_iff.mp e
      obtain ⟨q, rs, e4, e5, e6⟩ := List.map_eq_cons_iff.mp e3
      have h12 : l1 = qs := map_str_inj e2
      subst h12
      exact ⟨q, rs, by rw [e1, e4], e5.symm, e6.symm⟩
    refine ⟨q, x, rfl, hl q (by rw [e1]; simp), _, rfl, ?_⟩
    cases hc : coversS q x with
    | true =>
      have e2 : ps.find? (fun p => coversS p x) = some q := by
        rw [e1, List.find?_append, List.find?_eq_none.mpr (fun p hp => by rw [hq p hp]; simp), List.find?_cons, hc]
        rfl
      rw [e2] at hQ
      exact hQ
    | false =>
      refine ⟨rfl, ⟨_, rfl⟩, qs ++ [q], by rw [List.map_append]; rfl, fun p hp => ?_⟩
      rcases List.mem_append.mp hp with h | h
      · exact hq p h
      · rw [List.mem_singleton.mp h]; exact hc
  · rintro ρ s' ⟨rfl, ⟨c, rfl⟩, qs, e, hq⟩
    have e1 : ps = qs := map_str_inj e
    subst e1
    rw [List.find?_eq_none.mpr (fun p hp => by rw [hq p hp]; simp)] at hQ
    exact hQ
def T__law_covers {m : Mem} : DTS m :=
  (dSeq (dSet 2 (dMt "str" splitD (dVar 0) (daCons (dC (D.str (Str.ofString "."))) daNil)))
      (dRet (dCm eqC (dSl slD (dMt "str" splitD (dVar 1) (daCons (dC (D.str (Str.ofString "."))) daNil)) doNone (doSome (dB lenD (daCons (dVar 2) daNil)))) (dVar 2))))
theorem read__law_covers {m : Mem} : ∀ ds s Qd, (spLcov : DSp m) ds s Qd → (T__law_covers : DTS m) (endsOf Qd) (startD ["_law_path_here", "_law_other", "_law_names"] ds) s := by
  intro ds s Qd h
  obtain ⟨p, o, rfl, hQ⟩ := h
  have hd : (Str.ofString ".") = (⟨#[46]⟩ : Str) := by decide +kernel
  refine ⟨rfl, p, 46, rfl, by rw [hd], by decide, ?_⟩
  refine ⟨rfl, o, 46, rfl, by rw [hd], by decide, _, _, rfl, rfl, _, rfl, ?_⟩
  show eqC (.lst (cutD ((splS 46 o).map .str) none (some (((splS 46 p).map D.str).length : Nat)))) (.lst ((splS 46 p).map .str)) (fun k => Qd (.bl k) s)
  rw [cut_take, List.length_map, ← List.map_take]
  refine ⟨plain_lst _, plain_lst _, ?_⟩
  show Qd (.bl (eqDs _ _)) s
  rw [eqss]
  exact hQ
def T__law_name : DTS Mem.deck :=
  (dSeq (dSet 1 (dC (D.str (Str.ofString "abcdefghijklmnopqrstuvwxyz"))))
      (dSeq (dSet 2 (dOp ixD (dLst (daCons (dC (D.int 1)) (daCons (dC (D.int 2)) (daCons (dC (D.int 3)) (daCons (dC (D.int 8)) (daCons (dC (D.int 4)) (daCons (dC (D.int 1)) (daCons (dC (D.int 6)) (daCons (dC (D.int 2)) daNil))))))))) (dCall spNext (daCons (dVar 0) (daCons (dC (D.int 8)) daNil)))))
      (dRet (dMt "str" joinD (dC (D.str (Str.ofString ""))) (daCons (dLc (diR1 (daCons (dVar 2) daNil)) (gN 3) dYes (dOp ixD (dVar 1) (dCall spNext (daCons (dVar 0) (daCons (dC (D.int 26)) daNil)))) [3]) daNil)))))
theorem read__law_name : ∀ ds s Qd, (spName : DSp Mem.deck) ds s Qd → (T__law_name : DTS Mem.deck) (endsOf Qd) (startD ["_law_deck_here", "_law_letters", "_law_many", "_law_k"] ds) s := by
  intro ds s Qd h
  obtain ⟨a, b, c, hs, rfl, hn, hQ⟩ := h
  refine ⟨by decide, a, b, c, 8, hs, rfl, by decide, by decide, by omega, fun r k h0 h1 hk => ?_⟩
  obtain ⟨n, hn8, hat⟩ := pick_ints [1, 2, 3, 8, 4, 1, 6, 2] r h0 h1
  have hb : 1 ≤ n ∧ n ≤ 8 := (by decide : ∀ n ∈ [(1 : Int), 2, 3, 8, 4, 1, 6, 2], 1 ≤ n ∧ n ≤ 8) n hn8
  refine ⟨_, hat, rfl, ⟨n, rfl, by omega, by omega, ?_⟩⟩
  have hL : Str.ofString "" = (⟨#[]⟩ : Str) := by decide +kernel
  have hd : (Str.ofString ".") = dot := by decide +kernel
  refine ⟨by rw [rngD_length]; exact Nat.le_of_lt (small1000 (by omega)), fun pre acc s' => s'.adr = s.adr ∧ s'.n = k + pre.length ∧ ∃ ls : List Nat, acc = (ls.map one).map D.str ∧ ls.length = pre.length ∧ ∀ c ∈ ls, 97 ≤ c ∧ c ≤ 122, ⟨rfl, rfl, [], rfl, rfl, by simp⟩, ?_, ?_⟩
  · rintro pre x post acc s' e - ⟨e1, e2, ls, rfl, hl, hc⟩
    have hp : pre.length < n.toNat := by
      have := congrArg List.length e
      rw [rngD_length, List.length_append, List.length_cons] at this
      omega
    refine ⟨rfl, a, b, c, 26, e1.trans hs, rfl, by decide, by decide, by omega, fun r' k' g0 g1 gk => ?_⟩
    obtain ⟨ch, c1, c2, hat2⟩ := letter_at g0 g1
    refine ⟨ch, hat2, rfl, e1, by show k' = _; rw [List.length_append, List.length_singleton]; omega, ls ++ [ch], by rw [List.map_append, List.map_append]; rfl, by rw [List.length_append, List.length_append, hl]; rfl, fun c' hc' => ?_⟩
    rcases List.mem_append.mp hc' with z | z
    · exact hc c' z
    · rw [List.mem_singleton.mp z]; exact ⟨c1, c2⟩
  · rintro acc s' - ⟨e1, e2, ls, rfl, hl, hc⟩
    rw [rngD_length] at e2 hl
    refine ⟨_, ls.map one, rfl, .inl rfl, ?_, ?_⟩
    · rw [hL, sum_ones, List.length_map]
      show ls.length + ls.length * 0 ≤ strLim
      have : strLim = 1000000 := rfl
      omega
    · show Qd (.str (joinS _ _)) s'
      rw [hL]
      have := hQ _ s'.n (nameOk_of (by omega) (by omega) hc) (by omega)
      rw [← e1] at this
      exact this
def T__law_pool : DTS Mem.deck :=
  (dSeq (dSetLcO 2 (diR1 (daCons (dVar 1) daNil)) (gN 3) dYes (dCall spName (daCons (dVar 0) daNil)) [3])
      (dSeq (dIf (dCmT ltD (dB lenD (daCons (dIxO 2 (dC (D.int 0))) daNil)) (dC (D.int 8))) (dStO 2 (dOp addD (dIxO 2 (dC (D.int 0))) (dOp ixD (dC (D.str (Str.ofString "abcdefghijklmnopqrstuvwxyz"))) (dCall spNext (daCons (dVar 0) (daCons (dC (D.int 26)) daNil))))) (dC (D.int 1))) (dStO 2 (dSl slD (dIxO 2 (dC (D.int 0))) doNone (doSome (dC (D.int 7)))) (dC (D.int 1))))
      (dRet (dVar 2))))
theorem read__law_pool : ∀ ds s Qd, (spPool : DSp Mem.deck) ds s Qd → (T__law_pool : DTS Mem.deck) (endsOf Qd) (startD ["_law_deck_here", "_law_many", "_law_found", "_law_k"] ds) s := by
  intro ds s Qd h
  obtain ⟨a, b, c, n, hs, rfl, h2, h10, hn, hQ⟩ := h
  refine ⟨n, rfl, by omega, by omega, by rw [rngD_length]; exact Nat.le_of_lt (small1000 (by omega)), fun pre acc s' => s'.adr = s.adr ∧ s'.n ≤ s.n + 20 * pre.length ∧ ∃ xs : List Str, acc = xs.map D.str ∧ xs.length = pre.length ∧ ∀ x ∈ xs, NameOk x, ⟨rfl, Nat.le_refl _, [], rfl, rfl, by simp⟩, ?_, ?_⟩
  · rintro pre x post acc s' e - ⟨e1, e2, xs, rfl, hl, hc⟩
    have hp : pre.length < n.toNat := by
      have := congrArg List.length e
      rw [rngD_length, List.length_append, List.length_cons] at this
      omega
    refine ⟨rfl, a, b, c, e1.trans hs, rfl, by omega, fun y k' hy hk => ?_⟩
    refine ⟨rfl, e1, by show k' ≤ _; rw [List.length_append, List.length_singleton]; omega, xs ++ [y], by rw [List.map_append]; rfl, by rw [List.length_append, List.length_append, hl]; rfl, fun c' hc' => ?_⟩
    rcases List.mem_append.mp hc' with z | z
    · exact hc c' z
    · rw [List.mem_singleton.mp z]; exact hy
  · rintro acc s' - ⟨e1, e2, xs, rfl, hl, hc⟩
    rw [rngD_length] at e2 hl
    obtain ⟨x, y, r, rfl⟩ : ∃ x y r, xs = x :: y :: r := by
      match xs, hl with
      | [], hl => exact absurd hl (by show ¬ (0 = _); omega)
      | [_], hl => exact absurd hl (by show ¬ (1 = _); omega)
      | x :: y :: r, _ => exact ⟨x, y, r, rfl⟩
    have hx := hc x (by simp)
    have fin : ∀ (z : Str) (k : Nat), NameOk z → k ≤ s.n + 300 → Qd (.lst ((x :: z :: r).map .str)) ⟨s'.adr, k⟩ := fun z k hz hk => by
      rw [e1]
      refine hQ _ k (by rw [← hl]; rfl) (fun w hw => ?_) hk
      rcases List.mem_cons.mp hw with rfl | hw
      · exact hx
      · rcases List.mem_cons.mp hw with rfl | hw
        · exact hz
        · exact hc w (by simp [hw])
    refine ⟨_, rfl, ⟨⟨_, rfl⟩, 0, _, .str x, rfl, rfl, atI_nat (j := 0) rfl, .str x, x.length, rfl, rfl, ?_⟩⟩
    refine ifBd (fun hlt => ?_) fun hge => ?_
    · refine ⟨⟨_, rfl⟩, 0, _, .str x, rfl, rfl, atI_nat (j := 0) rfl, ?_⟩
      refine ⟨a, b, c, 26, e1.trans hs, rfl, by decide, by decide, by omega, fun r' k' g0 g1 gk => ?_⟩
      obtain ⟨ch, c1, c2, hat2⟩ := letter_at g0 g1
      refine ⟨ch, hat2, ⟨?_, ⟨_, rfl⟩, 1, _, 1, rfl, rfl, ixN_n (j := 1) (by rw [List.length_map]; show 1 < r.length + 1 + 1; omega), ?_⟩⟩
      · show x.length + 1 ≤ strLim
        have : strLim = 1000000 := rfl
        omega
      refine fin (x ++ ⟨#[ch]⟩) k' ⟨by rw [len_tl, tl_append, List.length_append]; show 1 ≤ (tl x).length + 1; omega, by rw [len_tl, tl_append, List.length_append, ← len_tl]; show x.length + 1 ≤ 8; omega, fun c' hc' => by
        rw [tl_append] at hc'
        rcases List.mem_append.mp hc' with z | z
        · exact hx.2.2 c' z
        · rw [List.mem_singleton.mp z]; exact ⟨c1, c2⟩⟩ (by omega)
    · refine ⟨⟨_, rfl⟩, 0, _, .str x, rfl, rfl, atI_nat (j := 0) rfl, 7, rfl, ⟨_, rfl⟩, 1, _, 1, rfl, rfl, ixN_n (j := 1) (by rw [List.length_map]; show 1 < r.length + 1 + 1; omega), ?_⟩
      have e7 : tl (cutS x none (some 7)) = (tl x).take 7 := tl_cut x 7
      have hx8 := hx.2.1
      have hl7 : (tl (cutS x none (some 7))).length = 7 := by rw [e7, List.length_take, ← len_tl]; omega
      refine fin (cutS x none (some 7)) s'.n ⟨by rw [len_tl, hl7]; decide, by rw [len_tl, hl7]; decide, fun c' hc' => ?_⟩ (by omega)
      rw [e7] at hc'
      exact hx.2.2 c' (List.mem_of_mem_take hc')
def T__law_path : DTS Mem.deck :=
  (dSeq (dSet 3 (dOp addD (dC (D.int 1)) (dB minD (daCons (dOp subD (dVar 2) (dC (D.int 1))) (daCons (dOp ixD (dLst (daCons (dC (D.int 1)) (daCons (dC (D.int 2)) (daCons (dC (D.int 1)) (daCons (dC (D.int 2)) (daCons (dC (D.int 3)) (daCons (dC (D.int 0)) (daCons (dC (D.int 5)) (daCons (dC (D.int 1)) daNil))))))))) (dCall spNext (daCons (dVar 0) (daCons (dC (D.int 8)) daNil)))) daNil)))))
      (dRet (dMt "str" joinD (dC (D.str (Str.ofString "."))) (daCons (dLc (diR1 (daCons (dVar 3) daNil)) (gN 4) dYes (dOp ixD (dVar 1) (dCall spNext (daCons (dVar 0) (daCons (dB lenD (daCons (dVar 1) daNil)) daNil)))) [4]) daNil))))
theorem read__law_path : ∀ ds s Qd, (spPath : DSp Mem.deck) ds s Qd → (T__law_path : DTS Mem.deck) (endsOf Qd) (startD ["_law_deck_here", "_law_pool_here", "_law_most", "_law_many", "_law_k"] ds) s := by
  intro ds s Qd h
  obtain ⟨a, b, c, pool, most, hs, rfl, h1, h10, hp0, hp100, hp8, hn, hQ⟩ := h
  refine ⟨by decide, a, b, c, 8, hs, rfl, by decide, by decide, by omega, fun r k h0 h1' hk => ?_⟩
  obtain ⟨n, hn8, hat⟩ := pick_ints [1, 2, 1, 2, 3, 0, 5, 1] r h0 h1'
  have hb : 0 ≤ n ∧ n ≤ 5 := (by decide : ∀ n ∈ [(1 : Int), 2, 1, 2, 3, 0, 5, 1], 0 ≤ n ∧ n ≤ 5) n hn8
  refine ⟨_, hat, most - 1, n, rfl, ?_⟩
  have hm : ∃ w : Int, 1 + (if n < most - 1 then n else most - 1) = w ∧ 1 ≤ w ∧ w ≤ 6 ∧ w ≤ most := by
    refine ⟨_, rfl, ?_⟩
    by_cases h : n < most - 1
    · rw [if_pos h]; omega
    · rw [if_neg h]; omega
  obtain ⟨w, ew, w1, w6, wm⟩ := hm
  have hd : (Str.ofString ".") = (⟨#[46]⟩ : Str) := by decide +kernel
  refine ⟨rfl, ⟨w, by show [D.int (1 + _)] = _; rw [ew], by omega, by omega, ?_⟩⟩
  refine ⟨by rw [rngD_length]; exact Nat.le_of_lt (small1000 (by omega)), fun pre acc s' => s'.adr = s.adr ∧ s'.n = k + pre.length ∧ ∃ ls : List Str, acc = ls.map D.str ∧ ls.length = pre.length ∧ ∀ c ∈ ls, c ∈ pool, ⟨rfl, rfl, [], rfl, rfl, by simp⟩, ?_, ?_⟩
  · rintro pre x post acc s' e - ⟨e1, e2, ls, rfl, hl, hc⟩
    have hp : pre.length < w.toNat := by
      have := congrArg List.length e
      rw [rngD_length, List.length_append, List.length_cons] at this
      omega
    refine ⟨rfl, .lst (pool.map .str), _, rfl, rfl, a, b, c, _, e1.trans hs, rfl, by rw [List.length_map]; omega, by rw [List.length_map]; omega, by omega, fun r' k' g0 g1 gk => ?_⟩
    rw [List.length_map] at g1
    obtain ⟨y, hy, hat2⟩ := pick_map D.str pool r' g0 g1
    refine ⟨_, hat2, rfl, e1, by show k' = _; rw [List.length_append, List.length_singleton]; omega, ls ++ [y], by rw [List.map_append]; rfl, by rw [List.length_append, List.length_append, hl]; rfl, fun c' hc' => ?_⟩
    rcases List.mem_append.mp hc' with z | z
    · exact hc c' z
    · rw [List.mem_singleton.mp z]; exact hy
  · rintro acc s' - ⟨e1, e2, ls, rfl, hl, hc⟩
    rw [rngD_length] at e2 hl
    have q2 := sum_le8 fun y hy => hp8 y (hc y hy)
    refine ⟨_, ls, rfl, .inl rfl, ?_, ?_⟩
    · rw [hd]
      show _ + ls.length * 1 ≤ strLim
      have : strLim = 1000000 := rfl
      omega
    · show Qd (.str (joinS _ _)) s'
      rw [hd]
      have := hQ _ s'.n ⟨ls, by omega, by omega, hc, rfl⟩ (by omega)
      rw [← e1] at this
      exact this
end DL

set_option Elab.async false
set_option linter.all false
set_option maxRecDepth 100000
namespace DL
open PySem PySem.Spec PyProof.Rows L2 TL

/-! ### {} and {x: y} -/
section
variable {X : Cx} {m : Mem} {E : Ent m} {pos : Pos}
end
end DL

set_option Elab.async false
set_option linter.all false
set_option maxRecDepth 100000
namespace DL
open PySem PySem.Spec PyProof.Rows L2 TL
/-! ### the forms of a path -/
def okc (c : Nat) : Bool := decide (97 ≤ c) && decide (c ≤ 122)
def okLen (x : Str) : Bool := decide (1 ≤ x.length) && decide (x.length ≤ 8)
def okName (x : Str) : Bool := okLen x && (tl x).all okc
def isPathS (x : Str) : Bool := decide ((splS 46 x).length ≤ 6) && (splS 46 x).all okName
def isPathD : D → Bool
  | .str x => isPathS x
  | _ => false
/-- the values that are asked -/
def Val (d : D) : Prop := (∃ t, tyT d = some t) ∧ ∀ x, d = .str x → x.length ≤ 10000
def spIsName {m : Mem} : DSp m := fun ds s Q => ∃ x : Str, ds = [.str x] ∧ x.length ≤ 10000 ∧ Q (.bl (okName x)) s
theorem spIsName_len {m : Mem} : ∀ ds s Qd, (spIsName : DSp m) ds s Qd → ds.length = 1 := fun ds s Qd ⟨_, e, _⟩ => by rw [e]; rfl
def spIsPath {m : Mem} : DSp m := fun ds s Q => ∃ d, ds = [d] ∧ Val d ∧ Q (.bl (isPathD d)) s
theorem spIsPath_len {m : Mem} : ∀ ds s Qd, (spIsPath : DSp m) ds s Qd → ds.length = 1 := fun ds s Qd ⟨_, e, _⟩ => by rw [e]; rfl
theorem lt_one (c d : Nat) : decide (([c] : List Nat) < [d]) = decide (c < d) := by
  by_cases h : c < d
  · rw [decide_eq_true h, decide_eq_true (List.cons_lt_cons_iff.mpr (.inl h))]
  · rw [decide_eq_false h]
    refine decide_eq_false fun z => ?_
    rcases List.cons_lt_cons_iff.mp z with z | ⟨_, z⟩
    · exact h z
    · exact absurd z (by simp)
theorem le_a (c : Nat) : (!ltS ⟨#[c]⟩ (Str.ofString "a")) = decide (97 ≤ c) := by
  have e : (Str.ofString "a") = (⟨#[97]⟩ : Str) := by decide +kernel
  rw [e]
  show (!decide (([c] : List Nat) < [97])) = _
  rw [lt_one]
  by_cases h : c < 97
  · rw [decide_eq_true h, decide_eq_false (by omega)]; rfl
  · rw [decide_eq_false h, decide_eq_true (by omega)]; rfl
theorem le_z (c : Nat) : (!ltS (Str.ofString "z") ⟨#[c]⟩) = decide (c ≤ 122) := by
  have e : (Str.ofString "z") = (⟨#[122]⟩ : Str) := by decide +kernel
  rw [e]
  show (!decide (([122] : List Nat) < [c])) = _
  rw [lt_one]
  by_cases h : 122 < c
  · rw [decide_eq_true h, decide_eq_false (by omega)]; rfl
  · rw [decide_eq_false h, decide_eq_true (by omega)]; rfl
theorem ch_app {x : Str} {pre : List D} {y : D} {post : List D} (e : chD x = pre ++ y :: post) : ∃ c, y = D.str ⟨#[c]⟩ ∧ c ∈ tl x := by
  have hm : y ∈ chD x := by rw [e]; simp
  obtain ⟨c, hc, rfl⟩ := List.mem_map.mp hm
  exact ⟨c, rfl, hc⟩
theorem chr_inj : ∀ {l m : List Nat}, (l.map fun c => D.str ⟨#[c]⟩) = (m.map fun c => D.str ⟨#[c]⟩) → l = m
  | [], [], _ => rfl
  | [], _ :: _, h => by cases h
  | _ :: _, [], h => by cases h
  | c :: l, d :: m, h => by
    rw [List.map_cons, List.map_cons] at h
    injection h with h1 h2
    injection h1 with h1
    injection h1 with h1
    have h1' : c = d := by simpa using h1
    rw [h1', chr_inj h2]
theorem chD_length (x : Str) : (chD x).length = x.length := by
  unfold chD
  rw [List.length_map, len_tl]
theorem line_of {n : Nat} (h : n ≤ 1000000) : n ≤ sizeLine := Nat.le_trans h (Nat.le_trans (Nat.le_add_right _ 2) strLim_line)
theorem bl_app (l : List Nat) (f : Nat → Bool) (c : Nat) : (l.map f).map D.bl ++ [D.bl (f c)] = ((l ++ [c]).map f).map D.bl := by
  rw [List.map_append, List.map_append]; rfl
theorem splS_count {x : Str} : (splS 46 x).length ≤ x.length + 1 := by
  have h : ∀ (l acc : List Nat), (cutL 46 acc l).length ≤ l.length + 1 := by
    intro l
    induction l with
    | nil => intro acc; simp [cutL]
    | cons a r ih =>
      intro acc
      rw [cutL]
      by_cases h : a = 46
      · rw [if_pos h, List.length_cons, List.length_cons]; have := ih []; omega
      · rw [if_neg h, List.length_cons]; have := ih (acc ++ [a]); omega
  have e : (splS 46 x).length = ((splS 46 x).map tl).length := by rw [List.length_map]
  rw [e, tl_splS, len_tl]
  exact h _ _
theorem splS_each {x : Str} : ∀ y ∈ splS 46 x, y.length ≤ x.length := fun y hy => by
  obtain ⟨l, hl, rfl⟩ := List.mem_map.mp hy
  have := (spl_mem 0 [] (tl x) l hl).1
  rw [List.length_nil, Nat.zero_add] at this
  rw [len_tl, len_tl]
  exact this
theorem lz {n : Nat} (h : Nat.ble n 1000000 = true) : n ≤ sizeLine := line_of (Nat.le_of_ble_eq_true h)
theorem len_add (a b : Str) : (a ++ b).length = a.length + b.length := by rw [len_tl, tl_append, List.length_append, ← len_tl, ← len_tl]
def T__is_name {m : Mem} : DTS m :=
  (dRet (dAndV (dCh leD leD (dC (D.int 1)) (dB lenD (daCons (dVar 0) daNil)) (dC (D.int 8))) (dB allD (daCons (dLc (diStr (dVar 0)) (gN 1) dYes (dCh leD leD (dC (D.str (Str.ofString "a"))) (dVar 1) (dC (D.str (Str.ofString "z")))) [1]) daNil))))
theorem read__is_name {m : Mem} : ∀ ds s Qd, (spIsName : DSp m) ds s Qd → (T__is_name : DTS m) (endsOf Qd) (startD ["text", "letter"] ds) s := by
  intro ds s Qd h
  obtain ⟨x, rfl, hx, hQ⟩ := h
  refine ⟨.str x, x.length, rfl, rfl, ifBd (fun h1 => ?_) fun h1 => ?_⟩
  · refine ⟨_, rfl, ifBd (fun h2 => ?_) fun h2 => ?_⟩
    · refine ⟨x, rfl, (by rw [chD_length]; exact line_of (by omega)), fun pre acc s' => s' = s ∧ ∃ cs : List Nat, pre = cs.map (fun c => D.str ⟨#[c]⟩) ∧ acc = (cs.map okc).map D.bl, ⟨rfl, [], rfl, rfl⟩, ?_, ?_⟩
      · rintro pre y post acc s' e - ⟨rfl, cs, rfl, rfl⟩
        obtain ⟨c, rfl, hc⟩ := ch_app e
        refine ⟨rfl, ?_⟩
        show ifB (!ltS ⟨#[c]⟩ (Str.ofString "a")) _ _
        rw [le_a]
        refine ifBd (fun g1 => ?_) fun g1 => ?_
        · refine ⟨rfl, rfl, cs ++ [c], by rw [List.map_append]; rfl, ?_⟩
          rw [← bl_app, le_z]
          unfold okc
          rw [decide_eq_true g1, Bool.true_and]
        · refine ⟨rfl, rfl, cs ++ [c], by rw [List.map_append]; rfl, ?_⟩
          rw [← bl_app]
          unfold okc
          rw [decide_eq_false g1, Bool.false_and]
      · rintro acc s' - ⟨rfl, cs, e, rfl⟩
        have ec : tl x = cs := chr_inj e
        refine ⟨_, rfl, ?_⟩
        have ek : okName x = (cs.map okc).all id := by
          unfold okName okLen
          rw [decide_eq_true (by omega), decide_eq_true (by omega), ec, List.all_map]
          rfl
        rw [ek] at hQ
        exact hQ
    · have ek : okName x = false := by unfold okName okLen; rw [decide_eq_false (p := x.length ≤ 8) (by omega), Bool.and_false, Bool.false_and]
      rw [ek] at hQ
      rw [decide_eq_false h2]
      exact hQ
  · have ek : okName x = false := by unfold okName okLen; rw [decide_eq_false (p := 1 ≤ x.length) (by omega), Bool.false_and, Bool.false_and]
    rw [ek] at hQ
    exact ⟨_, rfl, hQ⟩
def T_is_path {m : Mem} : DTS m :=
  (dSeq (dIf (dNotT (dTr (dB isiD (daCons (dVar 0) (daCons (dC (D.any (V.ty "str"))) daNil))))) (dRet (dC (D.bl false))) dNext)
      (dSeq (dSet 1 (dMt "str" splitD (dVar 0) (daCons (dC (D.str (Str.ofString "."))) daNil)))
      (dRet (dAndV (dCm leD (dB lenD (daCons (dVar 1) daNil)) (dC (D.int 6))) (dB allD (daCons (dLc (diSeq (dVar 1)) (gN 2) dYes (dCall spIsName (daCons (dVar 2) daNil)) [2]) daNil))))))
theorem read_is_path {m : Mem} : ∀ ds s Qd, (spIsPath : DSp m) ds s Qd → (T_is_path : DTS m) (endsOf Qd) (startD ["value", "names", "name"] ds) s := by
  intro ds s Qd h
  obtain ⟨d, rfl, ⟨⟨t, ht⟩, hx⟩, hQ⟩ := h
  have hd : (Str.ofString ".") = dot := by decide +kernel
  refine ⟨d, .str, t, rfl, ht, (by intro z; cases z), _, rfl, ?_⟩
  cases d with
  | str x =>
    cases ht
    have hx := hx x rfl
    refine ⟨rfl, x, 46, rfl, (by rw [hd]; rfl), by decide, ?_⟩
    refine ⟨_, (splS 46 x).length, rfl, (by show some _ = _; rw [List.length_map]), _, rfl, ?_⟩
    refine ifBd (fun h1 => ?_) fun h1 => ?_
    · refine ⟨_, rfl, (by rw [List.length_map]; exact line_of (Nat.le_trans splS_count (by omega))), fun pre acc s' => s' = s ∧ ∃ ls : List Str, pre = ls.map D.str ∧ acc = (ls.map okName).map D.bl, ⟨rfl, [], rfl, rfl⟩, ?_, ?_⟩
      · rintro pre y post acc s' e - ⟨rfl, ls, rfl, rfl⟩
        obtain ⟨z, rfl, hz⟩ : ∃ z, y = D.str z ∧ z ∈ splS 46 x := by
          have hm : y ∈ (splS 46 x).map D.str := by rw [e]; simp
          obtain ⟨z, hz, rfl⟩ := List.mem_map.mp hm
          exact ⟨z, rfl, hz⟩
        exact ⟨rfl, z, rfl, Nat.le_trans (splS_each z hz) hx, rfl, rfl, ls ++ [z], (by rw [List.map_append]; rfl), (by rw [List.map_append, List.map_append]; rfl)⟩
      · rintro acc s' - ⟨rfl, ls, e, rfl⟩
        have e1 : splS 46 x = ls := map_str_inj e
        refine ⟨_, rfl, ?_⟩
        have ek : isPathD (.str x) = (ls.map okName).all id := by
          show (decide _ && _) = _
          rw [decide_eq_true (by omega), Bool.true_and, e1, List.all_map]
          rfl
        rw [ek] at hQ
        exact hQ
    · have ek : isPathD (.str x) = false := by
        show (decide _ && _) = _
        rw [decide_eq_false (by omega), Bool.false_and]
      rw [ek] at hQ
      rw [decide_eq_false h1]
      exact hQ
  | any _ => cases ht
  | fz _ => cases ht
  | ins _ _ _ => cases ht
  | exc _ _ _ => cases ht
  | _ => cases ht; exact hQ
end DL

set_option Elab.async false
set_option linter.all false
set_option maxRecDepth 100000
namespace DL
open PySem PySem.Spec PyProof.Rows L2 TL
/-! ### parent, last_name, overlap -/
theorem cutL_free {c : Nat} : ∀ {l acc : List Nat}, c ∉ l → cutL c acc l = [acc ++ l]
  | [], acc, _ => by simp [cutL]
  | x :: r, acc, h => by
    rw [cutL, if_neg (fun e => h (by simp [e])), cutL_free fun z => h (List.mem_cons_of_mem _ z)]
    simp
theorem splS_free {c : Nat} {x : Str} (h : c ∉ tl x) : splS c x = [x] := by
  refine map_tl_inj ?_
  rw [tl_splS, cutL_free h]
  rfl
def parentS (p : Str) : Option Str := if 1 < (splS 46 p).length then some (joinS dot (splS 46 p).dropLast) else none
theorem pre_one {l : List Nat} {c : Nat} : pre [c] l = true ↔ ∃ r, l = c :: r := by
  unfold pre
  rw [beq_iff_eq]
  cases l with
  | nil => simp
  | cons a r => simp
theorem rpart_dot (p : Str) : (parentS p = none ∧ Txt.rpartition p dot = (Str.empty, Str.empty, p)) ∨ ∃ a, parentS p = some a ∧ (Txt.rpartition p dot).1 = a ∧ (Txt.rpartition p dot).2.1 = dot := by
  have hd : tl dot ≠ [] := by intro z; cases z
  rcases StrLaws.last_spec p dot with ⟨e, h⟩ | ⟨i, e, h1, h2⟩
  · refine .inl ⟨?_, ?_⟩
    · unfold parentS
      rw [splS_free (c := 46) (x := p), if_neg (show ¬ 1 < [p].length from Nat.lt_irrefl 1)]
      intro hm
      obtain ⟨a, b, eq⟩ := List.append_of_mem hm
      refine h a.length ((at_iff hd _).mpr ?_)
      rw [eq, List.drop_left]
      exact pre_one.mpr ⟨b, rfl⟩
    · unfold Txt.rpartition
      rw [e]
  · refine .inr ⟨Builtin.Str.strSub p 0 i, ?_, ?_, ?_⟩
    · have h3 := (at_iff hd i).mp h1
      obtain ⟨r, er⟩ := pre_one.mp h3
      have ep : tl p = (tl p).take i ++ 46 :: r := by
        rw [← er, List.take_append_drop]
      have il : i ≤ (tl p).length := by
        cases Nat.lt_or_ge (tl p).length i with
        | inl z => rw [List.drop_eq_nil_of_le (Nat.le_of_lt z)] at er; cases er
        | inr z => exact z
      have free : 46 ∉ r := fun hm => by
        obtain ⟨a, b, eq⟩ := List.append_of_mem hm
        refine h2 (i + 1 + a.length) (by omega) ((at_iff hd _).mpr ?_)
        have e5 : (tl p).drop (i + 1 + a.length) = 46 :: b := by
          have e6 : (tl p).drop (i + 1) = r := by
            have := congrArg (List.drop 1) er
            rw [List.drop_drop] at this
            simpa using this
          rw [← List.drop_drop, e6, eq, List.drop_left]
        rw [e5]
        exact pre_one.mpr ⟨b, rfl⟩
      have es : Builtin.Str.strSub p 0 i = ⟨((tl p).take i).toArray⟩ := ext_tl (by rw [tl_strSub, List.drop_zero, Nat.sub_zero])
      have e7 : p = (⟨((tl p).take i).toArray⟩ : Str) ++ ⟨#[46]⟩ ++ ⟨r.toArray⟩ := ext_tl (by
        rw [tl_append, tl_append]
        show tl p = (tl p).take i ++ [46] ++ r
        rw [List.append_assoc]
        exact ep)
      unfold parentS
      have e8 : splS 46 p = splS 46 ⟨((tl p).take i).toArray⟩ ++ [⟨r.toArray⟩] := by
        conv => lhs; rw [e7]
        rw [splS_app, splS_free (x := ⟨r.toArray⟩) free]
      rw [e8, List.dropLast_concat, es]
      rw [if_pos (by
        have := List.length_pos_iff.mpr (splS_ne 46 ⟨((tl p).take i).toArray⟩)
        rw [List.length_append, List.length_singleton]; omega)]
      exact congrArg some (join_splS 46 _)
    · unfold Txt.rpartition; rw [e]
    · unfold Txt.rpartition; rw [e]
def spParent {m : Mem} : DSp m := fun ds s Q => ∃ p : Str, ds = [.str p] ∧ Q (optS (parentS p)) s
theorem spParent_len {m : Mem} : ∀ ds s Qd, (spParent : DSp m) ds s Qd → ds.length = 1 := fun ds s Qd ⟨_, e, _⟩ => by rw [e]; rfl
def spOverlap {m : Mem} : DSp m := fun ds s Q => ∃ p o : Str, ds = [.str p, .str o] ∧ p.length ≤ 1000 ∧ o.length ≤ 1000 ∧ Q (.bl (coversS p o || coversS o p)) s
theorem spOverlap_len {m : Mem} : ∀ ds s Qd, (spOverlap : DSp m) ds s Qd → ds.length = 2 := fun ds s Qd ⟨_, _, e, _⟩ => by rw [e]; rfl
def spLover {m : Mem} : DSp m := fun ds s Q => ∃ p o : Str, ds = [.str p, .str o] ∧ Q (.bl (lcov p o || lcov o p)) s
theorem spLover_len {m : Mem} : ∀ ds s Qd, (spLover : DSp m) ds s Qd → ds.length = 2 := fun ds s Qd ⟨_, _, e, _⟩ => by rw [e]; rfl
theorem atI_last {α : Type} {xs : List α} (h : xs ≠ []) : atI xs (-1) = some (xs.getLast h) := by
  unfold atI ixN
  have hl := List.length_pos_iff.mpr h
  rw [if_neg (by decide), if_pos (by omega)]
  show xs[((xs.length : Int) + -1).toNat]? = _
  rw [List.getLast_eq_getElem]
  have e : ((xs.length : Int) + -1).toNat = xs.length - 1 := by omega
  rw [e]
  exact List.getElem?_eq_getElem (by omega)
def T_overlap {m : Mem} : DTS m :=
  (dRet (dOrV (dCall spCovers (daCons (dVar 0) (daCons (dVar 1) daNil))) (dCall spCovers (daCons (dVar 1) (daCons (dVar 0) daNil)))))
theorem read_overlap {m : Mem} : ∀ ds s Qd, (spOverlap : DSp m) ds s Qd → (T_overlap : DTS m) (endsOf Qd) (startD ["path", "other"] ds) s := by
  intro ds s Qd h
  obtain ⟨p, o, rfl, hp, ho, hQ⟩ := h
  refine ⟨p, o, rfl, hp, _, rfl, ifB2 (fun h => ?_) fun h => ⟨o, p, rfl, ho, ?_⟩⟩
  · rw [h] at hQ ⊢; exact hQ
  · rw [h] at hQ; exact hQ
def T_parent {m : Mem} : DTS m :=
  (dSeq (dAsg (dMt "str" rpartD (dVar 0) (daCons (dC (D.str (Str.ofString "."))) daNil)) (gTup' 3 (gCons' (gN 1) (gCons' (gN 2) (gCons' (gN 3) gNil')))))
      (dRet (dIfE (dTr (dVar 2)) (dVar 1) (dC D.non))))
theorem read_parent {m : Mem} : ∀ ds s Qd, (spParent : DSp m) ds s Qd → (T_parent : DTS m) (endsOf Qd) (startD ["path", "above", "dot", "_"] ds) s := by
  intro ds s Qd h
  obtain ⟨p, rfl, hQ⟩ := h
  have hd : (Str.ofString ".") = dot := by decide +kernel
  refine ⟨rfl, p, 46, rfl, by rw [hd]; rfl, by decide, _, rfl, rfl, _, _, rfl, _, _, rfl, _, _, rfl, rfl, ?_⟩
  rcases rpart_dot p with ⟨e1, e2⟩ | ⟨a, e1, e2, e3⟩
  · rw [e1] at hQ
    refine ⟨false, ?_, hQ⟩
    show tru (.str (Txt.rpartition p dot).2.1) = some false
    rw [e2]
    rfl
  · rw [e1] at hQ
    refine ⟨true, ?_, ?_⟩
    · show tru (.str (Txt.rpartition p dot).2.1) = some true
      rw [e3]
      rfl
    · show Qd (.str (Txt.rpartition p dot).1) s
      rw [e2]
      exact hQ
def T__law_overlap {m : Mem} : DTS m :=
  (dRet (dOrV (dCall spLcov (daCons (dVar 0) (daCons (dVar 1) daNil))) (dCall spLcov (daCons (dVar 1) (daCons (dVar 0) daNil)))))
theorem read__law_overlap {m : Mem} : ∀ ds s Qd, (spLover : DSp m) ds s Qd → (T__law_overlap : DTS m) (endsOf Qd) (startD ["_law_path_here", "_law_other"] ds) s := by
  intro ds s Qd h
  obtain ⟨p, o, rfl, hQ⟩ := h
  refine ⟨p, o, rfl, _, rfl, ifB2 (fun h => ?_) fun h => ⟨o, p, rfl, ?_⟩⟩
  · rw [h] at hQ ⊢; exact hQ
  · rw [h] at hQ; exact hQ
end DL

set_option Elab.async false
set_option linter.all false
set_option maxRecDepth 100000
/-! DX: own exception classes (over any of the built-in ones): made as values, their fields stored and read, isinstance of them. -/
namespace DL
open PySem PySem.Spec PyProof.Rows L2
section
variable {X : Cx} {pins : List (Addr × Obj)} {σ : L2.St} {H : Hp} {s : Shared} {a C dx : Addr} {f : Str} {y : V} {u : Value} {fs : List (Str × V)} {Q : Unit → Shared → Prop} {E : Value → Shared → Prop} {A : Around}
end
/-! ### __init__: self.f = e -/
section
variable {X : Cx} {o e : Expr} {es : List Expr} {to te : TE} {ta : TA} {f x : Str} {p p' pos : Pos} {C : Addr}
/-! ### C(e, ..) as a value -/
/-! ### e.f -/
/-! ### isinstance(e, c), isinstance(e, (c, ..)) -/
end
end DL

set_option Elab.async false
set_option linter.all false
set_option maxRecDepth 100000
namespace DL
open PySem PySem.Spec PyProof.Rows L2 TL

/-! ### own exceptions as data -/
section
variable {X : Cx} {m : Mem} {e : Expr} {es : List Expr} {ta : DTA m} {te : DT m} {x : Str} {p pos : Pos} {C : Addr}
/-! ### isinstance of them -/
/-! ### zip -/
def zipD (d e : D) : Option (List D × List D) := match d, e with
  | .lst xs, .lst ys => some (xs, ys)
  | .tup xs, .tup ys => some (xs, ys)
  | _, _ => none
def pairsD (xs ys : List D) : List D := List.zipWith (fun x y => .tup [x, y]) xs ys
def diZip {m : Mem} (ta : DTA m) : DTI m := fun ρ s Q => ta ρ s fun ds ρ1 s1 => ∃ d e xs ys, ds = [d, e] ∧ zipD d e = some (xs, ys) ∧ Q (pairsD xs ys) ρ1 s1
theorem pairs_get {xs ys : List D} {i : Nat} {d : D} (h : (pairsD xs ys)[i]? = some d) : ∃ x y, xs[i]? = some x ∧ ys[i]? = some y ∧ d = .tup [x, y] := by
  unfold pairsD at h
  rw [List.getElem?_zipWith] at h
  cases hx : xs[i]? with
  | none => rw [hx] at h; cases h
  | some x =>
    cases hy : ys[i]? with
    | none => rw [hx, hy] at h; cases h
    | some y => rw [hx, hy] at h; exact ⟨x, y, rfl, rfl, (Option.some.inj h).symm⟩
theorem pairs_end {xs ys : List D} {i : Nat} (h : (pairsD xs ys).length ≤ i) : xs.length ≤ i ∨ ys.length ≤ i := by
  unfold pairsD at h
  rw [List.length_zipWith] at h
  omega
theorem rep_pair {K : PySem.W.Frag} {F : Hp} {x y : D} {v w : V} {T : Addr} (h : F T = some (.tup [v, w])) (rx : Rep K F x v) (ry : Rep K F y w) : Rep K F (.tup [x, y]) (.ref T) :=
  ⟨T, [v, w], rfl, .inl (.inl h), by show 2 ≤ sizeLine; decide, .cons rx (.one ry)⟩
theorem walks_zipL {K : PySem.W.Frag} {F : Hp} {a b : Addr} {ds es : List D} {vs ws : List V} (h1 : SqL K F a vs) (r1 : Reps K F ds vs) (h2 : SqL K F b ws) (r2 : Reps K F es ws) : Walks K F (Itz K a b) (pairsD ds es) := fun F' H' s1 s2 => by
  have q1 : SqL K H' a vs := Same.seq s2 (Same.seq s1 h1)
  have q2 : SqL K H' b ws := Same.seq s2 (Same.seq s1 h2)
  refine ⟨fun i hi => ⟨vs, ws, q1, q2, by rw [r1.length, r2.length]; exact pairs_end hi⟩, fun i d e => ?_⟩
  obtain ⟨x, y, ex, ey, rfl⟩ := pairs_get e
  obtain ⟨v, ev, rv⟩ := r1.get ex
  obtain ⟨w, ew, rw'⟩ := r2.get ey
  refine ⟨⟨vs, ws, v, w, q1, q2, ev, ew⟩, fun z H2 yl => ?_⟩
  obtain ⟨T, v', w', rfl, nT, rfl, g1, g2⟩ := yl
  have e1 := g1 vs q1
  have e2 := g2 ws q2
  rw [ev] at e1; rw [ew] at e2
  cases e1; cases e2
  have g : Grow F' H' (upd F' T (.tup [v, w])) (upd H' T (.tup [v, w])) := Grow.new s2 nT
  exact ⟨_, g, rep_pair upd_same (Rep.mono (s1.trans g.fF) _ _ rv) (Rep.mono (s1.trans g.fF) _ _ rw')⟩
theorem walks_zipT {K : PySem.W.Frag} {F : Hp} {a b : Addr} {ds es : List D} {vs ws : List V} (h1 : SqT K F a vs) (r1 : Reps K F ds vs) (h2 : SqT K F b ws) (r2 : Reps K F es ws) : Walks K F (RZ.ItzT K a b) (pairsD ds es) := fun F' H' s1 s2 => by
  have q1 : SqT K H' a vs := Same.seqT s2 (Same.seqT s1 h1)
  have q2 : SqT K H' b ws := Same.seqT s2 (Same.seqT s1 h2)
  refine ⟨fun i hi => ⟨vs, ws, q1, q2, by rw [r1.length, r2.length]; exact pairs_end hi⟩, fun i d e => ?_⟩
  obtain ⟨x, y, ex, ey, rfl⟩ := pairs_get e
  obtain ⟨v, ev, rv⟩ := r1.get ex
  obtain ⟨w, ew, rw'⟩ := r2.get ey
  refine ⟨⟨vs, ws, v, w, q1, q2, ev, ew⟩, fun z H2 yl => ?_⟩
  obtain ⟨T, v', w', rfl, nT, rfl, g1, g2⟩ := yl
  have e1 := g1 vs q1
  have e2 := g2 ws q2
  rw [ev] at e1; rw [ew] at e2
  cases e1; cases e2
  have g : Grow F' H' (upd F' T (.tup [v, w])) (upd H' T (.tup [v, w])) := Grow.new s2 nT
  exact ⟨_, g, rep_pair upd_same (Rep.mono (s1.trans g.fF) _ _ rv) (Rep.mono (s1.trans g.fF) _ _ rw')⟩
theorem di_zip {a b : Expr} {elts : List Expr} {kk : Nat} {tpos : Pos} (hg : Gl X "zip") (hm : X.mg "zip" = none) (ha : PA X [a, b] (upA X.K m ta))
    (hs : starEach [a, b] X.env = (false, eval a X.env) :: starEach [b] X.env := by rfl) (hpl : (backTo pos (starEach [b] X.env)).any (·.1) = false := by rfl) :
    PI X (.Tuple elts kk tpos) (.Call (.Name "zip" p) [a, b] [] pos) (upI X.K m (diZip ta)) := PI.imp (RZ.pi_zipA hg hm ha hs hpl) fun σ H R h => by
  obtain ⟨F, ρ, s, Qd, r, ht, hQ⟩ := h
  refine ⟨F, ρ, s, _, r, ht, fun ds ρ1 s1 vs F1 H1 ⟨d, e, xs, ys, ed, ez, q1⟩ r1 st1 rs => ?_⟩
  subst ed
  obtain ⟨v, _, rfl, rv, w, _, rfl, rw', rn⟩ := rs
  cases rn
  unfold zipD at ez
  split at ez
  · cases ez
    obtain ⟨a, vs, rfl, h1, _, k1⟩ := rv
    obtain ⟨b, ws, rfl, h2, _, k2⟩ := rw'
    exact ⟨a, b, vs, ws, rfl, .inl ⟨.inl (.inl (r1.sub _ _ h1)), .inl (.inl (r1.sub _ _ h2)), hQ _ ρ1 s1 _ F1 H1 q1 r1 st1 (walks_zipL (.inl (.inl h1)) k1 (.inl (.inl h2)) k2)⟩⟩
  · cases ez
    obtain ⟨a, vs, rfl, h1, _, k1⟩ := rv
    obtain ⟨b, ws, rfl, h2, _, k2⟩ := rw'
    exact ⟨a, b, vs, ws, rfl, .inr ⟨Same.seqT r1.sub h1, Same.seqT r1.sub h2, hQ _ ρ1 s1 _ F1 H1 q1 r1 st1 (walks_zipT h1 k1 h2 k2)⟩⟩
  · cases ez
end
end DL

set_option Elab.async false
set_option linter.all false
set_option maxRecDepth 100000
namespace DL
open PySem PySem.Spec PyProof.Rows L2 TL

/-! ### repr -/
def keyPy : Key → PyData
  | .inl i => .int i
  | .inr x => .str x
mutual
/-- data as the library's model of data, dicts too -/
def pyR : D → PyData
  | .non => .none
  | .bl b => .bool b
  | .int i => .int i
  | .str x => .str x
  | .lst xs => .list (pyRs xs)
  | .tup xs => .tuple (pyRs xs)
  | .dic ks xs => .dict (pyRk ks xs)
  | _ => .none
def pyRs : List D → List PyData
  | [] => []
  | d :: ds => pyR d :: pyRs ds
def pyRk : List Key → List D → List (PyData × PyData)
  | k :: ks, d :: ds => (keyPy k, pyR d) :: pyRk ks ds
  | _, _ => []
end
mutual
/-- what repr takes, at most so deep -/
def repD : Nat → D → Bool
  | _, .non => true
  | _, .bl _ => true
  | _, .int _ => true
  | _, .str _ => true
  | n, .lst xs => match n with
    | 0 => false
    | k + 1 => repDs k xs
  | n, .tup xs => match n with
    | 0 => false
    | k + 1 => repDs k xs
  | n, .dic ks xs => match n with
    | 0 => false
    | k + 1 => repDs k xs
  | _, _ => false
def repDs : Nat → List D → Bool
  | _, [] => true
  | n, d :: ds => repD n d && repDs n ds
end
@[irreducible] def repOk (d : D) : Bool := repD 60 d && ((pyR d).showable && decide ((pyR d).shown.length ≤ sizeLine))
section
variable {X : Cx} {pins : List (Addr × Obj)} {σ : L2.St} {F H : Hp} {s : Shared}
theorem pairs_reads {P : Program} {w : World} {h : Heap} : ∀ {es : List DictEntry} {vs : List (Key × Value)}, Pairs (mixKind P w) es vs → ReadsAll h (es.map (·.key)) (vs.map fun p => keyPy p.1) [] ∧ es.map (·.val) = vs.map (·.2)
  | _, _, .nil => ⟨.nil, rfl⟩
  | _, _, .cons (e := e) (kv := kv) hk hv r => by
    obtain ⟨q1, q2⟩ := pairs_reads (h := h) r
    have hk' : keyIs kv.1 e.key = true := hk
    have one : Reads h e.key (keyPy kv.1) [] := by
      rcases keyIs_shape hk' with ⟨i, t, e1, e2⟩ | ⟨x, t, e1, e2⟩
      · rw [e1, e2]; exact .int i t
      · rw [e1, e2]; exact .str x t
    exact ⟨.cons one q1, by rw [List.map_cons, List.map_cons, hv, q2]⟩
mutual
theorem rep_reads (hS : H sysModules = none) (I : Inv X pins σ H s) (sub : Same F H) : ∀ (n : Nat) (d : D) (v : V) (u : Value), repD n d = true → Rep X.K F d v → RelV v u → ∃ as, Reads s.heap u (pyR d) as ∧ sysModules ∉ as
  | _, .non, _, _, _, h, r => by cases h; cases r; exact ⟨_, .none, by simp⟩
  | _, .bl b, _, _, _, h, r => by cases h; cases r; exact ⟨_, .bool b, by simp⟩
  | _, .int i, _, _, _, h, r => by cases h; obtain ⟨t, rfl⟩ := r; exact ⟨_, .int i t, by simp⟩
  | _, .str x, _, _, _, h, r => by obtain ⟨rfl, _⟩ := h; obtain ⟨t, rfl⟩ := r; exact ⟨_, .str x t, by simp⟩
  | 0, .lst xs, _, _, p, _, _ => by simp [repD] at p
  | n + 1, .lst xs, _, _, p, h, r => by
    obtain ⟨a, vs, rfl, h1, _, rs⟩ := h
    cases r
    have ha := sub _ _ h1
    obtain ⟨its, rv, ⟨o, k, ho, hc, _, hd⟩, _⟩ := I.list (.inl (.inl ha))
    obtain ⟨as, q1, q2⟩ := reps_reads hS I sub n xs vs its (by simpa [repD] using p) rs rv
    refine ⟨_, .list ho hc hd q1, ?_⟩
    simp only [List.mem_cons, not_or]
    exact ⟨(fun z => by rw [z, ha] at hS; cases hS), q2⟩
  | 0, .tup xs, _, _, p, _, _ => by simp [repD] at p
  | n + 1, .tup xs, _, _, p, h, r => by
    obtain ⟨a, vs, rfl, h1, _, rs⟩ := h
    cases r
    obtain ⟨its, rv, ⟨o, ho, hc, k, hd⟩, _⟩ := I.tuple (Same.seqT sub h1)
    obtain ⟨as, q1, q2⟩ := reps_reads hS I sub n xs vs its (by simpa [repD] using p) rs rv
    exact ⟨_, .tuple ho hc hd q1, q2⟩
  | 0, .dic ks xs, _, _, p, _, _ => by simp [repD] at p
  | n + 1, .dic ks xs, _, _, p, h, r => by
    obtain ⟨a, kvs, rfl, h1, _, rfl, rs⟩ := h
    cases r
    obtain ⟨_, hd, vs, kv, ⟨o, es, ep, ho, ex, hdat, _, pr, _⟩⟩ := dk_of I.hok (sub _ _ h1)
    obtain ⟨q1, q2⟩ := pairs_reads (h := s.heap) pr
    obtain ⟨bs, q3, q4⟩ := repk_reads hS I sub n xs kvs vs (by simpa [repD] using p) rs kv
    refine ⟨a :: [] ++ bs, .dict ho ex.1 hdat (by rw [q3.1]; exact q1) (by rw [q2]; exact q3.2), ?_⟩
    simp only [List.cons_append, List.nil_append, List.mem_cons, not_or]
    exact ⟨(fun z => by rw [← z] at hd; simp at hd), q4⟩
  | _, .ins _ _ _, _, _, p, _, _ => by simp [repD] at p
  | _, .any _, _, _, p, _, _ => by simp [repD] at p
  | _, .fz _, _, _, p, _, _ => by simp [repD] at p
  | _, .exc _ _ _, _, _, p, _, _ => by simp [repD] at p
theorem reps_reads (hS : H sysModules = none) (I : Inv X pins σ H s) (sub : Same F H) : ∀ (n : Nat) (ds : List D) (vs : List V) (us : List Value), repDs n ds = true → Reps X.K F ds vs → Vals vs us → ∃ as, ReadsAll s.heap us (pyRs ds) as ∧ sysModules ∉ as
  | _, [], _, _, _, h, r => by cases h; cases r; exact ⟨_, .nil, by simp⟩
  | n, d :: ds, _, _, p, ⟨v, vs, e, h, t⟩, r => by
    subst e
    rw [repDs, Bool.and_eq_true] at p
    cases r with
    | cons r1 r2 =>
      obtain ⟨as, q1, n1⟩ := rep_reads hS I sub n d v _ p.1 h r1
      obtain ⟨bs, q2, n2⟩ := reps_reads hS I sub n ds vs _ p.2 t r2
      exact ⟨_, .cons q1 q2, by simp only [List.mem_append, not_or]; exact ⟨n1, n2⟩⟩
theorem repk_reads (hS : H sysModules = none) (I : Inv X pins σ H s) (sub : Same F H) : ∀ (n : Nat) (ds : List D) (kvs : List (Key × V)) (vs : List (Key × Value)), repDs n ds = true → Reps X.K F ds (kvs.map (·.2)) → KV kvs vs →
    ∃ bs, ((pyRk (kvs.map (·.1)) ds).map (·.1) = vs.map (fun p => keyPy p.1) ∧ ReadsAll s.heap (vs.map (·.2)) ((pyRk (kvs.map (·.1)) ds).map (·.2)) bs) ∧ sysModules ∉ bs
  | _, [], [], _, _, _, k => by
    cases k
    exact ⟨[], ⟨rfl, .nil⟩, by simp⟩
  | _, [], _ :: _, _, _, h, _ => by cases h
  | _, _ :: _, [], _, _, ⟨_, _, e, _⟩, _ => by cases e
  | n, d :: ds, (k0, v0) :: kvs, _, p, ⟨v, r, e, h, t⟩, k => by
    rw [List.map_cons] at e
    injection e with e1 e2
    subst e1 e2
    rw [repDs, Bool.and_eq_true] at p
    cases k with
    | cons kr kt =>
      obtain ⟨as, q1, n1⟩ := rep_reads hS I sub n d _ _ p.1 h kr.2
      obtain ⟨bs, ⟨q2, q3⟩, n2⟩ := repk_reads hS I sub n ds kvs _ p.2 t kt
      refine ⟨as ++ bs, ⟨?_, ?_⟩, by simp only [List.mem_append, not_or]; exact ⟨n1, n2⟩⟩
      · simp only [List.map_cons, pyRk]
        rw [q2, show k0 = _ from kr.1]
      · simp only [List.map_cons, pyRk]
        exact .cons q1 q3
end
mutual
theorem depth_of : ∀ (n : Nat) (d : D), repD n d = true → (pyR d).depth ≤ n
  | _, .non, _ => Nat.zero_le _
  | _, .bl _, _ => Nat.zero_le _
  | _, .int _, _ => Nat.zero_le _
  | _, .str _, _ => by simp [pyR, PyData.depth]
  | 0, .lst xs, p => by simp [repD] at p
  | n + 1, .lst xs, p => by
    have := depths_of n xs (by simpa [repD] using p)
    simp only [pyR, PyData.depth]; omega
  | 0, .tup xs, p => by simp [repD] at p
  | n + 1, .tup xs, p => by
    have := depths_of n xs (by simpa [repD] using p)
    simp only [pyR, PyData.depth]; omega
  | 0, .dic ks xs, p => by simp [repD] at p
  | n + 1, .dic ks xs, p => by
    have := depthk_of n ks xs (by simpa [repD] using p)
    simp only [pyR, PyData.depth]; omega
  | _, .ins _ _ _, p => by simp [repD] at p
  | _, .any _, p => by simp [repD] at p
  | _, .fz _, p => by simp [repD] at p
  | _, .exc _ _ _, p => by simp [repD] at p
theorem depths_of : ∀ (n : Nat) (ds : List D), repDs n ds = true → PyData.depthAll (pyRs ds) ≤ n
  | _, [], _ => Nat.zero_le _
  | n, d :: ds, p => by
    rw [repDs, Bool.and_eq_true] at p
    have h1 := depth_of n d p.1
    have h2 := depths_of n ds p.2
    simp only [pyRs, PyData.depthAll]; omega
theorem depthk_of : ∀ (n : Nat) (ks : List Key) (ds : List D), repDs n ds = true → PyData.depthKv (pyRk ks ds) ≤ n
  | _, [], ds, _ => by cases ds <;> exact Nat.zero_le _
  | _, _ :: _, [], _ => Nat.zero_le _
  | n, k :: ks, d :: ds, p => by
    rw [repDs, Bool.and_eq_true] at p
    have h1 := depth_of n d p.1
    have h2 := depthk_of n ks ds p.2
    have h3 : (keyPy k).depth = 0 := by cases k <;> simp [keyPy, PyData.depth]
    simp only [pyRk, PyData.depthKv]; omega
end
/-- what a repr sees -/
def RpAt (X : Cx) (H : Hp) (x : V) (t : Str) : Prop := ∃ F d, Same F H ∧ Rep X.K F d x ∧ repOk d = true ∧ t = (pyR d).shown
def rRepr (X : Cx) : List V → Hp → VK → Prop := fun xs H Q => ∃ x t, xs = [x] ∧ RpAt X H x t ∧ Q (.str t) H
theorem sys_free (hk : ∃ o, X.base.get? sysModules = some o) (I : Inv X pins σ H s) : H sysModules = none := by
  obtain ⟨o, e⟩ := hk
  exact (I.bs _ o e).2
theorem call_reprD (hk : ∃ o, X.base.get? sysModules = some o) (hg : X.A.guards = some []) (hu : X.A.units + 65 < cLine) : CallR X (.builtin "repr") (rRepr X) := by
  intro pins s σ H xs us Q I r h
  obtain ⟨x, t, rfl, ⟨F, d, sub, rp, ok, rfl⟩, q⟩ := h
  obtain ⟨u, us', rfl, r1, r2⟩ : ∃ u us', us = u :: us' ∧ RelV x u ∧ Vals [] us' := by cases r with | cons a b => exact ⟨_, _, rfl, a, b⟩
  cases r2
  unfold repOk at ok
  rw [Bool.and_eq_true, Bool.and_eq_true, decide_eq_true_eq] at ok
  obtain ⟨o1, o2, o3⟩ := ok
  obtain ⟨as, rd, ns⟩ := rep_reads (sys_free hk I) I sub 60 d x u o1 rp r1
  have dp := depth_of 60 d o1
  have ref : ∀ a, u = .ref a → wpAny (model X.prog X.w) X.A (call (.builtin "repr") [u]) (EP X pins σ Q) X.xe s := fun a e => by
    subst e
    exact repr_of_reads' rd o2 (fun _ => ns) hg (by omega) (fun _ _ z => z) (fun h' w tk k => ⟨.str _, H, I.kept (t' := tk) k, ⟨w, rfl⟩, q⟩) o3
  cases d with
  | non => cases rp; cases r1; exact PySem.P.repr_of_none ⟨.str _, H, I.tok _, ⟨_, rfl⟩, q⟩
  | bl b => cases rp; cases r1; exact PySem.P.repr_of_bool ⟨.str _, H, I.tok _, ⟨_, by cases b <;> rfl⟩, q⟩
  | int i =>
    cases rp
    obtain ⟨tk, rfl⟩ := r1
    exact PySem.P.repr_of_int (of_decide_eq_true o2) ⟨.str _, H, I.tok _, ⟨_, rfl⟩, q⟩
  | str y =>
    obtain ⟨rfl, _⟩ := rp
    obtain ⟨tk, rfl⟩ := r1
    exact PySem.P.repr_of_str ⟨.str _, H, I.tok _, ⟨s.toks, by simp only [pyR, PyData.shown]⟩, q⟩ (by simpa only [pyR, PyData.shown] using o3)
  | lst xs => obtain ⟨a, _, rfl, _⟩ := rp; exact ref a r1
  | tup xs => obtain ⟨a, _, rfl, _⟩ := rp; exact ref a r1
  | dic ks xs => obtain ⟨a, _, rfl, _⟩ := rp; exact ref a r1
  | _ => simp [repD] at o1
def reprD (ds : List D) (Q : D → Prop) : Prop := ∃ d, ds = [d] ∧ repOk d = true ∧ Q (.any (.str (pyR d).shown))
theorem o_repr : OpN X.K (rRepr X) reprD := by
  intro F H ds vs Qd Q sub rs h hQ
  obtain ⟨d, rfl, ok, q⟩ := h
  obtain ⟨v, _, rfl, rv, rn⟩ := rs
  cases rn
  exact ⟨v, _, rfl, ⟨F, d, sub, rv, ok, rfl⟩, hQ _ _ F H q (Grow.refl sub) rfl⟩
/-- texts that repr has made, compared -/
def eqT (x y : D) (Q : Bool → Prop) : Prop := ∃ a b : Str, x = .any (.str a) ∧ y = .any (.str b) ∧ Q (decide (a = b))
theorem dec_strV (a b : Str) : decide (V.str a = V.str b) = decide (a = b) := by
  by_cases h : a = b
  · rw [h]; simp
  · rw [decide_eq_false h, decide_eq_false fun z => h (V.str.inj z)]
theorem o_eqT {K : PySem.W.Frag} : Cm2 K rEq eqT := by
  intro F H dx dy x y Qd Q sub rx ry h hQ
  obtain ⟨a, b, rfl, rfl, q⟩ := h
  cases rx
  cases ry
  exact ⟨rfl, by rw [dec_strV]; exact hQ _ F H q (Grow.refl sub)⟩
end
/-! ### a, b, c = x, y, z with plain local names -/
section
variable {X : Cx} {m : Mem} {E : Ent m} {pos : Pos}
end
end DL

set_option Elab.async false
set_option linter.all false
set_option maxRecDepth 100000
/-! DL11: str.strip, int and str of more, written dicts as data and as a def's own, list.extend -/
namespace DL
open PySem PySem.Spec PyProof.Rows L2 TL

/-! ### small ones -/
section
open PySem.Builtin PySem.Builtin.Str
end
section
variable {K : PySem.W.Frag}
def intBD (ds : List D) (Q : D → Prop) : Prop := ∃ k, ds = [.bl k] ∧ Q (.int (if k then 1 else 0))
theorem o_intB : OpN K (fun xs H Q => (∃ i, xs = [.int i] ∧ Q (.int i) H) ∨ ∃ k, xs = [.bl k] ∧ Q (.int (if k then 1 else 0)) H) intBD := by
  intro F H ds vs Qd Q sub rs h hQ
  obtain ⟨k, rfl, q⟩ := h
  obtain ⟨v, _, rfl, rfl, rn⟩ := rs
  cases rn
  exact .inr ⟨k, rfl, hQ _ _ F H q (Grow.refl sub) rfl⟩
end

/-! ### a hidden object becomes a slot's own -/
/-! ### a written dict with texts as keys -/
section
variable {X : Cx} {m : Mem} {E : Ent m} {pos : Pos}
theorem putK_new {κ : Type} [DecidableEq κ] {kvs : List (κ × V)} {k : κ} {v : V} (h : ∀ p ∈ kvs, p.1 ≠ k) : putK kvs k v = kvs ++ [(k, v)] := by
  unfold putK
  rw [if_neg]
  intro e
  rw [List.any_eq_true] at e
  obtain ⟨p, hp, q⟩ := e
  exact h p hp (of_decide_eq_true q)
end
/-! ### a dict read by key; a def's own dict -/
def dicGet : List Key → List D → Key → Option D
  | k :: ks, d :: ds, q => if k = q then some d else dicGet ks ds q
  | _, _, _ => none
theorem val_rep {K : PySem.W.Frag} {F : Hp} {q : Key} : ∀ {kvs : List (Key × V)} {ks : List Key} {ds : List D}, kvs.map (·.1) = ks → Reps K F ds (kvs.map (·.2)) → (∀ d, dicGet ks ds q = some d → ∃ v, valV kvs q = some v ∧ Rep K F d v) ∧ (valV kvs q).isSome = (dicGet ks ds q).isSome
  | [], _, ds, e, r => by
    subst e
    refine ⟨fun d h => ?_, ?_⟩
    · cases ds <;> cases h
    · cases ds <;> rfl
  | p :: kvs, _, ds, e, r => by
    subst e
    cases ds with
    | nil => cases r
    | cons d ds =>
      obtain ⟨v, _, e, rv, rs⟩ := r
      cases e
      have ih := val_rep (q := q) (kvs := kvs) rfl rs
      have eD : dicGet ((p :: kvs).map (·.1)) (d :: ds) q = if p.1 = q then some d else dicGet (kvs.map (·.1)) ds q := rfl
      rw [eD]
      by_cases c : p.1 = q
      · rw [valV_pos c, if_pos c]
        refine ⟨fun d' h => ?_, rfl⟩
        cases h
        exact ⟨_, rfl, rv⟩
      · have e1 : valV (p :: kvs) q = valV kvs q := by
          unfold valV
          rw [List.find?_cons, decide_eq_false c]
        rw [e1, if_neg c]
        exact ih
section
variable {X : Cx} {m : Mem} {E : Ent m} {pos : Pos} {e b : Expr} {te tb : DT m}
def dGet {m : Mem} (te tb : DT m) : DT m := fun ρ s Q => te ρ s fun x ρ1 s1 => tb ρ1 s1 fun y ρ2 s2 => ∃ ks ds z d, x = .dic ks ds ∧ y = .str z ∧ dicGet ks ds (.inr z) = some d ∧ Q d ρ2 s2
theorem de_get (hu : X.A.units + 1 < cLine) (he : PE X e (up X.K m te)) (hb : PE X b (up X.K m tb)) (hs : NoSl b := by exact fun _ _ => rfl) : PE X (.Subscript e b pos) (up X.K m (dGet te tb)) := PE.imp (pe_dget hu he hb hs) fun σ H Q h => by
  obtain ⟨F, ρ, s, Qd, r, ht, hQ⟩ := h
  refine up2 (R := fun x y H2 => ∃ a v, x = .ref a ∧ DGet H2 a y (some v) ∧ Q v H2) r ht fun dx dy x y F2 H2 ρ2 s2 ⟨ks, ds, z, d, ex, ey, eg, q⟩ r2 st rx ry => ?_
  subst ex
  subst ey
  obtain ⟨a, kvs, rfl, ha, _, hk, rs⟩ := rx
  obtain ⟨rfl, _⟩ := ry
  obtain ⟨v, ev, rv⟩ := (val_rep hk rs).1 d eg
  refine ⟨a, v, rfl, ?_, hQ d ρ2 s2 v F2 H2 q r2 st rv⟩
  rw [← ev]
  exact DGet.k (k := .inr z) (r2.sub _ _ ha)
def dGetO {m : Mem} (i : Nat) (tb : DT m) : DT m := fun ρ s Q => (∃ ks0 ds0, ρ[i]? = some (.ow (.dic ks0 ds0))) ∧ tb ρ s fun y ρ1 s1 => ∃ ks ds z d, y = .str z ∧ ρ1[i]? = some (.ow (.dic ks ds)) ∧ dicGet ks ds (.inr z) = some d ∧ Q d ρ1 s1
theorem de_getO (i : Nat) {x : Str} {xpos : Pos} (hu : X.A.units + 1 < cLine) (hb : PE X b (up X.K m tb)) (hN : X.N[i]? = some x := by rfl) (hv : Vis X.env.scope x := by first | exact Or.inl rfl | exact Or.inr (Or.inl rfl) | exact Or.inr (Or.inr rfl))
    (hd : (x == ("__debug__" : Str)) = false := by decide) (hcd : (x == ("__classdict__" : Str)) = false := by decide) (hs : NoSl b := by exact fun _ _ => rfl) : PE X (.Subscript (.Name x xpos) b pos) (up X.K m (dGetO i tb)) :=
  PE.imp (pe_dget hu (pv i hN hv hd hcd) hb hs) fun σ H Q h => by
    obtain ⟨F, ρ, s, Qd, r, ⟨⟨ks0, ds0, e0⟩, ht⟩, hQ⟩ := h
    obtain ⟨p, ho, h1, h2, ⟨kv0, rfl, hl0, _, rs0⟩, h4, h5⟩ := r.own_at e0
    refine ⟨_, h1, F, ρ, s, _, r, ht, fun y ρ1 s1 v F1 H1 ⟨ks, ds, z, d, ey, e1, eg, q1⟩ r1 st1 rv => ?_⟩
    subst ey
    obtain ⟨rfl, _⟩ := rv
    obtain ⟨p', ho, g1, g2, ⟨kvs, rfl, hl, hk, rs⟩, g4, g5⟩ := r1.own_at e1
    rw [h1] at g1; cases g1
    obtain ⟨w, ew, rw'⟩ := (val_rep hk rs).1 d eg
    refine ⟨p, w, rfl, ?_, hQ d ρ1 s1 w F1 H1 q1 r1 st1 rw'⟩
    rw [← ew]
    exact DGet.k (k := .inr z) g2
/-- e in x, e not in x, x the def's own dict -/
def dInO {m : Mem} (neg : Bool) (te : DT m) (i : Nat) : DTT m := fun ρ s Q => te ρ s fun y ρ1 s1 => ∃ ks ds z, y = .str z ∧ ρ1[i]? = some (.ow (.dic ks ds)) ∧ Q (neg ^^ (dicGet ks ds (.inr z)).isSome) ρ1 s1
theorem dt_notInO (i : Nat) {x : Str} {xpos : Pos} (hu : X.A.units + 1 < cLine) (he : PE X e (up X.K m te)) (hN : X.N[i]? = some x := by rfl) (hv : Vis X.env.scope x := by first | exact Or.inl rfl | exact Or.inr (Or.inl rfl) | exact Or.inr (Or.inr rfl))
    (hd : (x == ("__debug__" : Str)) = false := by decide) (hcd : (x == ("__classdict__" : Str)) = false := by decide) (hm : behindInMarks .NotIn (.Name x xpos) = false := by first | exact nobehind _ (by decide) (by decide) | rfl) : PT X (.Compare e [.NotIn] [.Name x xpos] pos) (upT X.K m (dInO true te i)) :=
  PT.imp (pt_cmp (pc_dnotin hu he (pv i hN hv hd hcd)) hm) fun σ H Q h => by
    obtain ⟨F, ρ, s, Qd, r, ht, hQ⟩ := h
    refine ⟨F, ρ, s, _, r, ht, fun y ρ1 s1 v F1 H1 ⟨ks, ds, z, ey, e1, q1⟩ r1 st1 rv => ?_⟩
    subst ey
    obtain ⟨rfl, _⟩ := rv
    obtain ⟨p, ho, g1, g2, ⟨kvs, rfl, hl, hk, rs⟩, g4, g5⟩ := r1.own_at e1
    refine ⟨_, g1, p, _, rfl, DGet.k (k := .inr z) g2, _, rfl, ?_⟩
    rw [(val_rep hk rs).2]
    rw [Bool.true_xor] at q1
    exact hQ _ ρ1 s1 F1 H1 q1 r1 st1
end
/-! ### x.extend(e), enumerate -/
section
variable {X : Cx} {m : Mem} {E : Ent m} {pos : Pos} {e : Expr} {te : DT m} {ta : DTA m} {p : Pos}
def dExt {m : Mem} (i : Nat) (te : DT m) : DTS m := fun dd ρ s => (∃ ds0, ρ[i]? = some (.ow (.lst ds0))) ∧ te ρ s fun d ρ1 s1 => ∃ ds es, d = .lst es ∧ ρ1[i]? = some (.ow (.lst ds)) ∧ ds.length + es.length ≤ sizeLine ∧ dd.nx (ρ1.set i (.ow (.lst (ds ++ es)))) s1
theorem ds_ext (i : Nat) {x : Str} {xpos apos cpos : Pos} (he : PE X e (up X.K m te)) (hN : X.N[i]? = some x := by rfl) (hv : Vis X.env.scope x := by first | exact Or.inl rfl | exact Or.inr (Or.inl rfl) | exact Or.inr (Or.inr rfl))
    (hd : (x == ("__debug__" : Str)) = false := by decide) (hcd : (x == ("__classdict__" : Str)) = false := by decide)
    (hbase : attributeBase (.Name x xpos) "extend" X.env (eval (.Name x xpos) X.env) = eval (.Name x xpos) X.env := by rfl)
    (hfew : ((backTo cpos (starEach [e] X.env)).all (fun x => !x.1) && (backToKw cpos (keywordEach [] X.env)).all (fun x => x.1.isSome)
      && decide ([e].length + ([] : List Keyword).length + (if ([] : List Keyword).isEmpty then 0 else 1) < 30)) = true := by rfl)
    (hline : (apos.endLine == cpos.line) = true := by rfl) (hs : starEach [e] X.env = [(false, eval e X.env)] := by rfl)
    (hsw : swapsWith (.Call (.Attribute (.Name x xpos) "extend" apos) [e] [] cpos) none pos.line X.env = pure false := by rfl) :
    PS X (.Expr (.Call (.Attribute (.Name x xpos) "extend" apos) [e] [] cpos) pos) (upS X.K m E (dExt i te)) :=
  PS.imp (ps_expr (pe_bm PySem.F.plainAttrs_list PySem.F.slot_list_extend PySem.F.type_list_extend mt_extend (pv i hN hv hd hcd) (pa_cons he pa_nil (by rw [hs]; rfl)) hbase hfew hline (by rw [hs]; rfl) rfl) hsw) fun DD σ H h => by
  obtain ⟨F, ρ, s, dd, r, o, ⟨⟨ds0, e0⟩, ht⟩, f⟩ := h
  obtain ⟨p, ho, h1, h2, ⟨vs0, rfl, hl0, rs0⟩, h4, h5⟩ := r.own_at e0
  refine ⟨_, h1, .inl ⟨rfl, vs0, .inl (.inl h2)⟩, F, ρ, s, _, r, ht, fun d ρ1 s1 v F1 H1 ⟨ds, es, ed, e1, hz, q1⟩ r1 st1 rv => ?_⟩
  subst ed
  obtain ⟨b, ws, rfl, hb, _, rw'⟩ := rv
  obtain ⟨p', ho, g1, g2, ⟨vs, rfl, hl, rs⟩, g4, g5⟩ := r1.own_at e1
  rw [h1] at g1; cases g1
  have hlen := rs.length
  have hlen' := rw'.length
  refine ⟨p, b, vs, ws, rfl, rfl, g2, r1.sub _ _ hb, by omega, ?_⟩
  exact f.nx F1 _ σ _ s1 st1.ext (r1.write (o' := .lst (ds ++ es)) e1 h1 ⟨vs ++ ws, rfl, by rw [List.length_append]; omega, rs.append rw'⟩) ((o.stp st1).write (K := X.K) e1 h1) q1
def enumD (xs : List D) : List D := xs.mapIdx fun i x => .tup [.int (i : Nat), x]
theorem enum_get {xs : List D} {i : Nat} {d : D} (h : (enumD xs)[i]? = some d) : ∃ x, xs[i]? = some x ∧ d = .tup [.int (i : Nat), x] := by
  unfold enumD at h
  rw [List.getElem?_mapIdx] at h
  cases hx : xs[i]? with
  | none => rw [hx] at h; cases h
  | some x => rw [hx] at h; exact ⟨x, rfl, (Option.some.inj h).symm⟩
theorem walks_enumL {K : PySem.W.Frag} {F : Hp} {a : Addr} {ds : List D} {vs : List V} (h1 : SqL K F a vs) (r1 : Reps K F ds vs) : Walks K F (Ite K a) (enumD ds) := fun F' H' s1 s2 => by
  have q1 : SqL K H' a vs := Same.seq s2 (Same.seq s1 h1)
  refine ⟨fun i hi => ⟨vs, q1, by rw [r1.length]; unfold enumD at hi; rw [List.length_mapIdx] at hi; exact hi⟩, fun i d e => ?_⟩
  obtain ⟨x, ex, rfl⟩ := enum_get e
  obtain ⟨v, ev, rv⟩ := r1.get ex
  refine ⟨⟨vs, v, q1, ev⟩, fun z H2 yl => ?_⟩
  obtain ⟨T, v', rfl, nT, rfl, g1⟩ := yl
  have e1 := g1 vs q1
  rw [ev] at e1
  cases e1
  have g : Grow F' H' (upd F' T (.tup [.int (i : Nat), v])) (upd H' T (.tup [.int (i : Nat), v])) := Grow.new s2 nT
  exact ⟨_, g, rep_pair upd_same rfl (Rep.mono (s1.trans g.fF) _ _ rv)⟩
end
end DL

set_option Elab.async false
set_option linter.all false
set_option maxRecDepth 100000
/-! DL12: a comprehension with two fors -/
namespace DL
open PySem PySem.Spec PyProof.Rows L2 TL
section
variable {X : Cx} {m : Mem}
end
end DL

set_option Elab.async false
set_option linter.all false
set_option maxRecDepth 100000
/-! DL13: the program's written dicts: texts to tuples -/
namespace DL
open PySem PySem.Spec PyProof.Rows L2 TL
section
variable {X : Cx} {K : PySem.W.Frag} {w : World} {p : Addr} {t : List (Str × D)}
end
/-! ### from the object to its table -/
end DL

set_option Elab.async false
set_option linter.all false
set_option maxRecDepth 100000
/-! DL14: any data in a tuple of texts -/
namespace DL
open PySem PySem.Spec PyProof.Rows L2 TL
theorem str_eq_declines_dict (b : Str) (u : Tok) (l : Addr) (es : Array DictEntry) (ep : Nat) (dd : Option Addr) (sl : Array (Option Value)) :
    Meets (Builtin.«str.__eq__» ⟨[.str b u, .ref l], []⟩) (fun _ R s => s.heap.get? l = some { cls := .type "dict", dict := dd, data := .dict es ep, slots := sl } ∧ R (.ok (.ret .notImplemented)) s) :=
  .of_wp fun prog w A R s h => by obtain ⟨hp, g, d, tk, os⟩ := s; obtain ⟨hl, h⟩ := h; have f1 := PySem.F.sub_dict_str; wp_walk using wpAny_loadPart' hl, wpAny_load hl; exact ⟨_, rfl, h⟩
theorem dict_eq_declines_str (l : Addr) (es : Array DictEntry) (ep : Nat) (dd : Option Addr) (sl : Array (Option Value)) (b : Str) (u : Tok) :
    Meets (Builtin.«dict.__eq__» ⟨[.ref l, .str b u], []⟩) (fun _ R s => s.heap.get? l = some { cls := .type "dict", dict := dd, data := .dict es ep, slots := sl } ∧ R (.ok (.ret .notImplemented)) s) :=
  .of_wp fun prog w A R s h => by obtain ⟨hp, g, d, tk, os⟩ := s; obtain ⟨hl, h⟩ := h; have f1 := PySem.F.sub_str_dict; wp_walk using wpAny_loadPart' hl, wpAny_load hl; exact ⟨_, rfl, h⟩
section
variable {A : Around} {s : Shared}
theorem rc_str_dict {l : Addr} {es : Array DictEntry} {ep : Nat} {dd : Option Addr} {sl : Array (Option Value)} (b : Str) (u : Tok) (ho : s.heap.get? l = some { cls := .type "dict", dict := dd, data := .dict es ep, slots := sl }) (hu : A.units < cLine) : SeqAt.RcAt A s (.str b u) (.ref l) false := fun prog w E Q h =>
  SeqAt.rc_eq_decline_or (k := false) (typeIs_str s b u) ⟨_, ho, rfl⟩ (by decide) PySem.F.sub_dict_str PySem.F.slot_str_eq PySem.F.slot_dict_eq_refl
    (fun _ hq => call_meets PySem.F.slot_str_eq (typeIs_str s b u) PySem.F.entry_str_eq (PySem.F.args_str_eq_2 _ _) (str_eq_declines_dict b u l es ep dd sl) ⟨ho, hq⟩)
    (fun _ hq => call_meets PySem.F.slot_dict_eq_refl ⟨_, ho, rfl⟩ PySem.F.entry_dict_eq (PySem.F.args_dict_eq_2 _ _) (dict_eq_declines_str l es ep dd sl b u) ⟨ho, hq⟩)
    (fun _ hq => wpAny_of_eq (rfl : isSame (.str b u) (.ref l) = pure false) hq) (.inr hu) h
theorem eq_str_dict {l : Addr} {es : Array DictEntry} {ep : Nat} {dd : Option Addr} {sl : Array (Option Value)} (b : Str) (u : Tok) (ho : s.heap.get? l = some { cls := .type "dict", dict := dd, data := .dict es ep, slots := sl }) (hu : A.units < cLine) : SeqAt.EqAt A s (.str b u) (.ref l) false := fun prog w E Q h => by
  unfold eqBool
  refine wpAny_holding ?_
  refine wpAny_ite_split (fun hab => absurd (eq_of_beq hab) nofun) (fun _ => ?_)
  exact wpAny_bind (rc_str_dict b u ho hu prog w E _ (wpAny_truthy_bool h))
end
/-- is the data one of the texts -/
def inTx : D → List Str → Bool
  | .str z, ys => ys.any fun y => decide (y = z)
  | _, _ => false
def eTx (d : D) : Value → Bool
  | .str a _ => (match d with | .str z => decide (a = z) | _ => false)
  | _ => false
theorem eTx_any {d : D} : ∀ {ys : List Str} {its : List Value}, Vals (ys.map V.str) its → its.any (eTx d) = inTx d ys
  | [], _, r => by
    cases r
    cases d <;> rfl
  | y :: ys, _, r => by
    rw [List.map_cons] at r
    cases r with
    | cons h t =>
      obtain ⟨tk, rfl⟩ := h
      rw [List.any_cons, eTx_any t]
      cases d <;> first | rfl | (show (false || _) = _; rw [Bool.false_or]; rfl)
section
variable {X : Cx}
def rInTx (K : PySem.W.Frag) : R2 := fun x y H Q => ∃ F dx p ys, Same F H ∧ Rep K F dx x ∧ (tyT dx).isSome = true ∧ y = .ref p ∧ SqT K H p (ys.map V.str) ∧ Q (.bl (inTx dx ys)) H
theorem eTx_at {pins : List (Addr × Obj)} {σ : L2.St} {F H : Hp} {s : Shared} {dx : D} {x : V} {v : Value} (hu : X.A.units + 1 < cLine) (I : Inv X pins σ H s) (sub : Same F H) (rx : Rep X.K F dx x) (rv : RelV x v) (ht : (tyT dx).isSome = true) (a : Str) (tk : Tok) :
    SeqAt.EqAt X.A.in1 s (.str a tk) v (eTx dx (.str a tk)) := by
  have hu1 : X.A.in1.units < cLine := hu
  cases dx with
  | non => cases rx; cases rv; exact SeqAt.EqAt.str_none a tk
  | bl b => cases rx; cases rv; exact SeqAt.EqAt.str_bool a tk b
  | int i => cases rx; obtain ⟨t, rfl⟩ := rv; exact SeqAt.EqAt.str_int a tk i t
  | str z =>
    obtain ⟨rfl, _⟩ := rx
    obtain ⟨t, rfl⟩ := rv
    have := SeqAt.EqAt.str_str (A := X.A.in1) (s := s) a tk z t
    have e : (a == z) = decide (a = z) := by
      by_cases h : a = z
      · rw [h, decide_eq_true rfl]; exact beq_self_eq_true z
      · rw [decide_eq_false h]; exact beq_eq_false_iff_ne.mpr h
    rw [e] at this
    exact this
  | lst ds =>
    obtain ⟨l, vs, rfl, hl, _, _⟩ := rx
    cases rv
    obtain ⟨its, _, p, _⟩ := I.list (.inl (.inl (sub _ _ hl)))
    exact SeqAt.EqAt.str_list a tk p.isList hu1
  | tup ds =>
    obtain ⟨l, vs, rfl, hl, _, _⟩ := rx
    cases rv
    obtain ⟨its, _, ⟨o, h1, h2, h3⟩, _⟩ := I.tuple (Same.seqT sub hl)
    exact SeqAt.EqAt.str_tuple a tk ⟨o, h1, h2, h3⟩ hu1
  | dic ks ds =>
    obtain ⟨l, kvs, rfl, hl, _, _, _⟩ := rx
    cases rv
    obtain ⟨_, _, vs0, _, ⟨o, es, ep, h1, h2, h3, _⟩⟩ := dk_of I.hok (sub _ _ hl)
    obtain ⟨cls, dd, data, sl⟩ := o
    have hc : cls = Value.type "dict" := h2.1
    have hd : data = .dict es ep := h3
    subst hc hd
    exact eq_str_dict a tk h1 hu1
  | _ => cases ht
theorem op_inTx (hu : X.A.units + 1 < cLine) : OpR X (compareOp .In) (rInTx X.K) := by
  intro pins s σ H x y v u Q I rx ry h
  obtain ⟨F, dx, p, ys, sub, rd, ht, rfl, hT, q⟩ := h
  cases ry
  obtain ⟨its, rvs, ⟨o, h1, h2, n, h3⟩, _⟩ := I.tuple hT
  refine SeqAt.in_tupleAt (eTx dx) ⟨o, h1, h2, n, h3⟩ (fun z hz => ?_) ?_
  · obtain ⟨y, a, e1, e2, r⟩ : ∃ (y : Str) (a : Tok), z = .str y a ∧ True ∧ True := by
      have hz' : z ∈ its := by simpa using hz
      obtain ⟨i, hi⟩ := List.getElem?_of_mem hz'
      have hl := rvs.length
      have hi' : i < ys.length := by
        have := (List.getElem?_eq_some_iff.mp hi).1
        rw [List.length_map] at hl
        omega
      obtain ⟨w, g1, g2⟩ := rvs.get (i := i) (x := .str ys[i]) (by rw [List.getElem?_map, List.getElem?_eq_getElem hi']; rfl)
      rw [hi] at g1
      cases g1
      obtain ⟨t, rfl⟩ := g2
      exact ⟨_, t, rfl, True.intro, True.intro⟩
    subst e1
    exact eTx_at hu I sub rd rx ht y a
  · have e : its.toArray.any (eTx dx) = inTx dx ys := by
      rw [← eTx_any rvs]
      simp
    rw [e]
    exact ⟨.bl _, H, I, rfl, q⟩
def inTxD : D → D → (Bool → Prop) → Prop := fun x y Q => ∃ ys : List Str, (tyT x).isSome = true ∧ y = .tup (ys.map .str) ∧ Q (inTx x ys)
theorem o_inTx {K : PySem.W.Frag} : Cm2 K (rInTx K) inTxD := by
  intro F H dx dy x y Qd Q sub rx ry h hQ
  obtain ⟨ys, ht, rfl, q⟩ := h
  obtain ⟨p, vs, rfl, hT, _, rs⟩ := ry
  obtain ⟨ev, _⟩ := reps_strs rs
  subst ev
  exact ⟨F, dx, p, ys, sub, rx, ht, rfl, Same.seqT sub hT, hQ _ F H q (Grow.refl sub)⟩
end
end DL

set_option Elab.async false
set_option linter.all false
set_option maxRecDepth 100000
/-! DL15: enumerate over a tuple -/
namespace DL
open PySem PySem.Spec PyProof.Rows L2 TL
open AutoSeq1 (wpAny_loadPart')
theorem meets_enumerate_newT (l : Addr) (items : Array Value) (n : Nat) (dct : Option Addr) (sl : Array (Option Value)) :
    Meets (Builtin.«enumerate.__new__» ⟨[.type "enumerate", .ref l], []⟩) (fun _ R s => s.heap.get? l = some { cls := .type "tuple", dict := dct, data := .seq items n, slots := sl } ∧
      R (.ok (.ret (.ref (s.heap.push { cls := .type "tuple_iterator", data := .fields #[.ref l, .int 0 0] }).objs.size)))
        { s with heap := (s.heap.push { cls := .type "tuple_iterator", data := .fields #[.ref l, .int 0 0] }).push { cls := .type "enumerate", data := .fields #[.none, .bool false, .ref s.heap.objs.size, rawInt 0, .none, .none] } }) :=
  .of_wp fun prog w A R s h => by
    obtain ⟨hp, g, d, tk, os⟩ := s; obtain ⟨hl, h⟩ := h
    have hsub := sub_enumerate
    have hL : Heap.IsTuple (Shared.heap ⟨hp, g, d, tk, os⟩) l items := ⟨_, hl, rfl, n, rfl⟩
    wp_walk using wpAny_loadPart' hl
    refine wpAny_stack_any fun st => wpAny_pure ?_
    split
    · rename_i c _ _ _ _ _
      cases (c == Value.type "enumerate")
      · wp_walk using wpAny_loadPart' hl, wpAny_pyIter_tuple hL
        exact ⟨_, rfl, h⟩
      · wp_walk using wpAny_loadPart' hl, wpAny_pyIter_tuple hL
        exact ⟨_, rfl, h⟩
    · wp_walk using wpAny_loadPart' hl, wpAny_pyIter_tuple hL
      exact ⟨_, rfl, h⟩
section
variable {prog : Program} {w : World} {A : Around} {E : Value → Shared → Prop} {s : Shared}
theorem call_enumerate_tuple {l : Addr} {items : Array Value} {Q : Value → Shared → Prop} (hL : s.heap.IsTuple l items)
    (h : ∀ h', IsEnum h' (s.heap.objs.size + 1) s.heap.objs.size 0 .none → h'.IsTupleIter s.heap.objs.size l 0 → h'.objs.size = s.heap.objs.size + 2 →
      (∀ b o, s.heap.get? b = some o → h'.get? b = some o) → Q (.ref (s.heap.objs.size + 1)) { s with heap := h' }) :
    wpAny (model prog w) A (call (.type "enumerate") [.ref l]) Q E s := by
  obtain ⟨⟨c, dct, dt, sl⟩, hl, hc, n, hd⟩ := hL
  replace hc : c = .type "tuple" := hc
  replace hd : dt = .seq items n := hd
  subst hc hd
  refine callType_new F.called_enumerate (by decide) (F.typeCall_enumerate_1 _) (F.newCall_enumerate_1 _) (fun obj => F.args_object_init_2 obj _) F.entry_enumerate_new
    (meets_enumerate_newT l items n dct sl) ⟨hl, ?_⟩
  have hz : (s.heap.push { cls := .type "tuple_iterator", data := .fields #[.ref l, .int 0 0] }).objs.size = s.heap.objs.size + 1 := Heap.size_push ..
  show _ ∧ _
  rw [hz]
  have he : IsEnum ((s.heap.push { cls := .type "tuple_iterator", data := .fields #[.ref l, .int 0 0] }).push
      { cls := .type "enumerate", data := .fields #[.none, .bool false, .ref s.heap.objs.size, rawInt 0, .none, .none] }) (s.heap.objs.size + 1) s.heap.objs.size 0 .none := by
    have := Heap.get?_push_size (s.heap.push { cls := .type "tuple_iterator", data := .fields #[.ref l, .int 0 0] })
      (o := { cls := .type "enumerate", data := .fields #[.none, .bool false, .ref s.heap.objs.size, rawInt 0, .none, .none] }) rfl
    rw [hz] at this; exact this
  refine ⟨⟨_, he, rfl⟩, h _ he ⟨_, Heap.get?_push_of_some _ (Heap.get?_push_size _ rfl), rfl, rfl⟩ (by rw [Heap.size_push, hz]) fun b o x => Heap.get?_push_of_some _ (Heap.get?_push_of_some _ x)⟩
theorem next_enumT_end {e it l : Addr} {i : Nat} {items : Array Value} {old : Value} {Q : Option Value → Shared → Prop} (hh : A.handled = none)
    (he : IsEnum s.heap e it i old) (hit : s.heap.IsTupleIter it l i) (hl : s.heap.IsTuple l items) (hx : items[i]? = none)
    (hQ : ∀ h', Heap.ExtBut it s.heap h' → Q none { s with heap := h' }) : wpAny (model prog w) A (pyNext (.ref e)) Q E s := by
  have hT : s.TypeIs (.ref e) "enumerate" := ⟨_, he, rfl⟩
  unfold pyNext
  refine wpAny_bind (wpAny_attempt (wpAny_callSpecial?_slot (name := Str.ofString "__next__") hT F.slot_enumerate_next
    (wpAny_call_entry F.slot_enumerate_next hT F.entry_enumerate_next ?_ (F.args_enumerate_next_1 _))))
  show wpAny _ _ (field (.ref e) 2 >>= _) _ _ _
  refine wpAny_bind (wpAny_field he rfl (x := .ref it) rfl ?_)
  refine wpAny_bind (wpAny_nextOf_tuple_end hh hit hl hx fun h' x he' hx' => ?_)
  obtain ⟨o, ho, hc⟩ := hx'
  refine wpAny_bind (wpAny_isInstance (T := "StopIteration") (b := true) ⟨o, ho, hc⟩ isSubtype_stop ?_)
  exact wpAny_pure (hQ _ he')
end
/-- the tuple at a, each item in a new pair -/
def IteT (K : PySem.W.Frag) (a : Addr) : It :=
  ⟨fun i H => ∃ (xs : List V) (x : V), SqT K H a xs ∧ xs[i]? = some x, fun i H v H' => ∃ T x, v = .ref T ∧ H T = none ∧ H' = upd H T (.tup [.int (i : Nat), x]) ∧ ∀ xs, SqT K H a xs → xs[i]? = some x, fun i H => ∃ xs : List V, SqT K H a xs ∧ xs.length ≤ i⟩
theorem turn_enumT {P : Program} {w : World} {K : PySem.W.Frag} {elts : List Expr} {kk : Nat} {tpos : Pos} (a e it : Addr) :
    Turn P w K (.Tuple elts kk tpos) (IteT K a) [e, it] e (fun i h => (∃ old, IsEnum h e it ((i : Nat) : Int) old) ∧ h.IsTupleIter it a i ∧ e ≠ it) where
  mem := by simp
  obj := fun i h st b hb => by
    obtain ⟨⟨old, he⟩, ⟨o, ho, hc, hd⟩, _⟩ := st
    have e' : b = e ∨ b = it := by simpa using hb
    rcases e' with z | z
    · rw [z]; exact ⟨_, he, fun v q => nomatch q⟩
    · rw [z]; exact ⟨o, ho, fun v q => by rw [hd] at q; cases q⟩
  keep := fun i h h' st k => let ⟨⟨old, he⟩, hi, hne⟩ := st; ⟨⟨old, k e (by simp) _ he⟩, hi.at fun o q => k it (by simp) o q, hne⟩
  item := by
    intro X hP hw hK hc i pins s σ H E I hf st hg
    subst hP hw hK
    obtain ⟨⟨old, he⟩, hit, hne⟩ := st
    obtain ⟨xs, x, hq, hx⟩ := hg
    obtain ⟨its, rv, ⟨o, g1, g2, n, g3⟩, hz⟩ := I.tuple hq
    have p : s.heap.IsTuple a its.toArray := ⟨o, g1, g2, n, g3⟩
    obtain ⟨u, hu, ru⟩ := rv.get hx
    have hel : e < s.heap.objs.size := Heap.lt_size he
    have hil : it < s.heap.objs.size := by obtain ⟨_, q, _⟩ := hit; exact Heap.lt_size q
    have hai : a ≠ it := fun z => by
      obtain ⟨o', q1, q2, _⟩ := hit
      rw [← z, g1] at q1
      cases q1
      rw [g2] at q2
      exact absurd (Value.type.inj q2) (by decide)
    have hae : e ≠ a := fun z => by
      have he' : s.heap.get? e = some _ := he
      rw [z, g1] at he'
      have := Option.some.inj he'
      rw [this] at g2
      exact absurd (Value.type.inj g2) (by decide)
    have hlt : i < its.toArray.size := by
      have := (List.getElem?_eq_some_iff.mp hu).1
      simpa using this
    refine wpAny_pyNext_enum_itemD (Draws.tuple (A := X.A.in1) (I.ok.hd hc) it a hai its.toArray) he ⟨hit, p⟩ hlt hne (by simp [hne, hae]) fun u' h' tk hP ho hit' hT hsz hk => ?_
    have eu : u' = u := by
      have hP' : its.toArray[i]? = some u' := hP
      have : its[i]? = some u' := by simpa using hP'
      rw [hu] at this
      exact (Option.some.inj this).symm
    subst eu
    refine ⟨_, rfl, wpAny_letOwnedTupleGo_enum (s := { s with heap := h', toks := tk + 1 }) ho fun h'' he' sb => ?_⟩
    have hT2 : h''.get? s.heap.objs.size = some { cls := .type "tuple", data := .seq #[.int i tk, u'] } := (sb.2 _ (Nat.ne_of_gt hel)).trans hT
    have new : ObjOk X.prog X.w (upd H s.heap.objs.size (.tup [.int (i : Nat), x])) h'' s.heap.objs.size (.tup [.int (i : Nat), x]) :=
      ⟨by show 2 ≤ sizeLine; decide, [.int i tk, u'], .cons ⟨_, rfl⟩ (.cons ru .nil), ⟨_, hT2, rfl, _, rfl⟩⟩
    have I1 : Inv X pins σ (upd H s.heap.objs.size (.tup [.int (i : Nat), x])) { s with heap := h'', toks := tk + 1 } :=
      I.turnedNew (ch := [e, it]) (fun b ob hb q => (sb.2 b (fun z => hb (by simp [z]))).trans (hk b ob (fun z => hb (by simp [z])) (fun z => hb (by simp [z])) q)) hf (Nat.le_refl _) new
    refine ⟨.ref s.heap.objs.size, _, I1, rfl, ⟨_, x, rfl, I.hok.fresh (Nat.le_refl _), rfl, fun ys hy => by rw [I.tuple_inj hy hq]; exact hx⟩, ⟨⟨u', ?_⟩, hit'.1.at fun o q => (sb.2 it (Ne.symm hne)).trans q, hne⟩, fun b hb => ?_⟩
    · have e1 : ((i + 1 : Nat) : Int) = (i : Int) + 1 := by omega
      rw [e1]; exact he'
    · have hb' : b < s.heap.objs.size := by
        have e' : b = e ∨ b = it := by simpa using hb
        rcases e' with z | z
        · rw [z]; exact hel
        · rw [z]; exact hil
      rw [upd_ne (Nat.ne_of_lt hb')]
      exact (hf b hb).1
  done := by
    intro X hP hw hK hc i pins s σ H E I hf st hg
    subst hP hw hK
    obtain ⟨⟨old, he⟩, hit, hne⟩ := st
    obtain ⟨xs, hq, hx⟩ := hg
    obtain ⟨its, rv, ⟨o, g1, g2, n, g3⟩, hz⟩ := I.tuple hq
    obtain ⟨f0, f1, f2, f3, f4, f5⟩ := hf it (by simp)
    have hl := rv.length
    exact next_enumT_end (I.ok.hd hc) he hit ⟨o, g1, g2, n, g3⟩ (by simp; omega) fun h' eb => ⟨rfl, I.turned (t' := s.toks) (fun b o hb q => eb b o hb q) f0 f1 f3 f4 f5⟩
  self := fun A i s Q E st h => let ⟨⟨_, he⟩, _⟩ := st; wpAny_pyIter_enum he h
def iEnumT (K : PySem.W.Frag) (ta : TA) : TI := fun σ H R => ta σ H fun vs H1 => ∃ a xs, vs = [.ref a] ∧ ((SqL K H1 a xs ∧ R (Ite K a) H1) ∨ (SqT K H1 a xs ∧ R (IteT K a) H1))
theorem pi_enumA {X : Cx} {e : Expr} {ta : TA} {p pos tpos : Pos} {elts : List Expr} {kk : Nat} (hg : Gl X "enumerate") (hm : X.mg "enumerate" = none) (ha : PA X [e] ta) (hs : starEach [e] X.env = [(false, eval e X.env)] := by rfl) :
    PI X (.Tuple elts kk tpos) (.Call (.Name "enumerate" p) [e] [] pos) (iEnumT X.K ta) := by
  refine ⟨fun pins s σ H R I h => ?_⟩
  refine Call_ (ld_blt I hg hm boot_enumerate (PyProof.Rows.callWith_type1 (thn (ha.run pos pins s σ H _ I h) fun us s1 ⟨vs, H1, I1, r1, q1⟩ => ?_) hs rfl))
  obtain ⟨a, xs, ex, q⟩ := q1
  subst ex
  cases r1 with
  | cons r rr =>
    cases rr
    cases r
    rcases q with ⟨hq, q⟩ | ⟨hq, q⟩
    · obtain ⟨its, rv, p', hz⟩ := I1.list hq
      refine call_enumerate_list p'.isList fun h' he hit hsz hk => wpAny_pyIter_enum he ?_
      have I2 : Inv X pins σ H1 { s1 with heap := h' } := I1.kept (t' := s1.toks) hk
      refine ⟨s1.heap.objs.size + 1, [s1.heap.objs.size + 1, s1.heap.objs.size], _, _, H1, rfl, I2, turn_enum a (s1.heap.objs.size + 1) s1.heap.objs.size, ⟨⟨.none, he⟩, hit, Nat.succ_ne_self _⟩, fun b hb => ?_, q⟩
      have e' : b = s1.heap.objs.size + 1 ∨ b = s1.heap.objs.size := by simpa using hb
      have hle : s1.heap.objs.size ≤ b := by
        rcases e' with z | z
        · rw [z]; exact Nat.le_add_right _ _
        · rw [z]; exact Nat.le_refl _
      exact I1.fpOk hle (I1.hok.fresh hle)
    · obtain ⟨its, rv, ⟨o, g1, g2, n, g3⟩, hz⟩ := I1.tuple hq
      refine call_enumerate_tuple (items := its.toArray) ⟨o, g1, g2, n, g3⟩ fun h' he hit hsz hk => wpAny_pyIter_enum he ?_
      have I2 : Inv X pins σ H1 { s1 with heap := h' } := I1.kept (t' := s1.toks) hk
      refine ⟨s1.heap.objs.size + 1, [s1.heap.objs.size + 1, s1.heap.objs.size], _, _, H1, rfl, I2, turn_enumT a (s1.heap.objs.size + 1) s1.heap.objs.size, ⟨⟨.none, he⟩, hit, Nat.succ_ne_self _⟩, fun b hb => ?_, q⟩
      have e' : b = s1.heap.objs.size + 1 ∨ b = s1.heap.objs.size := by simpa using hb
      have hle : s1.heap.objs.size ≤ b := by
        rcases e' with z | z
        · rw [z]; exact Nat.le_add_right _ _
        · rw [z]; exact Nat.le_refl _
      exact I1.fpOk hle (I1.hok.fresh hle)
section
variable {X : Cx} {m : Mem} {pos p : Pos} {ta : DTA m}
theorem walks_enumT {K : PySem.W.Frag} {F : Hp} {a : Addr} {ds : List D} {vs : List V} (h1 : SqT K F a vs) (r1 : Reps K F ds vs) : Walks K F (IteT K a) (enumD ds) := fun F' H' s1 s2 => by
  have q1 : SqT K H' a vs := Same.seqT s2 (Same.seqT s1 h1)
  refine ⟨fun i hi => ⟨vs, q1, by rw [r1.length]; unfold enumD at hi; rw [List.length_mapIdx] at hi; exact hi⟩, fun i d e => ?_⟩
  obtain ⟨x, ex, rfl⟩ := enum_get e
  obtain ⟨v, ev, rv⟩ := r1.get ex
  refine ⟨⟨vs, v, q1, ev⟩, fun z H2 yl => ?_⟩
  obtain ⟨T, v', rfl, nT, rfl, g1⟩ := yl
  have e1 := g1 vs q1
  rw [ev] at e1
  cases e1
  have g : Grow F' H' (upd F' T (.tup [.int (i : Nat), v])) (upd H' T (.tup [.int (i : Nat), v])) := Grow.new s2 nT
  exact ⟨_, g, rep_pair upd_same rfl (Rep.mono (s1.trans g.fF) _ _ rv)⟩
def dEnumA {m : Mem} (ta : DTA m) : DTI m := fun ρ s Q => ta ρ s fun ds ρ1 s1 => ∃ d xs, ds = [d] ∧ (d = .lst xs ∨ d = .tup xs) ∧ Q (enumD xs) ρ1 s1
theorem di_enumA {a : Expr} {elts : List Expr} {kk : Nat} {tpos : Pos} (hg : Gl X "enumerate") (hm : X.mg "enumerate" = none) (ha : PA X [a] (upA X.K m ta)) (hs : starEach [a] X.env = [(false, eval a X.env)] := by rfl) :
    PI X (.Tuple elts kk tpos) (.Call (.Name "enumerate" p) [a] [] pos) (upI X.K m (dEnumA ta)) := PI.imp (pi_enumA hg hm ha hs) fun σ H R h => by
  obtain ⟨F, ρ, s, Qd, r, ht, hQ⟩ := h
  refine ⟨F, ρ, s, _, r, ht, fun ds ρ1 s1 vs F1 H1 ⟨d, xs, ed, ek, q1⟩ r1 st1 rs => ?_⟩
  subst ed
  rcases ek with rfl | rfl
  · obtain ⟨v, _, rfl, ⟨a, vs, rfl, h1, _, k1⟩, rn⟩ := rs
    cases rn
    exact ⟨a, vs, rfl, .inl ⟨.inl (.inl (r1.sub _ _ h1)), hQ _ ρ1 s1 _ F1 H1 q1 r1 st1 (walks_enumL (.inl (.inl h1)) k1)⟩⟩
  · obtain ⟨v, _, rfl, ⟨a, vs, rfl, h1, _, k1⟩, rn⟩ := rs
    cases rn
    exact ⟨a, vs, rfl, .inr ⟨Same.seqT r1.sub h1, hQ _ ρ1 s1 _ F1 H1 q1 r1 st1 (walks_enumT h1 k1)⟩⟩
end
end DL

set_option Elab.async false
set_option linter.all false
set_option maxRecDepth 100000
/-! DL16: a list of any data against [] -/
namespace DL
open PySem PySem.Spec PyProof.Rows L2 TL
section
variable {X : Cx}
def rEqE (K : PySem.W.Frag) (neg : Bool) : R2 := fun x y H Q => ∃ a b xs, x = .ref a ∧ y = .ref b ∧ SqL K H a xs ∧ SqL K H b [] ∧ Q (.bl (neg ^^ xs.isEmpty)) H
theorem op_eqE (hu : X.A.units + 1 < cLine) : OpR X (compareOp .Eq) (rEqE X.K false) := by
  intro pins s σ H x y v u Q I rx ry h
  obtain ⟨a, b, xs, rfl, rfl, ha, hb, q⟩ := h
  cases rx
  cases ry
  obtain ⟨its, rv, p, _⟩ := I.list ha
  obtain ⟨its2, rv2, p2, _⟩ := I.list hb
  cases rv2
  have hl := rv.length
  rw [Bool.false_xor] at q
  cases xs with
  | nil =>
    cases rv
    refine SeqAt.eq_listAt (e := fun _ => true) p.isList p2.isList rfl (by omega) (fun j h1 _ => absurd h1 (by simp)) ?_
    exact ⟨.bl true, H, I, rfl, q⟩
  | cons z r =>
    refine SeqAt.eq_list_lengthsAt p.isList p2.isList ?_ (by omega) ⟨.bl false, H, I, rfl, q⟩
    rw [List.length_cons] at hl
    simp [← hl]
theorem op_neE (hu : X.A.units + 1 < cLine) : OpR X (compareOp .NotEq) (rEqE X.K true) := by
  intro pins s σ H x y v u Q I rx ry h
  obtain ⟨a, b, xs, rfl, rfl, ha, hb, q⟩ := h
  cases rx
  cases ry
  obtain ⟨its, rv, p, _⟩ := I.list ha
  obtain ⟨its2, rv2, p2, _⟩ := I.list hb
  cases rv2
  have hl := rv.length
  rw [Bool.true_xor] at q
  cases xs with
  | nil =>
    cases rv
    refine SeqAt.RcNeAt.lists (A := X.A) (e := fun _ => true) p.isList p2.isList rfl (by omega) (fun j h1 _ => absurd h1 (by simp)) _ _ _ _ ?_
    exact ⟨.bl false, H, I, rfl, q⟩
  | cons z r =>
    refine SeqAt.RcNeAt.lists_lengths (A := X.A) p.isList p2.isList ?_ (by omega) _ _ _ _ ⟨.bl true, H, I, rfl, q⟩
    rw [List.length_cons] at hl
    simp [← hl]
def eqE (neg : Bool) (x y : D) (Q : Bool → Prop) : Prop := ∃ xs, x = .lst xs ∧ y = .lst [] ∧ Q (neg ^^ xs.isEmpty)
theorem o_eqE {K : PySem.W.Frag} {neg : Bool} : Cm2 K (rEqE K neg) (eqE neg) := by
  intro F H dx dy x y Qd Q sub rx ry h hQ
  obtain ⟨xs, rfl, rfl, q⟩ := h
  obtain ⟨a, vs, rfl, h1, _, r1⟩ := rx
  obtain ⟨b, ws, rfl, h2, _, r2⟩ := ry
  cases r2
  have e : vs.isEmpty = xs.isEmpty := by
    have := r1.length
    cases vs <;> cases xs <;> simp at this ⊢
  refine ⟨a, b, vs, rfl, rfl, .inl (.inl (sub _ _ h1)), .inl (.inl (sub _ _ h2)), ?_⟩
  rw [e]
  exact hQ _ F H q (Grow.refl sub)
end
end DL

set_option Elab.async false
set_option linter.all false
set_option maxRecDepth 100000
/-! DL17: a def's own list by x, y = e, [] and by y = list(e) -/
namespace DL
open PySem PySem.Spec PyProof.Rows L2 TL
section
variable {X : Cx} {m : Mem} {E : Ent m} {pos : Pos}
end
end DL

set_option Elab.async false
set_option linter.all false
set_option maxRecDepth 100000
/-! DL18: t[::-1] of a tuple -/
namespace DLR
open PySem PySem.Spec PyProof.Rows L2 HT
section
variable {P : Program} {w : World} {A : Around} {X0 : Value → Shared → Prop} {s : Shared}
end
section
variable {X : Cx}
end
end DLR
namespace DL
open PySem PySem.Spec PyProof.Rows L2 TL
section
variable {X : Cx} {m : Mem}
end
end DL

set_option Elab.async false
set_option linter.all false
set_option maxRecDepth 100000
/-! DL19: a hidden list becomes a slot's own; x, y = [], e -/
namespace DL
open PySem PySem.Spec PyProof.Rows L2 TL
section
variable {X : Cx} {m : Mem} {E : Ent m} {pos : Pos}
theorem put_hid {K : PySem.W.Frag} {F' H' : Hp} {σ : L2.St} {ρ' : List Sl} {s' : m.S} (r' : Rel K m F' H' σ ρ' s') (o' : Own m E F' H' σ ρ' s') (i : Nat) {p : Addr} {ho : HO} {ob : Ob} (hp : H' p = some ho) (nF : F' p = none) (nR : ¬ m.R s' p) (nO : ∀ i, ¬ Owns σ ρ' i p) (eH : E.H p = none) (hob : ObAt K F' ob p ho) :
    Rel K m F' H' (σ.set i (some (.ref p))) (ρ'.set i (.ow ob)) s' ∧ Own m E F' H' (σ.set i (some (.ref p))) (ρ'.set i (.ow ob)) s' := by
  have other : ∀ (j : Nat) q, i ≠ j → Owns (σ.set i (some (.ref p))) (ρ'.set i (.ow ob)) j q → Owns σ ρ' j q := fun j q hj ⟨⟨o', h1⟩, h2⟩ => by
    rw [List.getElem?_set_ne hj] at h1 h2; exact ⟨⟨o', h1⟩, h2⟩
  have self : ∀ q, Owns (σ.set i (some (.ref p))) (ρ'.set i (.ow ob)) i q → q = p := fun q ⟨⟨o', h1⟩, h2⟩ => by
    have hi : i < σ.length := by
      have := (List.getElem?_eq_some_iff.mp h2).1
      rw [List.length_set] at this; exact this
    rw [List.getElem?_set_self hi] at h2
    cases h2; rfl
  refine ⟨⟨r'.sub, r'.mem, r'.reg, by rw [List.length_set, List.length_set]; exact r'.len, fun j d' z => ?_, fun j o' z => ?_, fun j q z => ?_, fun j k q h1 h2 => ?_⟩, ⟨o'.ext, o'.keep, o'.alive, o'.fresh, o'.regf, fun j q z => ?_⟩⟩
  · by_cases hj : i = j
    · subst hj
      have hi : i < ρ'.length := by
        have := (List.getElem?_eq_some_iff.mp z).1
        rw [List.length_set] at this; exact this
      rw [List.getElem?_set_self hi] at z
      cases z
    · rw [List.getElem?_set_ne hj] at z
      obtain ⟨w, h1, h2⟩ := r'.sh j d' z
      exact ⟨w, by rw [List.getElem?_set_ne hj]; exact h1, h2⟩
  · by_cases hj : i = j
    · subst hj
      have hi : i < ρ'.length := by
        have := (List.getElem?_eq_some_iff.mp z).1
        rw [List.length_set] at this; exact this
      rw [List.getElem?_set_self hi] at z
      cases z
      exact ⟨p, _, List.getElem?_set_self (by rw [r'.len]; exact hi), hp, hob⟩
    · rw [List.getElem?_set_ne hj] at z
      obtain ⟨q, ho', h1, h2, h3⟩ := r'.ow j o' z
      exact ⟨q, ho', by rw [List.getElem?_set_ne hj]; exact h1, h2, h3⟩
  · by_cases hj : i = j
    · subst hj
      rw [self q z]; exact ⟨nF, nR⟩
    · exact r'.owF j q (other j q hj z)
  · by_cases hj : i = j
    · subst hj
      by_cases hk : i = k
      · exact hk
      · exact absurd ((self q h1) ▸ other k q hk h2) (nO k)
    · by_cases hk : i = k
      · subst hk
        exact absurd ((self q h2) ▸ other j q hj h1) (nO j)
      · exact r'.uq j k q (other j q hj h1) (other k q hk h2)
  · by_cases hj : i = j
    · subst hj
      rw [self q z]; exact eH
    · exact o'.own j q (other j q hj z)
/-- a hidden object stays hidden, and as it is, while other things are done -/
theorem hid_keep {K : PySem.W.Frag} {F H : Hp} {σ : L2.St} {ρ : List Sl} {s : m.S} (r : Rel K m F H σ ρ s) (o : Own m E F H σ ρ s) {p : Addr} {ho : HO} (np : H p = none) :
    Rel K m F (upd H p ho) σ ρ s ∧ ∀ F1 H1 ρ1 s1, Stp m F (upd H p ho) σ ρ s F1 H1 ρ1 s1 → H1 p = some ho ∧ F1 p = none ∧ ¬ m.R s1 p ∧ (∀ i, ¬ Owns σ ρ1 i p) ∧ E.H p = none ∧ Own m E F1 H1 σ ρ1 s1 ∧ Same F F1 := by
  have nF : F p = none := r.sub.free np
  have nR : ¬ m.R s p := fun z => m.there s H p r.mem z np
  have nO : ∀ i, ¬ Owns σ ρ i p := fun i ⟨⟨o, e⟩, hσ⟩ => by
    obtain ⟨q, ho', h1, h2, _⟩ := r.own_at e
    rw [hσ] at h1; cases h1
    rw [np] at h2; cases h2
  have eH : E.H p = none := by
    cases q : E.H p with
    | none => rfl
    | some u => exact absurd np (o.alive p (by rw [q]; simp))
  refine ⟨r.hidW nF nR nO, fun F1 H1 ρ1 s1 st => ?_⟩
  have o1 : Own m E F (upd H p ho) σ ρ s := ⟨o.ext, fun a x h nr => by rw [upd_ne (ne_of_none h eH)]; exact o.keep a x h nr, fun a h => by
    have hp : a ≠ p := fun z => h (z ▸ eH)
    rw [upd_ne hp]; exact o.alive a h, o.fresh, o.regf, o.own⟩
  refine ⟨st.keep p _ upd_same nR, ?_, fun z => ?_, fun i z => nO i (st.owns z), eH, o1.stp st, st.ext⟩
  · cases q : F1 p with
    | none => rfl
    | some u =>
      rcases st.fresh p u q with z | z | ⟨i, z⟩
      · rw [nF] at z; cases z
      · rw [upd_same] at z; cases z
      · exact absurd z (nO i)
  · rcases st.regf p z with z | z
    · exact nR z
    · rw [upd_same] at z; cases z
end
end DL

set_option Elab.async false
set_option linter.all false
set_option maxRecDepth 100000
/-! EL1: sorted(..) of a tuple, by any order -/
namespace ELR
open PySem PySem.Spec PyProof.Rows L2 HT SrtO
section
variable {P : Program} {w : World} {A : Around} {X0 : Value → Shared → Prop} {s : Shared}
/-- the heap with the collected list behind it -/
abbrev gath (h : Heap) (us : List Value) : Heap := (h.push (seqObj "list" #[] 0)).update h.objs.size (Obj.mapSeq (· ++ us.toArray))
theorem gather_tup {t : Addr} {us : List Value} {R : List Value → Shared → Prop} (ht : IsTup s.heap t us.toArray) (many : us.length ≤ sizeLine) (q : R us { s with heap := gath s.heap us }) :
    wpAny (model P w) A (collect (.ref t)) R X0 s := by
  obtain ⟨o, e1, e2, n, e3⟩ := id ht
  have there : (s.heap.push (seqObj "list" #[] 0)).get? t = some o := Heap.get?_push_of_some _ e1
  have fresh : (s.heap.push (seqObj "list" #[] 0)).get? s.heap.objs.size = some (seqObj "list" #[] 0) := Heap.get?_push_size _ rfl
  have last : wpAny (model P w) A (do
      let o ← load s.heap.objs.size
      match o.data with
      | .seq xs _ => pure xs.toList
      | _ => unsupported "internal:collect") R X0 { s with heap := gath s.heap us } := by
    refine wpAny_bind (wpAny_load (get?_update_seq fresh _) ?_)
    show wpAny _ _ (pure ((#[] : Array Value) ++ us.toArray).toList) _ _ _
    have e : ((#[] : Array Value) ++ us.toArray).toList = us := by simp
    rw [e]
    exact wpAny_pure q
  have ext : ∀ (A' : Around) (T : PySem.Fin → Shared → Prop), T (.done (.ret (.ref s.heap.objs.size))) { s with heap := gath s.heap us } → wpAny (model P w) A' (Builtin.List.listExtendWith (.ref s.heap.objs.size) (.ref t) (.ref s.heap.objs.size)) T X0 { s with heap := s.heap.push (seqObj "list" #[] 0) } := fun A' T hT => by
    unfold Builtin.List.listExtendWith
    refine wpAny_bind (wpAny_typeOf (T := "tuple") ⟨o, there, e2⟩ ?_)
    rw [if_pos (by rw [show (Value.type "tuple" == Value.type "tuple") = true by rfl]; simp)]
    refine wpAny_bind (listItems_at there e3 (wpAny_bind (listItems_at (xs := #[]) (n := 0) fresh rfl ?_)))
    rw [if_neg (by simp)]
    refine wpAny_bind (listUpdate_at (xs := #[]) (n := 0) fresh rfl (wpAny_pure hT) (Nat.zero_le _) ?_)
    show (#[] ++ us.toArray).size ≤ sizeLine + 1
    simp only [Array.size_append, List.size_toArray, List.length_nil]
    omega
  unfold collect
  refine wpAny_bind (wpAny_runValue (codeAny_builtin entry_proto_collect' ?_))
  show wpAny _ _ (do again (.builtin "list.__iadd__" ⟨[← newList [], .ref t], []⟩)) _ _ s
  refine wpAny_bind (wpAny_newList (wpAny_pure ?_))
  refine ⟨Code.quiet_builtin _ (by decide +kernel), codeAny_builtin entry_list_iadd' (ext _ _ ?_)⟩
  exact last
theorem list_made {t : Addr} {us : List Value} {ltv : Value → Value → Bool} {R : Value → Shared → Prop} (O : Swo ltv) (ht : IsTup s.heap t us.toArray) (many : us.length ≤ sizeLine)
    (cmp : 2 ≤ us.length → ∀ (h₁ : Heap) (a : Addr), h₁.get? a = some (seqObj "list" us.toArray 0) → (∀ b o, s.heap.get? b = some o → b ≠ a ∧ h₁.get? b = some o) → SortableO P w A.in1.in1 { s with heap := h₁ } a us ltv)
    (q : ∀ out : List Value, Srtd ltv out → Stb ltv out us → R (.ref (s.heap.objs.size + 1)) { s with heap := sortedAll s.heap us out.toArray }) : wpAny (model P w) A (call (.builtin "sorted") [.ref t]) R X0 s := by
  have size1 : (gath s.heap us).objs.size = s.heap.objs.size + 1 := by rw [Heap.size_update, size_push']
  have at1 : ((gath s.heap us).push (seqObj "list" us.toArray 0)).get? (s.heap.objs.size + 1) = some (seqObj "list" us.toArray 0) := by
    rw [← size1]; exact Heap.get?_push_size _ rfl
  have old : ∀ b o, s.heap.get? b = some o → b ≠ s.heap.objs.size + 1 ∧ ((gath s.heap us).push (seqObj "list" us.toArray 0)).get? b = some o := fun b o e => by
    have lt := Heap.lt_size e
    refine ⟨Nat.ne_of_lt (Nat.lt_succ_of_lt lt), Heap.get?_push_of_some _ ?_⟩
    rw [Heap.get?_update_ne _ _ _ _ (Nat.ne_of_lt lt)]
    exact Heap.get?_push_of_some _ e
  refine Calls.call_function_entry kind_sorted plain_sorted entry_sorted (args_sorted1 _) ?_
  unfold Builtin.«sorted»
  refine wpAny_bind (m := checkCount "sorted" 1 1 _) (wpAny_pure (wpAny_bind (gather_tup ht many (wpAny_bind (wpAny_newList ?_ many)))))
  show wpAny _ _ _ _ _ { s with heap := (gath s.heap us).push (seqObj "list" us.toArray 0) }
  rw [size1]
  have isl : Shared.TypeIs { s with heap := (gath s.heap us).push (seqObj "list" us.toArray 0) } (.ref (s.heap.objs.size + 1)) "list" := ⟨_, at1, rfl⟩
  have sorts := wpAny_call_entry (prog := P) (w := w) (E := X0) slot_list_sort isl entry_list_sort (list_sort_ord (prog := P) (w := w) (A := A.in1.in1) (E := X0) (s := { s with heap := (gath s.heap us).push (seqObj "list" us.toArray 0) }) O at1 many (fun h2 => cmp h2 _ _ at1 old) (R := fun f s' => ∃ v, f = .done (.ret v) ∧ ∃ out, Srtd ltv out ∧ Stb ltv out us ∧ s' = { s with heap := sortedAll s.heap us out.toArray }) fun out h1 h2 => ⟨_, rfl, out, h1, h2, rfl⟩) (args_list_sort _)
  refine wpAny_bind (wpAny_holding (wpAny_mono sorts (fun v s' z => ?_) fun _ _ z => z))
  obtain ⟨out, h1, h2, rfl⟩ := z
  exact wpAny_pure ⟨_, rfl, q out h1 h2⟩
end
end ELR

set_option Elab.async false
set_option linter.all false
set_option maxRecDepth 100000
/-! EL2: instances of own classes: made by a call, whose __init__ is a def over data -/
namespace DL
open PySem PySem.Spec PyProof.Rows L2 TL
/-- all but one object -/
def hid (H : Hp) (x : Addr) : Hp := fun a => if a = x then none else H a
theorem hid_self {H : Hp} {x : Addr} : hid H x x = none := if_pos rfl
theorem hid_ne {H : Hp} {x a : Addr} (h : a ≠ x) : hid H x a = H a := if_neg h
theorem hid_some {H : Hp} {x a : Addr} {o : HO} (h : hid H x a = some o) : a ≠ x ∧ H a = some o := by
  unfold hid at h
  split at h
  · cases h
  · rename_i n
    exact ⟨n, h⟩
/-- what an __init__ promises: of its arguments' data it makes the fields -/
abbrev ISp (m : Mem) := List D → m.S → (List Str → List D → m.S → Prop) → Prop
def liftI (K : PySem.W.Frag) (m : Mem) (C : Addr) (n : Nat) (sp : ISp m) : Sp := fun vs H Q _ => vs.length = n + 1 ∧ ∃ (x dx : Addr) (ws : List V) (F : Hp) (ds : List D) (s : m.S) (Qd : List Str → List D → m.S → Prop), vs = .ref x :: ws ∧ H x = some (.ins C dx []) ∧ Same F (hid H x) ∧ m.M s H ∧ (∀ a, m.R s a → F a = none) ∧ ¬ m.R s x ∧ Reps K F ds ws ∧ sp ds s Qd ∧
  ∀ ns es s' (fs : List (Str × V)) F' H', Qd ns es s' → CStp m F (hid H x) s F' H' s' → H' x = some (.ins C dx fs) → fs.map (·.1) = ns → Reps K F' es (fs.map (·.2)) → F' x = none → ¬ m.R s' x → Q .non H'
section
variable {P : Program} {w : World} {K : PySem.W.Frag} {mg : Str → Option Value} {base : Heap} {m : Mem}
/-- what an __init__'s body is to reach -/
abbrev endsI {m : Mem} (x dx C : Addr) (Qd : List Str → List D → m.S → Prop) : DEnds m := { nx := fun ρ' s' => ∃ ns es, ρ'[0]? = some (.ow (.ins x dx C ns es)) ∧ Qd ns es s', rt := fun _ _ => False }
/-- THE RULE for an __init__, over data -/
theorem dfnI {qual : Str} {st : Stmt} {f C : Addr} {fd : FuncData} {N ps : List Str} {k n : Nat} {sp : ISp m} {nm : Str} (F : Fun K nm qual st f fd) (S : FnScope N ps (defScope st)) (hn : n + 1 = ps.length)
    (hb : ∀ (cdv : Value) (A : Around) (outer : List Env) (s : Shared) (H : Hp) (E : XK) (En : Ent m), RoomG k (A.deeper (envOfC qual (defScope st) s.heap.objs.size f cdv)) →
      ∃ t, PSs (cxOf CX0 P w K mg base N qual (defScope st) f cdv A outer s H E).nox (defBody st) (upS K m En t) ∧ ∀ ds s Qd (x dx : Addr), sp ds s Qd → t (endsI x dx C Qd) ((startD N (.any (.ref x) :: ds)).set 0 (.ow (.ins x dx C [] []))) s) : FnG P w K mg base CX0 (k + 1) f fd ps (liftI K m C n sp) := by
  refine Fun.okG F S (fun vs H Q E h => h.1.trans hn) (fun cdv A outer s H vs Q E hr h => ?_)
  obtain ⟨hl, x, dx, ws, F0, ds, s0, Qd, rfl, hx, sub, hm, hreg, nR, rs, hsp, hQ⟩ := h
  obtain ⟨t, ht, hq⟩ := hb cdv A outer s H E ⟨F0, hid H x, s0⟩ hr
  have sub' : Same F0 H := fun b o e => (hid_some (sub b o e)).2
  have nF : F0 x = none := by
    cases q : F0 x with
    | none => rfl
    | some o => exact absurd rfl (hid_some (sub x o q)).1
  have r0 : Rel K m F0 H (L2.start N (.ref x :: ws)) (startD N (.any (.ref x) :: ds)) s0 := rel_start sub' hm hreg (.cons rfl rs)
  have no : ∀ (i : Nat) o, (startD N (.any (.ref x) :: ds))[i]? ≠ some (Sl.ow o) := fun i o e => by
    unfold startD at e
    by_cases hi : i < (D.any (.ref x) :: ds).length
    · rw [List.getElem?_append_left (by simpa using hi), List.getElem?_map, List.getElem?_eq_getElem hi] at e; cases e
    · rw [List.getElem?_append_right (by simpa using hi), List.getElem?_replicate] at e
      split at e <;> cases e
  have o0 : Own m ⟨F0, hid H x, s0⟩ F0 H (L2.start N (.ref x :: ws)) (startD N (.any (.ref x) :: ds)) s0 := ⟨Same.refl _, fun a o e _ => (hid_some e).2, fun a e => by
    by_cases z : a = x
    · rw [z, hx]; simp
    · have e : hid H x a ≠ none := e
      rw [hid_ne z] at e; exact e, fun _ _ h => .inl h, fun _ h => .inl h, fun i p ⟨⟨o, e⟩, _⟩ => absurd e (no i o)⟩
  obtain ⟨r1, o1⟩ := put_hid r0 o0 0 (ob := .ins x dx C [] []) hx nF nR (fun i ⟨⟨o, e⟩, _⟩ => absurd e (no i o)) hid_self ⟨rfl, [], rfl, rfl, .nil⟩
  have same : (L2.start N (.ref x :: ws)).set 0 (some (.ref x)) = L2.start N (.ref x :: ws) := by
    unfold L2.start
    rw [List.map_cons]; rfl
  rw [same] at r1 o1
  refine ⟨_, ht.nox, F0, _, s0, _, r1, o1, hq ds s0 Qd x dx hsp, ?_⟩
  refine ⟨fun F' H' σ ρ s _ r o q => ?_, fun _ _ _ _ _ _ _ _ _ _ _ q => q.elim, fun _ _ _ _ _ _ _ _ q => q.elim, fun _ _ _ _ _ _ _ _ q => q.elim⟩
  obtain ⟨ns, es, e0, q⟩ := q
  obtain ⟨p, ho, h1, h2, ⟨rfl, fs, rfl, h3, h4⟩, h5, h6⟩ := r.own_at e0
  exact hQ ns es s fs F' H' q ⟨o.ext, o.keep, o.alive, o.fresh, o.regf, r.sub, r.mem, r.reg⟩ h2 h3 h4 h5 h6
end
section
variable {X : Cx} {m : Mem} {E : Ent m} {e : Expr} {es : List Expr} {t : TA} {u : DTA m} {x : Str} {p pos : Pos} {C f : Addr} {k : Nat} {fd : FuncData} {ps : List Str} {sp : Sp}
/-- C(e, ..), by the promise of its __init__ -/
theorem pe_instG (M : Mk X.K C f) (G : FnG X.prog X.w X.K X.mg X.base CX0 k f fd ps sp) (hr : RoomG (k + 1) X.A) (hg : Gl X x) (hm : X.mg x = some (.ref C)) (hb : Binds X.K fd ps []) (ha : PA X (e :: es) t)
    (hdb : (x == ("__debug__" : Str)) = false := by decide) (he : starEach (e :: es) X.env = (false, eval e X.env) :: starEach es X.env := by rfl) (hpl : (backTo pos (starEach es X.env)).any (·.1) = false := by rfl) :
    PE X (.Call (.Name x p) (e :: es) [] pos) (tMake C sp [] E0 t) := by
  refine ⟨fun pins s σ H Q I h => wpAny_Call_Name_kw (ld_glob I hg hm (PySem.W.callWith_K (h₀ := X.base) I.ok.mod.kin M.kp (thn (ha.run pos pins s σ H _ I h) fun us s1 ⟨vs, H1, I1, rv, q⟩ => ⟨I1.kIn, ?_⟩) he hpl) hdb)⟩
  have hq := q (s1.heap.objs.size + 1) s1.heap.objs.size (I1.hok.fresh (Nat.le_succ _)) (I1.hok.fresh (Nat.le_refl _)) (Nat.ne_of_lt (Nat.lt_succ_self _))
  rw [List.append_nil] at hq
  have J := Inv.made (C := C) I1
  have rr : Vals (V.ref (s1.heap.objs.size + 1) :: vs) (Value.ref (s1.heap.objs.size + 1) :: us) := .cons rfl rv
  have many : ((Value.ref (s1.heap.objs.size + 1) :: us) ++ []).length = ps.length := by
    rw [List.append_nil, ← rr.length]
    exact G.len _ _ _ _ hq
  have bd := hb _ (Value.ref (s1.heap.objs.size + 1) :: us) J.kIn many
  rw [List.append_nil] at bd
  refine wpAny_call (make_map (f := f) I1.kIn M.makes M.init (beq_iff_eq.mp M.fn) (codeAny_mono (G.run _ X.stack _ _ ⟨Value.ref (s1.heap.objs.size + 1) :: us, []⟩ _ _ _ E0 (hr.make C us []) (J.env0.make C us []) bd rr hq) fun r s' z => ?_))
  rcases r with er | (_ | _ | _ | u)
  · exact z.elim
  · exact z.elim
  · exact z.elim
  · exact z.elim
  · obtain ⟨v, H', J', r', ev, q2⟩ := J.after z
    subst ev
    exact ⟨r', ⟨.ref (s1.heap.objs.size + 1), H', J', rfl, q2⟩⟩
def dMake {m : Mem} (C : Addr) (sp : ISp m) (t : DTA m) : DT m := fun ρ s Q => t ρ s fun ds ρ1 s1 => sp ds s1 fun ns es s' => Q (.ins C ns es) ρ1 s'
theorem up_make {K : PySem.W.Frag} {n : Nat} {sp : ISp m} {σ : L2.St} {H : Hp} {Q : VK} (hn : ∀ ds s Qd, sp ds s Qd → ds.length = n) (h : up K m (dMake C sp u) σ H Q) : tMake C (liftI K m C n sp) [] E0 (upA K m u) σ H Q := by
  obtain ⟨F, ρ, s, Qd, rl, ht, hQ⟩ := h
  refine ⟨F, ρ, s, _, rl, ht, fun ds ρ1 s1 vs F1 H1 q1 r1 st1 rs x dx nx ndx ne => ?_⟩
  rw [List.append_nil]
  obtain ⟨H2, e2⟩ : ∃ H2, H2 = upd (upd H1 dx (.own x)) x (.ins C dx []) := ⟨_, rfl⟩
  rw [← e2]
  have at_x : H2 x = some (.ins C dx []) := by rw [e2, upd_same]
  have at_o : ∀ a, a ≠ x → a ≠ dx → H2 a = H1 a := fun a h1 h2 => by rw [e2, upd_ne h1, upd_ne h2]
  have old : ∀ a o, H1 a = some o → a ≠ x ∧ a ≠ dx := fun a o e => ⟨fun z => by (rw [z, nx] at e; cases e), fun z => by (rw [z, ndx] at e; cases e)⟩
  have nR : ¬ m.R s1 x := fun z => m.there s1 H1 x r1.mem z nx
  have nF : F1 x = none := r1.sub.free nx
  have subh : Same F1 (hid H2 x) := fun b o e => by
    obtain ⟨z1, z2⟩ := old b o (r1.sub b o e)
    rw [hid_ne z1, at_o b z1 z2]; exact r1.sub b o e
  have mem2 : m.M s1 H2 := m.loc s1 H1 H2 r1.mem fun a ha => by
    have q := m.there s1 H1 a r1.mem ha
    cases e : H1 a with
    | none => exact absurd e q
    | some o =>
      obtain ⟨z1, z2⟩ := old a o e
      rw [at_o a z1 z2, e]
  refine ⟨by rw [List.length_cons, rs.length, hn _ _ _ q1], x, dx, vs, F1, ds, s1, _, rfl, at_x, subh, mem2, r1.reg, nR, rs, q1, fun ns es s' fs F' H' q2 c hx' hns hes nF' nR' => ⟨rfl, ?_⟩⟩
  have c1 : CStp m F1 H1 s1 F' H' s' := ⟨c.ext, fun a o e nr => by
      obtain ⟨z1, z2⟩ := old a o e
      exact c.keep a o (by rw [hid_ne z1, at_o a z1 z2]; exact e) nr, fun a h => by
      cases e : H1 a with
      | none => exact absurd e h
      | some o =>
        obtain ⟨z1, z2⟩ := old a o e
        exact c.alive a (by rw [hid_ne z1, at_o a z1 z2, e]; simp), fun a o e => by
      rcases c.fresh a o e with z | z
      · exact .inl z
      · refine .inr ?_
        by_cases z1 : a = x
        · rw [z1]; exact nx
        · rw [hid_ne z1] at z
          by_cases z2 : a = dx
          · rw [z2]; exact ndx
          · rw [at_o a z1 z2] at z; exact z, fun a h => by
      rcases c.regf a h with z | z
      · exact .inl z
      · refine .inr ?_
        by_cases z1 : a = x
        · rw [z1]; exact nx
        · rw [hid_ne z1] at z
          by_cases z2 : a = dx
          · rw [z2]; exact ndx
          · rw [at_o a z1 z2] at z; exact z, c.sub, c.mem, c.reg⟩
  have r2 := r1.call c1
  have nO : ∀ i, ¬ Owns σ ρ1 i x := fun i ⟨⟨o, e⟩, hσ⟩ => by
    obtain ⟨q, ho', h1, h2, _⟩ := r1.own_at e
    rw [hσ] at h1; cases h1
    rw [nx] at h2; cases h2
  have sm : Same F' (upd F' x (.ins C dx fs)) := same_upd nF'
  have st2 := st1.trans (c1.stp (σ := σ) (ρ := ρ1))
  refine hQ _ ρ1 s' _ (upd F' x (.ins C dx fs)) H' q2 (r2.adopt hx' nF' nR' nO) ⟨st2.ext.trans sm, st2.keep, st2.alive, fun a o e => ?_, st2.regf, st2.shr⟩ ⟨x, dx, fs, rfl, upd_same, hns, Reps.mono sm _ _ hes⟩
  by_cases z : a = x
  · subst z
    refine .inr (.inl ?_)
    cases q : H a with
    | none => rfl
    | some o => exact absurd nx (st1.alive a (by rw [q]; simp))
  · rw [upd_ne z] at e; exact st2.fresh a o e
theorem de_make {n : Nat} {sp : ISp m} (M : Mk X.K C f) (G : FnG X.prog X.w X.K X.mg X.base CX0 k f fd ps (liftI X.K m C n sp)) (hn : ∀ ds s Qd, sp ds s Qd → ds.length = n) (hr : RoomG (k + 1) X.A) (hg : Gl X x) (hm : X.mg x = some (.ref C)) (hb : Binds X.K fd ps []) (ha : PA X (e :: es) (upA X.K m u))
    (hdb : (x == ("__debug__" : Str)) = false := by decide) (he : starEach (e :: es) X.env = (false, eval e X.env) :: starEach es X.env := by rfl) (hpl : (backTo pos (starEach es X.env)).any (·.1) = false := by rfl) :
    PE X (.Call (.Name x p) (e :: es) [] pos) (up X.K m (dMake C sp u)) := PE.imp (pe_instG M G hr hg hm hb ha hdb he hpl) fun _ _ _ h => up_make hn h
end
end DL

set_option Elab.async false
set_option linter.all false
set_option maxRecDepth 100000
/-! EL3: fields stored in an __init__; empty sets; sorted of what is empty; isinstance of own instances -/
namespace DL
open PySem PySem.Spec PyProof.Rows L2 TL
theorem putF_new {f : Str} {v : V} : ∀ {fs : List (Str × V)}, f ∉ fs.map (·.1) → putF f v fs = fs ++ [(f, v)]
  | [], _ => rfl
  | (g, x) :: r, h => by
    have h1 : g ≠ f := fun e => h (by rw [e]; simp)
    have h2 : f ∉ r.map (·.1) := fun e => h (by rw [List.map_cons]; exact List.mem_cons_of_mem _ e)
    show (if g = f then (g, v) :: r else (g, x) :: putF f v r) = _
    rw [if_neg h1, putF_new h2]
    rfl
section
variable {X : Cx} {m : Mem} {E : Ent m} {e : Expr} {te : DT m} {pos : Pos}
/-- self.f = e, a field that is not there yet -/
def dFst {m : Mem} (C : Addr) (i : Nat) (f : Str) (te : DT m) : DTS m := fun dd ρ s => te ρ s fun d ρ1 s1 => ∃ x dx ns ds, ρ1[i]? = some (.ow (.ins x dx C ns ds)) ∧ f ∉ ns ∧ ns.length < 900 ∧ dd.nx (ρ1.set i (.ow (.ins x dx C (ns ++ [f]) (ds ++ [d])))) s1
theorem ds_fst (i : Nat) {y f : Str} {C : Addr} {xpos p' : Pos} (cl : Cls X.K C) (na : NoAttr X.K C f) (he : PE X e (up X.K m te)) (hN : X.N[i]? = some y := by rfl) (hv : Vis X.env.scope y := by first | exact Or.inl rfl | exact Or.inr (Or.inl rfl) | exact Or.inr (Or.inr rfl))
    (hd : (y == ("__debug__" : Str)) = false := by decide) (hcd : (y == ("__classdict__" : Str)) = false := by decide) (hs : swapsWith e (some (.Attribute (.Name y xpos) f p')) pos.line X.env = pure false := by rfl) :
    PS X (.Assign [.Attribute (.Name y xpos) f p'] e pos) (upS X.K m E (dFst C i f te)) :=
  PS.imp (ps_fld (pv i hN hv hd hcd) he hs) fun DD σ H h => by
    obtain ⟨F, ρ, s, dd, r, o, ht, ft⟩ := h
    refine ⟨F, ρ, s, _, r, ht, fun d ρ1 s1 v F1 H1 ⟨x, dx, ns, ds, e1, hn, hl, q1⟩ r1 st1 rv => ?_⟩
    obtain ⟨p, ho, h1, h2, ⟨rfl, fs, rfl, h3, h4⟩, h5, h6⟩ := r1.own_at e1
    have hl2 : fs.length < 900 := by rw [← h3, List.length_map] at hl; exact hl
    refine ⟨.ref p, h1, p, C, dx, fs, rfl, h2, cl, na, by omega, ?_⟩
    rw [putF_new (by rw [h3]; exact hn)]
    exact ft.nx F1 _ σ _ s1 st1.ext (r1.write (o' := .ins p dx C (ns ++ [f]) (ds ++ [d])) e1 h1 ⟨rfl, _, rfl, by rw [List.map_append, h3]; rfl, by rw [List.map_append]; exact h4.append (.one rv)⟩) ((o.stp st1).write (K := X.K) e1 h1) q1
/-! ### sets that stay empty -/
/-! ### sorted(()) -/
/-! ### isinstance of instances of own classes -/
structure InsK (K : PySem.W.Frag) (C : Addr) : Prop where
  cl : Cls K C
  ha : PySem.W.findIn K (.ref C) "__class__" = some (some (.builtin "object.__class__"))
  hn : PySem.W.specialIn K (.builtin "object.__class__") "__get__" = some (some (.builtin "getset_descriptor.__get__"))
  ht : PySem.W.takesIn K (.builtin "object.__class__") = some true
  hm : PySem.W.mroIn K C (.type "object") = some true
  no : PySem.W.kitOne K (.ref C) (.type "tuple") = some false
end
end DL

set_option Elab.async false
set_option linter.all false
set_option maxRecDepth 100000
/-! EL4: lists of texts that lie in a list and are changed there; a popped item appended; two own lists at once -/
namespace DL
open PySem PySem.Spec PyProof.Rows L2 TL
/-- beside the state of m: lists of texts that may be changed, wherever they are named -/
def Mem.hot (m : Mem) : Mem where
  S := m.S × List (Addr × List Str)
  M := fun s H => m.M s.1 H ∧ (s.2.map Prod.fst).Nodup ∧ ∀ p ∈ s.2, H p.1 = some (.lst (p.2.map V.str)) ∧ p.2.length ≤ sizeLine ∧ (∀ x ∈ p.2, sOk x = true) ∧ ¬ m.R s.1 p.1
  R := fun s a => m.R s.1 a ∨ ∃ p ∈ s.2, p.1 = a
  loc := fun s H H' h k => ⟨m.loc s.1 H H' h.1 fun a ha => k a (.inl ha), h.2.1, fun p hp => by
    obtain ⟨h1, h2⟩ := h.2.2 p hp
    exact ⟨(k p.1 (.inr ⟨p, hp, rfl⟩)).trans h1, h2⟩⟩
  there := fun s H a h ha => by
    rcases ha with ha | ⟨p, hp, rfl⟩
    · exact m.there s.1 H a h.1 ha
    · rw [(h.2.2 p hp).1]; simp
/-- a promise kept with such lists beside -/
def hotSp {m : Mem} (sp : DSp m) : DSp (Mem.hot m) := fun ds s Q => sp ds s.1 fun d s' => Q d (s', s.2)
theorem lift_hot {K : PySem.W.Frag} {m : Mem} {n : Nat} {sp : DSp m} {vs : List V} {H : Hp} {Q : VK} {E : XK} (h : lift K (Mem.hot m) n (hotSp sp) vs H Q E) : lift K m n sp vs H Q E := by
  obtain ⟨hl, F, ds, s, Qd, sub, hm, hr, rs, hsp, hQ⟩ := h
  refine ⟨hl, F, ds, s.1, fun d s' => Qd d (s', s.2), sub, hm.1, fun a h => hr a (.inl h), rs, hsp, fun d s' v F' H' q c rv => hQ d (s', s.2) v F' H' q ?_ rv⟩
  refine ⟨c.ext, fun a o e nr => c.keep a o e fun z => nr (.inl z), c.alive, c.fresh, fun a e => ?_, c.sub, ⟨c.mem, hm.2.1, fun p hp => ?_⟩, fun a e => ?_⟩
  · rcases e with e | e
    · exact (c.regf a e).elim (fun z => .inl (.inl z)) .inr
    · exact .inl (.inr e)
  · obtain ⟨h1, h2, h3, h4⟩ := hm.2.2 p hp
    refine ⟨c.keep _ _ h1 h4, h2, h3, fun z => ?_⟩
    rcases c.regf _ z with z | z
    · exact h4 z
    · rw [h1] at z; cases z
  · rcases e with e | ⟨p, hp, rfl⟩
    · exact c.reg a e
    · cases q : F' p.1 with
      | none => rfl
      | some o =>
        rcases c.fresh _ o q with z | z
        · rw [hr _ (.inr ⟨p, hp, rfl⟩)] at z; cases z
        · rw [(hm.2.2 p hp).1] at z; cases z
/-- .. and a def that makes such lists for itself -/
theorem lift_cold {K : PySem.W.Frag} {m : Mem} {n : Nat} {sp : DSp m} {sp' : DSp (Mem.hot m)} (hs : ∀ ds s Q, sp ds s Q → sp' ds (s, []) fun d s' => Q d s'.1) {vs : List V} {H : Hp} {Q : VK} {E : XK} (h : lift K m n sp vs H Q E) : lift K (Mem.hot m) n sp' vs H Q E := by
  obtain ⟨hl, F, ds, s, Qd, sub, hm, hr, rs, hsp, hQ⟩ := h
  refine ⟨hl, F, ds, (s, []), fun d s' => Qd d s'.1, sub, ⟨hm, List.nodup_nil, fun p hp => nomatch hp⟩, fun a h => ?_, rs, hs _ _ _ hsp, fun d s' v F' H' q c rv => hQ d s'.1 v F' H' q ⟨c.ext, fun a o e nr => c.keep a o e fun z => ?_, c.alive, c.fresh, fun a e => ?_, c.sub, c.mem.1, fun a e => c.reg a (.inl e)⟩ rv⟩
  · rcases h with h | ⟨p, hp, _⟩
    · exact hr a h
    · cases hp
  · rcases z with z | ⟨p, hp, _⟩
    · exact nr z
    · cases hp
  · rcases c.regf a (.inl e) with z | z
    · rcases z with z | ⟨p, hp, _⟩
      · exact .inl z
      · cases hp
    · exact .inr z
section
variable {K : PySem.W.Frag} {m : Mem} {F H : Hp} {σ : L2.St} {ρ : List Sl} {s : m.S} {L : List (Addr × List Str)} {q : Addr} {xs ys : List Str} {E : Ent (Mem.hot m)}
theorem Rel.hotNew (r : Rel K (Mem.hot m) F H σ ρ (s, L)) (n : H q = none) (hl : xs.length ≤ sizeLine) (hs : ∀ x ∈ xs, sOk x = true) : Rel K (Mem.hot m) F (upd H q (.lst (xs.map V.str))) σ ρ (s, L ++ [(q, xs)]) := by
  have nF : F q = none := r.sub.free n
  have nR : ¬ (Mem.hot m).R (s, L) q := fun z => (Mem.hot m).there (s, L) H q r.mem z n
  have nO : ∀ i, ¬ Owns σ ρ i q := fun i ⟨⟨o, e⟩, hσ⟩ => by
    obtain ⟨p, ho, h1, h2, _⟩ := r.own_at e
    rw [hσ] at h1; cases h1
    rw [n] at h2; cases h2
  have r1 := r.hidW (ho := .lst (xs.map V.str)) nF nR nO
  obtain ⟨m1, m2, m3⟩ := r1.mem
  refine ⟨r1.sub, ⟨m1, ?_, fun p hp => ?_⟩, fun a ha => ?_, r1.len, r1.sh, r1.ow, fun i p hp => ⟨(r1.owF i p hp).1, fun z => ?_⟩, r1.uq⟩
  · show ((L ++ [(q, xs)]).map (·.1)).Nodup
    rw [List.map_append, List.nodup_append]
    refine ⟨m2, by simp, fun a ha b hb => ?_⟩
    rw [show b = q from by simpa using hb]
    rintro rfl
    obtain ⟨p, hp, e⟩ := List.mem_map.mp ha
    exact nR (.inr ⟨p, hp, e⟩)
  · rcases List.mem_append.mp hp with z | z
    · exact m3 p z
    · obtain rfl : p = (q, xs) := by simpa using z
      exact ⟨upd_same, hl, hs, fun z => nR (.inl z)⟩
  · rcases ha with ha | ⟨p, hp, rfl⟩
    · exact r1.reg a (.inl ha)
    · rcases List.mem_append.mp hp with z | z
      · exact r1.reg _ (.inr ⟨p, z, rfl⟩)
      · obtain rfl : p = (q, xs) := by simpa using z
        exact nF
  · rcases z with z | ⟨p', hp', rfl⟩
    · exact (r1.owF i p hp).2 (.inl z)
    · rcases List.mem_append.mp hp' with z | z
      · exact (r1.owF i _ hp).2 (.inr ⟨p', z, rfl⟩)
      · obtain rfl : p' = (q, xs) := by simpa using z
        exact nO i hp
theorem Own.hotNew (o : Own (Mem.hot m) E F H σ ρ (s, L)) (n : H q = none) : Own (Mem.hot m) E F (upd H q (.lst (xs.map V.str))) σ ρ (s, L ++ [(q, xs)]) := by
  have eH : E.H q = none := by
    cases z : E.H q with
    | none => rfl
    | some u => exact absurd n (o.alive q (by rw [z]; simp))
  refine ⟨o.ext, fun a x h nr => by rw [upd_ne (ne_of_none h eH)]; exact o.keep a x h nr, fun a h => ?_, o.fresh, fun a ha => ?_, o.own⟩
  · have hp : a ≠ q := fun z => h (z ▸ eH)
    rw [upd_ne hp]; exact o.alive a h
  · rcases ha with ha | ⟨p, hp, rfl⟩
    · exact o.regf a (.inl ha)
    · rcases List.mem_append.mp hp with z | z
      · exact o.regf _ (.inr ⟨p, z, rfl⟩)
      · obtain rfl : p = (q, xs) := by simpa using z
        exact .inr eH
theorem Rel.hotW (r : Rel K (Mem.hot m) F H σ ρ (s, L ++ [(q, xs)])) (hl : ys.length ≤ sizeLine) (hs : ∀ x ∈ ys, sOk x = true) : Rel K (Mem.hot m) F (upd H q (.lst (ys.map V.str))) σ ρ (s, L ++ [(q, ys)]) := by
  obtain ⟨m1, m2, m3⟩ := r.mem
  have hin : (q, xs) ∈ L ++ [(q, xs)] := by simp
  have hR : (Mem.hot m).R (s, L ++ [(q, xs)]) q := .inr ⟨_, hin, rfl⟩
  have nF : F q = none := r.reg q hR
  obtain ⟨a1, a2, a3, a4⟩ := m3 _ hin
  have same : ∀ a, (Mem.hot m).R (s, L ++ [(q, ys)]) a → (Mem.hot m).R (s, L ++ [(q, xs)]) a := fun a ha => by
    rcases ha with ha | ⟨p, hp, rfl⟩
    · exact .inl ha
    · rcases List.mem_append.mp hp with z | z
      · exact .inr ⟨p, List.mem_append_left _ z, rfl⟩
      · obtain rfl : p = (q, ys) := by simpa using z
        exact hR
  have m2' : (L.map (·.1) ++ [q]).Nodup := by rw [show L.map (·.1) ++ [q] = (L ++ [(q, xs)]).map (·.1) by rw [List.map_append]; rfl]; exact m2
  have ne : ∀ p ∈ L, p.1 ≠ q := fun p hp z => (List.nodup_append.mp m2').2.2 p.1 (List.mem_map_of_mem hp) q (by simp) z
  refine ⟨fun b x e => by rw [upd_ne (ne_of_none e nF)]; exact r.sub _ _ e, ⟨m.loc s H _ m1 fun a ha => upd_ne fun z => a4 (z ▸ ha), ?_, fun p hp => ?_⟩, fun a ha => r.reg a (same a ha), r.len, r.sh, fun i o e => ?_, fun i p hp => ⟨(r.owF i p hp).1, fun z => (r.owF i p hp).2 (same p z)⟩, r.uq⟩
  · show ((L ++ [(q, ys)]).map (·.1)).Nodup
    rw [List.map_append]; exact m2'
  · rcases List.mem_append.mp hp with z | z
    · obtain ⟨b1, b2⟩ := m3 p (List.mem_append_left _ z)
      exact ⟨(upd_ne (ne p z)).trans b1, b2⟩
    · obtain rfl : p = (q, ys) := by simpa using z
      exact ⟨upd_same, hl, hs, a4⟩
  · obtain ⟨p, ho, h1, h2, h3⟩ := r.ow i o e
    have hp : p ≠ q := fun z => (r.owF i p ⟨⟨o, e⟩, h1⟩).2 (z ▸ hR)
    exact ⟨p, ho, h1, by rw [upd_ne hp]; exact h2, h3⟩
theorem Own.hotW (o : Own (Mem.hot m) E F H σ ρ (s, L ++ [(q, xs)])) : Own (Mem.hot m) E F (upd H q (.lst (ys.map V.str))) σ ρ (s, L ++ [(q, ys)]) := by
  have hR : (Mem.hot m).R (s, L ++ [(q, xs)]) q := .inr ⟨(q, xs), by simp, rfl⟩
  refine ⟨o.ext, fun a x h nr => ?_, fun a h => ?_, o.fresh, fun a ha => ?_, o.own⟩
  · have hp : a ≠ q := fun z => by
      rcases o.regf q hR with w | w
      · exact nr (z ▸ w)
      · rw [z, w] at h; cases h
    rw [upd_ne hp]; exact o.keep a x h nr
  · by_cases hp : a = q
    · rw [hp, upd_same]; simp
    · rw [upd_ne hp]; exact o.alive a h
  · rcases ha with ha | ⟨p, hp, rfl⟩
    · exact o.regf a (.inl ha)
    · rcases List.mem_append.mp hp with z | z
      · exact o.regf _ (.inr ⟨p, List.mem_append_left _ z, rfl⟩)
      · obtain rfl : p = (q, ys) := by simpa using z
        exact o.regf _ hR
end
section
variable {X : Cx} {m : Mem} {E : Ent (Mem.hot m)} {e b : Expr} {te tb : DT (Mem.hot m)} {pos : Pos}
end
section
variable {X : Cx} {m : Mem} {E : Ent m} {e : Expr} {te : DT m} {pos : Pos}
/-- x.append(y.pop(e)) -/
def dAppPop {m : Mem} (i j : Nat) (te : DT m) : DTS m := fun dd ρ s => (∃ ds0, ρ[i]? = some (.ow (.lst ds0))) ∧ (∃ es0, ρ[j]? = some (.ow (.lst es0))) ∧ te ρ s fun d ρ1 s1 => ∃ k ds es n y, d = .int k ∧ -(2 ^ 63) ≤ k ∧ k < 2 ^ 63 ∧ ρ1[i]? = some (.ow (.lst ds)) ∧ ρ1[j]? = some (.ow (.lst es)) ∧
  seqIndex? k es.length = some n ∧ es[n]? = some y ∧ ds.length < sizeLine ∧ dd.nx ((ρ1.set j (.ow (.lst (es.eraseIdx n)))).set i (.ow (.lst (ds ++ [y])))) s1
theorem Reps.eraseIdx {K : PySem.W.Frag} {F : Hp} : ∀ {ds : List D} {vs : List V} (n : Nat), Reps K F ds vs → Reps K F (ds.eraseIdx n) (vs.eraseIdx n)
  | [], _, n, h => by cases h; exact Reps.nil
  | d :: ds, _, 0, ⟨v, r, e, h, t⟩ => by subst e; exact t
  | d :: ds, _, n + 1, ⟨v, r, e, h, t⟩ => by subst e; exact .cons h (Reps.eraseIdx n t)
theorem ds_appPop (i j : Nat) {x y : Str} {xpos apos cpos ypos bpos dpos : Pos} (he : PE X e (up X.K m te)) (hij : i ≠ j := by decide) (hN : X.N[i]? = some x := by rfl) (hM : X.N[j]? = some y := by rfl) (hv : Vis X.env.scope x := by first | exact Or.inl rfl | exact Or.inr (Or.inl rfl) | exact Or.inr (Or.inr rfl))
    (hw : Vis X.env.scope y := by first | exact Or.inl rfl | exact Or.inr (Or.inl rfl) | exact Or.inr (Or.inr rfl))
    (hd : (x == ("__debug__" : Str)) = false := by decide) (hcd : (x == ("__classdict__" : Str)) = false := by decide) (hd2 : (y == ("__debug__" : Str)) = false := by decide) (hcd2 : (y == ("__classdict__" : Str)) = false := by decide)
    (hbase2 : attributeBase (.Name y ypos) "pop" X.env (eval (.Name y ypos) X.env) = eval (.Name y ypos) X.env := by rfl)
    (hfew2 : ((backTo dpos (starEach [e] X.env)).all (fun x => !x.1) && (backToKw dpos (keywordEach [] X.env)).all (fun x => x.1.isSome)
      && decide ([e].length + ([] : List Keyword).length + (if ([] : List Keyword).isEmpty then 0 else 1) < 30)) = true := by rfl)
    (hline2 : (bpos.endLine == dpos.line) = true := by rfl) (hs2 : starEach [e] X.env = [(false, eval e X.env)] := by rfl)
    (hbase : attributeBase (.Name x xpos) "append" X.env (eval (.Name x xpos) X.env) = eval (.Name x xpos) X.env := by rfl)
    (hfew : ((backTo cpos (starEach [.Call (.Attribute (.Name y ypos) "pop" bpos) [e] [] dpos] X.env)).all (fun x => !x.1) && (backToKw cpos (keywordEach [] X.env)).all (fun x => x.1.isSome)
      && decide ([Expr.Call (.Attribute (.Name y ypos) "pop" bpos) [e] [] dpos].length + ([] : List Keyword).length + (if ([] : List Keyword).isEmpty then 0 else 1) < 30)) = true := by rfl)
    (hline : (apos.endLine == cpos.line) = true := by rfl) (hs : starEach [.Call (.Attribute (.Name y ypos) "pop" bpos) [e] [] dpos] X.env = [(false, eval (.Call (.Attribute (.Name y ypos) "pop" bpos) [e] [] dpos) X.env)] := by rfl)
    (hsw : swapsWith (.Call (.Attribute (.Name x xpos) "append" apos) [.Call (.Attribute (.Name y ypos) "pop" bpos) [e] [] dpos] [] cpos) none pos.line X.env = pure false := by rfl) :
    PS X (.Expr (.Call (.Attribute (.Name x xpos) "append" apos) [.Call (.Attribute (.Name y ypos) "pop" bpos) [e] [] dpos] [] cpos) pos) (upS X.K m E (dAppPop i j te)) :=
  PS.imp (ps_expr (pe_bm PySem.F.plainAttrs_list PySem.F.slot_list_append PySem.F.type_list_append mt_append (pv i hN hv hd hcd) (pa_cons (pe_bm PySem.F.plainAttrs_list PySem.F.slot_list_pop PySem.F.type_list_pop mt_popAt (pv j hM hw hd2 hcd2) (pa_cons he pa_nil (by rw [hs2]; rfl)) hbase2 hfew2 hline2 (by rw [hs2]; rfl) rfl) pa_nil (by rw [hs]; rfl)) hbase hfew hline (by rw [hs]; rfl) rfl) hsw) fun DD σ H h => by
  obtain ⟨F, ρ, s, dd, r, o, ⟨⟨ds0, e0⟩, ⟨es0, f0⟩, ht⟩, f⟩ := h
  obtain ⟨p, ho, h1, h2, ⟨vs0, rfl, hl0, rs0⟩, h4, h5⟩ := r.own_at e0
  obtain ⟨p2, ho2, k1, k2, ⟨ws0, rfl, kl0, ks0⟩, k4, k5⟩ := r.own_at f0
  refine ⟨_, h1, .inl ⟨rfl, vs0, .inl (.inl h2)⟩, _, k1, .inl ⟨rfl, ws0, .inl (.inl k2)⟩, F, ρ, s, _, r, ht, fun d ρ1 s1 v F1 H1 ⟨k, ds, es, n, y, ed, b1, b2, e1, f1, en, ey, hz, q1⟩ r1 st1 rv => ?_⟩
  subst ed
  cases rv
  obtain ⟨p3, ho3, g1, g2, ⟨vs, rfl, hl, rs⟩, g4, g5⟩ := r1.own_at f1
  rw [k1] at g1; cases g1
  obtain ⟨w, ew, rw'⟩ := rs.get ey
  refine ⟨p2, vs, k, n, w, rfl, rfl, g2, b1, b2, by rw [rs.length]; exact en, ew, ?_⟩
  have len := rs.length
  have r2 := r1.write (o' := .lst (es.eraseIdx n)) f1 k1 ⟨vs.eraseIdx n, rfl, by have := List.length_eraseIdx_le vs n; omega, rs.eraseIdx n⟩
  have o2 := (o.stp st1).write (K := X.K) (ob' := .lst (es.eraseIdx n)) (ho := .lst (vs.eraseIdx n)) f1 k1
  have e2 : (ρ1.set j (.ow (.lst (es.eraseIdx n))))[i]? = some (.ow (.lst ds)) := by rw [List.getElem?_set_ne (Ne.symm hij)]; exact e1
  obtain ⟨p4, ho4, t1, t2, ⟨us, rfl, tl, ts⟩, t4, t5⟩ := r2.own_at e2
  rw [h1] at t1; cases t1
  have tlen := ts.length
  refine ⟨p, us, w, rfl, rfl, t2, by omega, ?_⟩
  exact f.nx F1 _ σ _ s1 st1.ext (r2.write (o' := .lst (ds ++ [y])) e2 h1 ⟨us ++ [w], rfl, by rw [List.length_append]; exact (by simp; omega), ts.append (.one rw')⟩) (o2.write (K := X.K) e2 h1) q1
end
end DL

set_option Elab.async false
set_option linter.all false
set_option maxRecDepth 100000
/-! EL5: tuple(x) of a list of texts beside; x, y = list(e), [] -/
namespace DL
open PySem PySem.Spec PyProof.Rows L2 TL
section
variable {X : Cx} {m : Mem} {pos : Pos}
end
section
variable {X : Cx} {m : Mem} {E : Ent m} {pos : Pos}
theorem seq_at {K : PySem.W.Frag} {F H : Hp} {d : D} {xs : List D} {v : V} (sub : Same F H) (rv : Rep K F d v) (e : seqD d = some xs) : ∃ a ws, v = .ref a ∧ (SqL K H a ws ∨ SqT K H a ws) ∧ ws.length ≤ sizeLine ∧ Reps K F xs ws := by
  cases d with
  | lst ys => cases e; obtain ⟨a, ws, rfl, h1, hl, r⟩ := rv; exact ⟨a, ws, rfl, .inl (.inl (.inl (sub _ _ h1))), hl, r⟩
  | tup ys => cases e; obtain ⟨a, ws, rfl, h1, hl, r⟩ := rv; exact ⟨a, ws, rfl, .inr (Same.seqT sub h1), hl, r⟩
  | fz ys => cases e; obtain ⟨a, ws, rfl, h1, hl, r⟩ := rv; exact ⟨a, ws, rfl, .inl (Same.seq sub h1), hl, r⟩
  | _ => cases e
end
end DL
namespace DL
open PySem PySem.Spec PyProof.Rows L2 TL
end DL

set_option Elab.async false
set_option linter.all false
set_option maxRecDepth 100000
/-! EL6: behind a test, or a value that holds no object, what a slot owned is its own again -/
namespace DL
open PySem PySem.Spec PyProof.Rows L2 TL
section
variable {K : PySem.W.Frag} {m : Mem} {F H F' H' : Hp} {σ : L2.St} {ρ ρ' : List Sl} {s s' : m.S}
theorem Rel.back (r : Rel K m F H σ ρ s) (r' : Rel K m F' H' σ ρ' s') (st : Stp m F H σ ρ s F' H' ρ' s') : Rel K m F H' σ ρ s' ∧ Stp m F H σ ρ s F H' ρ s' := by
  have keep : ∀ (i : Nat) o p ho, ρ[i]? = some (Sl.ow o) → σ[i]? = some (some (V.ref p)) → H p = some ho → H' p = some ho := fun i o p ho e h1 h2 => st.keep p ho h2 (r.owF i p ⟨⟨o, e⟩, h1⟩).2
  refine ⟨⟨fun b x e => r'.sub _ _ (st.ext _ _ e), r'.mem, fun a ha => ?_, r.len, r.sh, fun i o e => ?_, fun i p hp => ⟨(r.owF i p hp).1, fun z => ?_⟩, r.uq⟩, ⟨Same.refl F, st.keep, st.alive, fun a o h => .inl h, st.regf, fun _ _ h => h⟩⟩
  · cases q : F a with
    | none => rfl
    | some u =>
      have := r'.reg a ha
      rw [st.ext _ _ q] at this
      cases this
  · obtain ⟨p, ho, h1, h2, h3⟩ := r.ow i o e
    exact ⟨p, ho, h1, keep i o p ho e h1 h2, h3⟩
  · rcases st.regf p z with z | z
    · exact (r.owF i p hp).2 z
    · obtain ⟨⟨o, e⟩, hσ⟩ := hp
      obtain ⟨p', ho, h1, h2, h3⟩ := r.ow i o e
      rw [hσ] at h1; cases h1
      rw [z] at h2; cases h2
end
section
variable {X : Cx} {m : Mem} {e : Expr} {t : DTT m} {te : DT m}
def dBackT {m : Mem} (t : DTT m) : DTT m := fun ρ s Q => t ρ s fun b _ s1 => Q b ρ s1
theorem dt_back (h : PT X e (upT X.K m t)) : PT X e (upT X.K m (dBackT t)) := PT.imp h fun σ H Q h => by
  obtain ⟨F, ρ, s, Qd, r, ht, hQ⟩ := h
  exact ⟨F, ρ, s, _, r, ht, fun b ρ1 s1 F1 H1 q1 r1 st1 => by
    obtain ⟨r2, st2⟩ := r.back r1 st1
    exact hQ b ρ s1 F H1 q1 r2 st2⟩
end
end DL

set_option Elab.async false
set_option linter.all false
set_option maxRecDepth 100000
/-! EL7: fields and properties of instances that are data -/
namespace DL
open PySem PySem.Spec PyProof.Rows L2 TL
theorem fld_rep {K : PySem.W.Frag} {F : Hp} {f : Str} {d : D} : ∀ {fs : List (Str × V)} {ds : List D}, Reps K F ds (fs.map (·.2)) → ((fs.map (·.1)).zip ds).lookup f = some d → ∃ v, fs.lookup f = some v ∧ Rep K F d v
  | [], ds, h, e => by cases e
  | (g, x) :: fs, [], h, e => by cases e
  | (g, x) :: fs, y :: ds, ⟨v, r, e1, h1, h2⟩, e => by
    rw [List.map_cons] at e1
    injection e1 with e1 e2
    subst e1 e2
    rw [List.map_cons, List.zip_cons_cons, List.lookup_cons] at e
    rw [List.lookup_cons]
    cases q : f == g with
    | true => rw [q] at e; cases e; exact ⟨x, rfl, h1⟩
    | false => rw [q] at e; exact fld_rep h2 e
section
variable {X : Cx} {m : Mem} {e : Expr} {te : DT m} {pos : Pos}
/-- e.f, a field of an instance of C -/
def dFld {m : Mem} (C : Addr) (f : Str) (te : DT m) : DT m := fun ρ s Q => te ρ s fun x ρ1 s1 => ∃ ns ds d, x = .ins C ns ds ∧ (ns.zip ds).lookup f = some d ∧ Q d ρ1 s1
theorem de_fld {C : Addr} {f : Str} (cl : Cls X.K C) (na : NoAttr X.K C f) (he : PE X e (up X.K m te)) (hb : attributeBase e f X.env (eval e X.env) = eval e X.env := by rfl) : PE X (.Attribute e f pos) (up X.K m (dFld C f te)) :=
  PE.imp (pe_fld he hb) fun σ H Q h => by
    obtain ⟨F, ρ, s, Qd, r, ht, hQ⟩ := h
    refine ⟨F, ρ, s, _, r, ht, fun x ρ1 s1 v F1 H1 ⟨ns, ds, d, ex, el, q1⟩ r1 st1 rv => ?_⟩
    subst ex
    obtain ⟨a, dx, fs, rfl, h1, h2, h3⟩ := rv
    subst h2
    obtain ⟨w, hl, rw'⟩ := fld_rep h3 el
    exact ⟨a, C, dx, fs, w, rfl, r1.sub _ _ h1, cl, na, hl, hQ d ρ1 s1 w F1 H1 q1 r1 st1 rw'⟩
/-- a property read: its getter is called at the object -/
theorem pe_propG {C p g : Addr} {k : Nat} {f : Str} {fd : FuncData} {ps : List Str} {sp : Sp} {ta : TE} (he : PE X e ta) (c : Cls X.K C) (hp : PropOf X.K C f p g) (G : FnG X.prog X.w X.K X.mg X.base CX0 k g fd ps sp) (hr : RoomG (k + 1) X.A) (hb : Binds X.K fd ps [])
    (hab : attributeBase e f X.env (eval e X.env) = eval e X.env) : PE X (.Attribute e f pos) (tProp C sp [] E0 ta) := by
  refine ⟨fun pins s σ H Q I h => ?_⟩
  refine attr_of hab (thn (he.run pins s σ H _ I h) fun u s1 ⟨x, H1, I1, rx, a, dx, fs, ex, ea, q⟩ => ?_)
  subst ex
  obtain rfl : u = Value.ref a := rx
  obtain ⟨_, O, _⟩ := ins_get I1.hok ea
  obtain ⟨od, J, _⟩ := O.look
  obtain ⟨rest, hrec⟩ := hp.rec_
  have I2 := I1.tok (s1.toks + 1)
  have hl : ([Value.ref a] : List Value).length = ps.length := (G.len _ _ _ _ q).symm ▸ rfl
  have bd := hb _ [Value.ref a] I2.kIn hl
  have hc : (PySem.W.clsIn X.K C).isSome = true := by
    obtain ⟨cd, hc, _⟩ := PySem.W.any_some c.hd
    rw [hc]; rfl
  have pl := PySem.W.plainGet_of (c.get f)
  refine PySem.W.get_bind I1.kIn J pl.1 (PySem.W.findObj_data hc hp.at_ hp.get hp.tak) pl.2 (wpAny_call (PySem.W.prop_get (s := { s1 with toks := s1.toks + 1 }) I1.kIn hrec ?_))
  refine codeAny_mono (G.run X.A.in1 X.stack { s1 with toks := s1.toks + 1 } H1 ⟨[.ref a], []⟩ [.ref a] [.ref a] Q E0 hr.in1 I2.env0.in1 bd (.cons rfl .nil) q) fun r s' z => ?_
  rcases r with er | (_ | _ | _ | u)
  · exact z.elim
  · exact z.elim
  · exact z.elim
  · exact z.elim
  · obtain ⟨v, H', I3, rv, q3⟩ := I2.after z
    show wpAny _ _ (handedOut u) _ _ _
    rw [PySem.W.handedOut_of (handed_of rv)]
    exact wpAny_pure ⟨v, H', I3, rv, q3⟩
def dProp {m : Mem} (C : Addr) (sp : DSp m) (te : DT m) : DT m := fun ρ s Q => te ρ s fun x ρ1 s1 => (∃ ns ds, x = .ins C ns ds) ∧ sp [x] s1 fun d s' => Q d ρ1 s'
theorem de_prop {C p g : Addr} {k : Nat} {f : Str} {fd : FuncData} {ps : List Str} {sp : DSp m} (c : Cls X.K C) (hp : PropOf X.K C f p g) (G : FnG X.prog X.w X.K X.mg X.base CX0 k g fd ps (lift X.K m 1 sp)) (hr : RoomG (k + 1) X.A) (hb : Binds X.K fd ps []) (he : PE X e (up X.K m te))
    (hab : attributeBase e f X.env (eval e X.env) = eval e X.env := by rfl) : PE X (.Attribute e f pos) (up X.K m (dProp C sp te)) :=
  PE.imp (pe_propG he c hp G hr hb hab) fun σ H Q h => by
    obtain ⟨F, ρ, s, Qd, r, ht, hQ⟩ := h
    refine ⟨F, ρ, s, _, r, ht, fun x ρ1 s1 v F1 H1 ⟨⟨ns, ds, ex⟩, q1⟩ r1 st1 rv => ?_⟩
    subst ex
    have rv' := rv
    obtain ⟨a, dx, fs, rfl, h1, h2, h3⟩ := rv
    refine ⟨a, dx, fs, rfl, r1.sub _ _ h1, rfl, F1, [.ins C ns ds], s1, _, r1.sub, r1.mem, r1.reg, .one rv', q1, fun d s' w F2 H2 q2 c2 rw' => hQ d ρ1 s' w F2 H2 q2 (r1.call c2) (st1.trans c2.stp) rw'⟩
end
end DL

set_option Elab.async false
set_option linter.all false
set_option maxRecDepth 100000
/-! EL8: own operators and own comparisons of instances of one class, over data -/
namespace DL
open PySem PySem.Spec PyProof.Rows L2 TL
section
variable {X : Cx} {k : Nat} {C f : Addr} {fd : FuncData} {ps : List Str} {sp : Sp}
end
end DL
namespace DL
open PySem PySem.Spec PyProof.Rows L2 TL
section
variable {X : Cx} {m : Mem} {k : Nat} {C f : Addr} {fd : FuncData} {ps : List Str} {sp : DSp m} {a b : Expr} {ta tb : DT m} {pos : Pos}
end
end DL
namespace DL
open PySem PySem.Spec PyProof.Rows L2 TL
section
variable {X : Cx} {m : Mem} {k : Nat} {C f : Addr} {fd : FuncData} {ps : List Str} {sp : DSp m} {a b : Expr} {ta tb : DT m} {pos : Pos}
end
end DL

set_option Elab.async false
set_option linter.all false
set_option maxRecDepth 100000
/-! EL9: (*a, *b), f'..' over data -/
namespace DL
open PySem PySem.Spec PyProof.Rows L2 TL
section
variable {X : Cx} {m : Mem} {e : Expr} {es : List Expr} {te : DT m} {u : DTA m} {pos p : Pos}
/-- *e among the items of a display -/
def daStar {m : Mem} (te : DT m) (u : DTA m) : DTA m := fun ρ s Q => te ρ s fun d ρ1 s1 => ∃ xs, seqD d = some xs ∧ u ρ1 s1 fun ds ρ2 s2 => Q (xs ++ ds) ρ2 s2
theorem da_star (he : PE X e (up X.K m te)) (hr : PA X es (upA X.K m u)) (hs : starEach (.Starred e p :: es) X.env = (true, eval e X.env) :: starEach es X.env := by rfl) : PA X (.Starred e p :: es) (upA X.K m (daStar te u)) :=
  PA.imp (StX.pa_star he hr hs) fun σ H Q h => by
    obtain ⟨F, ρ, s, Qd, r, ht, hQ⟩ := h
    refine ⟨F, ρ, s, _, r, ht, fun d ρ1 s1 v F1 H1 ⟨xs, ed, q1⟩ r1 st1 rv => ?_⟩
    obtain ⟨a, ws, rfl, hsq, hl, rs⟩ := seq_at r1.sub rv ed
    exact ⟨a, ws, rfl, hsq.symm, F1, ρ1, s1, _, r1, q1, fun ds ρ2 s2 vs F2 H2 q2 r2 st2 rs2 => hQ (xs ++ ds) ρ2 s2 (ws ++ vs) F2 H2 q2 r2 (st1.trans st2) ((Reps.mono st2.ext _ _ rs).append rs2)⟩
end
end DL

set_option Elab.async false
set_option linter.all false
set_option maxRecDepth 100000
/-! EL10: an instance with an own ==, compared with data of a built-in type or with one of its class -/
namespace DL
open PySem PySem.Spec PyProof.Rows L2 TL
section
variable {X : Cx} {k : Nat} {C f : Addr} {fd : FuncData} {ps : List Str} {sp : Sp}
end
section
variable {X : Cx} {m : Mem} {k : Nat} {C f : Addr} {fd : FuncData} {ps : List Str} {sp : DSp m} {a b : Expr} {ta tb : DT m} {pos : Pos}
/-- no built-in type stands above the class -/
def NoFirst (K : PySem.W.Frag) (C : Addr) : Prop := ∀ t : Tg, PySem.W.notFirst K C (.type (tgS t)) = true
end
end DL

set_option Elab.async false
set_option linter.all false
set_option maxRecDepth 100000
/-! EL11: len(x) and v in x, x an instance whose class has them as defs -/
namespace DL
open PySem PySem.Spec PyProof.Rows L2 TL
section
variable {X : Cx} {k : Nat} {C f : Addr} {fd : FuncData} {ps : List Str} {sp : Sp}
end
section
variable {X : Cx} {m : Mem} {k : Nat} {C f : Addr} {fd : FuncData} {ps : List Str} {sp : DSp m} {a b e : Expr} {ta tb te : DT m} {pos p : Pos}
end
end DL

set_option Elab.async false
set_option linter.all false
set_option maxRecDepth 100000
/-! EL12: str(x) by an own __str__; isinstance(x, C), C an own class -/
namespace DL
open PySem PySem.Spec PyProof.Rows L2 TL
section
variable {X : Cx} {k : Nat} {C f : Addr} {fd : FuncData} {ps : List Str} {sp : Sp}
end
section
variable {X : Cx} {m : Mem} {k : Nat} {C f : Addr} {fd : FuncData} {ps : List Str} {sp : DSp m} {e : Expr} {te : DT m} {pos p : Pos}
end
end DL

set_option Elab.async false
set_option linter.all false
set_option maxRecDepth 100000
/-! EL13: x in t, t a tuple of plain data -/
namespace DL
open PySem PySem.Spec PyProof.Rows L2 TL
def rInTP (K : PySem.W.Frag) (neg : Bool) : R2 := fun x y H Q => ∃ d ds, Dp K H x d ∧ Dp K H y (.tuple ds) ∧ SeqAt.shaped d = true ∧ SeqAt.shaped (.tuple ds) = true ∧ Q (.bl (neg ^^ ds.any fun z => PyData.eqv z d)) H
section
variable {X : Cx}
theorem op_inTP (hu : X.A.units + 65 < cLine) : OpR X (compareOp .In) (rInTP X.K false) := by
  intro pins s σ H x y v u Q I rx ry h
  obtain ⟨d, ds, hd, he, sd, se, q⟩ := h
  obtain ⟨as, r1⟩ := Dp.reads I d x v hd rx
  obtain ⟨bs, r2⟩ := Dp.reads I (.tuple ds) y u he ry
  rw [Bool.false_xor] at q
  exact SeqAt.in_tuple_reads r2 r1 (SeqAt.canLay_of_shaped se) (SeqAt.canLay_of_shaped sd) (room_in_shaped sd hu) ⟨.bl _, H, I, rfl, q⟩
end
def inTD (neg : Bool) : D → D → (Bool → Prop) → Prop := fun x y Q => ∃ ys, y = .tup ys ∧ plainD 58 x = true ∧ plainDs 58 ys = true ∧ Q (neg ^^ ys.any fun y => eqD y x)
theorem o_inTP {K : PySem.W.Frag} {neg : Bool} : Cm2 K (rInTP K neg) (inTD neg) := by
  intro F H dx dy x y Qd Q sub rx ry h hQ
  obtain ⟨ys, rfl, p1, p2, q⟩ := h
  have q1 := plain_mono 58 60 dx (by omega) p1
  have q2 : plainD 60 (.tup ys) = true := by
    have := plain_monos 58 59 ys (by omega) p2
    simpa [plainD] using this
  exact ⟨toPy dx, toPys ys, rep_dp sub 60 dx x q1 rx, rep_dp sub 60 _ y q2 ry, shaped_of q1 rx, shaped_of q2 ry, by rw [any_eqv 58 58 dx p1 ys p2]; exact hQ _ F H q (Grow.refl sub)⟩
end DL

set_option Elab.async false
set_option linter.all false
set_option maxRecDepth 100000
/-! PS: sets whose items are tuples of texts: what `in` and `add` do (how the table lies is the library's, by the hashes alone) -/
namespace PS
open PySem PySem.Spec PyProof.Rows L2
section
variable {P : Program} {w : World} {A : Around} {E : Value → Shared → Prop} {s : Shared}
/-- at b stands a tuple of just these texts -/
abbrev Tt (P : Program) (w : World) (h : Heap) (xs : List Str) (b : Addr) : Prop := IsTupleKey (strKind P w) h xs b
def hT (w : World) (xs : List Str) : Int := reduceHash (Builtin.Tuple.tupleHashOf (xs.map (hashStr w)))
theorem texts_in : ∀ {xs : List Str} {vs : List Value}, ItemsAre (strKind P w) xs vs → ∀ v ∈ vs, ∃ y t, v = Value.str y t
  | _, _, .nil, v, hv => absurd hv List.not_mem_nil
  | _, _, .cons h1 h2, v, hv => by
    rcases List.mem_cons.mp hv with rfl | hv
    · obtain ⟨t, e⟩ := Value.isStrOf_shape h1
      exact ⟨_, t, e⟩
    · exact texts_in h2 v hv
theorem ownClass_no {xs : List Str} {b : Addr} {Q : Bool → Shared → Prop} (hb : Tt P w s.heap xs b) (q : Q false s) : wpAny (model P w) A (ofAClassStatement 8 (.ref b)) Q E s := by
  have isT := hb.typeIs
  obtain ⟨o, its, n, ho, _, hd, hi⟩ := hb
  unfold ofAClassStatement
  refine wpAny_bind (wpAny_typeOf isT ?_)
  simp only [show (("tuple" : String) == "tuple") = true by decide, if_true]
  refine wpAny_bind (wpAny_pure ?_)
  simp only [Bool.not_true, Bool.false_eq_true, if_false]
  show wpAny _ _ (seqItems? (.ref b) >>= _) _ _ s
  refine wpAny_bind (wpAny_seqItems ho hd ?_)
  dsimp only
  refine wpAny_bind ?_
  show wpAny _ _ (forIn its _ _) _ _ s
  rw [← Array.forIn_toList]
  refine wpAny_forIn_list _ (fun left r s' => (∀ v ∈ left, ∃ y t, v = Value.str y t) ∧ r.1 = none ∧ s' = s) _ (fun v left r s' z => ?_) (fun r s' z => ?_) _ _ ⟨texts_in hi, rfl, rfl⟩
  · obtain ⟨all, h1, h2⟩ := z
    obtain ⟨y, t, rfl⟩ := all v List.mem_cons_self
    rw [show ofAClassStatement 7 (Value.str y t) = pure false from rfl]
    refine wpAny_bind (wpAny_pure ?_)
    simp only [Bool.false_eq_true, if_false]
    exact wpAny_pure ⟨fun u hu => all u (List.mem_cons_of_mem _ hu), rfl, h2⟩
  · obtain ⟨r1, r2⟩ := r
    obtain ⟨_, h1, rfl⟩ := z
    cases h1
    exact wpAny_pure q
/-- the question whether the hash is told by the value has some answer -/
theorem hashQ {xs : List Str} {b : Addr} {Q : Bool → Shared → Prop} (hb : Tt P w s.heap xs b) (q : ∀ k, Q k s) : wpAny (model P w) A (hashByValue 8 (.ref b)) Q E s := by
  have isT := hb.typeIs
  obtain ⟨o, its, n, ho, _, hd, hi⟩ := hb
  unfold hashByValue
  refine wpAny_bind (wpAny_specialOf isT F.slot_tuple_hash.lookup ?_)
  show wpAny _ _ (seqItems? (.ref b) >>= _) _ _ s
  refine wpAny_bind (wpAny_seqItems ho hd (wpAny_bind ?_))
  show wpAny _ _ (forIn its _ _) _ _ s
  rw [← Array.forIn_toList]
  refine wpAny_forIn_list _ (fun left r s' => (∀ v ∈ left, ∃ y t, v = Value.str y t) ∧ s' = s) _ (fun v left r s' z => ?_) (fun r s' z => ?_) _ _ ⟨texts_in hi, rfl⟩
  · obtain ⟨all, h2⟩ := z
    obtain ⟨y, t, rfl⟩ := all v List.mem_cons_self
    rw [show hashByValue 7 (Value.str y t) = pure false from rfl]
    refine wpAny_bind (wpAny_pure ?_)
    simp only [Bool.not_false, if_true]
    subst h2
    exact wpAny_pure (wpAny_pure (q _))
  · obtain ⟨r1, r2⟩ := r
    obtain ⟨_, rfl⟩ := z
    cases r1 with
    | none => exact wpAny_pure (q _)
    | some k => exact wpAny_pure (q _)
/-- a search that meets tuples of texts alone is not seen -/
theorem unseen {xs : List Str} {b : Addr} {Q : Bool → Shared → Prop} {ys : List Value} (hb : Tt P w s.heap xs b) (hy : ∀ y ∈ ys, ∃ zs c, y = Value.ref c ∧ Tt P w s.heap zs c) (q : Q false s) :
    wpAny (model P w) A (searchCouldBeSeen (.ref b) ys) Q E s := by
  unfold searchCouldBeSeen
  refine wpAny_bind (wpAny_forIn_list _ (fun left r s' => (∀ y ∈ left, ∃ zs c, y = Value.ref c ∧ Tt P w s'.heap zs c) ∧ Tt P w s'.heap xs b ∧ r.1 = none ∧ s' = s) _ (fun v left r s' z => ?_) (fun r s' z => ?_) _ _ ⟨hy, hb, rfl, rfl⟩)
  · obtain ⟨all, hb', h1, h2⟩ := z
    obtain ⟨zs, c, rfl, hc⟩ := all v List.mem_cons_self
    have keep : (∀ y ∈ left, ∃ zs c, y = Value.ref c ∧ Tt P w s'.heap zs c) ∧ Tt P w s'.heap xs b ∧ r.1 = none ∧ s' = s := ⟨fun u hu => all u (List.mem_cons_of_mem _ hu), hb', h1, h2⟩
    dsimp only
    cases q0 : (b == c || (carriedByValue (.ref b) && carriedByValue (.ref c))) with
    | true => exact wp_if_pos rfl (wpAny_pure ⟨keep.1, keep.2.1, rfl, keep.2.2.2⟩)
    | false =>
      refine wp_if_neg (by decide) ?_
      refine wpAny_bind (wpAny_eqIsQuiet_tuple hb' ?_)
      refine wp_if_neg (by decide) (wpAny_bind (wpAny_eqIsQuiet_tuple hc ?_))
      refine wp_if_neg (by decide) (wpAny_bind (ownClass_no hb' ?_))
      refine wp_if_neg (by decide) (wpAny_bind (ownClass_no hc ?_))
      exact wp_if_neg (by decide) (wpAny_pure ⟨keep.1, keep.2.1, rfl, keep.2.2.2⟩)
  · obtain ⟨r1, r2⟩ := r
    obtain ⟨_, _, h1, rfl⟩ := z
    cases h1
    exact wpAny_pure q
/-! ### the set -/
def rows (w : World) (L : List (Addr × List Str)) : List (Int × Value) := L.map fun q => (hT w q.2, Value.ref q.1)
/-- at a stands the set with the tuples L, in the order in which they lie there -/
structure At (w : World) (h : Heap) (a : Addr) (L : List (Addr × List Str)) (es : Array (Int × Value)) (ep : Nat) (t : SetTable) : Prop where
  obj : ∃ o, h.get? a = some o ∧ o.ExactSet ∧ o.data = .set es ep t
  lies : es.toList = rows w L
  tab : TabOk t (L.map fun q => hT w q.2)
  once : (L.map (·.2)).Nodup
  room : L.length * 5 < t.mask * 3
variable {a : Addr} {L : List (Addr × List Str)} {es : Array (Int × Value)} {ep : Nat} {t : SetTable}
theorem rows_len {l : List (Int × Value)} (h : l = rows w L) : l.length = L.length := by rw [h]; exact List.length_map ..
theorem At.many (T : At w s.heap a L es ep t) : es.size = L.length := (Array.length_toList).symm.trans (rows_len T.lies)
theorem fits_by {n : Nat} (h1 : t.place.size = n) (h2 : t.dummies = #[]) (h3 : n ≤ t.mask) : t.fits n = true := by
  unfold SetTable.fits SetTable.fill
  rw [h2, h1, Bool.and_eq_true]
  exact ⟨beq_self_eq_true _, decide_eq_true (by show n + 0 ≤ t.mask; omega)⟩
theorem At.fit (T : At w s.heap a L es ep t) : t.fits es.size = true := by
  have h1 := T.tab.sz
  rw [List.length_map] at h1
  have h2 := T.room
  rw [T.many]
  exact fits_by h1 T.tab.dm (by omega)
theorem At.row (T : At w s.heap a L es ep t) {i : Nat} {q : Addr × List Str} (h : L[i]? = some q) : es[i]? = some (hT w q.2, Value.ref q.1) := by
  have e : (rows w L)[i]? = some (hT w q.2, Value.ref q.1) := by
    unfold rows
    rw [List.getElem?_map, h]; rfl
  rw [← T.lies, Array.getElem?_toList] at e
  exact e
abbrev prb (t : SetTable) (h : Int) (c : Nat) : SetTable.Probe := nth t.mask (runAt t.mask (SetTable.bits h % (t.mask + 1)) (SetTable.bits h)) c
theorem prb_dummy (m : Nat) : ∀ (n : Nat) (p : SetTable.Probe), p.dummy = none → (nth m p n).dummy = none
  | 0, _, h => h
  | n + 1, p, h => prb_dummy m n (adv m p) (by
      unfold adv
      split <;> exact h)
/-- the search, from its c-th step on -/
theorem look (add : Bool) (T : At w s.heap a L es ep t) (hL : ∀ q ∈ L, Tt P w s.heap q.2 q.1) {x : Addr} {xs : List Str} (hx : Tt P w s.heap xs x) (hu : A.units < cLine) {K : Nat} (hK1 : K < 10 * SetTable.turns t.mask)
    (hK2 : way t.mask (hT w xs) K ∉ t.place.toList) (hK3 : ∀ c, c < K → way t.mask (hT w xs) c ∈ t.place.toList) {Q : SetFound → Shared → Prop}
    (yes : ∀ i, xs ∈ L.map (·.2) → Q (.there (if add then none else some i)) s) (no : xs ∉ L.map (·.2) → Q (.free (way t.mask (hT w xs) K) false) s) :
    ∀ (f c : Nat) (st : Option SetTable.Probe), st.getD (t.probeStart (hT w xs)) = prb t (hT w xs) c → c ≤ K → K < f + c →
      (∀ (i : Nat) q, L[i]? = some q → q.2 = xs → ∃ c', c ≤ c' ∧ c' < K ∧ t.place.toList[i]? = some (way t.mask (hT w xs) c')) →
      wpAny (model P w) A (setSearchFrom a (.ref x) (hT w xs) add f st) Q E s := by
  intro f
  induction f with
  | zero => intro c st _ h1 h2 _; omega
  | succ f ih =>
    intro c st hst hcK hf ahead
    obtain ⟨o, ho, hex, hd⟩ := T.obj
    rw [setSearchFrom_succ]
    refine wpAny_bind (wpAny_setState_of ho hd T.fit (wp_if_neg ?_ ?_))
    · unfold SetTable.gaveWay
      rw [mask_odd T.tab.mok]; decide
    have step : ∀ k, nth t.mask (prb t (hT w xs) c) k = prb t (hT w xs) (c + k) := fun k => (nth_add t.mask c _ k).symm
    have stepj : ∀ k, (nth t.mask (prb t (hT w xs) c) k).j = way t.mask (hT w xs) (c + k) := fun k => congrArg SetTable.Probe.j (step k)
    have atRow : ∀ (i : Nat) q, L[i]? = some q → (es[i]?.map (·.1)).getD 0 = hT w q.2 := fun i q hq => by rw [T.row hq]; rfl
    rcases go_spec t T.tab.ris T.tab.dm (fun i => (es[i]?.map (·.1)).getD 0) (hT w xs) (10 * SetTable.turns t.mask) (K - c) (prb t (hT w xs) c) (prb_dummy _ _ _ rfl) (by omega)
      (fun k hk => by rw [stepj]; exact hK3 _ (by omega)) (by rw [stepj, show c + (K - c) = K by omega]; exact hK2) with ⟨k, i, hk, hi, hh, hbefore, hgo⟩ | ⟨hnone, hgo⟩
    · have found : t.probe (fun i => (es[i]?.map (·.1)).getD 0) (hT w xs) (st.getD (t.probeStart (hT w xs))) = some (.candidate (way t.mask (hT w xs) (c + k)) i (prb t (hT w xs) (c + (k + 1)))) := by
        rw [hst, ← stepj, ← step]; exact hgo
      rw [found]
      rw [stepj] at hi
      have iL : i < L.length := by
        have h1 := (List.getElem?_eq_some_iff.mp hi).1
        have h2 := T.tab.sz
        rw [List.length_map] at h2
        rw [Array.length_toList, h2] at h1; exact h1
      obtain ⟨q, hq⟩ : ∃ q, L[i]? = some q := ⟨_, List.getElem?_eq_getElem iL⟩
      have qL : q ∈ L := List.mem_of_getElem? hq
      have hsl : t.slot (way t.mask (hT w xs) (c + k)) = .live i := slot_live T.tab.ris hi
      have behind : wpAny (model P w) A (searchRest a (.ref x) (hT w xs) add f es t (way t.mask (hT w xs) (c + k)) i (prb t (hT w xs) (c + (k + 1)))) Q E s := by
        unfold searchRest
        rw [T.row hq]
        refine wpAny_bind (wpAny_holding (wpAny_eqBool_tuple hu (hL q qL) hx (wpAny_bind (wpAny_setState_of ho hd T.fit ?_))))
        by_cases same : q.2 = xs
        · have mem : xs ∈ L.map (·.2) := List.mem_map.mpr ⟨q, qL, same⟩
          rw [decide_eq_true same]
          cases add with
          | true => exact wp_if_pos rfl (wpAny_pure (yes i mem))
          | false =>
            refine wp_if_neg (by decide) ?_
            rw [sameMem]
            dsimp only
            simp only [if_true, hsl, T.row hq]
            exact wpAny_bind (wpAny_isSame_ref_self (wpAny_bind (wpAny_pure (wpAny_pure (yes i mem)))))
        · rw [decide_eq_false same]
          refine wp_if_neg (by cases add <;> decide) ?_
          rw [sameMem]
          dsimp only
          simp only [if_true, hsl, T.row hq]
          refine wpAny_bind (wpAny_isSame_ref_self (wpAny_bind (wpAny_pure (wp_if_neg (by decide) ?_))))
          refine ih (c + (k + 1)) _ rfl (by omega) (by omega) fun i0 q0 h0 e0 => ?_
          obtain ⟨c', h1, h2, h3⟩ := ahead i0 q0 h0 e0
          refine ⟨c', ?_, h2, h3⟩
          have n1 : ¬ c' < c + k := fun z => hbefore (c' - c) i0 (by omega) (by rw [stepj, show c + (c' - c) = c' by omega]; exact h3) ((atRow i0 q0 h0).trans (by rw [e0]))
          have n2 : c' ≠ c + k := fun z => by
            rw [z] at h3
            have s2 := slot_live T.tab.ris h3
            rw [hsl] at s2
            injection s2 with s2
            rw [← s2, hq] at h0
            exact same (by rw [Option.some.inj h0]; exact e0)
          omega
      by_cases led : t.led = true
      · exact wp_if_neg (by rw [led]; decide) behind
      · refine wp_if_pos (by rw [eq_false_of_ne_true led]; decide) (wpAny_bind (unseen hx (fun y hy => ?_) (wp_if_neg (by decide) behind)))
        obtain ⟨r, hr, rfl⟩ := List.mem_map.mp hy
        have hr' : r ∈ es.toList := by
          have z : r ∈ es ∧ r.1 = hT w xs := by simpa using hr
          simpa using z.1
        rw [T.lies] at hr'
        obtain ⟨q', hq', rfl⟩ := List.mem_map.mp hr'
        exact ⟨q'.2, q'.1, rfl, hL q' hq'⟩
    · have found : t.probe (fun i => (es[i]?.map (·.1)).getD 0) (hT w xs) (st.getD (t.probeStart (hT w xs))) = some (.empty (way t.mask (hT w xs) K) none) := by
        have e : way t.mask (hT w xs) K = (nth t.mask (prb t (hT w xs) c) (K - c)).j := by rw [stepj, show c + (K - c) = K by omega]
        rw [hst, e]; exact hgo
      rw [found]
      refine wpAny_pure (no fun mem => ?_)
      obtain ⟨q, qL, e⟩ := List.mem_map.mp mem
      obtain ⟨i, hi, e2⟩ := List.getElem_of_mem qL
      have hq : L[i]? = some q := by rw [List.getElem?_eq_getElem hi, e2]
      obtain ⟨c', h1, h2, h3⟩ := ahead i q hq e
      exact hnone (c' - c) i (by omega) (by rw [stepj, show c + (c' - c) = c' by omega]; exact h3) ((atRow i q hq).trans (by rw [e]))
theorem find_at (add : Bool) (T : At w s.heap a L es ep t) (hL : ∀ q ∈ L, Tt P w s.heap q.2 q.1) {x : Addr} {xs : List Str} (hx : Tt P w s.heap xs x) (hu : A.units < cLine) {Q : SetFound → Shared → Prop}
    (yes : ∀ i, xs ∈ L.map (·.2) → Q (.there (if add then none else some i)) s)
    (no : ∀ K, xs ∉ L.map (·.2) → way t.mask (hT w xs) K ∉ t.place.toList → (∀ c, c < K → way t.mask (hT w xs) c ∈ t.place.toList) → Q (.free (way t.mask (hT w xs) K) false) s) :
    wpAny (model P w) A (setSearch a (.ref x) (hT w xs) add) Q E s := by
  have hr := T.room
  obtain ⟨K, h1, h2, h3⟩ := T.tab.first (by rw [List.length_map]; omega) (hT w xs)
  have small : K < 100000 := by
    have : SetTable.turns t.mask ≤ 142 := by
      unfold SetTable.turns
      rcases T.tab.mok with e | e | e <;> omega
    omega
  unfold setSearch
  refine look add T hL hx hu h1 h2 h3 yes (fun n => no K n h2 h3) 100000 0 none rfl (Nat.zero_le _) (by omega) fun i q hq e => ?_
  have hh : (L.map fun q => hT w q.2)[i]? = some (hT w xs) := by rw [List.getElem?_map, hq, ← e]; rfl
  have hlt : i < t.place.toList.length := by
    have z := T.tab.sz
    rw [List.length_map] at z
    rw [Array.length_toList, z]
    exact (List.getElem?_eq_some_iff.mp hq).1
  have hj := List.getElem?_eq_getElem hlt
  obtain ⟨c, c1, c2⟩ := T.tab.before h2 hh hj
  exact ⟨c, Nat.zero_le _, c1, by rw [hj, c2]⟩
theorem find_plain (T : At w s.heap a L es ep t) (hL : ∀ q ∈ L, Tt P w s.heap q.2 q.1) {x : Addr} {xs : List Str} (hx : Tt P w s.heap xs x) (hu : A.units < cLine) {Q : Option Nat → Shared → Prop} (q : ∀ r : Option Nat, r.isSome = decide (xs ∈ L.map (·.2)) → Q r s) :
    wpAny (model P w) A (setFind a (.ref x) (hT w xs)) Q E s := by
  obtain ⟨o, ho, hex, hd⟩ := T.obj
  unfold setFind
  rw [show (100000 : Nat) = 99999 + 1 from rfl]
  unfold setFindIn
  refine wpAny_bind (wpAny_setState_of ho hd T.fit (wp_if_neg (by simp [byScan, Value.scannable]) ?_))
  refine wpAny_bind (find_at false T hL hx hu (fun i m => ?_) fun K n _ _ => ?_)
  · exact wpAny_pure (q _ (by rw [decide_eq_true m]; rfl))
  · exact wpAny_pure (q _ (by rw [decide_eq_false n]; rfl))
theorem range_get : ∀ (L : List (Addr × List Str)) (n : Nat), n ≤ L.length → (List.range n).filterMap (fun i => L[i]?) = L.take n
  | _, 0, _ => by rw [List.take_zero]; rfl
  | L, n + 1, h => by
    rw [List.range_succ, List.filterMap_append, range_get L n (by omega), List.filterMap_cons, List.getElem?_eq_getElem (show n < L.length by omega), List.take_add_one, List.getElem?_eq_getElem (show n < L.length by omega)]
    rfl
/-- the rows in another order -/
theorem reorder {es : Array (Int × Value)} {order : Array Nat} (h : es.toList = rows w L) (hp : order.toList.Perm (List.range L.length)) :
    ∃ L2, (order.filterMap (es[·]?)).toList = rows w L2 ∧ L2.Perm L ∧ (L2.map fun q => hT w q.2) = order.toList.map fun i => (es.map (·.1)).getD i 0 := by
  have at_ : ∀ i : Nat, es[i]? = L[i]?.map fun q => (hT w q.2, Value.ref q.1) := fun i => by
    rw [← Array.getElem?_toList, h]
    unfold rows
    rw [List.getElem?_map]
  have inn : ∀ i ∈ order.toList, i < L.length := fun i hi => List.mem_range.mp (hp.mem_iff.mp hi)
  have whole : (List.range L.length).filterMap (fun i => L[i]?) = L := by rw [range_get L L.length (Nat.le_refl _), List.take_length]
  refine ⟨order.toList.filterMap fun i => L[i]?, ?_, ?_, ?_⟩
  · rw [Array.toList_filterMap]
    unfold rows
    rw [List.map_filterMap]
    exact congrFun (congrArg List.filterMap (funext at_)) _
  · have z := hp.filterMap fun i => L[i]?
    rw [whole] at z; exact z
  · have key : ∀ l : List Nat, (∀ i ∈ l, i < L.length) → (l.filterMap fun i => L[i]?).map (fun q => hT w q.2) = l.map fun i => (es.map (·.1)).getD i 0 := by
      intro l
      induction l with
      | nil => intro _; rfl
      | cons i l ih =>
        intro hl
        have hi := hl i List.mem_cons_self
        have e1 : (es.map (·.1))[i]? = some (hT w (L[i]).2) := by rw [Array.getElem?_map, at_ i, List.getElem?_eq_getElem hi]; rfl
        rw [List.filterMap_cons_some (List.getElem?_eq_getElem hi), List.map_cons, List.map_cons, ih fun j hj => hl j (List.mem_cons_of_mem _ hj)]
        simp [Array.getD_eq_getD_getElem?, e1]
    exact key _ inn
/-- more room -/
theorem widen {o : Obj} (ho : s.heap.get? a = some o) (hex : o.ExactSet) (hd : o.data = .set es ep t) (lies : es.toList = rows w L) (hsz : t.place.size = es.size) (hdm : t.dummies = #[]) (hle : es.size ≤ t.mask) (once : (L.map (·.2)).Nodup) {wanted M : Nat}
    (hM : SetTable.sizeAbove wanted - 1 = M) (mok : MaskOk M) (h128 : SetTable.sizeAbove wanted ≤ 128) (room : L.length * 5 < M * 3) {Q : Unit → Shared → Prop}
    (q : ∀ h' L' es' ep' t', Heap.SameBut a s.heap h' → At w h' a L' es' ep' t' → L'.Perm L → Q () { s with heap := h' }) : wpAny (model P w) A (setRelay a wanted) Q E s := by
  have many : es.size = L.length := (Array.length_toList).symm.trans (rows_len lies)
  obtain ⟨t', order, e, hp, T, em, _, _, _⟩ := relaid_ok t (hs := es.map (·.1)) hM mok (by rw [Array.size_map, many]; omega)
  rw [Array.size_map, many] at hp
  obtain ⟨L2, r1, r2, r3⟩ := reorder lies hp
  rw [← r3] at T
  have many2 : (order.filterMap (es[·]?)).size = es.size := by
    rw [many, ← r2.length_eq]
    exact (Array.length_toList).symm.trans (rows_len r1)
  rw [setRelay_eq]
  refine wpAny_bind (wpAny_setState_of ho hd (fits_by hsz hdm hle) (wp_if_neg (by rw [sizeLine_eq]; omega) ?_))
  rw [e]
  refine wpAny_bind (wp_if_neg (by rw [many2]; simp) (wpAny_pure ?_))
  refine wpAny_storeSet_of ho hd ?_ (by rw [many2, many, sizeLine_eq]; omega)
  have sb : Heap.SameBut a s.heap (s.heap.update a (Obj.putSet (order.filterMap (es[·]?)) t')) := Heap.SameBut.update ..
  exact q _ L2 _ (ep + 1) t' sb ⟨⟨_, store_at ho hd, ⟨hex.1, hex.2.1, hex.2.2⟩, rfl⟩, r1, T, (r2.map (·.2)).nodup_iff.mpr once, by rw [r2.length_eq, em]; exact room⟩ r2
theorem tab_dull {hs : List Int} (T : TabOk t hs) (b : Bool) : TabOk (if b = true then t else { t with plain := false }) hs := by
  cases b with
  | true => exact T
  | false => exact ⟨T.ris, T.dm, T.sz, T.mok, T.bd, T.reach⟩
theorem dull_mask (b : Bool) : (if b = true then t else { t with plain := false }).mask = t.mask ∧ (if b = true then t else { t with plain := false }).fill = t.fill := by cases b <;> exact ⟨rfl, rfl⟩
/-- one put in -/
theorem add_to (T : At w s.heap a L es ep t) (hL : ∀ q ∈ L, Tt P w s.heap q.2 q.1) {x : Addr} {xs : List Str} (hx : Tt P w s.heap xs x) (hu : A.units < cLine) (few : L.length < 76) {Q : Bool → Shared → Prop}
    (q : ∀ b h' L' es' ep' t', Heap.SameBut a s.heap h' → At w h' a L' es' ep' t' → (xs ∈ L.map (·.2) → L' = L) → (xs ∉ L.map (·.2) → L'.Perm ((x, xs) :: L)) → Q b { s with heap := h' }) :
    wpAny (model P w) A (setAddHashed a (.ref x) (hT w xs)) Q E s := by
  obtain ⟨o, ho, hex, hd⟩ := T.obj
  have many := T.many
  have room := T.room
  unfold setAddHashed
  refine wpAny_holding ?_
  rw [show (100000 : Nat) = 99999 + 1 from rfl, setAddHashedIn_succ]
  refine wpAny_bind (wpAny_setState_of ho hd T.fit (wp_if_neg (by simp [byScan, Value.scannable]) ?_))
  refine wpAny_bind (find_at true T hL hx hu (fun i m => ?_) fun K out hK hb => ?_)
  · exact wpAny_pure (q false s.heap L es ep t (Heap.SameBut.refl a s.heap) T (fun _ => rfl) fun z => absurd m z)
  · refine wpAny_bind (wpAny_setState_of ho hd T.fit ?_)
    obtain ⟨p1, p2, p3, p4, _, _, _, _, p9⟩ := T.tab.put hK hb
    generalize way t.mask (hT w xs) K = j at p1 p2 p3 p4 p9 hK ⊢
    dsimp only
    generalize t.put j = pt at p1 p3 p4 p9 ⊢
    obtain ⟨t1, pos⟩ := pt
    dsimp only at p1 p3 p4 p9 ⊢
    subst p1
    generalize SetTable.below t.place j = pos at p2 p3 ⊢
    have behind : ∀ b : Bool, wpAny (model P w) A (do
        storeSet a (SetTable.insertAt es pos (hT w xs, Value.ref x)) (if b = true then t1 else { t1 with plain := false })
        if (!false && (if b = true then t1 else { t1 with plain := false }).tooFull) = true then setRelay a (SetTable.grown (es.size + 1))
        return true) Q E s := fun b => by
      have T1 := tab_dull p3 b
      obtain ⟨m1, m2⟩ := dull_mask (t := t1) b
      generalize (if b = true then t1 else { t1 with plain := false }) = t2 at T1 m1 m2 ⊢
      have lies1 : (SetTable.insertAt es pos (hT w xs, Value.ref x)).toList = rows w (L.take pos ++ (x, xs) :: L.drop pos) := by
        rw [SetTable.toList_insertAt, T.lies]
        unfold rows
        rw [List.map_append, List.map_cons, List.map_take, List.map_drop]
      have pm : (L.take pos ++ (x, xs) :: L.drop pos).Perm ((x, xs) :: L) := put_perm L pos (x, xs)
      have hs1 : (L.take pos ++ (x, xs) :: L.drop pos).map (fun q => hT w q.2) = (L.map fun q => hT w q.2).take pos ++ hT w xs :: (L.map fun q => hT w q.2).drop pos := by
        rw [List.map_append, List.map_cons, List.map_take, List.map_drop]
      rw [← hs1] at T1
      generalize L.take pos ++ (x, xs) :: L.drop pos = L1 at lies1 pm T1
      generalize SetTable.insertAt es pos (hT w xs, Value.ref x) = es1 at lies1 ⊢
      have len1 : L1.length = L.length + 1 := pm.length_eq
      have many1 : es1.size = L.length + 1 := ((Array.length_toList).symm.trans (rows_len lies1)).trans len1
      have once1 : (L1.map (·.2)).Nodup := (pm.map (·.2)).nodup_iff.mpr (List.nodup_cons.mpr ⟨out, T.once⟩)
      refine wpAny_bind (wpAny_storeSet_of ho hd ?_ (by rw [many1, sizeLine_eq]; omega))
      have sb : Heap.SameBut a s.heap (s.heap.update a (Obj.putSet es1 t2)) := Heap.SameBut.update ..
      have ho1 := store_at (es' := es1) (t' := t2) ho hd
      generalize s.heap.update a (Obj.putSet es1 t2) = h1 at sb ho1 ⊢
      have ex1 : Obj.ExactSet { o with data := .set es1 (ep + 1) t2 } := ⟨hex.1, hex.2.1, hex.2.2⟩
      have fill : t2.fill = L.length + 1 := by rw [m2, p9, List.length_map]
      by_cases hf : t2.tooFull = true
      · have full : (L.length + 1) * 5 ≥ t.mask * 3 := by
          have z := hf
          unfold SetTable.tooFull at z
          rw [decide_eq_true_eq, fill, m1, p4] at z; exact z
        refine wp_if_pos (by rw [hf]; decide) (wpAny_bind ?_)
        rw [many]
        have which : (t.mask = 7 ∧ L.length = 4) ∨ (t.mask = 31 ∧ L.length = 18) := by
          rcases T.tab.mok with e | e | e <;> rw [e] at full room
          · exact .inl ⟨e, by omega⟩
          · exact .inr ⟨e, by omega⟩
          · omega
        have go : ∀ M, SetTable.sizeAbove (SetTable.grown (L.length + 1)) - 1 = M → MaskOk M → SetTable.sizeAbove (SetTable.grown (L.length + 1)) ≤ 128 → (L.length + 1) * 5 < M * 3 →
            wpAny (model P w) A (setRelay a (SetTable.grown (L.length + 1))) (fun _ s' => wpAny (model P w) A (pure true) Q E s') E { s with heap := h1 } := fun M g1 g2 g3 g4 => by
          refine widen (s := { s with heap := h1 }) (L := L1) ho1 ex1 rfl lies1 ?_ T1.dm ?_ once1 g1 g2 g3 (by rw [len1]; exact g4) fun h2 L2 es2 ep2 t3 sb2 R2 pm2 => ?_
          · have z := T1.sz
            rw [List.length_map, len1] at z
            rw [z, many1]
          · rw [many1, m1, p4]
            rcases which with ⟨e, e2⟩ | ⟨e, e2⟩ <;> omega
          · exact wpAny_pure (q true h2 L2 es2 ep2 t3 (sb.trans sb2) R2 (fun z => absurd z out) fun _ => pm2.trans pm)
        rcases which with ⟨_, e2⟩ | ⟨_, e2⟩
        · exact go 31 (by rw [e2, size_20]) (.inr (.inl rfl)) (by rw [e2, size_20]; decide) (by omega)
        · exact go 127 (by rw [e2, size_76]) (.inr (.inr rfl)) (by rw [e2, size_76]; decide) (by omega)
      · refine wp_if_neg (by rw [eq_false_of_ne_true hf]; decide) (wpAny_pure (q true h1 L1 es1 (ep + 1) t2 sb ⟨⟨_, ho1, ex1, rfl⟩, lies1, T1, once1, ?_⟩ (fun z => absurd z out) fun _ => pm))
        have z := hf
        unfold SetTable.tooFull at z
        rw [decide_eq_true_eq, fill, m1, p4] at z
        rw [len1, m1, p4]; omega
    by_cases hp : t1.plain = true
    · refine wp_if_pos hp (wpAny_bind (hashQ hx fun b => behind b))
    · exact wp_if_neg hp (behind true)
end
end PS

set_option Elab.async false
set_option linter.all false
set_option maxRecDepth 100000
/-! TX: sets of texts that can be walked; the orders of texts and of pairs of texts -/
namespace TX
open PySem PySem.Spec PyProof.Rows L2 PySem.Froz
/-- at a stands a set with just the texts xs -/
def Tset (w : World) (h : Heap) (a : Addr) (xs : List Str) : Prop :=
  ∃ D : SD, h.get? a = some (sObj "set" D) ∧ (∀ P, TxOk P w D xs) ∧ xs.Nodup ∧ Ris D.2.2.place.toList ∧ (w.params.followText "set-order" = true ∨ D.2.2.led = true)
theorem Tset.keep {w : World} {h h' : Heap} {a : Addr} {xs : List Str} (R : Tset w h a xs) (k : ∀ o, h.get? a = some o → h'.get? a = some o) : Tset w h' a xs := by
  obtain ⟨D, e, r⟩ := R
  exact ⟨D, k _ e, r⟩
theorem Tset.setOf {P : Program} {w : World} {h : Heap} {a : Addr} {xs : List Str} (R : Tset w h a xs) (room : xs.length < scanBound) : h.SetOf (strKind P w) a (fun k => decide (k ∈ xs)) xs.length := by
  obtain ⟨D, e, T, _⟩ := R
  obtain ⟨el, mem, sz, fit⟩ := T P
  exact ⟨_, _, _, _, e, ⟨rfl, rfl, rfl⟩, rfl, el, fun k => (decide_eq_true_iff).trans (mem k), by rw [sz]; exact room, fit, sz⟩
section
variable {P : Program} {w : World} {A : Around} {E : Value → Shared → Prop} {s : Shared} {a : Addr} {xs : List Str}
theorem add_ris {h : Int} {v : Value} {D : SD} (r : Ris D.2.2.place.toList) : Ris (addTx h v D).2.2.place.toList ∧ (addTx h v D).2.2.led = D.2.2.led := by
  obtain ⟨es, ep, t⟩ := D
  have r1 := layNew_ris t es h v r
  have l1 := layNew_led t es h v
  unfold addTx
  dsimp only at r1 l1 ⊢
  have both : Ris (if (layNew t es h v).2.1.plain = true then { (layNew t es h v).2.1 with plain := false } else (layNew t es h v).2.1).place.toList ∧ (if (layNew t es h v).2.1.plain = true then { (layNew t es h v).2.1 with plain := false } else (layNew t es h v).2.1).led = t.led := by
    by_cases c : (layNew t es h v).2.1.plain = true
    · rw [if_pos c]; exact ⟨r1, l1⟩
    · rw [if_neg c]; exact ⟨r1, l1⟩
  generalize (if (layNew t es h v).2.1.plain = true then { (layNew t es h v).2.1 with plain := false } else (layNew t es h v).2.1) = t2 at both ⊢
  unfold tailTx
  by_cases c : (!(layNew t es h v).2.2.1 && t2.tooFull) = true
  · rw [if_pos c]
    exact ⟨relayAll_ris _ _ _, (relayAll_led _ _ _).trans both.2⟩
  · rw [if_neg c]; exact both
/-- what is there already is not put in again -/
theorem there_tx {k : Str} {u : Tok} {Q : Bool → Shared → Prop} (R : Tset w s.heap a xs) (hk : k ∈ xs) (room : xs.length < scanBound) (q : Q false s) : wpAny (model P w) A (setAddHashed a (.str k u) (hashStr w k)) Q E s := by
  obtain ⟨⟨es, ep, t⟩, e, T, _⟩ := R
  obtain ⟨el, mem, sz, fit⟩ := T P
  have hd : (sObj "set" (es, ep, t)).data = .set es ep t := rfl
  unfold setAddHashed setAddHashedIn
  refine wpAny_holding (wpAny_bind (wpAny_setState_of e hd fit ?_))
  dsimp only at el mem sz fit ⊢
  rw [byScan_of (knd := strKind P w) rfl (by rw [sz]; exact room) el]
  refine wp_if_pos rfl ?_
  unfold setAddByScan
  refine wpAny_bind (wpAny_bind (wpAny_rule (wpAny_bind (wpAny_setScan_of (knd := strKind P w) (k := k) (is_str k u) e hd fit el ?_))))
  cases hf : List.findIdx? (fun e => (strKind P w).is k e.2) es.toList with
  | none =>
    obtain ⟨e0, h0, i0⟩ := (mem k).mp hk
    have z := List.findIdx?_eq_none_iff.mp hf e0 h0
    rw [i0] at z
    cases z
  | some j => exact wpAny_pure (wpAny_pure q)
theorem add_tx {k : Str} {u : Tok} {Q : Value → Shared → Prop} (R : Tset w s.heap a xs) (room : xs.length + 1 < scanBound)
    (q : ∀ h', Heap.SameBut a s.heap h' → Tset w h' a (if k ∈ xs then xs else k :: xs) → Q .none { s with heap := h', toks := s.toks + 1 }) : wpAny (model P w) A (call (.builtin "set.add") [.ref a, .str k u]) Q E s := by
  have S := R.setOf (P := P) (Nat.lt_of_succ_lt room)
  refine wpAny_call_entry F.slot_set_add S.typeIs F.entry_set_add ?_ (F.args_set_add_2 _ _)
  unfold Builtin.«set.add» Builtin.Frozenset.oneOther
  simp only [List.isEmpty_nil, bind_assoc]
  unfold Builtin.Frozenset.addrOf setAdd
  refine wpAny_bind (wpAny_pure (wpAny_bind (wpAny_pure (wpAny_bind (wpAny_holding (wpAny_bind ((strKind P w).pyHash (is_str (P := P) (w := w) k u) ?_)))))))
  have R1 : Tset w { s with toks := s.toks + 1 }.heap a xs := R
  by_cases hk : k ∈ xs
  · rw [if_pos hk] at q
    refine there_tx (s := { s with toks := s.toks + 1 }) R1 hk (Nat.lt_of_succ_lt room) ?_
    exact wpAny_pure ⟨_, rfl, q _ (Heap.SameBut.refl a s.heap) R⟩
  · rw [if_neg hk] at q
    obtain ⟨D, e, T, nd, ri, le⟩ := R
    refine add_x (s := { s with toks := s.toks + 1 }) (l := xs) (D := D) (T := "set") e (T P) hk room ?_
    have z := add_ris (h := hashStr w k) (v := .str k u) ri
    refine wpAny_pure ⟨_, rfl, q _ (Heap.SameBut.update ..) ⟨addTx (hashStr w k) (.str k u) D, get_upd _ e rfl, fun P' => add_ok u (T P'), List.nodup_cons.mpr ⟨hk, nd⟩, z.1, le.imp id fun y => z.2.trans y⟩⟩
theorem tset_new (h : Heap) : Tset w (h.push { cls := .type "set", dict := none, data := .set #[] 0 (.fresh 0 0 (!w.params.followText "set-order")) }) h.objs.size [] :=
  ⟨(#[], 0, .fresh 0 0 (!w.params.followText "set-order")), Heap.get?_push_size _ rfl, fun P => TxOk.nil rfl, List.nodup_nil, List.Pairwise.nil, by
    cases w.params.followText "set-order" with
    | true => exact .inl rfl
    | false => exact .inr rfl⟩
end
end TX

set_option Elab.async false
set_option linter.all false
set_option maxRecDepth 100000
/-! TO: the orders of texts and of pairs of texts, what sorting by them gives -/
namespace TO
open PySem PySem.Spec PyProof.Rows L2
/-! ### total orders -/
structure Lin {α : Type} (lt : α → α → Bool) : Prop where
  irr : ∀ x, lt x x = false
  tr : ∀ x y z, lt x y = true → lt y z = true → lt x z = true
  tri : ∀ x y, lt x y = false → lt y x = false → x = y
section
variable {α : Type} {lt : α → α → Bool}
theorem Lin.asym (L : Lin lt) {x y : α} (h : lt x y = true) : lt y x = false := by
  cases q : lt y x with
  | false => rfl
  | true => rw [← L.irr x, L.tr x y x h q]
theorem Lin.swo (L : Lin lt) : SrtO.Swo lt := ⟨fun x y h => L.asym h, fun x y z h1 h2 => by
  cases q : lt z x with
  | false => rfl
  | true =>
    cases q2 : lt x y with
    | true => rw [← h2, L.tr z x y q q2]
    | false =>
      have e := L.tri x y q2 h1
      rw [e] at q
      rw [← h2, q]⟩
/-- sorted by lt -/
def srt (lt : α → α → Bool) (l : List α) : List α := l.mergeSort fun a b => !lt b a
theorem srt_perm (l : List α) : (srt lt l).Perm l := List.mergeSort_perm ..
theorem srt_pw (L : Lin lt) (l : List α) : (srt lt l).Pairwise fun a b => lt b a = false := by
  refine List.Pairwise.imp (fun {a b} h => by simpa using h) (List.pairwise_mergeSort (le := fun a b => !lt b a) (fun a b c h1 h2 => ?_) (fun a b => ?_) l)
  · have := L.swo.tr a b c (by simpa using h1) (by simpa using h2)
    simpa using this
  · cases q : lt a b with
    | true => simp [L.asym q]
    | false => simp
theorem srt_eq (L : Lin lt) {out l : List α} (p : out.Perm l) (s : out.Pairwise fun a b => lt b a = false) : out = srt lt l :=
  List.Perm.eq_of_pairwise (le := fun a b => lt b a = false) (fun a b _ _ h1 h2 => L.tri a b h2 h1) s (srt_pw L l) (p.trans (srt_perm l).symm)
theorem srt_congr (L : Lin lt) {l m : List α} (p : l.Perm m) : srt lt l = srt lt m := srt_eq L ((srt_perm l).trans p) (srt_pw L l)
theorem srt_strict (L : Lin lt) {l : List α} (h : l.Nodup) : (srt lt l).Pairwise fun a b => lt a b = true := by
  have nd : (srt lt l).Nodup := (srt_perm l).nodup_iff.mpr h
  refine List.Pairwise.imp₂ (fun {a b} h1 h2 => ?_) (srt_pw L l) nd
  cases q : lt a b with
  | true => rfl
  | false => exact absurd (L.tri a b q h1) h2
theorem srt_mem {l : List α} {x : α} : x ∈ srt lt l ↔ x ∈ l := (srt_perm l).mem_iff
theorem srt_len (l : List α) : (srt lt l).length = l.length := (srt_perm l).length_eq
/-- first by the first -/
def lexP (lt : α → α → Bool) [DecidableEq α] (p q : α × α) : Bool := if p.1 = q.1 then lt p.2 q.2 else lt p.1 q.1
theorem Lin.lex [DecidableEq α] (L : Lin lt) : Lin (lexP lt) := by
  refine ⟨fun x => ?_, fun x y z h1 h2 => ?_, fun x y h1 h2 => ?_⟩
  · unfold lexP
    rw [if_pos rfl]; exact L.irr _
  · unfold lexP at h1 h2 ⊢
    by_cases e1 : x.1 = y.1
    · rw [if_pos e1] at h1
      by_cases e2 : y.1 = z.1
      · rw [if_pos e2] at h2
        rw [if_pos (e1.trans e2)]; exact L.tr _ _ _ h1 h2
      · rw [if_neg e2] at h2
        rw [if_neg (by rw [e1]; exact e2), e1]; exact h2
    · rw [if_neg e1] at h1
      by_cases e2 : y.1 = z.1
      · rw [if_pos e2] at h2
        rw [← e2, if_neg e1]; exact h1
      · rw [if_neg e2] at h2
        have z1 := L.tr _ _ _ h1 h2
        rw [if_neg fun e => by rw [e, L.irr] at z1; cases z1]; exact z1
  · unfold lexP at h1 h2
    by_cases e1 : x.1 = y.1
    · rw [if_pos e1] at h1
      rw [if_pos e1.symm] at h2
      exact Prod.ext e1 (L.tri _ _ h1 h2)
    · rw [if_neg e1] at h1
      rw [if_neg fun e => e1 e.symm] at h2
      exact absurd (L.tri _ _ h1 h2) e1
end
/-! ### texts, pairs of texts -/
def lessS (a b : Str) : Bool := decide (a.cps.toList < b.cps.toList)
theorem linS : Lin lessS := by
  refine ⟨fun x => ?_, fun x y z h1 h2 => ?_, fun x y h1 h2 => ?_⟩
  · exact decide_eq_false (List.lt_irrefl _)
  · exact decide_eq_true (List.lt_trans (of_decide_eq_true h1) (of_decide_eq_true h2))
  · have e := List.le_antisymm (List.not_lt.mp (of_decide_eq_false h2)) (List.not_lt.mp (of_decide_eq_false h1))
    cases x; cases y
    exact congrArg Str.mk (Array.toList_inj.mp e)
abbrev lessP : Str × Str → Str × Str → Bool := lexP lessS
theorem linP : Lin lessP := linS.lex
def sv : Value → Str
  | .str x _ => x
  | _ => Str.empty
section
variable {P : Program} {w : World} {A : Around} {E : Value → Shared → Prop} {s : Shared}
theorem swo_by {α β : Type} {lt : α → α → Bool} (L : Lin lt) (f : β → α) : SrtO.Swo fun v u => lt (f v) (f u) := ⟨fun x y => L.swo.asym _ _, fun x y z => L.swo.tr _ _ _⟩
theorem text_cmp {vs : List Value} {xs : List Str} (h : StrsAre vs xs) : SrtO.Cmp P w A s oneType' (fun p => p.1 ∈ vs) (SrtO.lt2 fun v u => lessS (sv v) (sv u)) := by
  intro p q hp hq
  obtain ⟨x, t, e⟩ := h.all _ hp
  obtain ⟨y, u, e'⟩ := h.all _ hq
  show wpAny (model P w) A (keyLt' oneType' p.1 q.1) (fun r s' => s' = s ∧ r = lessS (sv p.1) (sv q.1)) (fun _ _ => False) s
  rw [e, e', keyLt'_oneType]
  exact oneLt_str ⟨rfl, rfl⟩
theorem texts_sortable {a : Addr} {vs : List Value} {xs : List Str} (h : StrsAre vs xs) (h2 : 2 ≤ vs.length) : SrtO.SortableO P w A s a vs fun v u => lessS (sv v) (sv u) := by
  intro h' _
  refine ⟨oneType', fun Q E q => ?_, text_cmp h⟩
  match vs, h, h2 with
  | v1 :: v2 :: r, h, _ => rw [keyKind_strs h]; exact wpAny_pure q
/-- v is the tuple of two texts -/
def Pr (h : Heap) (v : Value) (p : Str × Str) : Prop := ∃ a o t u n, v = .ref a ∧ h.get? a = some o ∧ o.cls = .type "tuple" ∧ o.data = .seq #[.str p.1 t, .str p.2 u] n
theorem Pr.keep {h h' : Heap} {v : Value} {p : Str × Str} (q : Pr h v p) (k : ∀ b o, h.get? b = some o → o.cls = .type "tuple" → h'.get? b = some o) : Pr h' v p := by
  obtain ⟨a, o, t, u, n, e1, e2, e3, e4⟩ := q
  exact ⟨a, o, t, u, n, e1, k _ _ e2 e3, e3, e4⟩
theorem pr_lt {v v' : Value} {p q : Str × Str} (h : Pr s.heap v p) (h' : Pr s.heap v' q) {Q : Bool → Shared → Prop} {E : Value → Shared → Prop} (hQ : Q (lessP p q) s) : wpAny (model P w) A (keyLt' (tuples' true) v v') Q E s := by
  obtain ⟨a, o, t, u, n, rfl, ho, _, hd⟩ := h
  obtain ⟨a', o', t', u', n', rfl, ho', _, hd'⟩ := h'
  unfold lessP lexP at hQ
  refine PySem.W.kat_lt ho hd ho' hd' (PySem.W.kat_cons (SeqAt.EqAt.str_str p.1 t q.1 t' P w _ _ (PySem.W.kat_go (fun e => PySem.W.kat_yes ?_) fun e => PySem.W.kat_no ?_)))
  · have e1 : p.1 = q.1 := eq_of_beq e
    rw [if_pos e1] at hQ
    refine PySem.W.kat_cons (SeqAt.EqAt.str_str p.2 u q.2 u' P w _ _ (PySem.W.kat_go (fun e2 => PySem.W.kat_yes (PySem.W.kat_nil ?_)) fun e2 => PySem.W.kat_no (PySem.W.kat_one _ _ (lt_str hQ))))
    have e3 : p.2 = q.2 := eq_of_beq e2
    rw [e3, linS.irr] at hQ
    exact hQ
  · have e1 : ¬ p.1 = q.1 := fun z => by rw [z] at e; simp at e
    rw [if_neg e1] at hQ
    exact oneLt_str hQ
theorem prs_firsts {h : Heap} {k : Value → Str × Str} : ∀ {vs : List Value}, (∀ v ∈ vs, Pr h v (k v)) → ∃ fs : List Value, PySem.W.KatTups h vs fs ∧ fs.length = vs.length ∧ ∀ f ∈ fs, ∃ x t, f = Value.str x t
  | [], _ => ⟨[], .nil, rfl, fun _ z => absurd z List.not_mem_nil⟩
  | v :: vs, hp => by
    obtain ⟨fs, f1, f2, f3⟩ := prs_firsts (vs := vs) fun u hu => hp u (List.mem_cons_of_mem _ hu)
    obtain ⟨a, o, t, u, n, e, ho, hc, hd⟩ := hp v List.mem_cons_self
    subst e
    refine ⟨.str (k (.ref a)).1 t :: fs, ?_, congrArg (· + 1) f2, fun f hf => ?_⟩
    · first | exact .cons ho hc hd (by decide) rfl f1 | exact .cons ho hc hd rfl f1 | skip
    · rcases List.mem_cons.mp hf with rfl | hf
      · exact ⟨_, _, rfl⟩
      · exact f3 f hf
theorem prs_sortable {a : Addr} {vs : List Value} {k : Value → Str × Str} (h0 : 0 < vs.length) (hp : ∀ v ∈ vs, Pr s.heap v (k v)) (ha : ∀ o, s.heap.get? a = some o → o.cls ≠ .type "tuple") : SrtO.SortableO P w A s a vs fun v u => lessP (k v) (k u) := by
  intro h' keep
  have hp' : ∀ v ∈ vs, Pr h' v (k v) := fun v hm => (hp v hm).keep fun b o e c => keep b o (fun z => ha o (z ▸ e) c) e
  obtain ⟨fs, h1, h2, h3⟩ := prs_firsts hp'
  refine ⟨tuples' true, fun Q E hq => ?_, fun p q hm hm' => pr_lt (s := { s with heap := h' }) (hp' _ hm) (hp' _ hm') ⟨rfl, rfl⟩⟩
  refine PySem.W.kat_kind (T := .type "str") h1 (by omega) (fun f hm => ?_) (by rfl) ?_
  · obtain ⟨x, t, rfl⟩ := h3 f hm
    exact PySem.W.Looks.now
  · rw [show (Value.type "str" != Value.type "tuple") = true by decide]
    exact hq
end
end TO

set_option Elab.async false
set_option linter.all false
set_option maxRecDepth 100000
/-! EL14: a def's own sets of texts and of tuples of texts; sorted(..) of texts and of pairs of texts -/
namespace DL
open PySem PySem.Spec PyProof.Rows L2 TL TX TO
/-! ### the sets as tracked things -/
def txO (w : World) (xs : List Str) (a : Addr) : HO := .ext fun h => Tset w h a xs
def psO (w : World) (L : List (Addr × List Str)) (a : Addr) : HO := .ext fun h => ∃ es ep t, PS.At w h a L es ep t
theorem txO_new {w : World} {P : Program} {H : Hp} {h : Heap} {a : Addr} {xs : List Str} (R : Tset w h a xs) : ObjOk P w H h a (txO w xs a) :=
  ⟨R, (let ⟨_, e, _⟩ := R; ⟨_, e⟩), fun _ _ p k => p.keep k⟩
theorem psO_new {w : World} {P : Program} {H : Hp} {h : Heap} {a : Addr} {L : List (Addr × List Str)} (R : ∃ es ep t, PS.At w h a L es ep t) : ObjOk P w H h a (psO w L a) :=
  ⟨R, (let ⟨_, _, _, T⟩ := R; let ⟨_, e, _⟩ := T.obj; ⟨_, e⟩), fun _ _ ⟨es, ep, t, T⟩ k => ⟨es, ep, t, (let ⟨o, e, r⟩ := T.obj; ⟨o, k o e, r⟩), T.lies, T.tab, T.once, T.room⟩⟩
section
variable {X : Cx} {pins : List (Addr × Obj)} {σ : L2.St} {H : Hp} {s : Shared} {a : Addr} {xs : List Str} {L : List (Addr × List Str)}
theorem txO_get (I : Inv X pins σ H s) (e : H a = some (txO X.w xs a)) : Tset X.w s.heap a xs := (I.hok a _ e).1
theorem psO_get (I : Inv X pins σ H s) (e : H a = some (psO X.w L a)) : ∃ es ep t, PS.At X.w s.heap a L es ep t := (I.hok a _ e).1
theorem items_txt {P : Program} {w : World} : ∀ {ks : List Str} {us : List Value}, Vals (ks.map V.str) us → ItemsAre (PySem.strKind P w) ks us
  | [], us, r => by cases r; exact .nil
  | k :: ks, us, r => by
    cases r with
    | cons r1 r2 =>
      obtain ⟨t, rfl⟩ := r1
      exact .cons (Froz.is_str (P := P) (w := w) k t) (items_txt r2)
theorem tt_of (I : Inv X pins σ H s) {ks : List Str} {b : Addr} (h : SqT X.K H b (ks.map V.str)) : PS.Tt X.prog X.w s.heap ks b := by
  obtain ⟨its, rv, ⟨o, e1, e2, n, e3⟩, _⟩ := I.tuple h
  exact ⟨o, _, n, e1, e2, e3, by simpa using items_txt rv⟩
/-- a set stands there -/
def SetThere (H : Hp) (a : Addr) : Prop := (∃ w xs, H a = some (txO w xs a)) ∨ ∃ w L, H a = some (psO w L a)
theorem set_there {I : Inv X pins σ H s} (h : SetThere H a) : ∃ o, s.heap.get? a = some o ∧ o.ExactSet := by
  rcases h with ⟨w, xs, e⟩ | ⟨w, L, e⟩
  · obtain ⟨⟨D, e1, _⟩, _⟩ := I.hok a _ e
    exact ⟨_, e1, rfl, rfl, rfl⟩
  · obtain ⟨⟨_, _, _, T⟩, _⟩ := I.hok a _ e
    obtain ⟨o, e1, e2, _⟩ := T.obj
    exact ⟨o, e1, e2⟩
/-! ### set() -/
def rTx0 (w : World) : List V → Hp → VK → Prop := fun xs H Q => xs = [] ∧ ∀ p, H p = none → Q (.ref p) (upd H p (txO w [] p))
theorem cr_tx0 : CallR X (.type "set") (rTx0 X.w) := by
  intro pins s σ H xs us Q I r h
  obtain ⟨rfl, q⟩ := h
  cases r
  exact setR_new fun _ => ⟨.ref _, upd H s.heap.objs.size (txO X.w [] s.heap.objs.size), I.laid (t' := s.toks) (fun b u e => Heap.get?_push_of_some _ e) (Nat.le_refl _) (txO_new (tset_new s.heap)), rfl, q _ (I.hok.fresh (Nat.le_refl _))⟩
def rPs0 (w : World) : List V → Hp → VK → Prop := fun xs H Q => xs = [] ∧ ∀ p, H p = none → Q (.ref p) (upd H p (psO w [] p))
theorem ps_new {w : World} (h : Heap) : PS.At w (h.push { cls := .type "set", dict := none, data := .set #[] 0 (.fresh 0 0 (!w.params.followText "set-order")) }) h.objs.size [] #[] 0 (.fresh 0 0 (!w.params.followText "set-order")) :=
  ⟨⟨_, Heap.get?_push_size _ rfl, ⟨rfl, rfl, rfl⟩, rfl⟩, rfl, ⟨List.Pairwise.nil, rfl, rfl, .inl rfl, fun x hx => absurd hx (by simp [SetTable.fresh]), fun i h j e => absurd e (by simp)⟩, List.nodup_nil, (by show 0 * 5 < 7 * 3; decide)⟩
theorem cr_ps0 : CallR X (.type "set") (rPs0 X.w) := by
  intro pins s σ H xs us Q I r h
  obtain ⟨rfl, q⟩ := h
  cases r
  exact setR_new fun _ => ⟨.ref _, upd H s.heap.objs.size (psO X.w [] s.heap.objs.size), I.laid (t' := s.toks) (fun b u e => Heap.get?_push_of_some _ e) (Nat.le_refl _) (psO_new ⟨_, _, _, ps_new s.heap⟩), rfl, q _ (I.hok.fresh (Nat.le_refl _))⟩
/-! ### x.add(e) -/
def rTxAdd (w : World) : V → List V → Hp → VK → Prop := fun x ys H Q => ∃ a k xs, x = V.ref a ∧ ys = [V.str k] ∧ H a = some (txO w xs a) ∧ xs.length + 1 < 4096 ∧ Q .non (upd H a (txO w (if k ∈ xs then xs else k :: xs) a))
theorem mt_txAdd : MtR X "set.add" (rTxAdd X.w) := by
  intro pins s σ H x ys v us Q I rx rys h
  obtain ⟨a, k, xs, rfl, rfl, ha, room, q⟩ := h
  cases rx
  cases rys with
  | cons ry rt =>
    cases rt
    obtain ⟨t, rfl⟩ := ry
    refine add_tx (txO_get I ha) room fun h' sb new => ?_
    have he : ∃ u, h'.get? a = some u := let ⟨_, e, _⟩ := new; ⟨_, e⟩
    exact ⟨.non, _, I.write (e := a) (t' := s.toks + 1) (by rw [ha]; trivial) (.inl rfl) (fun b u hb hu => (sb.2 b hb).trans hu) he (txO_new new), rfl, q⟩
def rPsAdd (K : PySem.W.Frag) (w : World) : V → List V → Hp → VK → Prop := fun x ys H Q => ∃ a b k L, x = V.ref a ∧ ys = [V.ref b] ∧ H a = some (psO w L a) ∧ SqT K H b (k.map V.str) ∧ (∀ q ∈ L, SqT K H q.1 (q.2.map V.str)) ∧ L.length < 76 ∧
  ∀ L', (k ∈ L.map (·.2) → L' = L) → (k ∉ L.map (·.2) → L'.Perm ((b, k) :: L)) → Q .non (upd H a (psO w L' a))
theorem mt_psAdd (hu : X.A.units + 64 < cLine) : MtR X "set.add" (rPsAdd X.K X.w) := by
  intro pins s σ H x ys v us Q I rx rys h
  obtain ⟨a, b, k, L, rfl, rfl, ha, hb, hL, few, q⟩ := h
  cases rx
  cases rys with
  | cons ry rt =>
    cases rt
    cases ry
    obtain ⟨es, ep, t, T⟩ := psO_get I ha
    have hk := tt_of I hb
    obtain ⟨o, ho, hex, hd⟩ := id T.obj
    have isS : s.TypeIs (.ref a) "set" := ⟨o, ho, hex.1⟩
    refine wpAny_call_entry PySem.F.slot_set_add isS PySem.F.entry_set_add ?_ (PySem.F.args_set_add_2 _ _)
    unfold Builtin.«set.add» Builtin.Frozenset.oneOther
    simp only [List.isEmpty_nil, bind_assoc]
    unfold Builtin.Frozenset.addrOf setAdd
    refine wpAny_bind (wpAny_pure (wpAny_bind (wpAny_pure (wpAny_bind (wpAny_holding (wpAny_bind (wpAny_pyHash_tuple (by first | (show X.A.units + _ < cLine; omega) | (simp [Around.in1]; omega) | omega) hk ?_)))))))
    have I1 := I.tok (s.toks + (k.length + 1))
    refine PS.add_to (s := { s with toks := s.toks + (k.length + 1) }) T (fun q hq => tt_of I (hL q hq)) hk (by first | (show X.A.units + _ < cLine; omega) | omega) few fun r h' L' es' ep' t' sb T' k1 k2 => ?_
    have he : ∃ u, h'.get? a = some u := let ⟨_, e, _⟩ := T'.obj; ⟨_, e⟩
    exact wpAny_pure ⟨_, rfl, .non, _, I.write (e := a) (t' := s.toks + (k.length + 1)) (by rw [ha]; trivial) (.inl rfl) (fun b u hb hu => (sb.2 b hb).trans hu) he (psO_new ⟨_, _, _, T'⟩), rfl, q L' k1 k2⟩
def tSetAdd (r : V → List V → Hp → VK → Prop) (to : TE) (t : TA) : TE := fun σ H Q => to σ H fun x H1 => (∃ a, x = V.ref a ∧ SetThere H1 a) ∧ t σ H1 fun xs H2 => r x xs H2 Q
theorem pe_setAdd {r : V → List V → Hp → VK → Prop} (hm : MtR X "set.add" r) {o e : Expr} {es : List Expr} {to : TE} {t : TA} {apos cpos : Pos} (ho : PE X o to) (ha : PA X (e :: es) t)
    (hbase : attributeBase o "add" X.env (eval o X.env) = eval o X.env := by rfl)
    (hfew : ((backTo cpos (starEach (e :: es) X.env)).all (fun x => !x.1) && (backToKw cpos (keywordEach [] X.env)).all (fun x => x.1.isSome) && decide ((e :: es).length + ([] : List Keyword).length + (if ([] : List Keyword).isEmpty then 0 else 1) < 30)) = true := by rfl)
    (hline : (apos.endLine == cpos.line) = true := by rfl) (hs : starEach (e :: es) X.env = (false, eval e X.env) :: starEach es X.env := by rfl) (hpl : (backTo cpos (starEach es X.env)).any (·.1) = false := by rfl) :
    PE X (.Call (.Attribute o "add" apos) (e :: es) [] cpos) (tSetAdd r to t) := by
  refine ⟨fun pins s σ H Q I h => wpAny_Call_method_late hbase hfew hline rfl (thn (ho.run pins s σ H _ I h) fun v s1 ⟨x, H1, I1, r1, ⟨a, ex, th⟩, q1⟩ => ?_)⟩
  subst ex
  obtain ⟨ob, e1, e2⟩ := set_there (I := I1) th
  cases r1
  refine ⟨"set", "set.add", PySem.F.plainAttrs_set, PySem.F.slot_set_add, PySem.F.type_set_add, ⟨ob, e1, e2.1⟩, fun b eb => by cases eb; exact ⟨ob, e1, e2.2.1⟩, ?_⟩
  have run := ha.run cpos pins s1 σ H1 _ I1 q1
  rw [hs] at run ⊢
  exact Calls.callWith_builtin (by show (false || (backTo cpos (starEach es X.env)).any (·.1)) = false; rw [hpl]; rfl) (Calls.evalArgs_plain (thn run fun us s2 ⟨vs, H2, I2, r2, q2⟩ => hm pins s2 σ H2 (.ref a) vs (.ref a) us Q I2 rfl r2 q2))
/-! ### e in x, e not in x, x a set of tuples of texts -/
theorem holds_ps (hu : X.A.units + 64 < cLine) (I : Inv X pins σ H s) {b : Addr} {k : List Str} (ha : H a = some (psO X.w L a)) (hb : SqT X.K H b (k.map V.str)) (hL : ∀ q ∈ L, SqT X.K H q.1 (q.2.map V.str)) {Q : Bool → Shared → Prop} {E : Value → Shared → Prop}
    (q : ∀ n, Q (decide (k ∈ L.map (·.2))) { s with toks := n }) : wpAny (model X.prog X.w) X.A (contains (.ref a) (.ref b)) Q E s := by
  obtain ⟨es, ep, t, T⟩ := psO_get I ha
  have hk := tt_of I hb
  obtain ⟨o, ho, hex, hd⟩ := id T.obj
  have isS : s.TypeIs (.ref a) "set" := ⟨o, ho, hex.1⟩
  unfold contains
  refine wpAny_holding (wpAny_bind (wpAny_specialOf isS PySem.F.slot_set_contains.lookup (wp_if_neg (by rw [beq_builtin_none]; exact Bool.false_ne_true) ?_)))
  refine wpAny_bind (wpAny_callSpecialUnlessNone?_slot (name := Str.ofString "__contains__") isS PySem.F.slot_set_contains (wpAny_call_entry PySem.F.slot_set_contains isS entry_set_contains ?_ (PySem.F.args_set_contains_2 _ _)))
  unfold Builtin.«frozenset.__contains__» Builtin.Frozenset.oneOther
  simp only [List.isEmpty_nil, bind_assoc]
  unfold Builtin.Frozenset.addrOf Builtin.Frozenset.withSetAsKey setContains
  refine wpAny_bind (wpAny_pure (wpAny_bind (wpAny_pure (wpAny_bind (wpAny_tryCatch (wpAny_holding (wpAny_bind (wpAny_pyHash_tuple (by first | (show X.A.units + _ < cLine; omega) | (simp [Around.in1]; omega) | omega) hk ?_))))))))
  refine wpAny_bind (PS.find_plain (s := { s with toks := s.toks + (k.length + 1) }) T (fun q hq => tt_of I (hL q hq)) hk (by first | (show X.A.units + _ < cLine; omega) | omega) fun r hr => wpAny_pure ?_)
  show wpAny _ _ (ret (Value.bool r.isSome)) _ _ _
  rw [hr]
  exact wpAny_pure ⟨_, rfl, wpAny_truthy_bool (q _)⟩
def rPsIn (K : PySem.W.Frag) (w : World) (neg : Bool) : R2 := fun x y H Q => ∃ a b k L, x = V.ref b ∧ y = V.ref a ∧ H a = some (psO w L a) ∧ SqT K H b (k.map V.str) ∧ (∀ q ∈ L, SqT K H q.1 (q.2.map V.str)) ∧ Q (.bl (neg ^^ decide (k ∈ L.map (·.2)))) H
theorem op_psIn (hu : X.A.units + 64 < cLine) : OpR X (compareOp .In) (rPsIn X.K X.w false) := by
  intro pins s σ H x y v u Q I rx ry h
  obtain ⟨a, b, k, L, rfl, rfl, ha, hb, hL, q⟩ := h
  cases rx
  cases ry
  rw [Bool.false_xor] at q
  show wpAny _ _ (do return Value.bool (← contains (.ref a) (.ref b))) _ _ s
  exact wpAny_bind (holds_ps hu I ha hb hL fun n => wpAny_pure ⟨.bl _, H, I.tok n, rfl, q⟩)
/-! ### sorted(x), x a set of texts -/
theorem strs_of : ∀ (vs : List Value), (∀ v ∈ vs, ∃ x t, v = Value.str x t) → StrsAre vs (vs.map sv)
  | [], _ => .nil
  | v :: vs, h => by
    obtain ⟨x, t, rfl⟩ := h v List.mem_cons_self
    exact .cons x t (strs_of vs fun u hu => h u (List.mem_cons_of_mem _ hu))
theorem vals_strs : ∀ {vs : List Value} {xs : List Str}, StrsAre vs xs → Vals (xs.map V.str) vs
  | _, _, .nil => .nil
  | _, _, .cons y t r => .cons ⟨t, rfl⟩ (vals_strs r)
theorem strs_vals : ∀ {xs : List Str} {vs : List Value}, Vals (xs.map V.str) vs → StrsAre vs xs
  | [], vs, r => by cases r; exact .nil
  | x :: xs, vs, r => by
    cases r with
    | cons r1 r2 =>
      obtain ⟨t, rfl⟩ := r1
      exact .cons x t (strs_vals r2)
theorem sv_strs : ∀ {vs : List Value} {xs : List Str}, StrsAre vs xs → vs.map sv = xs
  | _, _, .nil => rfl
  | _, _, .cons y t r => congrArg (y :: ·) (sv_strs r)
theorem out_texts {vs out : List Value} {xs : List Str} (h : StrsAre vs xs) (hs : SrtO.Srtd (fun v u => lessS (sv v) (sv u)) out) (hb : SrtO.Stb (fun v u => lessS (sv v) (sv u)) out vs) : StrsAre out (srt lessS xs) := by
  have st : ∀ v ∈ out, ∃ x t, v = Value.str x t := fun v hv => h.all v (hb.perm.mem_iff.mp hv)
  have e : out.map sv = srt lessS xs := by
    refine srt_eq linS ?_ (List.pairwise_map.mpr hs)
    have z := hb.perm.map sv
    rw [sv_strs h] at z; exact z
  rw [← e]; exact strs_of out st
theorem perm_sub {α : Type} [DecidableEq α] : ∀ {xs ys : List α}, xs.Nodup → (∀ k ∈ xs, k ∈ ys) → ys.length ≤ xs.length → ys.Perm xs
  | [], ys, _, _, h => by rw [List.eq_nil_of_length_eq_zero (Nat.le_zero.mp h)]
  | x :: xs, ys, nd, sub, h => by
    obtain ⟨n1, n2⟩ := List.nodup_cons.mp nd
    have hx := sub x List.mem_cons_self
    have pe := List.perm_cons_erase hx
    refine pe.trans ((perm_sub n2 (fun k hk => ?_) ?_).cons x)
    · have z := pe.mem_iff.mp (sub k (List.mem_cons_of_mem _ hk))
      rcases List.mem_cons.mp z with e | z
      · exact absurd (e ▸ hk) n1
      · exact z
    · have l := pe.length_eq
      rw [List.length_cons] at l h; omega
def rTxSorted (w : World) : List V → Hp → VK → Prop := fun vs H Q => ∃ a xs, vs = [V.ref a] ∧ H a = some (txO w xs a) ∧ xs.length < 4096 ∧ ∀ p, H p = none → Q (.ref p) (upd H p (.lst ((srt lessS xs).map V.str)))
theorem cr_txSorted (hc : X.calm = true) : CallR X (.builtin "sorted") (rTxSorted X.w) := by
  intro pins s σ H vs us Q I r h
  obtain ⟨a, xs, rfl, ha, few, q⟩ := h
  rw [Vals.ref1 r]
  obtain ⟨⟨es, ep, t⟩, e, T, nd, ri, le⟩ := txO_get I ha
  obtain ⟨el, mem, sz, fit⟩ := T X.prog
  dsimp only at el mem sz fit ri le
  refine Calls.call_function_entry kind_sorted plain_sorted entry_sorted (args_sorted1 _) ?_
  unfold Builtin.«sorted»
  refine wpAny_bind (m := checkCount "sorted" 1 1 _) (wpAny_pure (wpAny_bind (collect_set (A := X.A.in1) (I.ok.hd hc) ⟨_, e, rfl, rfl⟩ fit (by rw [sz]; exact few) ri le fun s1 vs k1 hz g1 o1 pm => ?_)))
  have all : ∀ v ∈ vs, ∃ x t, v = Value.str x t := fun v hv => by
    obtain ⟨e0, h0, rfl⟩ := List.mem_map.mp (pm.mem_iff.mp hv)
    obtain ⟨⟨k, hk, _⟩, _⟩ := el e0 h0
    obtain ⟨t, e⟩ := Value.isStrOf_shape hk
    exact ⟨k, t, e⟩
  have len : vs.length = xs.length := by rw [pm.length_eq, List.length_map, Array.length_toList]; exact sz
  have mm : ∀ k, k ∈ vs.map sv ↔ k ∈ xs := fun k => by
    rw [mem k, List.mem_map]
    constructor
    · rintro ⟨v, hv, rfl⟩
      obtain ⟨e0, h0, rfl⟩ := List.mem_map.mp (pm.mem_iff.mp hv)
      obtain ⟨x, t, ex⟩ := all _ hv
      exact ⟨e0, h0, by rw [ex]; exact Froz.is_str (P := X.prog) (w := X.w) x t⟩
    · rintro ⟨e0, h0, hk⟩
      obtain ⟨t, ex⟩ := Value.isStrOf_shape hk
      exact ⟨e0.2, pm.mem_iff.mpr (List.mem_map.mpr ⟨e0, h0, rfl⟩), by rw [ex]; rfl⟩
  have pmx : (vs.map sv).Perm xs := by
    refine perm_sub nd (fun k hk => (mm k).mpr hk) ?_
    rw [List.length_map, len]; exact Nat.le_refl _
  have hS := strs_of vs all
  refine wpAny_bind (wpAny_newList ?_ (by rw [len, sizeLine_eq]; omega))
  have hoL : (s1.heap.push (seqObj "list" vs.toArray 0)).get? s1.heap.objs.size = some (seqObj "list" vs.toArray 0) := Heap.get?_push_size _ rfl
  refine wpAny_bind (wpAny_holding (wpAny_call_entry slot_list_sort ⟨_, hoL, rfl⟩ entry_list_sort (SrtO.list_sort_ord (s := { s1 with heap := s1.heap.push (seqObj "list" vs.toArray 0) }) (swo_by linS sv) hoL (by rw [len, sizeLine_eq]; omega) (fun h2 => texts_sortable hS h2) fun out h1 h2 => ⟨_, rfl, ?_⟩) (args_list_sort _)))
  obtain ⟨c, hc'⟩ := sortedHeap_at (vs := vs) (out := out.toArray) hoL
  have fin := out_texts hS h1 h2
  rw [srt_congr linS pmx] at fin
  have hn : H s1.heap.objs.size = none := I.hok.fresh hz
  have old : ∀ b u, s.heap.get? b = some u → (sortedHeap (s1.heap.push (seqObj "list" vs.toArray 0)) s1.heap.objs.size vs out.toArray).get? b = some u := fun b u eb => by
    have z := k1 b u eb
    have lt := Heap.lt_size z
    rw [sortedHeap_old (Nat.ne_of_lt lt) (by rw [size_push']; exact Nat.lt_succ_of_lt lt)]
    exact Heap.get?_push_of_some _ z
  have J : Inv X pins σ (upd H s1.heap.objs.size (.lst ((srt lessS xs).map V.str))) { s with heap := sortedHeap (s1.heap.push (seqObj "list" vs.toArray 0)) s1.heap.objs.size vs out.toArray, gens := s1.gens, drawn := s1.drawn, toks := s1.toks } :=
    I.call (ch := []) (Un.laid old hz hn) (I.hok.laid old hz ⟨by rw [List.length_map, srt_len, sizeLine_eq]; omega, out, c, vals_strs fin, hc'⟩) (by rw [g1]; exact I.bare) (fun _ z => nomatch z)
  refine wpAny_pure ⟨_, rfl, .ref s1.heap.objs.size, _, ?_, rfl, q _ hn⟩
  have e2 : ({ s1 with heap := sortedHeap (s1.heap.push (seqObj "list" vs.toArray 0)) s1.heap.objs.size vs out.toArray } : Shared) = { s with heap := sortedHeap (s1.heap.push (seqObj "list" vs.toArray 0)) s1.heap.objs.size vs out.toArray, gens := s1.gens, drawn := s1.drawn, toks := s1.toks } := by
    cases s1; cases s; cases o1; rfl
  first | exact e2 ▸ J | (show Inv X pins σ _ _; rw [← e2] at J; exact J)
end
end DL

set_option Elab.async false
set_option linter.all false
set_option maxRecDepth 100000
set_option maxHeartbeats 3200000
/-! SF: set(xs) of a list or a tuple, by what stands behind each item -/
namespace SF
open PySem PySem.Spec PyProof.Rows L2
/-- a new set -/
abbrev ns0 (w : World) : Obj := { cls := .type "set", dict := none, data := .set #[] 0 (.fresh 0 0 (!w.params.followText "set-order")) }
section
variable {P : Program} {w : World} {A : Around} {E : Value → Shared → Prop}
/-- what is asked of the states behind each item: S the set's place, h0 the heap ahead of all -/
structure Grows (P : Program) (w : World) (A : Around) (E : Value → Shared → Prop) (h0 : Heap) (S : Addr) (items : Array Value) (R : Nat → Heap → Prop) : Prop where
  keep : ∀ i h h', R i h → (∀ o, h.get? S = some o → h'.get? S = some o) → R i h'
  step : ∀ (i : Nat) (v : Value) (s' : Shared) (Q : Bool → Shared → Prop), items[i]? = some v → (∀ b o, h0.get? b = some o → s'.heap.get? b = some o) → R i s'.heap →
    (∀ b h' tk, Heap.SameBut S s'.heap h' → s'.toks ≤ tk → R (i + 1) h' → Q b { s' with heap := h', toks := tk }) → wpAny (model P w) A (setAdd S v) Q E s'
variable {h0 : Heap} {S I : Addr} {items : Array Value} {R : Nat → Heap → Prop} {fp wr : List Addr} {G : Array GenState → Array GenState → Prop} {St : Nat → Shared → Prop} {Z : Result → Shared → Prop}
theorem loop_by (W : WalksS P w A.in1 I fp wr G items.size (fun i v => items[i]? = some v) St) (g : Grows P w A.in1 (fun _ _ => False) h0 S items R) (out : S ∉ fp) (low : ∀ b o, h0.get? b = some o → b ≠ S ∧ b ∉ wr) (fine : ∀ e s', False → Z (.error e) s') :
    ∀ (left i : Nat) (s : Shared), i + left = items.size → St i s → (∀ b o, h0.get? b = some o → s.heap.get? b = some o) → R i s.heap →
      (∀ s', Moved (S :: wr) G s s' → R items.size s'.heap → Z (.ok (.ret .none)) s') → codeAny (model P w) A (.builtin "set.update.loop" ⟨[.ref S, .ref I], []⟩) Z s
  | left, i, s, hi, hst, old, hR, fin => by
    have Sw : S ∉ wr := fun z => out (W.sub _ z)
    have sub : ∀ b ∈ wr, b ∈ S :: wr := fun b hb => List.mem_cons_of_mem _ hb
    refine codeAny_builtin PyProof.Rows.F.entry_set_update_loop ?_
    rw [Around.under_plainId PyProof.Rows.F.plain_set_update_loop _]
    match left, hi with
    | 0, hi =>
      have e : i = items.size := hi
      subst e
      refine wpAny_bind (W.done s _ _ hst fun s' hm => ?_)
      exact wpAny_pure (fin s' (hm.mono sub) (g.keep _ _ _ hR fun o e => hm.heap S o Sw e))
    | left + 1, hi =>
      refine wpAny_bind (W.item i s _ _ (by omega) hst fun v s' hv hst' hm => ?_)
      have hR' := g.keep _ _ _ hR fun o e => hm.heap S o Sw e
      have old' : ∀ b o, h0.get? b = some o → s'.heap.get? b = some o := fun b o e => hm.heap b o (low b o e).2 (old b o e)
      refine wpAny_bind (wpAny_holding (wpAny_mono (g.step i v s' (fun b s2 => ∃ h' tk, s2 = { s' with heap := h', toks := tk } ∧ Heap.SameBut S s'.heap h' ∧ s'.toks ≤ tk ∧ R (i + 1) h') hv old' hR' fun b h' tk sb ht r => ⟨h', tk, rfl, sb, ht, r⟩) (fun b s2 z => ?_) fun e s2 z => fine e s2 z))
      obtain ⟨h', tk, rfl, sb, ht, r⟩ := z
      refine wpAny_pure ⟨plainId_quiet PyProof.Rows.F.plain_set_update_loop _, loop_by W g out low fine left (i + 1) _ (by omega) (W.frame _ s' _ _ hst' ht fun b hb o e => ?_) (fun b o e => ?_) r fun s'' hm'' r'' => ?_⟩
      · rw [sb.2 b fun z => out (z ▸ hb)]; exact e
      · show h'.get? b = some o
        rw [sb.2 b (low b o e).1]; exact old' b o e
      · refine fin s'' (Moved.trans W.gtrans ((hm.mono sub).then_heap ht fun b o hb e => ?_) hm'') r''
        rw [sb.2 b fun z => hb (z ▸ List.mem_cons_self)]; exact e
/-- set(l): the set stands at a new place -/
theorem made {s : Shared} {l : Addr} {tn : String} (htn : tn = "list" ∨ tn = "tuple") (hh : A.handled = none) (hl : ∃ o n, s.heap.get? l = some o ∧ o.cls = .type tn ∧ o.data = .seq items n) (g : Grows P w A.in1.in1.in1 (fun _ _ => False) s.heap s.heap.objs.size items R)
    (r0 : ∀ h : Heap, h.get? s.heap.objs.size = some (ns0 w) → R 0 h) {Q : Value → Shared → Prop}
    (q : ∀ h' tk, R items.size h' → (∀ b o, s.heap.get? b = some o → h'.get? b = some o) → Q (.ref s.heap.objs.size) { s with heap := h', toks := tk }) : wpAny (model P w) A (call (.type "set") [.ref l]) Q E s := by
  obtain ⟨c, tl, hmro⟩ := PySem.F.called_set.mro
  have f1 := PySem.F.called_set.made
  have f2 := PySem.F.called_set.sub
  refine wpAny_call (codeAny_of_tree ?_)
  show wpAny _ _ (callAny (.type "set") _) _ _ _
  refine wpAny_pure ⟨Code.quiet_builtin _ (by decide +kernel), codeAny_builtin PySem.F.entry_type_call ?_⟩
  rw [Around.under_plain (weight_type_call_type "set" [.ref l] []) rfl]
  have f3 := PySem.F.called_set.notType
  have f4 := PySem.F.called_set.canCreate
  have f5 := PySem.F.typeCall_set_1 (.ref l)
  repeat (any_goals (first | assumption | wp_step))
  refine codeAny_mono (code_set_led1 (.ref l) (E := E) (Q₁ := fun obj s₁ => obj = .ref s.heap.objs.size ∧ s₁ = { s with heap := s.heap.push (ns0 w) }) ⟨rfl, rfl⟩) fun r s₁ hr => ?_
  rcases r with e | (_ | _ | _ | obj)
  · exact hr
  · exact hr.elim
  · exact hr.elim
  · exact hr.elim
  · obtain ⟨rfl, rfl⟩ := hr
    have atS : (s.heap.push (ns0 w)).get? s.heap.objs.size = some (ns0 w) := Heap.get?_push_size _ rfl
    have tyS : Shared.TypeIs { s with heap := s.heap.push (ns0 w) } (.ref s.heap.objs.size) "set" := ⟨_, atS, rfl⟩
    have f6 := PySem.F.called_set.init.lookup
    have f7 := PySem.F.called_set.init.bind (.ref s.heap.objs.size)
    repeat (any_goals (first | assumption | wp_step))
    refine codeAny_mono (codeAny_call_builtin (R := wants (fun r s₂ => r = .none ∧ ∃ h' tk, s₂ = { s with heap := h', toks := tk } ∧ R items.size h' ∧ (∀ b o, s.heap.get? b = some o → h'.get? b = some o)) E) PySem.F.called_set.init.plain PySem.F.entry_set_init (check_set_init_1 tyS ?_)) fun r₂ s₂ hr₂ => ?_
    · obtain ⟨ol, nl, hol, hcl, hdl⟩ := hl
      have lS : l < s.heap.objs.size := Heap.lt_size hol
      obtain ⟨ocls, odict, odata, oslots⟩ := ol
      dsimp only at hcl hdl
      subst hcl
      subst hdl
      have hol2 : (s.heap.push (ns0 w)).get? l = some { cls := .type tn, dict := odict, data := .seq items nl, slots := oslots } := Heap.get?_push_of_some _ hol
      have sz : (s.heap.push (ns0 w)).objs.size = s.heap.objs.size + 1 := Heap.size_push ..
      have neI : l ≠ (s.heap.push (ns0 w)).objs.size := by rw [sz]; exact Nat.ne_of_lt (Nat.lt_succ_of_lt lS)
      have out : s.heap.objs.size ∉ [(s.heap.push (ns0 w)).objs.size, l] := by
        rw [sz]
        intro z
        rcases List.mem_cons.mp z with z | z
        · exact absurd z (Nat.ne_of_lt (Nat.lt_succ_self _))
        · exact absurd (List.mem_singleton.mp z) (Nat.ne_of_gt lS)
      have h3 : A.in1.in1.in1.handled = none := by simp [hh]
      have low : ∀ b o, s.heap.get? b = some o → b ≠ s.heap.objs.size ∧ b ∉ [(s.heap.push (ns0 w)).objs.size] := fun b o e => by
        have lb := Heap.lt_size e
        rw [sz]
        exact ⟨Nat.ne_of_lt lb, fun z => absurd (List.mem_singleton.mp z) (Nat.ne_of_lt (Nat.lt_succ_of_lt lb))⟩
      have fin : ∀ (itn : Obj) (s' : Shared), Moved [s.heap.objs.size, (s.heap.push (ns0 w)).objs.size] Eq { s with heap := (s.heap.push (ns0 w)).push itn } s' → R items.size s'.heap →
          ∃ h' tk, s' = { s with heap := h', toks := tk } ∧ R items.size h' ∧ (∀ b o, s.heap.get? b = some o → h'.get? b = some o) := fun itn s' hm r => by
        obtain ⟨h', g2, d', tk', os'⟩ := s'
        have e1 : s.gens = g2 := hm.gens
        have e2 : d' = s.drawn := hm.drawn
        have e3 : os' = s.os := hm.os
        subst e1; subst e2; subst e3
        refine ⟨h', tk', rfl, r, fun b o e => hm.heap b o ?_ (Heap.get?_push_of_some _ (Heap.get?_push_of_some _ e))⟩
        have lb := Heap.lt_size e
        rw [sz]
        intro z
        rcases List.mem_cons.mp z with z | z
        · exact absurd z (Nat.ne_of_lt lb)
        · exact absurd (List.mem_singleton.mp z) (Nat.ne_of_lt (Nat.lt_succ_of_lt lb))
      have g' : Grows P w A.in1.in1.in1 (fun _ _ => False) s.heap s.heap.objs.size items R := g
      have sub1 : isSubtype (.type tn) (.type "set") = pure false := by
        rcases htn with rfl | rfl
        · exact PySem.F.sub_list_set
        · exact PySem.F.sub_tuple_set
      have sub2 : isSubtype (.type tn) (.type "frozenset") = pure false := by
        rcases htn with rfl | rfl
        · exact PySem.F.sub_list_frozenset
        · exact PySem.F.sub_tuple_frozenset
      have ne1 : (Value.type tn == Value.type "dict") = false := by rcases htn with rfl | rfl <;> decide
      unfold Builtin.«set.__init__» noKeywords Builtin.Frozenset.updateFrom
      generalize hPI : pyIter = PI
      wp_walk
      subst hPI
      rcases htn with rfl | rfl
      · have hl1 : (s.heap.push (ns0 w)).IsList l items := ⟨_, hol2, rfl, nl, rfl⟩
        refine wpAny_pyIter_list hl1 (wpAny_bind (wpAny_runValue ?_))
        refine loop_by ((Walks.list h3 _ l neI items).toS) g' out low (fun e s' z => z.elim) items.size 0 _ (by omega) ⟨⟨_, Heap.get?_push_size _ rfl, rfl, rfl⟩, (hl1.push _)⟩ (fun b o e => Heap.get?_push_of_some _ (Heap.get?_push_of_some _ e)) (r0 _ (Heap.get?_push_of_some _ atS)) fun s' hm r => ?_
        obtain ⟨h', tk', rfl, r', old⟩ := fin _ s' ⟨hm.heap, hm.gens.symm, hm.drawn, hm.os, hm.toks⟩ r
        exact wpAny_pure (wpAny_pure ⟨rfl, h', tk', rfl, r', old⟩)
      · have hl1 : (s.heap.push (ns0 w)).IsTuple l items := ⟨_, hol2, rfl, nl, rfl⟩
        refine wpAny_pyIter_tuple hl1 (wpAny_bind (wpAny_runValue ?_))
        refine loop_by ((Walks.tuple h3 _ l neI items).toS) g' out low (fun e s' z => z.elim) items.size 0 _ (by omega) ⟨⟨_, Heap.get?_push_size _ rfl, rfl, rfl⟩, (hl1.push _)⟩ (fun b o e => Heap.get?_push_of_some _ (Heap.get?_push_of_some _ e)) (r0 _ (Heap.get?_push_of_some _ atS)) fun s' hm r => ?_
        obtain ⟨h', tk', rfl, r', old⟩ := fin _ s' ⟨hm.heap, hm.gens.symm, hm.drawn, hm.os, hm.toks⟩ r
        exact wpAny_pure (wpAny_pure ⟨rfl, h', tk', rfl, r', old⟩)
    · rcases r₂ with e | (_ | _ | _ | r)
      · exact hr₂
      · exact hr₂.elim
      · exact hr₂.elim
      · exact hr₂.elim
      · obtain ⟨rfl, h', tk, rfl, r, old⟩ := hr₂
        repeat (any_goals (first | assumption | wp_step))
        exact q _ _ r old
end
end SF

set_option Elab.async false
set_option linter.all false
set_option maxRecDepth 100000
/-! EL15: sorted(..) of lists and tuples of texts and of pairs of texts; the rules for own sets, over data -/
namespace DL
open PySem PySem.Spec PyProof.Rows L2 TL TX TO
section
variable {X : Cx} {pins : List (Addr × Obj)} {σ : L2.St} {H : Hp} {s : Shared}
/-- a list or a tuple -/
def SqA (K : PySem.W.Frag) (H : Hp) (a : Addr) (xs : List V) : Prop := SqL K H a xs ∨ SqT K H a xs
theorem sorted_any2 {A : Around} {E : Value → Shared → Prop} {a : Addr} {ys : List V} {its : List Value} {ltv : Value → Value → Bool} {Q : Value → Shared → Prop} (O : SrtO.Swo ltv)
    (h : (s.heap.IsList a its.toArray) ∨ IsTup s.heap a its.toArray) (hz : its.length ≤ sizeLine)
    (cmp : 2 ≤ its.length → ∀ (h₁ : Heap) (a : Addr), h₁.get? a = some (seqObj "list" its.toArray 0) → (∀ b o, s.heap.get? b = some o → b ≠ a ∧ h₁.get? b = some o) → SrtO.SortableO X.prog X.w A.in1.in1 { s with heap := h₁ } a its ltv)
    (q : ∀ out : List Value, SrtO.Srtd ltv out → SrtO.Stb ltv out its → Q (.ref (s.heap.objs.size + 1)) { s with heap := sortedAll s.heap its out.toArray }) : wpAny (model X.prog X.w) A (call (.builtin "sorted") [.ref a]) Q E s := by
  rcases h with h | h
  · exact SrtO.sorted_ord O h hz cmp q
  · exact ELR.list_made O h hz cmp q
theorem sqa_at (I : Inv X pins σ H s) {a : Addr} {ys : List V} (h : SqA X.K H a ys) : ∃ its, Vals ys its ∧ (s.heap.IsList a its.toArray ∨ IsTup s.heap a its.toArray) ∧ its.length ≤ sizeLine := by
  rcases h with h | h
  · obtain ⟨its, rv, hl, hz⟩ := I.list h
    exact ⟨its, rv, .inl hl.isList, by rw [← rv.length]; exact hz⟩
  · obtain ⟨its, rv, hl, hz⟩ := I.tuple h
    exact ⟨its, rv, .inr hl, by rw [← rv.length]; exact hz⟩
def rSrtS (K : PySem.W.Frag) : List V → Hp → VK → Prop := fun vs H Q => ∃ a xs, vs = [V.ref a] ∧ SqA K H a (xs.map V.str) ∧ ∀ p, H p = none → Q (.ref p) (upd H p (.lst ((srt lessS xs).map V.str)))
theorem cr_srtS : CallR X (.builtin "sorted") (rSrtS X.K) := by
  intro pins s σ H vs us Q I r h
  obtain ⟨a, xs, rfl, hs, q⟩ := h
  obtain ⟨its, rv, hl, hz⟩ := sqa_at I hs
  rw [Vals.ref1 r]
  have st := strs_vals rv
  refine sorted_any2 (ys := xs.map V.str) (swo_by linS sv) hl hz (fun h2 h₁ b _ _ => texts_sortable st h2) fun out h1 h2 => ?_
  have fin := out_texts st h1 h2
  obtain ⟨n, hn⟩ := sortedAll_at s.heap its out.toArray
  have len : (xs.map V.str).length = its.length := rv.length
  rw [List.length_map] at len
  exact ⟨.ref _, upd H (s.heap.objs.size + 1) (.lst ((srt lessS xs).map V.str)), I.laid (t' := s.toks) (fun _ _ => sortedAll_old) (Nat.le_succ _) ⟨by rw [List.length_map, srt_len, len]; exact hz, out, n, vals_strs fin, hn⟩, rfl, q _ (I.hok.fresh (Nat.le_succ _))⟩
/-! ### pairs -/
def PrV (K : PySem.W.Frag) (H : Hp) (y : V) (p : Str × Str) : Prop := ∃ t, y = .ref t ∧ SqT K H t [V.str p.1, V.str p.2]
theorem pr_of (I : Inv X pins σ H s) {y : V} {p : Str × Str} {u : Value} (h : PrV X.K H y p) (r : RelV y u) : Pr s.heap u p := by
  obtain ⟨t, rfl, h⟩ := h
  cases r
  obtain ⟨its, rv, ⟨o, e1, e2, n, e3⟩, _⟩ := I.tuple h
  match its, rv with
  | [x1, x2], .cons r1 (.cons r2 .nil) =>
    obtain ⟨t1, rfl⟩ := r1
    obtain ⟨t2, rfl⟩ := r2
    exact ⟨t, o, t1, t2, n, rfl, e1, e2, e3⟩
theorem pr_one {h : Heap} {v : Value} {p q : Str × Str} (a : Pr h v p) (b : Pr h v q) : p = q := by
  obtain ⟨a, o, t, u, n, rfl, h1, _, h2⟩ := a
  obtain ⟨a', o', t', u', n', e, h1', _, h2'⟩ := b
  cases e
  rw [h1] at h1'; cases h1'
  rw [h2] at h2'
  injection h2' with e _
  have e := congrArg Array.toList e
  simp at e
  exact Prod.ext e.1.1 e.2.1
/-- side by side -/
def PrsV (K : PySem.W.Frag) (H : Hp) : List V → List (Str × Str) → Prop
  | [], ps => ps = []
  | y :: ys, ps => ∃ p qs, ps = p :: qs ∧ PrV K H y p ∧ PrsV K H ys qs
theorem prs_of (I : Inv X pins σ H s) : ∀ {ys : List V} {ps : List (Str × Str)} {us : List Value}, PrsV X.K H ys ps → Vals ys us → ∀ k : Value → Str × Str, (∀ u p, Pr s.heap u p → k u = p) → us.map k = ps ∧ ∀ u ∈ us, Pr s.heap u (k u)
  | [], ps, us, h, r, k, hk => by
    cases r
    cases h
    exact ⟨rfl, fun _ z => absurd z List.not_mem_nil⟩
  | y :: ys, ps, us, ⟨p, qs, e, h1, h2⟩, r, k, hk => by
    subst e
    cases r with
    | cons r1 r2 =>
      obtain ⟨e1, e2⟩ := prs_of I h2 r2 k hk
      have z := pr_of I h1 r1
      refine ⟨by rw [List.map_cons, e1, hk _ _ z], fun u hu => ?_⟩
      rcases List.mem_cons.mp hu with rfl | hu
      · rw [hk _ _ z]; exact z
      · exact e2 u hu
theorem prs_refs {K : PySem.W.Frag} : ∀ {ys : List V} {ps : List (Str × Str)}, PrsV K H ys ps → ∀ y ∈ ys, ∃ a, y = V.ref a
  | [], _, _, y, hy => absurd hy List.not_mem_nil
  | z :: ys, _, ⟨p, qs, _, ⟨t, e, _⟩, h2⟩, y, hy => by
    rcases List.mem_cons.mp hy with rfl | hy
    · exact ⟨t, e⟩
    · exact prs_refs h2 y hy
/-- sorted(xs), pairs of texts -/
def rSrtP (K : PySem.W.Frag) : List V → Hp → VK → Prop := fun vs H Q => ∃ a ys ps, vs = [V.ref a] ∧ SqA K H a ys ∧ PrsV K H ys ps ∧ ∀ zs p, zs.length = ps.length → (zs.zip (srt lessP ps)).Perm (ys.zip ps) → H p = none → Q (.ref p) (upd H p (.lst zs))
theorem cr_srtP : CallR X (.builtin "sorted") (rSrtP X.K) := by
  intro pins s σ H vs us Q I r h
  obtain ⟨a, ys, ps, rfl, hs, hp, q⟩ := h
  obtain ⟨its, rv, hl, hz⟩ := sqa_at I hs
  rw [Vals.ref1 r]
  obtain ⟨k, hk⟩ : ∃ k : Value → Str × Str, ∀ u p, Pr s.heap u p → k u = p := by
    have each : ∀ u : Value, ∃ x : Str × Str, ∀ p, Pr s.heap u p → x = p := fun u => by
      by_cases ex : ∃ p, Pr s.heap u p
      · obtain ⟨x, hx⟩ := ex
        exact ⟨x, fun p hp => pr_one hx hp⟩
      · exact ⟨(Str.empty, Str.empty), fun p hp => absurd ⟨p, hp⟩ ex⟩
    exact ⟨fun u => Classical.choose (each u), fun u => Classical.choose_spec (each u)⟩
  obtain ⟨ek, all⟩ := prs_of I hp rv k hk
  obtain ⟨ey, _⟩ := bkV_refs rv (prs_refs hp)
  refine sorted_any2 (ys := ys) (swo_by linP k) hl hz (fun h2 h₁ b hb kk => ?_) fun out h1 h2 => ?_
  · refine prs_sortable (s := { s with heap := h₁ }) (by omega) (fun v hv => (all v hv).keep fun b o e _ => (kk b o e).2) fun o e c => ?_
    have e' : some o = some (seqObj "list" its.toArray 0) := e.symm.trans hb
    cases e'
    exact absurd (Value.type.inj c) (by decide)
  · have eo : out.map k = srt lessP ps := by
      refine srt_eq linP ?_ (List.pairwise_map.mpr h1)
      have z := h2.perm.map k
      rw [ek] at z; exact z
    have vo : ∀ v ∈ out, ∃ a, v = Value.ref a := fun v hv => by
      obtain ⟨a, _, _, _, _, e, _⟩ := all v (h2.perm.mem_iff.mp hv)
      exact ⟨a, e⟩
    obtain ⟨n, hn⟩ := sortedAll_at s.heap its out.toArray
    have len : ys.length = its.length := rv.length
    have lo : out.length = its.length := h2.perm.length_eq
    have lp : ps.length = its.length := by rw [← ek, List.length_map]
    refine ⟨.ref _, upd H (s.heap.objs.size + 1) (.lst (out.map bkV)), I.laid (t' := s.toks) (fun _ _ => sortedAll_old) (Nat.le_succ _) ⟨by rw [List.length_map, lo]; exact hz, out, n, bkV_vals vo, hn⟩, rfl, q _ _ (by rw [List.length_map, lo, lp]) ?_ (I.hok.fresh (Nat.le_succ _))⟩
    have z : ∀ l : List Value, (l.map bkV).zip (l.map k) = l.map fun u => (bkV u, k u) := fun l => by
      induction l with
      | nil => rfl
      | cons x l ih => rw [List.map_cons, List.map_cons, List.zip_cons_cons, ih, List.map_cons]
    rw [← eo, ey, ← ek, z, z]
    exact h2.perm.map _
end
/-! ### over data -/
/-- a tuple of texts, a pair of texts as data -/
def tpD (xs : List Str) : D := .tup (xs.map D.str)
def ptD (p : Str × Str) : D := tpD [p.1, p.2]
def sortD (ds : List D) (Q : D → Prop) : Prop := (∃ x xs, ds = [x] ∧ seqD x = some (xs.map D.str) ∧ Q (.lst ((srt lessS xs).map D.str))) ∨ ∃ x ps, ds = [x] ∧ seqD x = some (ps.map ptD) ∧ Q (.lst ((srt lessP ps).map ptD))
theorem prs_rep {K : PySem.W.Frag} {F H : Hp} (sub : Same F H) : ∀ {ps : List (Str × Str)} {vs : List V}, Reps K F (ps.map ptD) vs → PrsV K H vs ps
  | [], vs, h => by cases h; rfl
  | p :: ps, vs, ⟨v, r, e, h1, h2⟩ => by
    subst e
    obtain ⟨t, ws, rfl, h3, _, h4⟩ := h1
    obtain ⟨ew, _⟩ := reps_strs (ns := [p.1, p.2]) h4
    subst ew
    exact ⟨p, ps, rfl, ⟨t, rfl, Same.seqT sub h3⟩, prs_rep sub h2⟩
theorem reps_zip {K : PySem.W.Frag} {F : Hp} : ∀ {ds : List D} {vs : List V}, Reps K F ds vs → ∀ q ∈ vs.zip ds, Rep K F q.2 q.1
  | [], vs, h, q, hq => by simp at hq
  | d :: ds, _, ⟨v, r, e, h1, h2⟩, q, hq => by
    subst e
    rw [List.zip_cons_cons] at hq
    rcases List.mem_cons.mp hq with rfl | hq
    · exact h1
    · exact reps_zip h2 q hq
theorem zip_reps {K : PySem.W.Frag} {F : Hp} : ∀ {ds : List D} {vs : List V}, vs.length = ds.length → (∀ q ∈ vs.zip ds, Rep K F q.2 q.1) → Reps K F ds vs
  | [], vs, h, _ => List.eq_nil_of_length_eq_zero h
  | d :: ds, [], h, _ => by cases h
  | d :: ds, v :: vs, h, a => .cons (a (v, d) (by rw [List.zip_cons_cons]; exact List.mem_cons_self)) (zip_reps (by simpa using h) fun q hq => a q (by rw [List.zip_cons_cons]; exact List.mem_cons_of_mem _ hq))
def rSortT (K : PySem.W.Frag) : List V → Hp → VK → Prop := fun vs H Q => rSrtS K vs H Q ∨ rSrtP K vs H Q
theorem cr_sortT2 {X : Cx} : CallR X (.builtin "sorted") (rSortT X.K) := fun pins s σ H vs us Q I r h => by
  rcases h with h | h
  · exact cr_srtS pins s σ H vs us Q I r h
  · exact cr_srtP pins s σ H vs us Q I r h
theorem o_sortT {K : PySem.W.Frag} : OpN K (rSortT K) sortD := by
  intro F H ds vs Qd Q sub rs h hQ
  rcases h with ⟨x, xs, rfl, e, q⟩ | ⟨x, ps, rfl, e, q⟩
  · obtain ⟨v, _, rfl, rv, rn⟩ := rs
    cases rn
    obtain ⟨a, ws, rfl, h1, h2, h3⟩ := seq_at sub rv e
    obtain ⟨ew, ok⟩ := reps_strs h3
    subst ew
    refine .inl ⟨a, xs, rfl, h1, fun p np => ?_⟩
    have g : Grow F H (upd F p (.lst ((srt lessS xs).map V.str))) (upd H p (.lst ((srt lessS xs).map V.str))) := Grow.new sub np
    exact hQ _ _ _ _ q g ⟨p, _, rfl, upd_same, by rw [List.length_map, srt_len]; rw [List.length_map] at h2; exact h2, reps_of_strs _ fun y hy => ok y (srt_mem.mp hy)⟩
  · obtain ⟨v, _, rfl, rv, rn⟩ := rs
    cases rn
    obtain ⟨a, ws, rfl, h1, h2, h3⟩ := seq_at sub rv e
    have len := h3.length
    rw [List.length_map] at len
    refine .inr ⟨a, ws, ps, rfl, h1, prs_rep sub h3, fun zs p lz pm np => ?_⟩
    have g : Grow F H (upd F p (.lst zs)) (upd H p (.lst zs)) := Grow.new sub np
    refine hQ _ _ _ _ q g ⟨p, zs, rfl, upd_same, by rw [lz, ← len]; exact h2, ?_⟩
    refine Reps.mono g.fF _ _ (zip_reps (by rw [List.length_map, srt_len, lz]) fun q hq => ?_)
    rw [List.zip_map_right] at hq
    obtain ⟨q0, hq0, rfl⟩ := List.mem_map.mp hq
    have z := pm.mem_iff.mp hq0
    exact reps_zip h3 (q0.1, ptD q0.2) (by rw [List.zip_map_right]; exact List.mem_map.mpr ⟨q0, z, rfl⟩)
end DL

set_option Elab.async false
set_option linter.all false
set_option maxRecDepth 100000
/-! EL16: the rules for a def's own sets of texts and of tuples of texts, over data -/
namespace DL
open PySem PySem.Spec PyProof.Rows L2 TL TX TO
section
variable {X : Cx} {m : Mem} {E : Ent m} {e : Expr} {te : DT m} {pos : Pos}
/-- x = set(), then for texts -/
def dSetT {m : Mem} (w : World) (i : Nat) : DTS m := fun dd ρ s => dd.nx (ρ.set i (.ow (.box (txO w [])))) s
/-- x = set(), then for tuples of texts -/
def dSetP {m : Mem} (w : World) (i : Nat) : DTS m := fun dd ρ s => dd.nx (ρ.set i (.ow (.bag (psO w) []))) s
theorem ds_setT (i : Nat) {x : Str} {pos' cp np : Pos} (hN : X.N.Nodup) (hg : Gl X "set") (hm : X.mg "set" = none) (hi : X.N[i]? = some x := by rfl) (hx : Loc X.env.scope x := by first | exact Or.inl rfl | exact Or.inr rfl)
    (hs : swapsWith (.Call (.Name "set" np) [] [] cp) (some (.Name x pos')) pos.line X.env = pure false := by rfl) (hf : X.fn x = true ∨ X.env.scope.names.lookup x = some .local := by first | exact .inl rfl | exact .inr rfl) :
    PS X (.Assign [.Name x pos'] (.Call (.Name "set" np) [] [] cp) pos) (upS X.K m E (dSetT X.w i)) := PS.imp (ps_set hN hi hx (pe_callTy0 cr_tx0 hg hm (by decide +kernel)) hs hf) fun DD σ H h => by
  obtain ⟨F, ρ, s, dd, r, o, ht, f⟩ := h
  exact ⟨rfl, fun p np => f.nx F _ _ _ s (Same.refl F) (r.putO (o := .box (txO X.w [])) np rfl) (Own.putO r o np) ht⟩
theorem ds_setP (i : Nat) {x : Str} {pos' cp np : Pos} (hN : X.N.Nodup) (hg : Gl X "set") (hm : X.mg "set" = none) (hi : X.N[i]? = some x := by rfl) (hx : Loc X.env.scope x := by first | exact Or.inl rfl | exact Or.inr rfl)
    (hs : swapsWith (.Call (.Name "set" np) [] [] cp) (some (.Name x pos')) pos.line X.env = pure false := by rfl) (hf : X.fn x = true ∨ X.env.scope.names.lookup x = some .local := by first | exact .inl rfl | exact .inr rfl) :
    PS X (.Assign [.Name x pos'] (.Call (.Name "set" np) [] [] cp) pos) (upS X.K m E (dSetP X.w i)) := PS.imp (ps_set hN hi hx (pe_callTy0 cr_ps0 hg hm (by decide +kernel)) hs hf) fun DD σ H h => by
  obtain ⟨F, ρ, s, dd, r, o, ht, f⟩ := h
  exact ⟨rfl, fun p np => f.nx F _ _ _ s (Same.refl F) (r.putO (o := .bag (psO X.w) []) np ⟨[], rfl, .nil, fun _ z => absurd z List.not_mem_nil⟩) (Own.putO r o np) ht⟩
/-- x.add(e), texts -/
def dAddT {m : Mem} (w : World) (i : Nat) (te : DT m) : DTS m := fun dd ρ s => (∃ xs, ρ[i]? = some (.ow (.box (txO w xs)))) ∧ te ρ s fun d ρ1 s1 => ∃ k xs, d = .str k ∧ ρ1[i]? = some (.ow (.box (txO w xs))) ∧ xs.length + 1 < 4096 ∧ dd.nx (ρ1.set i (.ow (.box (txO w (if k ∈ xs then xs else k :: xs))))) s1
/-- x.add(e), tuples of texts -/
def dAddP {m : Mem} (w : World) (i : Nat) (te : DT m) : DTS m := fun dd ρ s => (∃ ks, ρ[i]? = some (.ow (.bag (psO w) ks))) ∧ te ρ s fun d ρ1 s1 => ∃ k ks, d = tpD k ∧ ρ1[i]? = some (.ow (.bag (psO w) ks)) ∧ ks.length < 76 ∧ dd.nx (ρ1.set i (.ow (.bag (psO w) (if k ∈ ks then ks else k :: ks)))) s1
theorem ds_addT (i : Nat) {x : Str} {xpos apos cpos : Pos} (he : PE X e (up X.K m te)) (hN : X.N[i]? = some x := by rfl) (hv : Vis X.env.scope x := by first | exact Or.inl rfl | exact Or.inr (Or.inl rfl) | exact Or.inr (Or.inr rfl))
    (hd : (x == ("__debug__" : Str)) = false := by decide) (hcd : (x == ("__classdict__" : Str)) = false := by decide)
    (hbase : attributeBase (.Name x xpos) "add" X.env (eval (.Name x xpos) X.env) = eval (.Name x xpos) X.env := by rfl)
    (hfew : ((backTo cpos (starEach [e] X.env)).all (fun x => !x.1) && (backToKw cpos (keywordEach [] X.env)).all (fun x => x.1.isSome)
      && decide ([e].length + ([] : List Keyword).length + (if ([] : List Keyword).isEmpty then 0 else 1) < 30)) = true := by rfl)
    (hline : (apos.endLine == cpos.line) = true := by rfl) (hs : starEach [e] X.env = [(false, eval e X.env)] := by rfl)
    (hsw : swapsWith (.Call (.Attribute (.Name x xpos) "add" apos) [e] [] cpos) none pos.line X.env = pure false := by rfl) :
    PS X (.Expr (.Call (.Attribute (.Name x xpos) "add" apos) [e] [] cpos) pos) (upS X.K m E (dAddT X.w i te)) :=
  PS.imp (ps_expr (pe_setAdd mt_txAdd (pv i hN hv hd hcd) (pa_cons he pa_nil (by rw [hs]; rfl)) hbase hfew hline (by rw [hs]; rfl) rfl) hsw) fun DD σ H h => by
  obtain ⟨F, ρ, s, dd, r, o, ⟨⟨xs0, e0⟩, ht⟩, f⟩ := h
  obtain ⟨p, ho, h1, h2, h3, h4, h5⟩ := r.own_at e0
  have h3 : ho = txO X.w xs0 p := h3
  subst h3
  refine ⟨_, h1, ⟨p, rfl, .inl ⟨_, _, h2⟩⟩, F, ρ, s, _, r, ht, fun d ρ1 s1 v F1 H1 ⟨k, xs, ed, e1, few, q1⟩ r1 st1 rv => ?_⟩
  subst ed
  obtain ⟨rfl, _⟩ := rv
  obtain ⟨p', ho, g1, g2, g3, g4, g5⟩ := r1.own_at e1
  have g3 : ho = txO X.w xs p' := g3
  subst g3
  rw [h1] at g1; cases g1
  refine ⟨p, k, xs, rfl, rfl, g2, few, ?_⟩
  exact f.nx F1 _ σ _ s1 st1.ext (r1.write (o' := .box (txO X.w (if k ∈ xs then xs else k :: xs))) e1 h1 rfl) ((o.stp st1).write (K := X.K) e1 h1) q1
theorem ds_addP (i : Nat) {x : Str} {xpos apos cpos : Pos} (hu : X.A.units + 64 < cLine) (he : PE X e (up X.K m te)) (hN : X.N[i]? = some x := by rfl) (hv : Vis X.env.scope x := by first | exact Or.inl rfl | exact Or.inr (Or.inl rfl) | exact Or.inr (Or.inr rfl))
    (hd : (x == ("__debug__" : Str)) = false := by decide) (hcd : (x == ("__classdict__" : Str)) = false := by decide)
    (hbase : attributeBase (.Name x xpos) "add" X.env (eval (.Name x xpos) X.env) = eval (.Name x xpos) X.env := by rfl)
    (hfew : ((backTo cpos (starEach [e] X.env)).all (fun x => !x.1) && (backToKw cpos (keywordEach [] X.env)).all (fun x => x.1.isSome)
      && decide ([e].length + ([] : List Keyword).length + (if ([] : List Keyword).isEmpty then 0 else 1) < 30)) = true := by rfl)
    (hline : (apos.endLine == cpos.line) = true := by rfl) (hs : starEach [e] X.env = [(false, eval e X.env)] := by rfl)
    (hsw : swapsWith (.Call (.Attribute (.Name x xpos) "add" apos) [e] [] cpos) none pos.line X.env = pure false := by rfl) :
    PS X (.Expr (.Call (.Attribute (.Name x xpos) "add" apos) [e] [] cpos) pos) (upS X.K m E (dAddP X.w i te)) :=
  PS.imp (ps_expr (pe_setAdd (mt_psAdd hu) (pv i hN hv hd hcd) (pa_cons he pa_nil (by rw [hs]; rfl)) hbase hfew hline (by rw [hs]; rfl) rfl) hsw) fun DD σ H h => by
  obtain ⟨F, ρ, s, dd, r, o, ⟨⟨ks0, e0⟩, ht⟩, f⟩ := h
  obtain ⟨p, ho, h1, h2, ⟨L0, rfl, _, _⟩, h4, h5⟩ := r.own_at e0
  refine ⟨_, h1, ⟨p, rfl, .inr ⟨_, _, h2⟩⟩, F, ρ, s, _, r, ht, fun d ρ1 s1 v F1 H1 ⟨k, ks, ed, e1, few, q1⟩ r1 st1 rv => ?_⟩
  subst ed
  obtain ⟨t, ws, rfl, t1, _, t2⟩ := rv
  obtain ⟨ew, _⟩ := reps_strs t2
  subst ew
  obtain ⟨p', ho, g1, g2, ⟨L, rfl, pm, al⟩, g4, g5⟩ := r1.own_at e1
  rw [h1] at g1; cases g1
  have lenL : L.length = ks.length := by rw [← pm.length_eq, List.length_map]
  refine ⟨p, t, k, L, rfl, rfl, g2, Same.seqT r1.sub t1, fun q hq => Same.seqT r1.sub (al q hq), by omega, fun L' k1 k2 => ?_⟩
  refine f.nx F1 _ σ _ s1 st1.ext (r1.write (o' := .bag (psO X.w) (if k ∈ ks then ks else k :: ks)) e1 h1 ⟨L', rfl, ?_, ?_⟩) ((o.stp st1).write (K := X.K) e1 h1) q1
  · by_cases hk : k ∈ ks
    · rw [if_pos hk, k1 (pm.mem_iff.mpr hk)]; exact pm
    · rw [if_neg hk]
      have z := (k2 fun z => hk (pm.mem_iff.mp z)).map (·.2)
      exact z.trans (pm.cons k)
  · by_cases hk : k ∈ ks
    · rw [k1 (pm.mem_iff.mpr hk)]; exact al
    · intro q hq
      have z := (k2 fun z => hk (pm.mem_iff.mp z)).mem_iff.mp hq
      rcases List.mem_cons.mp z with rfl | z
      · exact t1
      · exact al q z
/-- sorted(x) -/
def dSortT {m : Mem} (w : World) (i : Nat) : DT m := fun ρ s Q => ∃ xs, ρ[i]? = some (.ow (.box (txO w xs))) ∧ xs.length < 4096 ∧ (∀ x ∈ xs, sOk x = true) ∧ Q (.lst ((srt lessS xs).map D.str)) ρ s
theorem de_sortT (i : Nat) {x : Str} {xpos p : Pos} (hc : X.calm = true) (hg : Gl X "sorted") (hm : X.mg "sorted" = none) (hN : X.N[i]? = some x := by rfl) (hv : Vis X.env.scope x := by first | exact Or.inl rfl | exact Or.inr (Or.inl rfl) | exact Or.inr (Or.inr rfl))
    (hd : (x == ("__debug__" : Str)) = false := by decide) (hcd : (x == ("__classdict__" : Str)) = false := by decide)
    (hs : starEach [.Name x xpos] X.env = [(false, eval (.Name x xpos) X.env)] := by rfl) : PE X (.Call (.Name "sorted" p) [.Name x xpos] [] pos) (up X.K m (dSortT X.w i)) :=
  PE.imp (pe_callB (cr_txSorted hc) hg hm (by decide +kernel) (pa_cons (pv i hN hv hd hcd) pa_nil (by rw [hs]; rfl)) (by decide) (by decide) (by rw [hs]; rfl) rfl) fun σ H Q h => by
    obtain ⟨F, ρ, s, Qd, r, ⟨xs, e0, few, ok, q⟩, hQ⟩ := h
    obtain ⟨a, ho, h1, h2, h3, h4, h5⟩ := r.own_at e0
    have h3 : ho = txO X.w xs a := h3
    subst h3
    refine ⟨_, h1, a, xs, rfl, h2, few, fun p np => ?_⟩
    have g : Grow F H (upd F p (.lst ((srt lessS xs).map V.str))) (upd H p (.lst ((srt lessS xs).map V.str))) := Grow.new r.sub np
    exact hQ _ ρ s _ _ _ q (r.grow g) g.stp ⟨p, _, rfl, upd_same, by rw [List.length_map, srt_len, sizeLine_eq]; omega, reps_of_strs _ fun y hy => ok y (srt_mem.mp hy)⟩
/-- e in x, e not in x -/
def dInP {m : Mem} (w : World) (neg : Bool) (te : DT m) (i : Nat) : DTT m := fun ρ s Q => te ρ s fun d ρ1 s1 => ∃ k ks, d = tpD k ∧ ρ1[i]? = some (.ow (.bag (psO w) ks)) ∧ Q (neg ^^ decide (k ∈ ks)) ρ1 s1
theorem up_inP {K : PySem.W.Frag} {w : World} {i : Nat} {neg : Bool} {σ : L2.St} {H : Hp} {Q : Bool → Hp → Prop} (h : upT K m (dInP w neg te i) σ H Q) :
    up K m te σ H fun x H1 => tVar i σ H1 fun y H2 => rPsIn K w neg x y H2 fun v H3 => ∃ b, v = .bl b ∧ Q b H3 := by
  obtain ⟨F, ρ, s, Qd, r, ht, hQ⟩ := h
  refine ⟨F, ρ, s, _, r, ht, fun d ρ1 s1 v F1 H1 ⟨k, ks, ed, e1, q1⟩ r1 st1 rv => ?_⟩
  subst ed
  obtain ⟨t, ws, rfl, t1, _, t2⟩ := rv
  obtain ⟨ew, _⟩ := reps_strs t2
  subst ew
  obtain ⟨p, ho, g1, g2, ⟨L, rfl, pm, al⟩, g4, g5⟩ := r1.own_at e1
  refine ⟨.ref p, g1, p, t, k, L, rfl, rfl, g2, Same.seqT r1.sub t1, fun q hq => Same.seqT r1.sub (al q hq), _, rfl, ?_⟩
  rw [show decide (k ∈ L.map (·.2)) = decide (k ∈ ks) from decide_eq_decide.mpr pm.mem_iff]
  exact hQ _ ρ1 s1 F1 H1 q1 r1 st1
theorem dt_inP (i : Nat) {x : Str} {xpos : Pos} (hu : X.A.units + 64 < cLine) (he : PE X e (up X.K m te)) (hN : X.N[i]? = some x := by rfl) (hv : Vis X.env.scope x := by first | exact Or.inl rfl | exact Or.inr (Or.inl rfl) | exact Or.inr (Or.inr rfl))
    (hd : (x == ("__debug__" : Str)) = false := by decide) (hcd : (x == ("__classdict__" : Str)) = false := by decide) (hm : behindInMarks .In (.Name x xpos) = false := by first | exact nobehind _ (by decide) (by decide) | rfl) : PT X (.Compare e [.In] [.Name x xpos] pos) (upT X.K m (dInP X.w false te i)) :=
  PT.imp (pt_cmpR (op_psIn hu) he (pv i hN hv hd hcd) hm) fun _ _ _ h => up_inP h
end
end DL

set_option Elab.async false
set_option linter.all false
set_option maxRecDepth 100000
/-! EL17: what is asked of an own class by one Bool over K; isinstance of it; its properties by facts -/
namespace DL
open PySem PySem.Spec PyProof.Rows L2 TL
def allTg : List Tg := [.non, .bl, .int, .str, .lst, .tup, .dic]
theorem allTg_mem (t : Tg) : t ∈ allTg := by cases t <;> simp [allTg]
structure OwnC (K : PySem.W.Frag) (C : Addr) : Prop where
  nf : NoFirst K C
  kt : ∀ t, PySem.W.kitOne K (.type (tgS t)) (.ref C) = some false
  ks : PySem.W.kitOne K (.ref C) (.ref C) = some true
  sf : PySem.W.selfFirst K C = true
def ownB (K : PySem.W.Frag) (C : Addr) : Bool := (allTg.all fun t => PySem.W.notFirst K C (.type (tgS t)) && (PySem.W.kitOne K (.type (tgS t)) (.ref C) == some false)) && (PySem.W.kitOne K (.ref C) (.ref C) == some true) && PySem.W.selfFirst K C
theorem ownC_of {K : PySem.W.Frag} {C : Addr} (h : ownB K C = true) : OwnC K C := by
  unfold ownB at h
  rw [Bool.and_eq_true, Bool.and_eq_true, List.all_eq_true] at h
  obtain ⟨⟨h1, h2⟩, h3⟩ := h
  refine ⟨fun t => ?_, fun t => ?_, eq_of_beq h2, h3⟩
  · have z := h1 t (allTg_mem t)
    rw [Bool.and_eq_true] at z; exact z.1
  · have z := h1 t (allTg_mem t)
    rw [Bool.and_eq_true] at z; exact eq_of_beq z.2
theorem propOf_mk {K : PySem.W.Frag} {C p g : Addr} {f : Str} {rest : List Value} (h1 : PySem.W.findIn K (.ref C) f = some (some (.ref p))) (h2 : PySem.W.specialIn K (.ref p) "__get__" = some (some (.builtin "property.__get__")))
    (h3 : PySem.W.takesIn K (.ref p) = some true) (h4 : PySem.W.recIn K p "property" = some (.ref g :: rest)) : PropOf K C f p g := ⟨h1, h2, h3, rest, h4⟩
end DL

set_option Elab.async false
set_option linter.all false
set_option maxRecDepth 100000
/-! EL18: sorted(set(xs)), xs a list or a tuple of texts -/
namespace DL
open PySem PySem.Spec PyProof.Rows L2 TL TX TO
/-- each once -/
def once {α : Type} [DecidableEq α] (xs : List α) : List α := xs.foldl (fun acc k => if k ∈ acc then acc else k :: acc) []
section
variable {α : Type} [DecidableEq α]
theorem once_snoc (xs : List α) (k : α) : once (xs ++ [k]) = if k ∈ once xs then once xs else k :: once xs := by
  unfold once
  rw [List.foldl_append]; rfl
theorem once_both : ∀ (xs acc : List α), acc.Nodup → (xs.foldl (fun acc k => if k ∈ acc then acc else k :: acc) acc).Nodup ∧ ∀ x, x ∈ xs.foldl (fun acc k => if k ∈ acc then acc else k :: acc) acc ↔ x ∈ xs ∨ x ∈ acc
  | [], acc, h => ⟨h, fun x => by simp⟩
  | k :: xs, acc, h => by
    rw [List.foldl_cons]
    by_cases hk : k ∈ acc
    · rw [if_pos hk]
      obtain ⟨h1, h2⟩ := once_both xs acc h
      refine ⟨h1, fun x => (h2 x).trans ⟨fun z => z.elim (fun y => .inl (List.mem_cons_of_mem _ y)) .inr, fun z => z.elim (fun y => ?_) .inr⟩⟩
      rcases List.mem_cons.mp y with rfl | y
      · exact .inr hk
      · exact .inl y
    · rw [if_neg hk]
      obtain ⟨h1, h2⟩ := once_both xs (k :: acc) (List.nodup_cons.mpr ⟨hk, h⟩)
      refine ⟨h1, fun x => (h2 x).trans ?_⟩
      rw [List.mem_cons, List.mem_cons]
      constructor
      · rintro (z | z | z)
        · exact .inl (.inr z)
        · exact .inl (.inl z)
        · exact .inr z
      · rintro ((z | z) | z)
        · exact .inr (.inl z)
        · exact .inl z
        · exact .inr (.inr z)
theorem once_nodup (xs : List α) : (once xs).Nodup := (once_both xs [] List.nodup_nil).1
theorem once_mem {xs : List α} {x : α} : x ∈ once xs ↔ x ∈ xs := ((once_both xs [] List.nodup_nil).2 x).trans (by simp)
theorem once_len : ∀ (xs : List α), (once xs).length ≤ xs.length := fun xs => by
  have key : ∀ (xs acc : List α), (xs.foldl (fun acc k => if k ∈ acc then acc else k :: acc) acc).length ≤ xs.length + acc.length := by
    intro xs
    induction xs with
    | nil => intro acc; simp
    | cons k xs ih =>
      intro acc
      rw [List.foldl_cons, List.length_cons]
      by_cases hk : k ∈ acc
      · rw [if_pos hk]; have := ih acc; omega
      · rw [if_neg hk]
        have := ih (k :: acc)
        rw [List.length_cons] at this; omega
  exact key xs []
theorem once_next {xs : List α} {i : Nat} {k : α} (h : xs[i]? = some k) : once (xs.take (i + 1)) = if k ∈ once (xs.take i) then once (xs.take i) else k :: once (xs.take i) := by
  have e : xs.take (i + 1) = xs.take i ++ [k] := by rw [List.take_add_one, h]; rfl
  rw [e, once_snoc]
end
section
variable {P : Program} {w : World} {A : Around} {E : Value → Shared → Prop} {s : Shared} {a : Addr} {xs : List Str}
theorem sadd_tx {k : Str} {u : Tok} {Q : Bool → Shared → Prop} (R : Tset w s.heap a xs) (room : xs.length + 1 < scanBound)
    (q : ∀ b h', Heap.SameBut a s.heap h' → Tset w h' a (if k ∈ xs then xs else k :: xs) → Q b { s with heap := h', toks := s.toks + 1 }) : wpAny (model P w) A (setAdd a (.str k u)) Q E s := by
  unfold setAdd
  refine wpAny_holding (wpAny_bind ((PySem.strKind P w).pyHash (Froz.is_str (P := P) (w := w) k u) ?_))
  have R1 : Tset w { s with toks := s.toks + 1 }.heap a xs := R
  by_cases hk : k ∈ xs
  · rw [if_pos hk] at q
    exact there_tx (s := { s with toks := s.toks + 1 }) R1 hk (Nat.lt_of_succ_lt room) (q _ _ (Heap.SameBut.refl a s.heap) R)
  · rw [if_neg hk] at q
    obtain ⟨D, e, T, nd, ri, le⟩ := R
    refine Froz.add_x (s := { s with toks := s.toks + 1 }) (l := xs) (D := D) (T := "set") e (T P) hk room ?_
    have z := add_ris (h := hashStr w k) (v := .str k u) ri
    exact q _ _ (Heap.SameBut.update ..) ⟨Froz.addTx (hashStr w k) (.str k u) D, Froz.get_upd _ e rfl, fun P' => Froz.add_ok u (T P'), List.nodup_cons.mpr ⟨hk, nd⟩, z.1, le.imp id fun y => z.2.trans y⟩
theorem strs_get : ∀ {vs : List Value} {xs : List Str}, StrsAre vs xs → ∀ (i : Nat) (v : Value), vs[i]? = some v → ∃ k t, xs[i]? = some k ∧ v = .str k t
  | _, _, .nil, i, v, h => by simp at h
  | _, _, .cons y t r, 0, v, h => ⟨y, t, rfl, by simpa using h.symm⟩
  | _, _, .cons y t r, i + 1, v, h => by
    obtain ⟨k, t', h1, h2⟩ := strs_get r i v (by simpa using h)
    exact ⟨k, t', by simpa using h1, h2⟩
end
section
variable {X : Cx}
def rSetTx (K : PySem.W.Frag) (w : World) : List V → Hp → VK → Prop := fun vs H Q => ∃ a xs, vs = [V.ref a] ∧ SqA K H a (xs.map V.str) ∧ xs.length < 4000 ∧ ∀ p, H p = none → Q (.ref p) (upd H p (txO w (once xs) p))
theorem cr_setTx (hc : X.calm = true) : CallR X (.type "set") (rSetTx X.K X.w) := by
  intro pins s σ H vs us Q I r h
  obtain ⟨a, xs, rfl, hs, few, q⟩ := h
  rw [Vals.ref1 r]
  have hl : ∃ (its : List Value) (tn : String) (o : Obj) (n : Nat), StrsAre its xs ∧ (tn = "list" ∨ tn = "tuple") ∧ s.heap.get? a = some o ∧ o.cls = .type tn ∧ o.data = .seq its.toArray n := by
    rcases hs with hs | hs
    · obtain ⟨its, rv, hl, hz⟩ := I.list hs
      obtain ⟨o, e1, e2, n, e3⟩ := hl.isList
      exact ⟨its, "list", o, n, strs_vals rv, .inl rfl, e1, e2, e3⟩
    · obtain ⟨its, rv, ⟨o, e1, e2, n, e3⟩, hz⟩ := I.tuple hs
      exact ⟨its, "tuple", o, n, strs_vals rv, .inr rfl, e1, e2, e3⟩
  obtain ⟨its, tn, o, n, st, htn, e1, e2, e3⟩ := hl
  have len : its.length = xs.length := StrsAre.len_eq st
  refine SF.made (items := its.toArray) (R := fun i h => Tset X.w h s.heap.objs.size (once (xs.take i))) htn (I.ok.hd hc) ⟨o, n, e1, e2, e3⟩ ⟨fun i h h' R k => R.keep k, fun i v s' Q hv old R hQ => ?_⟩ (fun h e => ?_) fun h' tk R old => ?_
  · obtain ⟨k, t, hk, rfl⟩ := strs_get st i v (by simpa using hv)
    refine sadd_tx R ?_ fun b h' sb R' => hQ b h' _ sb (Nat.le_succ _) ?_
    · have := once_len (xs.take i)
      rw [List.length_take] at this
      unfold scanBound; omega
    · show Tset X.w h' s.heap.objs.size (once (xs.take (i + 1)))
      rw [once_next hk]; exact R'
  · exact ⟨(#[], 0, .fresh 0 0 (!X.w.params.followText "set-order")), e, fun P => Froz.TxOk.nil rfl, List.nodup_nil, List.Pairwise.nil, by
      cases X.w.params.followText "set-order" with
      | true => exact .inl rfl
      | false => exact .inr rfl⟩
  · have fin : Tset X.w h' s.heap.objs.size (once xs) := by
      have z : its.toArray.size = xs.length := by rw [List.size_toArray, len]
      rw [z, List.take_length] at R; exact R
    have hn : H s.heap.objs.size = none := I.hok.fresh (Nat.le_refl _)
    exact ⟨.ref _, upd H s.heap.objs.size (txO X.w (once xs) s.heap.objs.size), I.laid (t' := tk) old (Nat.le_refl _) (txO_new fin), rfl, q _ hn⟩
variable {m : Mem} {e : Expr} {te : DT m} {pos p p2 cp : Pos}
end
end DL

set_option Elab.async false
set_option linter.all false
set_option maxRecDepth 100000
/-! EL19: o.m(e, ..), o an instance, m a def of its class -/
namespace DL
open PySem PySem.Spec PyProof.Rows L2 TL
section
variable {X : Cx} {m : Mem} {o e : Expr} {es : List Expr} {to : DT m} {u : DTA m} {pos apos : Pos} {C f : Addr} {k n : Nat} {fd : FuncData} {ps : List Str} {mn : Str}
end
end DL

set_option Elab.async false
set_option linter.all false
set_option maxRecDepth 100000
set_option maxHeartbeats 1000000
namespace RP
open PySem PySem.Spec PyProof.Rows L2 TL DL TX TO
theorem line_of2 {n : Nat} (h : n ≤ 1000000) : n ≤ sizeLine := Nat.le_trans h (by rw [sizeLine_eq]; decide)
theorem lz {n : Nat} (h : Nat.ble n 1000000 = true) : n ≤ sizeLine := line_of2 (Nat.le_of_ble_eq_true h)
theorem len_add (a b : Str) : (a ++ b).length = a.length + b.length := by rw [len_tl, tl_append, List.length_append, ← len_tl, ← len_tl]
/-- data that is like itself in all parts -/
def smD : Nat → D → Prop
  | _, .non => True
  | _, .bl _ => True
  | _, .int _ => True
  | _, .str _ => True
  | 0, .lst _ => False
  | n + 1, .lst xs => xs.length ≤ 1000 ∧ ∀ x ∈ xs, smD n x
  | 0, .tup _ => False
  | n + 1, .tup xs => xs.length ≤ 1000 ∧ ∀ x ∈ xs, smD n x
  | _, .dic ks xs => repOk (.dic ks xs) = true
  | _, _ => False
def spS {m : Mem} : Nat → DSp m
  | 0 => fun _ _ _ => False
  | n + 1 => fun ds s Q => ∃ d, ds = [d, d] ∧ smD n d ∧ Q (.bl true) s
theorem spS_len {m : Mem} : ∀ (n : Nat) ds s Qd, (spS n : DSp m) ds s Qd → ds.length = 2
  | 0, _, _, _, h => h.elim
  | n + 1, _, _, _, ⟨_, e, _⟩ => by rw [e]; rfl
theorem pairs_self {xs : List D} {pre post : List D} {x : D} (h : pairsD xs xs = pre ++ x :: post) : ∃ y ∈ xs, x = .tup [y, y] := by
  have e : (pairsD xs xs)[pre.length]? = some x := by rw [h]; simp
  obtain ⟨y, z, h1, h2, rfl⟩ := pairs_get e
  rw [h1] at h2
  cases h2
  exact ⟨y, List.mem_of_getElem? h1, rfl⟩
theorem reps_true (k : Nat) : (List.replicate k true).all id = true := by
  rw [List.all_eq_true]
  intro x hx
  rw [(List.mem_replicate.mp hx).2]
  rfl
/-- len(found) == len(due) and all([_law_same(..) ..]) of one sequence -/
theorem same_seq {m : Mem} {n : Nat} {d : D} {xs : List D} {s : m.S} {Qd : D → m.S → Prop} {ρ2 ρ3 : Sl} (hd : d = .lst xs ∨ d = .tup xs) (hz : xs.length ≤ 1000) (h : ∀ x ∈ xs, smD n x) (hQ : Qd (.bl true) s) :
    (dRet (dAndV (dCm eqC (dB lenD (daCons (dVar 0) daNil)) (dB lenD (daCons (dVar 1) daNil))) (dB allD (daCons (dLc (diZip (daCons (dVar 0) (daCons (dVar 1) daNil))) (gTup' 2 (gCons' (gN 2) (gCons' (gN 3) gNil'))) dYes (dCall (spS (n + 1)) (daCons (dVar 2) (daCons (dVar 3) daNil))) [2, 3]) daNil))) : DTS m) (endsOf Qd) [.sh d, .sh d, ρ2, ρ3] s := by
  have hl : lenOf d = some xs.length := by rcases hd with rfl | rfl <;> rfl
  have hzip : zipD d d = some (xs, xs) := by rcases hd with rfl | rfl <;> rfl
  have e : eqD (.int (xs.length : Nat)) (.int (xs.length : Nat)) = true := by simp [eqD]
  have hpl : (pairsD xs xs).length = xs.length := by simp [pairsD]
  refine ⟨d, _, rfl, hl, d, _, rfl, hl, rfl, rfl, ?_⟩
  rw [e]
  refine ⟨true, rfl, _, _, xs, xs, rfl, hzip, by rw [hpl]; exact line_of2 (by omega), fun pre acc s' => s' = s ∧ acc = (List.replicate pre.length true).map .bl, ⟨rfl, rfl⟩, fun pre x post acc s' heq hle hI => ?_, fun acc s' hle hI => ?_⟩
  · obtain ⟨rfl, rfl⟩ := hI
    obtain ⟨y, hy, rfl⟩ := pairs_self heq
    refine ⟨_, rfl, rfl, _, _, rfl, _, _, rfl, rfl, rfl, y, rfl, h y hy, rfl, rfl, ?_⟩
    rw [List.length_append, List.length_singleton, List.replicate_succ', List.map_append]
    rfl
  · obtain ⟨rfl, rfl⟩ := hI
    refine ⟨_, rfl, ?_⟩
    rw [reps_true]
    exact hQ
def T_same98 (n : Nat) {m : Mem} : DTS m :=
  (dSeq (dIf (dTr (dIsT (dVar 1) Tg.tup Tg.lst)) (dSeq (dIf (dOrT (dCmT neC (dB isiD (daCons (dVar 1) (daCons (dC (D.any (V.ty "tuple"))) daNil))) (dB isiD (daCons (dVar 0) (daCons (dC (D.any (V.ty "tuple"))) daNil)))) (dCmT neC (dB isiD (daCons (dVar 1) (daCons (dC (D.any (V.ty "list"))) daNil))) (dB isiD (daCons (dVar 0) (daCons (dC (D.any (V.ty "list"))) daNil))))) (dRet (dC (D.bl false))) dNext)
        (dRet (dAndV (dCm eqC (dB lenD (daCons (dVar 0) daNil)) (dB lenD (daCons (dVar 1) daNil))) (dB allD (daCons (dLc (diZip (daCons (dVar 0) (daCons (dVar 1) daNil))) (gTup' 2 (gCons' (gN 2) (gCons' (gN 3) gNil'))) dYes (dCall (spS n) (daCons (dVar 2) (daCons (dVar 3) daNil))) [2, 3]) daNil))))) dNext)
      (dSeq (dIf (dCmT isD' (dVar 1) (dC D.non)) (dRet (dCm isD' (dVar 0) (dC D.non))) dNext)
      (dSeq (dIf (dTr (dB isiD (daCons (dVar 1) (daCons (dC (D.any (V.ty "str"))) daNil)))) (dRet (dAndV (dB isiD (daCons (dVar 0) (daCons (dC (D.any (V.ty "str"))) daNil))) (dCm eqC (dVar 0) (dVar 1)))) dNext)
      (dSeq (dIf (dOrT (dTr (dB isiD (daCons (dVar 1) (daCons (dC (D.any (V.ty "bool"))) daNil)))) (dTr (dB isiD (daCons (dVar 0) (daCons (dC (D.any (V.ty "bool"))) daNil))))) (dRet (dAndV (dB isiD (daCons (dVar 0) (daCons (dC (D.any (V.ty "bool"))) daNil))) (dAndV (dB isiD (daCons (dVar 1) (daCons (dC (D.any (V.ty "bool"))) daNil))) (dCm eqC (dVar 0) (dVar 1))))) dNext)
      (dSeq (dIf (dTr (dB isiD (daCons (dVar 1) (daCons (dC (D.any (V.ty "int"))) daNil)))) (dRet (dAndV (dB isiD (daCons (dVar 0) (daCons (dC (D.any (V.ty "int"))) daNil))) (dCm eqC (dVar 0) (dVar 1)))) dNext)
      (dRet (dAndV (dB isiD (daCons (dVar 1) (daCons (dC (D.any (V.ty "dict"))) daNil))) (dAndV (dB isiD (daCons (dVar 0) (daCons (dC (D.any (V.ty "dict"))) daNil))) (dCm eqT (dB reprD (daCons (dVar 0) daNil)) (dB reprD (daCons (dVar 1) daNil)))))))))))
theorem read_same98 (n : Nat) {m : Mem} : ∀ ds s Qd, (spS (n + 1) : DSp m) ds s Qd → (T_same98 n : DTS m) (endsOf Qd) (startD ["_law_found", "_law_due", "_law_one", "_law_other"] ds) s := by
  intro ds s Qd h
  obtain ⟨d, rfl, hd, hQ⟩ := h
  cases d with
  | non => exact ⟨_, rfl, _, rfl, (fun _ => by intro z; cases z), (fun _ => by intro z; cases z), hQ⟩
  | bl b =>
    refine ⟨_, rfl, _, rfl, (fun _ => by intro z; cases z), _, .str, _, rfl, rfl, (by intro z; cases z), _, rfl, ?_⟩
    refine ⟨_, .bl, _, rfl, rfl, (by intro z; cases z), _, rfl, ?_⟩
    refine ⟨_, .bl, _, rfl, rfl, (by intro z; cases z), _, rfl, _, .bl, _, rfl, rfl, (by intro z; cases z), _, rfl, rfl, rfl, ?_⟩
    cases b <;> exact hQ
  | int i =>
    refine ⟨_, rfl, _, rfl, (fun _ => by intro z; cases z), _, .str, _, rfl, rfl, (by intro z; cases z), _, rfl, ?_⟩
    refine ⟨_, .bl, _, rfl, rfl, (by intro z; cases z), _, rfl, _, .bl, _, rfl, rfl, (by intro z; cases z), _, rfl, ?_⟩
    refine ⟨_, .int, _, rfl, rfl, (by intro z; cases z), _, rfl, _, .int, _, rfl, rfl, (by intro z; cases z), _, rfl, rfl, rfl, ?_⟩
    rw [show eqD (.int i) (.int i) = true from by simp [eqD]]
    exact hQ
  | str x =>
    refine ⟨_, rfl, _, rfl, (fun _ => by intro z; cases z), _, .str, _, rfl, rfl, (by intro z; cases z), _, rfl, ?_⟩
    refine ⟨_, .str, _, rfl, rfl, (by intro z; cases z), _, rfl, rfl, rfl, ?_⟩
    rw [show eqD (.str x) (.str x) = true from by simp [eqD]]
    exact hQ
  | lst xs =>
    cases n with
    | zero => exact hd.elim
    | succ n =>
      obtain ⟨hz, hd⟩ := hd
      refine ⟨_, rfl, _, rfl, _, .tup, _, rfl, rfl, (by intro z; cases z), _, .tup, _, rfl, rfl, (by intro z; cases z), rfl, rfl, _, .lst, _, rfl, rfl, (by intro z; cases z), _, .lst, _, rfl, rfl, (by intro z; cases z), rfl, rfl, ?_⟩
      exact same_seq (.inl rfl) hz hd hQ
  | tup xs =>
    cases n with
    | zero => exact hd.elim
    | succ n =>
      obtain ⟨hz, hd⟩ := hd
      refine ⟨_, rfl, _, rfl, _, .tup, _, rfl, rfl, (by intro z; cases z), _, .tup, _, rfl, rfl, (by intro z; cases z), rfl, rfl, _, .lst, _, rfl, rfl, (by intro z; cases z), _, .lst, _, rfl, rfl, (by intro z; cases z), rfl, rfl, ?_⟩
      exact same_seq (.inr rfl) hz hd hQ
  | dic ks xs =>
    refine ⟨_, rfl, _, rfl, (fun _ => by intro z; cases z), _, .str, _, rfl, rfl, (by intro z; cases z), _, rfl, ?_⟩
    refine ⟨_, .bl, _, rfl, rfl, (by intro z; cases z), _, rfl, _, .bl, _, rfl, rfl, (by intro z; cases z), _, rfl, ?_⟩
    refine ⟨_, .int, _, rfl, rfl, (by intro z; cases z), _, rfl, ?_⟩
    have hd' : repOk (.dic ks xs) = true := by cases n <;> exact hd
    refine ⟨_, .dic, _, rfl, rfl, (by intro z; cases z), _, rfl, _, .dic, _, rfl, rfl, (by intro z; cases z), _, rfl, _, rfl, hd', _, rfl, hd', _, _, rfl, rfl, ?_⟩
    rw [decide_eq_true rfl]
    exact hQ
  | ins _ _ _ => cases n <;> exact hd.elim
  | any _ => cases n <;> exact hd.elim
  | fz _ => cases n <;> exact hd.elim
  | exc _ _ _ => cases n <;> exact hd.elim
end RP

set_option Elab.async false
set_option linter.all false
set_option maxRecDepth 100000
set_option maxHeartbeats 1000000
/-! LP1: paths, modules, uses, programs: what is said of them over data -/
namespace RP
open PySem PySem.Spec PyProof.Rows L2 TL DL TX TO
/-! ### equality of texts and pairs -/
theorem eqD_pr (p q : Str × Str) : eqD (ptD p) (ptD q) = decide (p = q) := by
  show eqDs [.str p.1, .str p.2] [.str q.1, .str q.2] = _
  rw [show ([.str p.1, .str p.2] : List D) = [p.1, p.2].map .str from rfl, show ([.str q.1, .str q.2] : List D) = [q.1, q.2].map .str from rfl, eqss]
  by_cases h : p = q
  · subst h; simp
  · rw [decide_eq_false h]
    refine beq_eq_false_iff_ne.mpr fun z => h ?_
    injection z with z1 z2
    injection z2 with z2 _
    exact Prod.ext z1 z2
theorem plain_prs : ∀ (n : Nat) (ps : List (Str × Str)), plainDs (n + 1) (ps.map ptD) = true
  | n, [] => rfl
  | n, p :: ps => by
    show (plainD (n + 1) (ptD p) && plainDs (n + 1) (ps.map ptD)) = true
    rw [plain_prs n ps, Bool.and_true]
    exact plain_strs n [p.1, p.2]
theorem any_str (xs : List Str) (z : Str) : (xs.map D.str).any (fun y => eqD y (.str z)) = decide (z ∈ xs) := by
  induction xs with
  | nil => rfl
  | cons x xs ih =>
    rw [List.map_cons, List.any_cons, ih, eqs, show decide (x = z) = decide (z = x) from decide_eq_decide.mpr eq_comm, ← Bool.decide_or]
    exact decide_eq_decide.mpr List.mem_cons.symm
theorem any_pr (ps : List (Str × Str)) (z : Str × Str) : (ps.map ptD).any (fun y => eqD y (ptD z)) = decide (z ∈ ps) := by
  induction ps with
  | nil => rfl
  | cons x xs ih =>
    rw [List.map_cons, List.any_cons, ih, eqD_pr, show decide (x = z) = decide (z = x) from decide_eq_decide.mpr eq_comm, ← Bool.decide_or]
    exact decide_eq_decide.mpr List.mem_cons.symm
theorem sm_strs (n : Nat) (xs : List Str) : ∀ d ∈ xs.map D.str, smD n d := fun d hd => by
  obtain ⟨x, _, rfl⟩ := List.mem_map.mp hd
  cases n <;> exact trivial
theorem sm_tup (n : Nat) {xs : List Str} (h : xs.length ≤ 1000) : smD (n + 1) (.tup (xs.map .str)) := ⟨by rw [List.length_map]; exact h, sm_strs n xs⟩
/-! ### paths -/
def ovS (p o : Str) : Bool := coversS p o || coversS o p
theorem ovS_comm (p o : Str) : ovS p o = ovS o p := Bool.or_comm ..
theorem cov_self (p : Str) : coversS p p = true := by
  unfold coversS
  rw [beq_self_eq_true, Bool.true_or]
theorem ovS_self (p : Str) : ovS p p = true := by unfold ovS; rw [cov_self, Bool.true_or]
theorem ovS_lcov (p o : Str) : (lcov p o || lcov o p) = ovS p o := by unfold ovS; rw [cov_eq, cov_eq]
theorem okName_of {x : Str} (h : NameOk x) : okName x = true := by
  unfold okName okLen
  rw [Bool.and_eq_true, Bool.and_eq_true, List.all_eq_true]
  refine ⟨⟨decide_eq_true h.1, decide_eq_true h.2.1⟩, fun c hc => ?_⟩
  unfold okc
  rw [Bool.and_eq_true]
  have := h.2.2 c hc
  exact ⟨decide_eq_true this.1, decide_eq_true this.2⟩
theorem okName_free {x : Str} (h : okName x = true) : 46 ∉ tl x := fun hm => by
  unfold okName at h
  rw [Bool.and_eq_true, List.all_eq_true] at h
  have z := h.2 46 hm
  unfold okc at z
  exact absurd z (by decide)
/-- a path, of a length that is known -/
def PathS (x : Str) : Prop := isPathS x = true ∧ x.length ≤ 100
theorem PathS.names {x : Str} (h : PathS x) : (splS 46 x).length ≤ 6 ∧ ∀ n ∈ splS 46 x, okName n = true := by
  have z := h.1
  unfold isPathS at z
  rw [Bool.and_eq_true, List.all_eq_true] at z
  exact ⟨of_decide_eq_true z.1, z.2⟩
theorem spl_names {ns : List Str} (h0 : ns ≠ []) (h : ∀ n ∈ ns, okName n = true) : splS 46 (joinS dot ns) = ns := splS_join h0 fun x hx => okName_free (h x hx)
theorem pathS_names {ns : List Str} (h0 : ns ≠ []) (h6 : ns.length ≤ 6) (h : ∀ n ∈ ns, okName n = true) : PathS (joinS dot ns) := by
  refine ⟨?_, ?_⟩
  · unfold isPathS
    rw [spl_names h0 h, decide_eq_true h6, Bool.true_and, List.all_eq_true]
    exact h
  · have q1 := joinS_len (z := dot) (ns := ns)
    have q2 := sum_le8 (ns := ns) fun y hy => by
      have z := h y hy
      unfold okName okLen at z
      rw [Bool.and_eq_true, Bool.and_eq_true] at z
      exact of_decide_eq_true z.1.2
    rw [show dot.length = 1 from rfl] at q1
    omega
theorem pathS_of {pool : List Str} {x : Str} (h : PathOf pool 6 x) (hp : ∀ y ∈ pool, NameOk y) : PathS x := by
  obtain ⟨ns, h1, h2, h3, rfl⟩ := h
  exact pathS_names (by intro z; rw [z] at h1; exact absurd h1 (by decide)) (by omega) fun n hn => okName_of (hp n (h3 n hn))
theorem PathS.ok {x : Str} (h : PathS x) : sOk x = true := by
  refine sOk_of (Nat.le_trans h.2 (by decide)) fun c hc => ?_
  have e := join_splS 46 x
  have hm : c ∈ tl (joinS dot (splS 46 x)) := by rw [show joinS dot (splS 46 x) = x from e]; exact hc
  have hm : c ∈ joinL [46] ((splS 46 x).map tl) := by
    have e2 : tl (joinS dot (splS 46 x)) = joinL [46] ((splS 46 x).map tl) := tl_join _ _
    rw [e2] at hm; exact hm
  have key : ∀ (ls : List (List Nat)), (∀ l ∈ ls, ∀ c ∈ l, c ≤ 122) → ∀ c ∈ joinL [46] ls, c ≤ 122 := by
    intro ls
    induction ls with
    | nil => intro _ c hc; cases hc
    | cons l ls ih =>
      intro h c hc
      cases ls with
      | nil => exact h l List.mem_cons_self c hc
      | cons l2 r =>
        rw [joinL_cons _ _ (by simp)] at hc
        rcases List.mem_append.mp hc with z | z
        · exact h l List.mem_cons_self c z
        · rcases List.mem_append.mp z with z | z
          · rw [List.mem_singleton.mp z]; decide
          · exact ih (fun l hl => h l (List.mem_cons_of_mem _ hl)) c z
  have := key _ (fun l hl c hc => by
    obtain ⟨n, hn, rfl⟩ := List.mem_map.mp hl
    have z := h.names.2 n hn
    unfold okName at z
    rw [Bool.and_eq_true, List.all_eq_true] at z
    have y := z.2 c hc
    unfold okc at y
    rw [Bool.and_eq_true] at y
    exact of_decide_eq_true y.2) c hm
  omega
/-! ### the beginnings of a path -/
def begs (x : Str) : List Str := (List.range (splS 46 x).length).map fun k => joinS dot ((splS 46 x).take (k + 1))
/-- from the whole path up -/
def ups (x : Str) : List Str := (begs x).reverse
theorem ups_step {x : Str} (h : PathS x) : ups x = x :: (match parentS x with
  | none => []
  | some p => ups p) := by
  have hn := h.names.2
  have h0 := splS_ne 46 x
  have ej : joinS dot (splS 46 x) = x := join_splS 46 x
  generalize hns : splS 46 x = ns at hn h0 ej
  obtain ⟨l, k, e⟩ : ∃ l k, ns = l ++ [k] := ⟨ns.dropLast, ns.getLast h0, (List.dropLast_concat_getLast h0).symm⟩
  subst e
  have eb : begs x = (List.range l.length).map (fun k => joinS dot (l.take (k + 1))) ++ [x] := by
    unfold begs
    rw [hns, List.length_append, List.length_singleton, List.range_succ, List.map_append, List.map_singleton]
    have e1 : (List.range l.length).map (fun i => joinS dot ((l ++ [k]).take (i + 1))) = (List.range l.length).map (fun i => joinS dot (l.take (i + 1))) := List.map_congr_left fun i hi => by
      have := List.mem_range.mp hi
      rw [List.take_append_of_le_length (by omega)]
    have e2 : joinS dot ((l ++ [k]).take (l.length + 1)) = x := by rw [show l.length + 1 = (l ++ [k]).length by simp, List.take_length, ej]
    rw [e1, e2]
  unfold ups
  rw [eb, List.reverse_append]
  show x :: _ = _
  unfold parentS
  rw [hns, List.length_append, List.length_singleton, List.dropLast_concat]
  cases l with
  | nil => rfl
  | cons a r =>
    rw [if_pos (show 1 < (a :: r).length + 1 by simp)]
    show x :: _ = x :: (begs (joinS dot (a :: r))).reverse
    have e2 : splS 46 (joinS dot (a :: r)) = a :: r := spl_names (by simp) fun n hn' => hn n (List.mem_append_left _ hn')
    unfold begs
    rw [e2]; rfl
theorem ups_paths {x : Str} (h : PathS x) : ∀ y ∈ ups x, PathS y := fun y hy => by
  obtain ⟨k, hk, rfl⟩ := List.mem_map.mp (List.mem_reverse.mp hy)
  have hk := List.mem_range.mp hk
  have hn := h.names
  refine pathS_names (fun z => ?_) (by rw [List.length_take]; omega) fun n hn' => hn.2 n (List.mem_of_mem_take hn')
  have := congrArg List.length z
  rw [List.length_take, List.length_nil] at this
  omega
theorem parent_path {x p : Str} (h : PathS x) (e : parentS x = some p) : PathS p ∧ (splS 46 p).length < (splS 46 x).length := by
  have z := ups_step h
  rw [e] at z
  have hp : p ∈ ups x := by
    rw [z]
    unfold parentS at e
    split at e
    · rename_i h1
      cases e
      refine List.mem_cons_of_mem _ ?_
      have hn : (splS 46 x).dropLast ≠ [] := fun z => by
        have := congrArg List.length z
        rw [List.length_dropLast, List.length_nil] at this
        omega
      have e2 : splS 46 (joinS dot (splS 46 x).dropLast) = (splS 46 x).dropLast := spl_names hn fun n hn' => h.names.2 n (List.dropLast_subset _ hn')
      show joinS dot (splS 46 x).dropLast ∈ ups (joinS dot (splS 46 x).dropLast)
      unfold ups begs
      rw [e2, List.mem_reverse]
      refine List.mem_map.mpr ⟨(splS 46 x).dropLast.length - 1, List.mem_range.mpr ?_, ?_⟩
      · have := List.length_pos_iff.mpr hn; omega
      · have := List.length_pos_iff.mpr hn
        rw [show (splS 46 x).dropLast.length - 1 + 1 = (splS 46 x).dropLast.length by omega, List.take_length]
    · cases e
  refine ⟨ups_paths h p hp, ?_⟩
  unfold parentS at e
  split at e
  · rename_i h1
    cases e
    have hn : (splS 46 x).dropLast ≠ [] := fun z => by
      have := congrArg List.length z
      rw [List.length_dropLast, List.length_nil] at this
      omega
    rw [spl_names hn fun n hn' => h.names.2 n (List.dropLast_subset _ hn'), List.length_dropLast]
    have := List.length_pos_iff.mpr (splS_ne 46 x)
    omega
  · cases e
theorem ups_len {x : Str} (h : PathS x) : (ups x).length ≤ 6 := by
  unfold ups begs
  rw [List.length_reverse, List.length_map, List.length_range]
  exact h.names.1
/-! ### programs -/
structure Mods (ms : List Str) : Prop where
  path : ∀ x ∈ ms, PathS x
  alone : ms.Pairwise fun x y => ovS x y = false
theorem Mods.nd {ms : List Str} (h : Mods ms) : ms.Nodup := h.alone.imp fun {x y} z e => by rw [e, ovS_self] at z; cases z
theorem Mods.perm {ms ns : List Str} (h : Mods ms) (p : ns.Perm ms) : Mods ns := ⟨fun x hx => h.path x (p.mem_iff.mp hx), p.symm.pairwise h.alone fun {x y} z => by rw [ovS_comm]; exact z⟩
structure Uses (ms : List Str) (us : List (Str × Str)) : Prop where
  nd : us.Nodup
  ok : ∀ u ∈ us, u.1 ∈ ms ∧ u.2 ∈ ms ∧ u.1 ≠ u.2
theorem Uses.perm {ms ns : List Str} {us vs : List (Str × Str)} (h : Uses ms us) (pm : ns.Perm ms) (p : vs.Perm us) : Uses ns vs := ⟨p.nodup_iff.mpr h.nd, fun u hu => by
  have z := h.ok u (p.mem_iff.mp hu)
  exact ⟨pm.mem_iff.mpr z.1, pm.mem_iff.mpr z.2.1, z.2.2⟩⟩
def partsS (ms : List Str) : List Str := srt lessS (once (ms.flatMap ups))
abbrev pFields : List Str := [Str.ofString "_modules", Str.ofString "_uses", Str.ofString "_parts"]
/-- a program of these modules and uses -/
def progD (C : Addr) (ms : List Str) (us : List (Str × Str)) : D := .ins C pFields [.tup ((srt lessS ms).map .str), .tup ((srt lessP us).map ptD), .tup ((partsS ms).map .str)]
/-! ### promises -/
def spModules : DSp Mem.deck := fun ds s Q => ∃ a b c pool most, ds = [.any (.ref a), .lst ((pool : List Str).map .str), .int most] ∧ s.adr = some (a, b, c) ∧ 1 ≤ most ∧ most ≤ 30 ∧ 0 < pool.length ∧ pool.length ≤ 100 ∧ (∀ x ∈ pool, NameOk x) ∧ s.n + 700 < drawLim ∧ ∀ ms k, Mods ms → (ms.length : Int) ≤ most → k ≤ s.n + 700 → Q (.lst (ms.map .str)) ⟨s.adr, k⟩
theorem spModules_len : ∀ ds s Qd, (spModules : DSp Mem.deck) ds s Qd → ds.length = 3 := fun ds s Qd ⟨_, _, _, _, _, e, _⟩ => by rw [e]; rfl
def spUses : DSp Mem.deck := fun ds s Q => ∃ a b c ms most, ds = [.any (.ref a), .lst ((ms : List Str).map .str), .int most] ∧ s.adr = some (a, b, c) ∧ 1 ≤ most ∧ most ≤ 100 ∧ ms.length ≤ 1000 ∧ s.n + 300 < drawLim ∧ ∀ us k, Uses ms us → (us.length : Int) ≤ most → k ≤ s.n + 300 → Q (.lst (us.map ptD)) ⟨s.adr, k⟩
theorem spUses_len : ∀ ds s Qd, (spUses : DSp Mem.deck) ds s Qd → ds.length = 3 := fun ds s Qd ⟨_, _, _, _, _, e, _⟩ => by rw [e]; rfl
def spIsPair {m : Mem} : DSp m := fun ds s Q => ∃ p ms, ds = [ptD p, .tup ((ms : List Str).map .str)] ∧ p.1 ≠ p.2 ∧ p.1 ∈ ms ∧ p.2 ∈ ms ∧ ms.length ≤ 1000 ∧ Q (.bl true) s
theorem spIsPair_len {m : Mem} : ∀ ds s Qd, (spIsPair : DSp m) ds s Qd → ds.length = 2 := fun ds s Qd ⟨_, _, e, _⟩ => by rw [e]; rfl
def spModErr {m : Mem} : DSp m := fun ds s Q => ∃ ms, ds = [.tup ((ms : List Str).map .str)] ∧ Mods ms ∧ ms.length ≤ 24 ∧ Q .non s
theorem spModErr_len {m : Mem} : ∀ ds s Qd, (spModErr : DSp m) ds s Qd → ds.length = 1 := fun ds s Qd ⟨_, e, _⟩ => by rw [e]; rfl
def spUseErr {m : Mem} : DSp m := fun ds s Q => ∃ ms us, ds = [.tup ((ms : List Str).map .str), .tup ((us : List (Str × Str)).map ptD)] ∧ Uses ms us ∧ ms.length ≤ 24 ∧ us.length ≤ 75 ∧ Q .non s
theorem spUseErr_len {m : Mem} : ∀ ds s Qd, (spUseErr : DSp m) ds s Qd → ds.length = 2 := fun ds s Qd ⟨_, _, e, _⟩ => by rw [e]; rfl
def spProgErr {m : Mem} : DSp m := fun ds s Q => ∃ ms us, ds = [.tup ((ms : List Str).map .str), .tup ((us : List (Str × Str)).map ptD)] ∧ Mods ms ∧ Uses ms us ∧ ms.length ≤ 24 ∧ us.length ≤ 75 ∧ Q .non s
theorem spProgErr_len {m : Mem} : ∀ ds s Qd, (spProgErr : DSp m) ds s Qd → ds.length = 2 := fun ds s Qd ⟨_, _, e, _⟩ => by rw [e]; rfl
def spParts {m : Mem} : DSp m := fun ds s Q => ∃ ms, ds = [.tup ((ms : List Str).map .str)] ∧ Mods ms ∧ ms.length ≤ 24 ∧ Q (.tup ((partsS ms).map .str)) s
theorem spParts_len {m : Mem} : ∀ ds s Qd, (spParts : DSp m) ds s Qd → ds.length = 1 := fun ds s Qd ⟨_, e, _⟩ => by rw [e]; rfl
def spProgI {m : Mem} : ISp m := fun ds s Q => ∃ ms us, ds = [.tup ((ms : List Str).map .str), .tup ((us : List (Str × Str)).map ptD)] ∧ Mods ms ∧ Uses ms us ∧ ms.length ≤ 24 ∧ us.length ≤ 75 ∧ Q pFields [.tup ((srt lessS ms).map .str), .tup ((srt lessP us).map ptD), .tup ((partsS ms).map .str)] s
theorem spProgI_len {m : Mem} : ∀ ds s Qd, (spProgI : ISp m) ds s Qd → ds.length = 2 := fun ds s Qd ⟨_, _, e, _⟩ => by rw [e]; rfl
def spGetM {m : Mem} (C : Addr) : DSp m := fun ds s Q => ∃ ms us, ds = [progD C ms us] ∧ Q (.tup ((srt lessS ms).map .str)) s
theorem spGetM_len {m : Mem} {C : Addr} : ∀ ds s Qd, (spGetM C : DSp m) ds s Qd → ds.length = 1 := fun ds s Qd ⟨_, _, e, _⟩ => by rw [e]; rfl
def spGetU {m : Mem} (C : Addr) : DSp m := fun ds s Q => ∃ ms us, ds = [progD C ms us] ∧ Q (.tup ((srt lessP us).map ptD)) s
theorem spGetU_len {m : Mem} {C : Addr} : ∀ ds s Qd, (spGetU C : DSp m) ds s Qd → ds.length = 1 := fun ds s Qd ⟨_, _, e, _⟩ => by rw [e]; rfl
/-! ### walks -/
theorem enum_split {xs : List D} {pre post : List D} {x : D} (e : enumD xs = pre ++ x :: post) : ∃ p, xs[pre.length]? = some p ∧ x = .tup [.int (pre.length : Nat), p] := by
  have h : (enumD xs)[pre.length]? = some x := by rw [e]; simp
  exact enum_get h
theorem mid_map {α : Type} {f : α → D} {xs : List α} {pre post : List D} {y : D} (e : xs.map f = pre ++ y :: post) : ∃ x, xs[pre.length]? = some x ∧ y = f x ∧ pre = (xs.take pre.length).map f := by
  have h : (xs.map f)[pre.length]? = some y := by rw [e]; simp
  rw [List.getElem?_map] at h
  obtain ⟨x, h1, h2⟩ := Option.map_eq_some_iff.mp h
  refine ⟨x, h1, h2.symm, ?_⟩
  rw [List.map_take, e, List.take_left]
theorem Mods.ov {ms : List Str} (h : Mods ms) {i j : Nat} {x y : Str} (hij : i < j) (hx : ms[i]? = some x) (hy : ms[j]? = some y) : ovS x y = false := by
  obtain ⟨hi, rfl⟩ := List.getElem?_eq_some_iff.mp hx
  obtain ⟨hj, rfl⟩ := List.getElem?_eq_some_iff.mp hy
  exact List.pairwise_iff_getElem.mp h.alone i j hi hj hij
theorem no_any (l : List D) : ((l.map fun _ => false).any id) = false := by
  rw [List.any_eq_false]
  intro x hx
  obtain ⟨_, _, rfl⟩ := List.mem_map.mp hx
  simp
theorem lst_app (f : D → Bool) (l : List D) (d : D) : ifB (f d) ((l.filter f) ++ [d] = (l ++ [d]).filter f) (l.filter f = (l ++ [d]).filter f) := by
  cases h : f d with
  | true => show _ = _; rw [List.filter_append, List.filter_cons, h]; simp
  | false => show _ = _; rw [List.filter_append, List.filter_cons, h]; simp
theorem filter_any {α : Type} {f : α → Bool} {l : List α} : (l.filter f).isEmpty = !l.any f := by
  cases h : l.any f with
  | true =>
    obtain ⟨x, hx, hf⟩ := List.any_eq_true.mp h
    cases e : l.filter f with
    | nil =>
      have : x ∈ l.filter f := List.mem_filter.mpr ⟨hx, hf⟩
      rw [e] at this
      cases this
    | cons a r => rfl
  | false =>
    have : l.filter f = [] := List.filter_eq_nil_iff.mpr fun x hx hf => by
      rw [List.any_eq_true.mpr ⟨x, hx, hf⟩] at h
      cases h
    rw [this]; rfl
def ovD (x : Str) : D → Bool
  | .str z => ovS z x
  | _ => false
theorem cut_from (xs : List D) (n : Nat) : DL.cutD xs (some (n : Int)) none = xs.drop n := by
  unfold DL.cutD
  rw [HT.sIx_none, HT.sIx_nat]
  rcases Nat.le_total n xs.length with h | h
  · rw [Nat.min_eq_left h, ← List.length_drop, List.take_length]
  · rw [Nat.min_eq_right h, List.drop_length, List.drop_eq_nil_of_le h, List.take_nil]
theorem Uses.sub {ms : List Str} {us vs : List (Str × Str)} (h : Uses ms us) (s : vs.Sublist us) : Uses ms vs := ⟨h.nd.sublist s, fun u hu => h.ok u (s.subset hu)⟩
theorem Mods.sub {ms ns : List Str} (h : Mods ms) (s : ns.Sublist ms) : Mods ns := ⟨fun x hx => h.path x (s.subset hx), h.alone.sublist s⟩
theorem Uses.none {ms : List Str} : Uses ms [] := ⟨List.nodup_nil, fun _ z => absurd z List.not_mem_nil⟩
end RP

set_option Elab.async false
set_option linter.all false
set_option maxRecDepth 100000
set_option maxHeartbeats 1000000
namespace RP
open PySem PySem.Spec PyProof.Rows L2 TL DL TX TO
def T_lmodules05 : DTS Mem.deck :=
  (dSeq (dSetL 3 daNil)
      (dSeq (dFor (diR1 (daCons (dOp ixD (dLst (daCons (dVar 2) (daCons (dCall spNext (daCons (dVar 0) (daCons (dOp addD (dVar 2) (dC (D.int 1))) daNil))) daNil))) (dCall spNext (daCons (dVar 0) (daCons (dC (D.int 2)) daNil)))) daNil)) (gN 4)
        (dSeq (dSet 5 (dCall spPath (daCons (dVar 0) (daCons (dVar 1) (daCons (dC (D.int 6)) daNil)))))
        (dIf (dBackT (dCmT (eqE false) (dLc (diSeq (dVar 3)) (gN 6) (dTr (dCall spLover (daCons (dVar 6) (daCons (dVar 5) daNil)))) (dVar 6) [6]) (dLst daNil))) (dApp 3 (dVar 5)) dNext)))
      (dRet (dVar 3))))
theorem read_lmodules05 : ∀ ds s Qd, (spModules : DSp Mem.deck) ds s Qd → (T_lmodules05 : DTS Mem.deck) (endsOf Qd) (startD ["_law_deck_here", "_law_pool_here", "_law_most", "_law_found", "_law_k", "_law_path_here", "_law_module"] ds) s := by
  intro ds s Qd h
  obtain ⟨a, b, c, pool, most, rfl, hs, h1, h30, hp0, hp100, hp, hn, hQ⟩ := h
  have zl : ∀ n, n ≤ 2000 → n ≤ sizeLine := fun n h => line_of (by omega)
  have hlim : drawLim = 1152921504606846976 := rfl
  refine ⟨Nat.zero_le _, a, b, c, most + 1, hs, rfl, by omega, by omega, by omega, fun r k g0 g1 hk => ?_⟩
  refine ⟨(by show 2 ≤ sizeLine; exact zl _ (by decide)), a, b, c, 2, hs, rfl, by decide, by decide, by show k < _; omega, fun r2 k2 g2 g3 hk2 => ?_⟩
  have hk2 : k2 = k + 1 := hk2
  obtain ⟨n, hn2, hat⟩ := pick_ints [most, r] r2 g2 g3
  have hb : 0 ≤ n ∧ n ≤ most := by
    rcases List.mem_cons.mp hn2 with rfl | z
    · omega
    · rw [List.mem_singleton.mp z]; omega
  refine ⟨_, hat, n, rfl, by omega, by omega, ?_⟩
  refine ⟨fun pre ρ s' => s'.adr = some (a, b, c) ∧ s'.n ≤ k2 + 20 * pre.length ∧ ∃ c4 c5 c6 ms, ρ = [.sh (.any (.ref a)), .sh (.lst (pool.map .str)), .sh (.int most), .ow (.lst ((ms : List Str).map .str)), c4, c5, c6] ∧ Mods ms ∧ ms.length ≤ pre.length,
    ⟨hs, (by show k2 ≤ _; omega), _, _, _, [], rfl, ⟨fun _ z => absurd z List.not_mem_nil, .nil⟩, Nat.le_refl _⟩, ?_, ?_⟩
  · rintro pre y post ρ s' e ⟨e1, e2, c4, c5, c6, ms, rfl, hm, hl⟩
    obtain ⟨hlt, rfl⟩ := rng_pre e
    refine ⟨a, b, c, pool, 6, e1, rfl, by decide, by decide, hp0, hp100, fun x hx => (hp x hx).2.1, by omega, fun x k3 hx hk3 => ?_⟩
    have px := pathS_of hx hp
    have stay : ∀ (c4 c5 c6 : Sl), ∃ d4 d5 d6 ns, ([.sh (.any (.ref a)), .sh (.lst (pool.map .str)), .sh (.int most), .ow (.lst (ms.map .str)), c4, c5, c6] : List Sl) = [.sh (.any (.ref a)), .sh (.lst (pool.map .str)), .sh (.int most), .ow (.lst ((ns : List Str).map .str)), d4, d5, d6] ∧ Mods ns ∧ ns.length ≤ (pre ++ [D.int (0 + (pre.length : Int))]).length :=
      fun c4 c5 c6 => ⟨c4, c5, c6, ms, rfl, hm, by rw [List.length_append]; omega⟩
    refine ⟨_, rfl, zl _ (by rw [List.length_map]; omega), fun pre1 acc s3 => s3 = ⟨s'.adr, k3⟩ ∧ acc = pre1.filter (ovD x), ⟨rfl, rfl⟩, ?_, ?_⟩
    · rintro pre1 z post1 acc s3 e3 - ⟨rfl, rfl⟩
      obtain ⟨m0, hm0, rfl, -⟩ := mid_map e3
      have ha := lst_app (ovD x) pre1 (.str m0)
      refine ⟨m0, x, rfl, _, rfl, rfl, ?_⟩
      rw [ovS_lcov]
      refine ifB2 (fun q => ?_) fun q => ?_
      · rw [show ovD x (.str m0) = _ from q] at ha
        exact ⟨rfl, rfl, ha⟩
      · rw [show ovD x (.str m0) = _ from q] at ha
        exact ⟨rfl, ha⟩
    · rintro acc s3 - ⟨rfl, rfl⟩
      refine ⟨Nat.zero_le _, _, rfl, rfl, ?_⟩
      rw [Bool.false_xor, filter_any]
      have ea : (ms.map D.str).any (ovD x) = ms.any fun z => ovS z x := by rw [List.any_map]; rfl
      rw [ea]
      refine ifB2 (fun q => ?_) fun q => ?_
      · have q : ∀ z ∈ ms, ovS z x = false := by simpa using q
        refine ⟨⟨_, rfl⟩, _, rfl, zl _ (by rw [List.length_map]; omega), e1, (by show k3 ≤ _; rw [List.length_append, List.length_singleton]; omega), _, _, _, ms ++ [x], by rw [List.map_append]; rfl, ⟨fun z hz => ?_, ?_⟩, by rw [List.length_append, List.length_append]; exact Nat.add_le_add_right hl _⟩
        · rcases List.mem_append.mp hz with z' | z'
          · exact hm.path z z'
          · rw [List.mem_singleton.mp z']; exact px
        · rw [List.pairwise_append]
          refine ⟨hm.alone, List.pairwise_singleton _ _, fun u hu v hv => ?_⟩
          rw [List.mem_singleton.mp hv]
          exact q u hu
      · exact ⟨e1, (by show k3 ≤ _; rw [List.length_append, List.length_singleton]; omega), stay _ _ _⟩
  · rintro ρ s' ⟨e1, e2, c4, c5, c6, ms, rfl, hm, hl⟩
    rw [rngD_length] at e2 hl
    have z := hQ ms s'.n hm (by omega) (by omega)
    rw [hs, ← e1] at z
    exact z
def T_luses05 : DTS Mem.deck :=
  (dSeq (dSetL 3 daNil)
      (dSeq (dFor (diR1 (daCons (dOp mulD (dOp ixD (dLst (daCons (dVar 2) (daCons (dCall spNext (daCons (dVar 0) (daCons (dOp addD (dVar 2) (dC (D.int 1))) daNil))) daNil))) (dCall spNext (daCons (dVar 0) (daCons (dC (D.int 2)) daNil)))) (dB intBD (daCons (dCm gtD (dB lenD (daCons (dVar 1) daNil)) (dC (D.int 1))) daNil))) daNil)) (gN 4)
        (dSeq (dSet 5 (dOp ixD (dVar 1) (dCall spNext (daCons (dVar 0) (daCons (dB lenD (daCons (dVar 1) daNil)) daNil)))))
        (dSeq (dSet 6 (dOp ixD (dVar 1) (dCall spNext (daCons (dVar 0) (daCons (dB lenD (daCons (dVar 1) daNil)) daNil)))))
        (dIf (dBackT (dAndT (dCmT neC (dVar 5) (dVar 6)) (dCmT notInD (dTup (daCons (dVar 5) (daCons (dVar 6) daNil))) (dVar 3)))) (dApp 3 (dTup (daCons (dVar 5) (daCons (dVar 6) daNil)))) dNext))))
      (dRet (dVar 3))))
theorem read_luses05 : ∀ ds s Qd, (spUses : DSp Mem.deck) ds s Qd → (T_luses05 : DTS Mem.deck) (endsOf Qd) (startD ["_law_deck_here", "_law_modules_here", "_law_most", "_law_found", "_law_k", "_law_user", "_law_used"] ds) s := by
  intro ds s Qd h
  obtain ⟨a, b, c, ms, most, rfl, hs, h1, h100, hl, hn, hQ⟩ := h
  have zl : ∀ n, n ≤ 2000 → n ≤ sizeLine := fun n h => line_of (by omega)
  have hlim : drawLim = 1152921504606846976 := rfl
  refine ⟨Nat.zero_le _, a, b, c, most + 1, hs, rfl, by omega, by omega, by omega, fun r k g0 g1 hk => ?_⟩
  refine ⟨(by show 2 ≤ sizeLine; exact zl _ (by decide)), a, b, c, 2, hs, rfl, by decide, by decide, by show k < _; omega, fun r2 k2 g2 g3 hk2 => ?_⟩
  have hk2 : k2 = k + 1 := hk2
  obtain ⟨n, hn2, hat⟩ := pick_ints [most, r] r2 g2 g3
  have hb : 0 ≤ n ∧ n ≤ most := by
    rcases List.mem_cons.mp hn2 with rfl | z
    · omega
    · rw [List.mem_singleton.mp z]; omega
  refine ⟨_, hat, _, _, rfl, rfl, _, rfl, ?_⟩
  rw [List.length_map]
  obtain ⟨v, ev, hv⟩ : ∃ v : Int, n * (if decide ((1 : Int) < (ms.length : Nat)) then 1 else 0) = v ∧ 0 ≤ v ∧ v ≤ most ∧ (0 < v → 1 < ms.length) := by
    refine ⟨_, rfl, ?_⟩
    by_cases h : 1 < ms.length
    · rw [if_pos (decide_eq_true (by omega))]; omega
    · rw [if_neg (by rw [decide_eq_false (by omega)]; decide)]; omega
  refine ⟨.inl (by omega), v, by show [D.int (n * _)] = _; rw [ev], by omega, by omega, ?_⟩
  refine ⟨fun pre ρ s' => s'.adr = some (a, b, c) ∧ s'.n ≤ k2 + 2 * pre.length ∧ ∃ c4 c5 c6 us, ρ = [.sh (.any (.ref a)), .sh (.lst (ms.map .str)), .sh (.int most), .ow (.lst ((us : List (Str × Str)).map ptD)), c4, c5, c6] ∧ Uses ms us ∧ us.length ≤ pre.length,
    ⟨hs, (by show k2 ≤ _; omega), _, _, _, [], rfl, ⟨List.nodup_nil, fun _ z => absurd z List.not_mem_nil⟩, Nat.le_refl _⟩, ?_, ?_⟩
  · rintro pre y post ρ s' e ⟨e1, e2, c4, c5, c6, us, rfl, hu, hul⟩
    obtain ⟨hlt, rfl⟩ := rng_pre e
    have big : 1 < ms.length := hv.2.2 (by omega)
    refine ⟨_, _, rfl, rfl, a, b, c, _, e1, rfl, by rw [List.length_map]; omega, by rw [List.length_map]; omega, by omega, fun r3 k3 g4 g5 hk3 => ?_⟩
    have hk3 : k3 = s'.n + 1 := hk3
    rw [List.length_map] at g5
    obtain ⟨x, hx, hat3⟩ := pick_map D.str ms r3 g4 g5
    refine ⟨_, hat3, _, _, rfl, rfl, a, b, c, _, e1, rfl, by rw [List.length_map]; omega, by rw [List.length_map]; omega, by show k3 < _; omega, fun r4 k4 g6 g7 hk4 => ?_⟩
    have hk4 : k4 = k3 + 1 := hk4
    rw [List.length_map] at g7
    obtain ⟨z, hz, hat4⟩ := pick_map D.str ms r4 g6 g7
    have nn : k4 ≤ k2 + 2 * (pre ++ [D.int (0 + (pre.length : Int))]).length := by rw [List.length_append, List.length_singleton]; omega
    refine ⟨_, hat4, rfl, rfl, ?_⟩
    rw [eqs]
    by_cases hxz : x = z
    · rw [decide_eq_true hxz]
      exact ⟨e1, nn, _, _, _, us, rfl, hu, by rw [List.length_append]; omega⟩
    · rw [decide_eq_false hxz]
      have two : 2 ≤ sizeLine := zl 2 (by decide)
      refine ⟨two, rfl, plain_prs 57 us, ?_⟩
      rw [show (us.map ptD).any (fun y => eqD y (.tup [.str x, .str z])) = decide ((x, z) ∈ us) from any_pr us (x, z)]
      by_cases hin : (x, z) ∈ us
      · rw [decide_eq_true hin]
        exact ⟨e1, nn, _, _, _, us, rfl, hu, by rw [List.length_append]; omega⟩
      · rw [decide_eq_false hin]
        refine ⟨⟨_, rfl⟩, two, _, rfl, zl _ (by rw [List.length_map]; omega), e1, nn, _, _, _, us ++ [(x, z)], by rw [List.map_append]; rfl, ⟨?_, fun u hu' => ?_⟩, by rw [List.length_append, List.length_append]; exact Nat.add_le_add_right hul _⟩
        · rw [List.nodup_append]
          exact ⟨hu.nd, List.nodup_cons.mpr ⟨List.not_mem_nil, List.nodup_nil⟩, fun u h1 v h2 e => hin (by rw [List.mem_singleton.mp h2] at e; exact e ▸ h1)⟩
        · rcases List.mem_append.mp hu' with w | w
          · exact hu.ok u w
          · rw [List.mem_singleton.mp w]; exact ⟨hx, hz, hxz⟩
  · rintro ρ s' ⟨e1, e2, c4, c5, c6, us, rfl, hu, hul⟩
    rw [rngD_length] at e2 hul
    have z := hQ us s'.n hu (by omega) (by omega)
    rw [hs, ← e1] at z
    exact z
def T_getm05 (a : Nat → Addr) {m : Mem} : DTS m :=
  (dRet (dFld (a 24) (Str.ofString "_modules") (dVar 0)))
theorem read_getm05 {a : Nat → Addr} {m : Mem} : ∀ ds s Qd, (spGetM (a 24) : DSp m) ds s Qd → (T_getm05 a : DTS m) (endsOf Qd) (startD ["self"] ds) s := by
  intro ds s Qd h
  obtain ⟨ms, us, rfl, hQ⟩ := h
  exact ⟨_, _, _, rfl, rfl, hQ⟩
def T_getu05 (a : Nat → Addr) {m : Mem} : DTS m :=
  (dRet (dFld (a 24) (Str.ofString "_uses") (dVar 0)))
theorem read_getu05 {a : Nat → Addr} {m : Mem} : ∀ ds s Qd, (spGetU (a 24) : DSp m) ds s Qd → (T_getu05 a : DTS m) (endsOf Qd) (startD ["self"] ds) s := by
  intro ds s Qd h
  obtain ⟨ms, us, rfl, hQ⟩ := h
  exact ⟨_, _, _, rfl, rfl, hQ⟩
def T_mod_error05 {m : Mem} : DTS m :=
  (dSeq (dIf (dOrT (dNotT (dTr (dB isiD (daCons (dVar 0) (daCons (dC (D.any (V.ty "tuple"))) daNil))))) (dCmT gtD (dB lenD (daCons (dVar 0) daNil)) (dC (D.int 24)))) (dRet (dTup (daCons (dC D.non) (daCons (dC (D.str (Str.ofString "modules"))) daNil)))) dNext)
      (dSeq (dFor (dEnumA (daCons (dVar 0) daNil)) (gTup' 2 (gCons' (gN 1) (gCons' (gN 2) gNil')))
        (dSeq (dIf (dNotT (dTr (dCall spIsPath (daCons (dVar 2) daNil)))) (dRet (dTup (daCons (dVar 1) (daCons (dC (D.str (Str.ofString "path"))) daNil)))) dNext)
        (dIf (dTr (dB anyD (daCons (dLc (diSeq (dSl slD (dVar 0) doNone (doSome (dVar 1)))) (gN 3) dYes (dCall spOverlap (daCons (dVar 3) (daCons (dVar 2) daNil))) [3]) daNil))) (dRet (dTup (daCons (dVar 1) (daCons (dC (D.str (Str.ofString "overlap"))) daNil)))) dNext)))
      (dRet (dC D.non))))
theorem read_mod_error05 {m : Mem} : ∀ ds s Qd, (spModErr : DSp m) ds s Qd → (T_mod_error05 : DTS m) (endsOf Qd) (startD ["modules", "index", "module", "earlier"] ds) s := by
  intro ds s Qd h
  obtain ⟨ms, rfl, h1, h2, hQ⟩ := h
  have zl : ∀ n, n ≤ 2000 → n ≤ sizeLine := fun n h => line_of (by omega)
  refine ⟨_, .tup, .tup, rfl, rfl, (by intro z; cases z), _, rfl, _, _, rfl, rfl, ?_⟩
  rw [List.length_map]
  refine ifBd (fun g => absurd g (by omega)) fun _ => ?_
  refine ⟨_, _, rfl, .inr rfl, fun pre ρ s' => s' = s ∧ ∃ c1 c2 c3, ρ = [.sh (.tup (ms.map .str)), c1, c2, c3], ⟨rfl, _, _, _, rfl⟩, ?_, ?_⟩
  · rintro pre y post ρ s' e ⟨rfl, c1, c2, c3, rfl⟩
    obtain ⟨y0, hy0, rfl⟩ := enum_split e
    rw [List.getElem?_map] at hy0
    obtain ⟨m0, hm0, rfl⟩ := Option.map_eq_some_iff.mp hy0
    have hm : m0 ∈ ms := List.mem_of_getElem? hm0
    have hlt : pre.length < ms.length := (List.getElem?_eq_some_iff.mp hm0).1
    have hp := h1.path m0 hm
    refine ⟨_, rfl, rfl, _, _, rfl, _, _, rfl, rfl, _, rfl, ⟨⟨.str, rfl⟩, fun x e => by cases e; have := hp.2; omega⟩, _, rfl, ?_⟩
    rw [show isPathD (.str m0) = true from hp.1]
    refine ⟨_, rfl, _, rfl, ?_⟩
    have ec := cut_take (ms.map D.str) pre.length
    rw [ec, ← List.map_take]
    refine ⟨zl _ (by rw [List.length_map, List.length_take]; omega), fun pre1 acc s3 => s3 = s' ∧ acc = (pre1.map fun _ => false).map D.bl, ⟨rfl, rfl⟩, ?_, ?_⟩
    · rintro pre1 z post1 acc s3 e1 - ⟨rfl, rfl⟩
      obtain ⟨m1, hm1, rfl, -⟩ := mid_map e1
      have l1 : pre1.length < pre.length := by
        have := (List.getElem?_eq_some_iff.mp hm1).1
        rw [List.length_take] at this
        omega
      rw [List.getElem?_take_of_lt l1] at hm1
      have hm1' := (h1.path m1 (List.mem_of_getElem? hm1)).2
      refine ⟨rfl, m1, m0, rfl, by omega, by have := hp.2; omega, rfl, rfl, ?_⟩
      rw [show (coversS m1 m0 || coversS m0 m1) = false from h1.ov l1 hm1 hm0, List.map_append, List.map_append]
      rfl
    · rintro acc s3 - ⟨rfl, rfl⟩
      refine ⟨_, rfl, _, rfl, ?_⟩
      rw [no_any]
      exact ⟨rfl, _, _, _, rfl⟩
  · rintro ρ s' ⟨rfl, c1, c2, c3, rfl⟩
    exact hQ
def T_is_pair05 {m : Mem} : DTS m :=
  (dRet (dAndV (dB isiD (daCons (dVar 0) (daCons (dC (D.any (V.ty "tuple"))) daNil))) (dAndV (dCm eqC (dB lenD (daCons (dVar 0) daNil)) (dC (D.int 2))) (dAndV (dCm neC (dOp ixD (dVar 0) (dC (D.int 0))) (dOp ixD (dVar 0) (dC (D.int 1)))) (dAndV (dCm (inTD false) (dOp ixD (dVar 0) (dC (D.int 0))) (dVar 1)) (dCm (inTD false) (dOp ixD (dVar 0) (dC (D.int 1))) (dVar 1)))))))
theorem read_is_pair05 {m : Mem} : ∀ ds s Qd, (spIsPair : DSp m) ds s Qd → (T_is_pair05 : DTS m) (endsOf Qd) (startD ["value", "modules"] ds) s := by
  intro ds s Qd h
  obtain ⟨p, ms, rfl, h1, h2, h3, h4, hQ⟩ := h
  refine ⟨_, .tup, .tup, rfl, rfl, (by intro z; cases z), _, rfl, ?_⟩
  refine ⟨_, _, rfl, rfl, rfl, rfl, _, rfl, ?_⟩
  refine ⟨_, atI_nat (j := 0) rfl, _, atI_nat (j := 1) rfl, rfl, rfl, _, rfl, ?_⟩
  rw [eqs, decide_eq_false h1]
  refine ⟨_, atI_nat (j := 0) rfl, _, rfl, rfl, plain_strs 58 ms, ?_⟩
  rw [Bool.false_xor, any_str, decide_eq_true h2]
  refine ⟨_, rfl, _, atI_nat (j := 1) rfl, _, rfl, rfl, plain_strs 58 ms, ?_⟩
  rw [Bool.false_xor, any_str, decide_eq_true h3]
  exact hQ
def T_use_error05 (w : World) {m : Mem} : DTS m :=
  (dSeq (dIf (dOrT (dNotT (dTr (dB isiD (daCons (dVar 1) (daCons (dC (D.any (V.ty "tuple"))) daNil))))) (dCmT gtD (dB lenD (daCons (dVar 1) daNil)) (dC (D.int 200)))) (dRet (dTup (daCons (dC D.non) (daCons (dC (D.str (Str.ofString "uses"))) daNil)))) dNext)
      (dSeq (dSetP w 2)
      (dSeq (dFor (dEnumA (daCons (dVar 1) daNil)) (gTup' 2 (gCons' (gN 3) (gCons' (gN 4) gNil')))
        (dSeq (dIf (dNotT (dTr (dCall spIsPair (daCons (dVar 4) (daCons (dVar 0) daNil))))) (dRet (dTup (daCons (dVar 3) (daCons (dC (D.str (Str.ofString "use"))) daNil)))) dNext)
        (dSeq (dIf (dInP w false (dVar 4) 2) (dRet (dTup (daCons (dVar 3) (daCons (dC (D.str (Str.ofString "again"))) daNil)))) dNext)
        (dAddP w 2 (dVar 4)))))
      (dRet (dC D.non)))))
theorem read_use_error05 {w : World} {m : Mem} : ∀ ds s Qd, (spUseErr : DSp m) ds s Qd → (T_use_error05 w : DTS m) (endsOf Qd) (startD ["modules", "uses", "seen", "index", "use"] ds) s := by
  intro ds s Qd h
  obtain ⟨ms, us, rfl, h1, h2, h3, hQ⟩ := h
  refine ⟨_, .tup, .tup, rfl, rfl, (by intro z; cases z), _, rfl, _, _, rfl, rfl, ?_⟩
  rw [List.length_map]
  refine ifBd (fun g => absurd g (by omega)) fun _ => ?_
  refine ⟨_, _, rfl, .inr rfl, fun pre ρ s' => s' = s ∧ ∃ c3 c4 ks, ρ = [.sh (.tup (ms.map .str)), .sh (.tup (us.map ptD)), .ow (.bag (psO w) ks), c3, c4] ∧ ks.length = pre.length ∧ ∀ k ∈ ks, ∃ j p, j < pre.length ∧ us[j]? = some p ∧ k = [p.1, p.2], ⟨rfl, _, _, [], rfl, rfl, fun _ z => absurd z List.not_mem_nil⟩, ?_, ?_⟩
  · rintro pre y post ρ s' e ⟨rfl, c3, c4, ks, rfl, hl, hk⟩
    obtain ⟨y0, hy0, rfl⟩ := enum_split e
    rw [List.getElem?_map] at hy0
    obtain ⟨u, hu0, rfl⟩ := Option.map_eq_some_iff.mp hy0
    have hu := h1.ok u (List.mem_of_getElem? hu0)
    have hlt : pre.length < us.length := (List.getElem?_eq_some_iff.mp hu0).1
    have new : [u.1, u.2] ∉ ks := fun z => by
      obtain ⟨j, p, hj, hp, e⟩ := hk _ z
      injection e with e1 e2
      injection e2 with e2 _
      have : u = p := Prod.ext e1 e2
      subst this
      exact absurd ((List.getElem?_inj (by omega) h1.nd).mp (hp.trans hu0.symm)) (by omega)
    refine ⟨_, rfl, rfl, _, _, rfl, _, _, rfl, rfl, u, ms, rfl, hu.2.2, hu.1, hu.2.1, by omega, _, rfl, ?_⟩
    refine ⟨[u.1, u.2], ks, rfl, rfl, ?_⟩
    rw [decide_eq_false new]
    refine ⟨⟨ks, rfl⟩, [u.1, u.2], ks, rfl, rfl, by omega, ?_⟩
    rw [if_neg new]
    refine ⟨rfl, _, _, _, rfl, by rw [List.length_cons, List.length_append, hl]; rfl, fun k hk' => ?_⟩
    rcases List.mem_cons.mp hk' with rfl | hk'
    · exact ⟨pre.length, u, by rw [List.length_append]; show _ < _ + 1; omega, hu0, rfl⟩
    · obtain ⟨j, p, hj, hp, e⟩ := hk k hk'
      exact ⟨j, p, by rw [List.length_append]; omega, hp, e⟩
  · rintro ρ s' ⟨rfl, c3, c4, ks, rfl, _, _⟩
    exact hQ
def T_prog_error05 {m : Mem} : DTS m :=
  (dSeq (dSet 2 (dCall spModErr (daCons (dVar 0) daNil)))
      (dSeq (dIf (dCmT isD' (dVar 2) (dC D.non)) (dSet 2 (dCall spUseErr (daCons (dVar 0) (daCons (dVar 1) daNil)))) dNext)
      (dRet (dVar 2))))
theorem read_prog_error05 {m : Mem} : ∀ ds s Qd, (spProgErr : DSp m) ds s Qd → (T_prog_error05 : DTS m) (endsOf Qd) (startD ["modules", "uses", "error"] ds) s := by
  intro ds s Qd h
  obtain ⟨ms, us, rfl, h1, h2, h3, h4, hQ⟩ := h
  exact ⟨ms, rfl, h1, h3, (fun _ => by intro z; cases z), ms, us, rfl, h2, h3, h4, hQ⟩
def T_parts05 (w : World) {m : Mem} : DTS m :=
  (dSeq (dSetT w 1)
      (dSeq (dFor (diSeq (dVar 0)) (gN 2)
        (dSeq (dSet 3 (dVar 2))
        (dWhile (dCmT isntD' (dVar 3) (dC D.non))
          (dSeq (dAddT w 1 (dVar 3))
          (dSet 3 (dCall spParent (daCons (dVar 3) daNil)))))))
      (dRet (dB tupD (daCons (dSortT w 1) daNil)))))
theorem read_parts05 {w : World} {m : Mem} : ∀ ds s Qd, (spParts : DSp m) ds s Qd → (T_parts05 w : DTS m) (endsOf Qd) (startD ["modules", "found", "module", "path"] ds) s := by
  intro ds s Qd h
  obtain ⟨ms, rfl, h1, h2, hQ⟩ := h
  have room : ∀ qs : List Str, (∀ q ∈ qs, q ∈ ms) → qs.length ≤ ms.length → (qs.flatMap ups).length ≤ 144 := fun qs h hl => by
    have key : ∀ qs : List Str, (∀ q ∈ qs, q ∈ ms) → (qs.flatMap ups).length ≤ 6 * qs.length := by
      intro qs
      induction qs with
      | nil => intro _; exact Nat.zero_le _
      | cons q qs ih =>
        intro h
        rw [List.flatMap_cons, List.length_append, List.length_cons]
        have := ups_len (h1.path q (h q List.mem_cons_self))
        have := ih fun y hy => h y (List.mem_cons_of_mem _ hy)
        omega
    have := key qs h
    omega
  refine ⟨_, rfl, fun pre ρ s' => s' = s ∧ ∃ c2 c3, ∃ qs : List Str, pre = qs.map D.str ∧ ρ = [.sh (.tup (ms.map .str)), .ow (.box (txO w (once (qs.flatMap ups)))), c2, c3], ⟨rfl, _, _, [], rfl, rfl⟩, ?_, ?_⟩
  · rintro pre y post ρ s' e ⟨rfl, c2, c3, qs, rfl, rfl⟩
    obtain ⟨m0, hm0, rfl, eq⟩ := mid_map e
    rw [List.length_map] at hm0
    have hm : m0 ∈ ms := List.mem_of_getElem? hm0
    have hlt : qs.length < ms.length := (List.getElem?_eq_some_iff.mp hm0).1
    have sub : ∀ q ∈ qs, q ∈ ms := fun q hq => by
      have : D.str q ∈ ms.map D.str := by rw [e]; exact List.mem_append_left _ (List.mem_map_of_mem hq)
      obtain ⟨q', h', e'⟩ := List.mem_map.mp this
      cases e'
      exact h'
    have hp := h1.path m0 hm
    refine ⟨fun n ρ s2 => s2 = s' ∧ ∃ (acc : List Str) (p : Option Str), ρ = [.sh (.tup (ms.map .str)), .ow (.box (txO w (once acc))), .sh (.str m0), .sh (optS p)] ∧ (∀ x, p = some x → PathS x) ∧ acc ++ (match p with | none => [] | some x => ups x) = (qs ++ [m0]).flatMap ups ∧
      n = (match p with | none => 0 | some x => (splS 46 x).length), ⟨_, rfl, qs.flatMap ups, some m0, rfl, fun x e => by cases e; exact hp, by rw [List.flatMap_append, List.flatMap_singleton], rfl⟩, ?_⟩
    rintro n ρ s2 ⟨rfl, acc, p, rfl, hp', hacc, rfl⟩
    cases p with
    | none =>
      refine ⟨(by intro w z; cases z), ?_⟩
      rw [List.append_nil] at hacc
      exact ⟨rfl, _, _, qs ++ [m0], by rw [List.map_append]; rfl, by rw [hacc]⟩
    | some x =>
      have hx := hp' x rfl
      refine ⟨(by intro w z; cases z), ?_⟩
      have step := ups_step hx
      have few := room (qs ++ [m0]) (fun q hq => by
        rcases List.mem_append.mp hq with z | z
        · exact sub q z
        · rw [List.mem_singleton.mp z]; exact hm) (by rw [List.length_append]; show _ + 1 ≤ _; omega)
      have la : acc.length ≤ 144 := by
        rw [← hacc, List.length_append] at few
        omega
      have lo := once_len acc
      refine ⟨⟨_, rfl⟩, x, once acc, rfl, rfl, by omega, x, rfl, ?_⟩
      rw [← once_snoc]
      refine ⟨(match parentS x with | none => 0 | some y => (splS 46 y).length), ?_, rfl, acc ++ [x], parentS x, rfl, fun y e => (parent_path hx e).1, ?_, rfl⟩
      · cases e : parentS x with
        | none => exact List.length_pos_iff.mpr (splS_ne 46 x)
        | some y => exact (parent_path hx e).2
      · rw [← hacc, List.append_assoc]
        show _ = acc ++ ups x
        rw [step]
        rfl
  · rintro ρ s' ⟨rfl, c2, c3, qs, e, rfl⟩
    have eq : qs = ms := (map_str_inj e).symm
    subst eq
    have few := room qs (fun q hq => hq) (Nat.le_refl _)
    have lo := once_len (qs.flatMap ups)
    refine ⟨_, rfl, by omega, fun x hx => ?_, _, _, rfl, rfl, hQ⟩
    obtain ⟨q, hq, hx'⟩ := List.mem_flatMap.mp (once_mem.mp hx)
    exact (ups_paths (h1.path q hq) x hx').ok
def T_prog_init05 (w : World) (a : Nat → Addr) {m : Mem} : DTS m :=
  (dSeq (dSet 3 (dCall spProgErr (daCons (dVar 1) (daCons (dVar 2) daNil))))
      (dSeq (dIf (dCmT isntD' (dVar 3) (dC D.non)) dNever dNext)
      (dSeq (dFst (a 24) 0 (Str.ofString "_modules") (dB tupD (daCons (dB sortD (daCons (dVar 1) daNil)) daNil)))
      (dSeq (dFst (a 24) 0 (Str.ofString "_uses") (dB tupD (daCons (dB sortD (daCons (dVar 2) daNil)) daNil)))
      (dFst (a 24) 0 (Str.ofString "_parts") (dCall spParts (daCons (dVar 1) daNil)))))))
theorem read_prog_init05 {w : World} {a : Nat → Addr} {m : Mem} : ∀ ds s Qd (x dx : Addr), (spProgI : ISp m) ds s Qd → (T_prog_init05 w a : DTS m) (endsI x dx (a 24) Qd) ((startD ["self", "modules", "uses", "error"] (.any (.ref x) :: ds)).set 0 (.ow (.ins x dx (a 24) [] []))) s := by
  intro ds s Qd x dx h
  obtain ⟨ms, us, rfl, h1, h2, h3, h4, hQ⟩ := h
  refine ⟨ms, us, rfl, h1, h2, h3, h4, (by intro w z; cases z), ?_⟩
  refine .inl ⟨_, ms, rfl, rfl, _, _, rfl, rfl, x, dx, [], [], rfl, (by simp), (by decide), ?_⟩
  refine .inr ⟨_, us, rfl, rfl, _, _, rfl, rfl, x, dx, _, _, rfl, (by decide +kernel), (by decide), ?_⟩
  refine ⟨ms, rfl, h1, h3, x, dx, _, _, rfl, (by decide +kernel), (by decide), ?_⟩
  exact ⟨_, _, rfl, hQ⟩
end RP

set_option Elab.async false
set_option linter.all false
set_option maxRecDepth 100000
set_option maxHeartbeats 1000000
/-! LP2: walks that keep or drop; programs and'ed, without others' uses -/
namespace RP
open PySem PySem.Spec PyProof.Rows L2 TL DL TX TO
theorem zl2 {n : Nat} (h : n ≤ 2000) : n ≤ sizeLine := line_of (by omega)
/-- [e for x in xs if p x], nothing drawn -/
theorem lcF {α : Type} {m : Mem} {f h : α → D} {p : α → Bool} {g : DG} {tt : DTT m} {te : DT m} {vs : List Nat} {ρ1 : List Sl} {s1 : m.S} {Q : DK m} (xs : List α) (hl : xs.length ≤ 2000)
    (turn : ∀ x ∈ xs, ∀ (T : D → m.S → Prop) (U : m.S → Prop), (p x = true → T (h x) s1) → (p x = false → U s1) → g (f x) (wipeD ρ1 vs) fun ρ2 => tt ρ2 s1 fun b ρ3 s3 => ρ3 = ρ2 ∧ ifB b (te ρ2 s3 fun y ρ4 s4 => ρ4 = ρ2 ∧ T y s4) (U s3))
    (fin : Q (.lst ((xs.filter p).map h)) ρ1 s1) : lcK g tt te vs Q (xs.map f) ρ1 s1 := by
  refine ⟨by rw [List.length_map]; exact zl2 hl, fun pre acc s => s = s1 ∧ acc = ((xs.take pre.length).filter p).map h, ⟨rfl, rfl⟩, ?_, ?_⟩
  · rintro pre y post acc s e - ⟨rfl, rfl⟩
    obtain ⟨x, hx, rfl, -⟩ := mid_map e
    have ht : xs.take (pre.length + 1) = xs.take pre.length ++ [x] := by
      rw [List.take_add_one, hx]; rfl
    refine turn x (List.mem_of_getElem? hx) _ _ (fun hp => ?_) fun hp => ?_
    · refine ⟨rfl, ?_⟩
      rw [List.length_append, List.length_singleton, ht, List.filter_append, List.map_append, List.filter_cons, hp]; rfl
    · refine ⟨rfl, ?_⟩
      rw [List.length_append, List.length_singleton, ht, List.filter_append, List.map_append, List.filter_cons, hp]; simp
  · rintro acc s - ⟨rfl, rfl⟩
    rw [List.length_map, List.take_length]
    exact fin
/-- [e for x in xs], nothing drawn -/
theorem filter_yes {α : Type} (xs : List α) : xs.filter (fun _ => true) = xs := List.filter_eq_self.mpr fun _ _ => rfl
theorem mem_srt {α : Type} {lt : α → α → Bool} {l : List α} {x : α} : x ∈ srt lt l ↔ x ∈ l := (srt_perm (lt := lt) l).mem_iff
theorem Uses.keep {ms ns : List Str} {us vs : List (Str × Str)} (h : Uses ms us) (k : Uses ns vs) : Uses (ms.filter fun x => decide (x ∈ ns)) (us.filter fun u => decide (u ∈ vs)) := ⟨h.nd.sublist List.filter_sublist, fun u hu => by
  obtain ⟨h1, h2⟩ := List.mem_filter.mp hu
  have h2 := of_decide_eq_true h2
  have a := h.ok u h1
  have b := k.ok u h2
  exact ⟨List.mem_filter.mpr ⟨a.1, decide_eq_true b.1⟩, List.mem_filter.mpr ⟨a.2.1, decide_eq_true b.2.1⟩, a.2.2⟩⟩
/-! ### promises -/
end RP

set_option Elab.async false
set_option linter.all false
set_option maxRecDepth 100000
set_option maxHeartbeats 1000000
/-! GD: values that may be asked about and shown: few signs and items, not deep, of little weight -/
namespace RG
open PySem PySem.Spec PyProof.Rows L2 TL DL
theorem shown_int40 {i : Int} (h : i.natAbs < 10 ^ 40) : (PyData.shown (.int i)).length ≤ 41 := by
  have e := int_text_length_le10 (k := 40) (by decide) h
  show (Str.ofString (toString i)).length ≤ 41
  rw [PySem.ofString_length]; exact e
/-! ### values that may be shown: their leaves, their depth, their weight -/
mutual
def gl : D → Bool
  | .non => true
  | .bl _ => true
  | .int i => decide (i.natAbs < 10 ^ 40)
  | .str x => (tl x).all fun c => decide (c < 1114112)
  | .lst xs => gls xs
  | .tup xs => gls xs
  | .dic ks xs => glk ks xs
  | _ => false
def gls : List D → Bool
  | [] => true
  | d :: ds => gl d && gls ds
def glk : List Key → List D → Bool
  | [], [] => true
  | .inr x :: ks, d :: ds => ((tl x).all fun c => decide (c < 1114112)) && (gl d && glk ks ds)
  | _, _ => false
end
theorem str_leaf {B : Nat} {x : Str} (h : ((tl x).all fun c => decide (c < 1114112)) = true) : (PyData.str x).leavesShort B = true := by
  show (x.cps.toList.all fun c => decide (c < 16 ^ 8)) = true
  rw [List.all_eq_true] at h ⊢
  intro c hc
  have := of_decide_eq_true (h c hc)
  exact decide_eq_true (by omega)
mutual
theorem gl_leaves : ∀ d : D, gl d = true → (pyR d).leavesShort 41 = true ∧ (pyR d).showable = true
  | .non, _ => ⟨rfl, rfl⟩
  | .bl _, _ => ⟨rfl, rfl⟩
  | .int i, h => by
    have h : decide (i.natAbs < 10 ^ 40) = true := h
    have h := of_decide_eq_true h
    refine ⟨decide_eq_true (shown_int40 h), decide_eq_true ?_⟩
    have : i.natAbs.log2 < 1920 := by
      by_cases hz : i.natAbs = 0
      · rw [hz]; decide
      · have : i.natAbs.log2 < 200 := (Nat.log2_lt hz).mpr (Nat.lt_of_lt_of_le h (by decide))
        omega
    exact this
  | .str x, h => ⟨str_leaf h, rfl⟩
  | .lst xs, h => gls_leaves xs h
  | .tup xs, h => gls_leaves xs h
  | .dic ks xs, h => glk_leaves ks xs h
  | .ins _ _ _, h => by cases h
  | .any _, h => by cases h
  | .fz _, h => by cases h
  | .exc _ _ _, h => by cases h
theorem gls_leaves : ∀ ds : List D, gls ds = true → PyData.leavesShortAll 41 (pyRs ds) = true ∧ PyData.showableAll (pyRs ds) = true
  | [], _ => ⟨rfl, rfl⟩
  | d :: ds, h => by
    have h : (gl d && gls ds) = true := h
    rw [Bool.and_eq_true] at h
    obtain ⟨a1, a2⟩ := gl_leaves d h.1
    obtain ⟨b1, b2⟩ := gls_leaves ds h.2
    constructor
    · show (_ && _) = true; rw [a1, b1]; rfl
    · show (_ && _) = true; rw [a2, b2]; rfl
theorem glk_leaves : ∀ (ks : List Key) (ds : List D), glk ks ds = true → PyData.leavesShortKv 41 (pyRk ks ds) = true ∧ PyData.showableKv (pyRk ks ds) = true
  | [], [], _ => ⟨rfl, rfl⟩
  | .inl i :: ks, [], h => by cases h
  | .inl i :: ks, d :: ds, h => by cases h
  | .inr x :: ks, d :: ds, h => by
    have h : (((tl x).all fun c => decide (c < 1114112)) && (gl d && glk ks ds)) = true := h
    rw [Bool.and_eq_true, Bool.and_eq_true] at h
    obtain ⟨a1, a2⟩ := gl_leaves d h.2.1
    obtain ⟨b1, b2⟩ := glk_leaves ks ds h.2.2
    have c1 := str_leaf (B := 41) h.1
    constructor
    · show ((PyData.leavesShort 41 (.str x) && _) && _) = true
      rw [c1, a1, b1]; rfl
    · show ((PyData.showable (.str x) && _) && _) = true
      rw [a2, b2]; rfl
  | [], _ :: _, h => by cases h
  | .inr _ :: _, [], h => by cases h
end
theorem repOk_of {d : D} (h1 : repD 60 d = true) (h2 : gl d = true) (h3 : (pyR d).weight ≤ 100000) : repOk d = true := by
  obtain ⟨a1, a2⟩ := gl_leaves d h2
  have h := PyData.shown_le 41 (by decide) (pyR d) a1
  unfold repOk
  rw [h1, a2, Bool.true_and, Bool.true_and]
  refine decide_eq_true (Nat.le_trans h ?_)
  have : (4400000 : Nat) ≤ sizeLine := by rw [sizeLine_eq]; decide
  omega
mutual
/-- texts and tuples of few signs and items -/
def sm (N : Nat) : D → Bool
  | .non => true
  | .bl _ => true
  | .int _ => true
  | .lst _ => true
  | .dic _ _ => true
  | .str x => decide (x.length ≤ N)
  | .tup xs => decide (xs.length ≤ N) && sms N xs
  | _ => false
def sms (N : Nat) : List D → Bool
  | [] => true
  | d :: ds => sm N d && sms N ds
end
theorem sms_iff {N : Nat} : ∀ {xs : List D}, sms N xs = true ↔ ∀ x ∈ xs, sm N x = true
  | [] => ⟨fun _ _ h => (by cases h), fun _ => rfl⟩
  | d :: ds => by
    show (sm N d && sms N ds) = true ↔ _
    rw [Bool.and_eq_true, sms_iff, List.forall_mem_cons]
theorem gls_iff : ∀ {xs : List D}, gls xs = true ↔ ∀ x ∈ xs, gl x = true
  | [] => ⟨fun _ _ h => (by cases h), fun _ => rfl⟩
  | d :: ds => by
    show (gl d && gls ds) = true ↔ _
    rw [Bool.and_eq_true, gls_iff, List.forall_mem_cons]
theorem repDs_iff {n : Nat} : ∀ {xs : List D}, repDs n xs = true ↔ ∀ x ∈ xs, repD n x = true
  | [] => ⟨fun _ _ h => by (cases h), fun _ => by simp [repDs]⟩
  | d :: ds => by
    simp only [repDs]
    rw [Bool.and_eq_true, repDs_iff, List.forall_mem_cons]
theorem rep_tup {n : Nat} {xs : List D} : repD (n + 1) (.tup xs) = repDs n xs := by simp only [repD]
theorem rep_lst {n : Nat} {xs : List D} : repD (n + 1) (.lst xs) = repDs n xs := by simp only [repD]
mutual
theorem rep_mono : ∀ (n : Nat) (d : D), repD n d = true → repD (n + 1) d = true
  | n, .non, _ => by simp [repD]
  | n, .bl _, _ => by simp [repD]
  | n, .int _, _ => by simp [repD]
  | n, .str _, _ => by simp [repD]
  | 0, .lst _, h => by simp [repD] at h
  | n + 1, .lst xs, h => by
    simp only [repD] at h ⊢
    exact reps_mono n xs h
  | 0, .tup _, h => by simp [repD] at h
  | n + 1, .tup xs, h => by
    simp only [repD] at h ⊢
    exact reps_mono n xs h
  | 0, .dic _ _, h => by simp [repD] at h
  | n + 1, .dic _ xs, h => by
    simp only [repD] at h ⊢
    exact reps_mono n xs h
  | n, .ins _ _ _, h => by simp [repD] at h
  | n, .any _, h => by simp [repD] at h
  | n, .fz _, h => by simp [repD] at h
  | n, .exc _ _ _, h => by simp [repD] at h
theorem reps_mono : ∀ (n : Nat) (ds : List D), repDs n ds = true → repDs (n + 1) ds = true
  | n, [], _ => by simp [repDs]
  | n, d :: ds, h => by
    simp only [repDs] at h ⊢
    rw [Bool.and_eq_true] at h ⊢
    exact ⟨rep_mono n d h.1, reps_mono n ds h.2⟩
end
theorem rep_le {d : D} {n : Nat} (h : repD n d = true) : ∀ m, n ≤ m → repD m d = true
  | 0, hm => by
    have e : n = 0 := by omega
    rw [e] at h; exact h
  | m + 1, hm => by
    by_cases e : n = m + 1
    · rw [← e]; exact h
    · exact rep_mono m d (rep_le h m (by omega))
theorem sm_tup {N : Nat} {xs : List D} (h : sm N (.tup xs) = true) : xs.length ≤ N ∧ ∀ x ∈ xs, sm N x = true := by
  have h : (decide (xs.length ≤ N) && sms N xs) = true := h
  rw [Bool.and_eq_true] at h
  exact ⟨of_decide_eq_true h.1, sms_iff.mp h.2⟩
theorem tup_sm {N : Nat} {xs : List D} (h1 : xs.length ≤ N) (h2 : ∀ x ∈ xs, sm N x = true) : sm N (.tup xs) = true := by
  show (decide (xs.length ≤ N) && sms N xs) = true
  rw [decide_eq_true h1, sms_iff.mpr h2]; rfl
mutual
theorem sm_mono {N M : Nat} (hN : N ≤ M) : ∀ d : D, sm N d = true → sm M d = true
  | .non, _ => rfl
  | .bl _, _ => rfl
  | .int _, _ => rfl
  | .lst _, _ => rfl
  | .dic _ _, _ => rfl
  | .str _, h => decide_eq_true (Nat.le_trans (of_decide_eq_true h) hN)
  | .tup xs, h => by
    have h : (decide (xs.length ≤ N) && sms N xs) = true := h
    rw [Bool.and_eq_true] at h
    show (decide (xs.length ≤ M) && sms M xs) = true
    rw [decide_eq_true (Nat.le_trans (of_decide_eq_true h.1) hN), sms_mono hN xs h.2]; rfl
  | .ins _ _ _, h => by cases h
  | .any _, h => by cases h
  | .fz _, h => by cases h
  | .exc _ _ _, h => by cases h
theorem sms_mono {N M : Nat} (hN : N ≤ M) : ∀ ds : List D, sms N ds = true → sms M ds = true
  | [], _ => rfl
  | d :: ds, h => by
    have h : (sm N d && sms N ds) = true := h
    rw [Bool.and_eq_true] at h
    show (sm M d && sms M ds) = true
    rw [sm_mono hN d h.1, sms_mono hN ds h.2]; rfl
end
def wt (d : D) : Nat := (pyR d).weight
def wl (xs : List D) : Nat := PyData.weightAll (pyRs xs)
theorem wl_cons (d : D) (ds : List D) : wl (d :: ds) = wt d + 1 + wl ds := by
  show PyData.weightAll (pyR d :: pyRs ds) = _
  simp only [PyData.weightAll]; rfl
theorem wl_nil : wl [] = 0 := by show PyData.weightAll [] = 0; simp only [PyData.weightAll]
theorem wt_tup (xs : List D) : wt (.tup xs) = wl xs := by
  show (PyData.tuple (pyRs xs)).weight = _
  simp only [PyData.weight]; rfl
theorem wt_lst (xs : List D) : wt (.lst xs) = wl xs := by
  show (PyData.list (pyRs xs)).weight = _
  simp only [PyData.weight]; rfl
theorem wt_str (x : Str) : wt (.str x) = x.length := by
  show (PyData.str x).weight = _
  simp only [PyData.weight]; rfl
theorem wl_app (xs ys : List D) : wl (xs ++ ys) = wl xs + wl ys := by
  induction xs with
  | nil => rw [List.nil_append, wl_nil]; omega
  | cons d ds ih => rw [List.cons_append, wl_cons, wl_cons, ih]; omega
theorem wl_mem {x : D} {xs : List D} (h : x ∈ xs) : wt x + 1 ≤ wl xs := by
  induction xs with
  | nil => cases h
  | cons d ds ih =>
    rw [wl_cons]
    rcases List.mem_cons.mp h with rfl | h
    · omega
    · have := ih h; omega
/-- what the drawing defs give: asked about and shown -/
structure Gd (N W n : Nat) (d : D) : Prop where
  s : sm N d = true
  r : repD n d = true
  g : gl d = true
  w : wt d ≤ W
structure Gs (N W n : Nat) (xs : List D) : Prop where
  s : ∀ x ∈ xs, sm N x = true
  r : ∀ x ∈ xs, repD n x = true
  g : ∀ x ∈ xs, gl x = true
  w : wl xs ≤ W
theorem Gd.mono {N W n N' W' n' : Nat} {d : D} (h : Gd N W n d) (h1 : N ≤ N') (h2 : W ≤ W') (h3 : n ≤ n') : Gd N' W' n' d := ⟨sm_mono h1 d h.s, rep_le h.r _ h3, h.g, Nat.le_trans h.w h2⟩
theorem Gs.mono {N W n N' W' n' : Nat} {d : List D} (h : Gs N W n d) (h1 : N ≤ N') (h2 : W ≤ W') (h3 : n ≤ n') : Gs N' W' n' d := ⟨fun x hx => sm_mono h1 x (h.s x hx), fun x hx => rep_le (h.r x hx) _ h3, h.g, Nat.le_trans h.w h2⟩
theorem Gd.items {N W n : Nat} {xs : List D} (h : Gd N W (n + 1) (.tup xs)) : Gs N W n xs ∧ xs.length ≤ N := by
  obtain ⟨h1, h2⟩ := sm_tup h.s
  have hr := h.r
  rw [rep_tup] at hr
  have hw := h.w
  rw [wt_tup] at hw
  exact ⟨⟨h2, repDs_iff.mp hr, gls_iff.mp h.g, hw⟩, h1⟩
theorem Gs.tup {N W n : Nat} {xs : List D} (h : Gs N W n xs) (hl : xs.length ≤ N) : Gd N W (n + 1) (.tup xs) :=
  ⟨tup_sm hl h.s, by rw [rep_tup]; exact repDs_iff.mpr h.r, gls_iff.mpr h.g, by rw [wt_tup]; exact h.w⟩
theorem Gs.lst {N W n : Nat} {xs : List D} (h : Gs N W n xs) : Gd N W (n + 1) (.lst xs) :=
  ⟨rfl, by rw [rep_lst]; exact repDs_iff.mpr h.r, gls_iff.mpr h.g, by rw [wt_lst]; exact h.w⟩
theorem Gs.app {N W W' n : Nat} {xs ys : List D} (h : Gs N W n xs) (h' : Gs N W' n ys) : Gs N (W + W') n (xs ++ ys) :=
  ⟨fun x hx => (List.mem_append.mp hx).elim (h.s x) (h'.s x), fun x hx => (List.mem_append.mp hx).elim (h.r x) (h'.r x), fun x hx => (List.mem_append.mp hx).elim (h.g x) (h'.g x), by rw [wl_app]; have := h.w; have := h'.w; omega⟩
theorem Gs.one {N W n : Nat} {x : D} (h : Gd N W n x) : Gs N (W + 1) n [x] :=
  ⟨fun y hy => by rw [List.mem_singleton.mp hy]; exact h.s, fun y hy => by rw [List.mem_singleton.mp hy]; exact h.r, fun y hy => by rw [List.mem_singleton.mp hy]; exact h.g, by rw [wl_cons, wl_nil]; have := h.w; omega⟩
theorem Gs.mem {N W n : Nat} {xs : List D} (h : Gs N W n xs) {x : D} (hx : x ∈ xs) : Gd N W n x := ⟨h.s x hx, h.r x hx, h.g x hx, by have := wl_mem hx; have := h.w; omega⟩
theorem gd_str {x : Str} {N : Nat} (h : x.length ≤ N) (hc : ∀ c ∈ tl x, c < 1114112) (n : Nat) : Gd N N n (.str x) :=
  ⟨decide_eq_true h, by simp [repD], List.all_eq_true.mpr fun c hx => decide_eq_true (hc c hx), by rw [wt_str]; exact h⟩
theorem Gd.ok {N W n : Nat} {d : D} (h : Gd N W n d) (h2 : W ≤ 100000) (h3 : n ≤ 60) : repOk d = true := repOk_of (rep_le h.r _ h3) h.g (Nat.le_trans h.w h2)
theorem sm_ty {N : Nat} {d : D} (h : sm N d = true) : (tyT d).isSome = true := by
  cases d with
  | ins _ _ _ => cases h
  | any _ => cases h
  | fz _ => cases h
  | exc _ _ _ => cases h
  | _ => rfl
theorem Gd.ty {N W n : Nat} {d : D} (h : Gd N W n d) : ∃ t, tyT d = some t := Option.isSome_iff_exists.mp (sm_ty h.s)
end RG

set_option Elab.async false
set_option linter.all false
set_option maxRecDepth 100000
/-! EL20: a, b, .. = a list of that length, over data -/
namespace DL
open PySem PySem.Spec PyProof.Rows L2 TL
section
variable {X : Cx} {m : Mem} {pos : Pos}
end
end DL

set_option Elab.async false
set_option linter.all false
set_option maxRecDepth 100000
/-! EL21: len(set(xs)), xs a list or a tuple of texts -/
namespace DL
open PySem PySem.Spec PyProof.Rows L2 TL TX TO
section
variable {X : Cx}
theorem cr_lenSetTx : CallR X (.builtin "len") (fun xs H Q => ∃ a ys, xs = [V.ref a] ∧ H a = some (txO X.w ys a) ∧ ys.length < 4096 ∧ Q (.int ys.length) H) := by
  intro pins s σ H vs us Q I r h
  obtain ⟨a, ys, rfl, ha, hl, q⟩ := h
  rw [Vals.ref1 r]
  obtain ⟨D, e, T, _⟩ := txO_get I ha
  have t := T X.prog
  have hz : D.1.size = ys.length := t.sz
  exact call_len_set (o := PySem.Froz.sObj "set" D) (es := D.1) (ep := D.2.1) (t := D.2.2) e ⟨rfl, rfl, rfl⟩ rfl t.fit (by rw [hz]; omega) ⟨.int ys.length, H, I.tok _, ⟨_, by rw [hz]⟩, q⟩
variable {m : Mem} {e : Expr} {te : DT m} {pos p p2 cp : Pos}
/-- len(set(e)) -/
def dLenSet {m : Mem} (te : DT m) : DT m := fun ρ s Q => te ρ s fun d ρ1 s1 => ∃ xs, seqD d = some (xs.map D.str) ∧ xs.length < 4000 ∧ Q (.int ((once xs).length : Nat)) ρ1 s1
theorem de_lenSet (hc : X.calm = true) (hg : Gl X "len") (hm : X.mg "len" = none) (hg2 : Gl X "set") (hm2 : X.mg "set" = none) (he : PE X e (up X.K m te)) (hs : starEach [e] X.env = [(false, eval e X.env)] := by rfl)
    (hs2 : starEach [.Call (.Name "set" p2) [e] [] cp] X.env = [(false, eval (.Call (.Name "set" p2) [e] [] cp) X.env)] := by rfl) :
    PE X (.Call (.Name "len" p) [.Call (.Name "set" p2) [e] [] cp] [] pos) (up X.K m (dLenSet te)) :=
  PE.imp (pe_callB cr_lenSetTx hg hm (by decide +kernel) (pa_cons (pe_callTy (cr_setTx hc) hg2 hm2 (by decide +kernel) (pa_cons he pa_nil (by rw [hs]; rfl)) (by decide) (by decide) (by rw [hs]; rfl) rfl) pa_nil (by rw [hs2]; rfl)) (by decide) (by decide) (by rw [hs2]; rfl) rfl) fun σ H Q h => by
    obtain ⟨F, ρ, s, Qd, r, ht, hQ⟩ := h
    refine ⟨F, ρ, s, _, r, ht, fun d ρ1 s1 v F1 H1 ⟨xs, ed, few, q1⟩ r1 st1 rv => ?_⟩
    obtain ⟨a, ws, rfl, hsq, hl, rs⟩ := seq_at r1.sub rv ed
    obtain ⟨ew, ok⟩ := reps_strs rs
    subst ew
    refine ⟨a, xs, rfl, hsq, few, fun p0 np => ⟨p0, once xs, rfl, upd_same, by have := once_len xs; omega, ?_⟩⟩
    have g0 : Grow F1 H1 F1 (upd H1 p0 (txO X.w (once xs) p0)) := ⟨Same.refl _, same_upd np, fun b o z => by rw [upd_ne (ne_of_none (r1.sub b o z) np)]; exact r1.sub b o z, fun _ _ z => .inl z⟩
    exact hQ _ ρ1 s1 _ _ _ q1 (r1.grow g0) (st1.trans g0.stp) rfl
end
end DL

set_option Elab.async false
set_option linter.all false
set_option maxRecDepth 100000
set_option maxHeartbeats 1000000
/-! ZN: zip of two tuples, its pairs under one name: whether the zip finds its last pair alive or not, a new pair is handed out -/
namespace ZN
open PySem PySem.Spec PyProof.Rows L2 RZ
open PySem.Sem (wp)
abbrev IsZ (h : Heap) (z TI TO : Addr) (f0 f1 : Value) : Prop :=
  h.get? z = some { cls := .type "zip", dict := none, data := .fields #[f0, f1, .bool false, .ref TI, .ref TO], slots := #[] }
/-- what the zip remembers of its last pair -/
def Mark (v : Value) : Prop := v = .none ∨ ∃ r : Nat, v = rawInt r
section
variable {prog : Program} {w : World} {A : Around} {E : Value → Shared → Prop} {s : Shared}
theorem look {a : Addr} {Q : Option Obj → Shared → Prop} (h : Q (s.heap.get? a) s) : wpAny (model prog w) A (loadIfAlive a) Q E s := fun Γ p hΓ => by
  unfold loadIfAlive
  rw [Sem.wp_loadIfAlive]
  exact h
theorem free {z TI TO : Addr} {f0 f1 : Value} {Q : Bool → Shared → Prop} (hz : IsZ s.heap z TI TO f0 f1) (hf : Mark f0)
    (q : ∀ b g1 h', IsZ h' z TI TO f0 g1 → Heap.SameBut z s.heap h' → Q b { s with heap := h' }) : wpAny (model prog w) A (Builtin.SmallTypes.ownedTupleIsFree (.ref z)) Q E s := by
  unfold Builtin.SmallTypes.ownedTupleIsFree
  refine wpAny_bind (wpAny_field hz rfl (x := f0) rfl ?_)
  rcases hf with rfl | ⟨r, rfl⟩
  · exact wpAny_pure (q true f1 s.heap hz (Heap.SameBut.refl ..))
  · show wpAny _ _ (loadIfAlive (Int.toNat r) >>= _) _ _ _
    refine wpAny_bind (look ?_)
    cases s.heap.get? (Int.toNat r) with
    | none => exact wpAny_pure (q true f1 s.heap hz (Heap.SameBut.refl ..))
    | some o =>
      show wpAny _ _ (field (.ref z) 1 >>= _) _ _ _
      refine wpAny_bind (wpAny_field hz rfl (x := f1) rfl ?_)
      by_cases c : (f1 != .bool true) = true
      · simp only [c, if_true]
        refine wpAny_bind (wpAny_setField_rec hz (by simp) fun h' hz' sb => wpAny_pure ?_)
        exact q false (.bool true) h' hz' sb
      · simp only [c, if_false]
        exact wpAny_pure (q false f1 s.heap hz (Heap.SameBut.refl ..))

theorem nextZ {z TI TO i1 i2 l1 l2 : Addr} {k1 k2 : Nat} {xs ys : Array Value} {x y a b f0 f1 : Value} {Q : Value → Shared → Prop} (D : ZipApart z TI TO i1 i2 l1 l2)
    (hz : IsZ s.heap z TI TO f0 f1) (hf : Mark f0) (hTI : IsPair s.heap TI (.ref i1) (.ref i2)) (hTO : IsPair s.heap TO a b)
    (h1 : s.heap.IsTupleIter i1 l1 k1) (h2 : s.heap.IsTupleIter i2 l2 k2) (hl1 : s.heap.IsTuple l1 xs) (hl2 : s.heap.IsTuple l2 ys) (hx : xs[k1]? = some x) (hy : ys[k2]? = some y)
    (hQ : ∀ h', (∃ g0 g1, IsZ h' z TI TO g0 g1 ∧ Mark g0) → (∃ a b, IsPair h' TO a b) → h'.IsTupleIter i1 l1 (k1 + 1) → h'.IsTupleIter i2 l2 (k2 + 1) → IsPair h' s.heap.objs.size x y →
      (∀ c o, c ≠ z → c ≠ TO → c ≠ i1 → c ≠ i2 → s.heap.get? c = some o → h'.get? c = some o) → Q (.ref s.heap.objs.size) { s with heap := h' }) :
    wpAny (model prog w) A (Builtin.«zip.__next__» ⟨[.ref z], []⟩) (fun fin s' => ∃ v, fin = .done (.ret v) ∧ Q v s') E s := by
  show wpAny _ _ (field (.ref z) 2 >>= _) _ _ _
  refine wpAny_bind (wpAny_field hz rfl (x := .bool false) rfl ?_)
  show wpAny _ _ (field (.ref z) 3 >>= _) _ _ _
  refine wpAny_bind (wpAny_field hz rfl (x := .ref TI) rfl ?_)
  refine wpAny_bind (wpAny_seqItems hTI rfl ?_)
  show wpAny _ _ (Builtin.SmallTypes.ownedTupleIsFree (.ref z) >>= _) _ _ _
  refine wpAny_bind (free hz hf fun fr g1 h0 hz0 hs0 => ?_)
  have hTO0 : IsPair h0 TO a b := hs0.extBut _ _ D.TOz hTO
  have a1 := h1.extBut hs0.extBut D.i1z
  have a2 := h2.extBut hs0.extBut D.i2z
  have c1 := hl1.extBut hs0.extBut D.l1z
  have c2 := hl2.extBut hs0.extBut D.l2z
  cases fr with
  | true =>
    simp only [if_true]
    refine wpAny_bind (wpAny_rule ?_)
    refine wpAny_bind (wpAny_field hz0 rfl (x := .ref TO) rfl ?_)
    dsimp only
    refine wpAny_bind (wpAny_setField_rec hz0 (by simp) fun j1 z1 b1 => ?_)
    replace z1 : IsZ j1 z TI TO .ellipsis g1 := z1
    refine wpAny_bind ?_
    simp only [List.zipIdx_cons, List.zipIdx_nil, List.forIn_cons, List.forIn_nil]
    refine wpAny_bind (wpAny_bind (wpAny_onRaise ?_))
    show wpAny _ _ (Builtin.SmallTypes.nextOf (.ref i1) >>= _) _ _ _
    refine wpAny_bind (nextOf_tuple_item (a1.extBut b1.extBut D.i1z) (c1.extBut b1.extBut D.l1z) hx fun j2 n1 b2 => wpAny_pure ?_)
    have t2 : IsPair j2 TO a b := b2.extBut _ _ D.TOi1 (b1.extBut _ _ D.TOz hTO0)
    refine wpAny_bind (wpAny_seqItems t2 rfl ?_)
    refine wpAny_bind (wpAny_updateSeq_pair t2 fun j3 t3 b3 => ?_)
    replace t3 : IsPair j3 TO x b := t3
    refine wpAny_bind (wpAny_letGo (wpAny_pure ?_))
    refine wpAny_bind (wpAny_bind (wpAny_onRaise ?_))
    show wpAny _ _ (Builtin.SmallTypes.nextOf (.ref i2) >>= _) _ _ _
    refine wpAny_bind (nextOf_tuple_item (((a2.extBut b1.extBut D.i2z).extBut b2.extBut D.i12.symm).extBut b3.extBut D.TOi2.symm) (((c2.extBut b1.extBut D.l2z).extBut b2.extBut D.l2i1).extBut b3.extBut D.l2TO) hy fun j4 n2 b4 => wpAny_pure ?_)
    have t4 : IsPair j4 TO x b := b4.extBut _ _ D.TOi2 t3
    refine wpAny_bind (wpAny_seqItems t4 rfl ?_)
    refine wpAny_bind (wpAny_updateSeq_pair t4 fun j5 t5 b5 => ?_)
    replace t5 : IsPair j5 TO x y := t5
    refine wpAny_bind (wpAny_letGo (wpAny_pure (wpAny_pure ?_)))
    refine wpAny_bind (wpAny_seqItems t5 rfl ?_)
    refine wpAny_bind (wpAny_newTuple ?_)
    have hsz : j5.objs.size = s.heap.objs.size := by rw [b5.1, b4.1, b3.1, b2.1, b1.1, hs0.1]
    have z5 : IsZ j5 z TI TO .ellipsis g1 := b5.extBut _ _ D.TOz.symm (b4.extBut _ _ D.i2z.symm (b3.extBut _ _ D.TOz.symm (b2.extBut _ _ D.i1z.symm z1)))
    have k5 : ∀ c o, c ≠ z → c ≠ TO → c ≠ i1 → c ≠ i2 → s.heap.get? c = some o → j5.get? c = some o := fun c o d1 d2 d3 d4 e =>
      b5.extBut _ _ d2 (b4.extBut _ _ d4 (b3.extBut _ _ d2 (b2.extBut _ _ d3 (b1.extBut _ _ d1 (hs0.extBut _ _ d1 e)))))
    have m1 : j5.IsTupleIter i1 l1 (k1 + 1) := ((n1.extBut b3.extBut D.TOi1.symm).extBut b4.extBut D.i12).extBut b5.extBut D.TOi1.symm
    have m2 : j5.IsTupleIter i2 l2 (k2 + 1) := n2.extBut b5.extBut D.TOi2.symm
    have zlt : z < j5.objs.size := Heap.lt_size z5
    show wpAny _ _ (Builtin.SmallTypes.ownedTupleHandOut (.ref z) (.ref j5.objs.size) >>= _) _ _ _
    refine wpAny_bind ?_
    unfold Builtin.SmallTypes.ownedTupleHandOut
    have z6 : IsZ (j5.push { cls := .type "tuple", data := .seq #[x, y] }) z TI TO .ellipsis g1 := Heap.get?_push_of_some _ z5
    refine wpAny_bind (wpAny_setField_rec z6 (by simp) fun j7 z7 b7 => ?_)
    replace z7 : IsZ j7 z TI TO (rawInt j5.objs.size) g1 := z7
    refine wpAny_setField_rec z7 (by simp) fun j8 z8 b8 => ?_
    replace z8 : IsZ j8 z TI TO (rawInt j5.objs.size) (.bool false) := z8
    have up : ∀ c o, c ≠ z → j5.get? c = some o → j8.get? c = some o := fun c o d1 e => b8.extBut _ _ d1 (b7.extBut _ _ d1 (Heap.get?_push_of_some _ e))
    have T8 : IsPair j8 j5.objs.size x y := b8.extBut _ _ (Nat.ne_of_gt zlt) (b7.extBut _ _ (Nat.ne_of_gt zlt) (Heap.get?_push_size _ rfl))
    rw [hsz] at T8
    refine wpAny_pure ⟨_, rfl, ?_⟩
    show Q (.ref j5.objs.size) _
    rw [hsz]
    exact hQ j8 ⟨_, _, z8, .inr ⟨_, rfl⟩⟩ ⟨x, y, up _ _ D.TOz t5⟩ (m1.at fun o e => up _ o D.i1z e) (m2.at fun o e => up _ o D.i2z e) T8 fun c o d1 d2 d3 d4 e => up c o d1 (k5 c o d1 d2 d3 d4 e)
  | false =>
    dsimp only
    rw [if_neg Bool.false_ne_true]
    refine wpAny_bind ?_
    simp only [List.forIn_toArray, List.forIn_cons, List.forIn_nil]
    refine wpAny_bind (wpAny_bind (wpAny_holding ?_))
    show wpAny _ _ (Builtin.SmallTypes.nextOf (.ref i1) >>= _) _ _ _
    refine wpAny_bind (nextOf_tuple_item a1 c1 hx fun j2 n1 b2 => wpAny_pure ?_)
    refine wpAny_pure ?_
    refine wpAny_bind (wpAny_bind (wpAny_holding ?_))
    show wpAny _ _ (Builtin.SmallTypes.nextOf (.ref i2) >>= _) _ _ _
    refine wpAny_bind (nextOf_tuple_item (a2.extBut b2.extBut D.i12.symm) (c2.extBut b2.extBut D.l2i1) hy fun j4 n2 b4 => wpAny_pure ?_)
    refine wpAny_pure (wpAny_pure ?_)
    refine wpAny_bind (wpAny_newTuple ?_ (by show 2 ≤ sizeLine; decide))
    have hsz : j4.objs.size = s.heap.objs.size := by rw [b4.1, b2.1, hs0.1]
    have k4 : ∀ c o, c ≠ z → c ≠ i1 → c ≠ i2 → s.heap.get? c = some o → j4.get? c = some o := fun c o d1 d3 d4 e => b4.extBut _ _ d4 (b2.extBut _ _ d3 (hs0.extBut _ _ d1 e))
    refine wpAny_pure ⟨_, rfl, ?_⟩
    show Q (.ref j4.objs.size) _
    have T : IsPair (j4.push { cls := .type "tuple", data := .seq #[x, y] }) j4.objs.size x y := Heap.get?_push_size _ rfl
    rw [hsz] at T ⊢
    exact hQ _ ⟨f0, g1, Heap.get?_push_of_some _ (b4.extBut _ _ D.i2z.symm (b2.extBut _ _ D.i1z.symm hz0)), hf⟩ ⟨a, b, Heap.get?_push_of_some _ (b4.extBut _ _ D.TOi2 (b2.extBut _ _ D.TOi1 hTO0))⟩
      ((n1.extBut b4.extBut D.i12).at fun o e => Heap.get?_push_of_some _ e) (n2.at fun o e => Heap.get?_push_of_some _ e) T fun c o d1 d2 d3 d4 e => Heap.get?_push_of_some _ (k4 c o d1 d3 d4 e)
theorem endZ {z TI TO i1 i2 l1 l2 : Addr} {k1 k2 : Nat} {xs ys : Array Value} {a b f0 f1 : Value} {Q : Fin → Shared → Prop} (hh : A.handled = none) (D : ZipApart z TI TO i1 i2 l1 l2)
    (hz : IsZ s.heap z TI TO f0 f1) (hf : Mark f0) (hTI : IsPair s.heap TI (.ref i1) (.ref i2)) (hTO : IsPair s.heap TO a b)
    (h1 : s.heap.IsTupleIter i1 l1 k1) (h2 : s.heap.IsTupleIter i2 l2 k2) (hl1 : s.heap.IsTuple l1 xs) (hl2 : s.heap.IsTuple l2 ys) (hend : xs[k1]? = none ∨ ys[k2]? = none)
    (hE : ∀ h' e, (∀ c o, c ≠ z → c ≠ TO → c ≠ i1 → c ≠ i2 → s.heap.get? c = some o → h'.get? c = some o) → (∃ o, h'.get? e = some o ∧ o.cls = .type "StopIteration") → E (.ref e) { s with heap := h' }) :
    wpAny (model prog w) A (Builtin.«zip.__next__» ⟨[.ref z], []⟩) Q E s := by
  show wpAny _ _ (field (.ref z) 2 >>= _) _ _ _
  refine wpAny_bind (wpAny_field hz rfl (x := .bool false) rfl ?_)
  show wpAny _ _ (field (.ref z) 3 >>= _) _ _ _
  refine wpAny_bind (wpAny_field hz rfl (x := .ref TI) rfl ?_)
  refine wpAny_bind (wpAny_seqItems hTI rfl ?_)
  show wpAny _ _ (Builtin.SmallTypes.ownedTupleIsFree (.ref z) >>= _) _ _ _
  refine wpAny_bind (free hz hf fun fr g1 h0 hz0 hs0 => ?_)
  have hTO0 : IsPair h0 TO a b := hs0.extBut _ _ D.TOz hTO
  have a1 := h1.extBut hs0.extBut D.i1z
  have a2 := h2.extBut hs0.extBut D.i2z
  have c1 := hl1.extBut hs0.extBut D.l1z
  have c2 := hl2.extBut hs0.extBut D.l2z
  cases fr with
  | true =>
    simp only [if_true]
    refine wpAny_bind (wpAny_rule ?_)
    refine wpAny_bind (wpAny_field hz0 rfl (x := .ref TO) rfl ?_)
    dsimp only
    refine wpAny_bind (wpAny_setField_rec hz0 (by simp) fun j1 z1 b1 => ?_)
    replace z1 : IsZ j1 z TI TO .ellipsis g1 := z1
    refine wpAny_bind ?_
    simp only [List.zipIdx_cons, List.zipIdx_nil, List.forIn_cons, List.forIn_nil]
    refine wpAny_bind (wpAny_bind (wpAny_onRaise ?_))
    show wpAny _ _ (Builtin.SmallTypes.nextOf (.ref i1) >>= _) _ _ _
    cases hx : xs[k1]? with
    | none =>
      refine wpAny_bind (nextOf_tuple_end hh (a1.extBut b1.extBut D.i1z) (c1.extBut b1.extBut D.l1z) hx fun j2 e b2 he => ?_)
      obtain ⟨oe, hoe, hce⟩ := he
      have z2 : IsZ j2 z TI TO .ellipsis g1 := b2 _ _ D.i1z.symm z1
      have hez : e ≠ z := fun q => by subst q; rw [z2] at hoe; cases hoe; simp at hce
      refine wpAny_setField_rec z2 (by simp) fun j3 _ b3 => hE j3 e (fun c o d1 _ d3 _ q => b3.extBut _ _ d1 (b2 _ _ d3 (b1.extBut _ _ d1 (hs0.extBut _ _ d1 q)))) ⟨oe, b3.extBut _ _ hez hoe, hce⟩
    | some x =>
      have hy : ys[k2]? = none := by rcases hend with h | h; rw [hx] at h; cases h; exact h
      refine wpAny_bind (nextOf_tuple_item (a1.extBut b1.extBut D.i1z) (c1.extBut b1.extBut D.l1z) hx fun j2 n1 b2 => wpAny_pure ?_)
      have t2 : IsPair j2 TO a b := b2.extBut _ _ D.TOi1 (b1.extBut _ _ D.TOz hTO0)
      refine wpAny_bind (wpAny_seqItems t2 rfl ?_)
      refine wpAny_bind (wpAny_updateSeq_pair t2 fun j3 t3 b3 => ?_)
      refine wpAny_bind (wpAny_letGo (wpAny_pure ?_))
      refine wpAny_bind (wpAny_bind (wpAny_onRaise ?_))
      show wpAny _ _ (Builtin.SmallTypes.nextOf (.ref i2) >>= _) _ _ _
      refine wpAny_bind (nextOf_tuple_end hh (((a2.extBut b1.extBut D.i2z).extBut b2.extBut D.i12.symm).extBut b3.extBut D.TOi2.symm) (((c2.extBut b1.extBut D.l2z).extBut b2.extBut D.l2i1).extBut b3.extBut D.l2TO) hy fun j4 e b4 he => ?_)
      obtain ⟨oe, hoe, hce⟩ := he
      have z4 : IsZ j4 z TI TO .ellipsis g1 := b4 _ _ D.i2z.symm (b3.extBut _ _ D.TOz.symm (b2.extBut _ _ D.i1z.symm z1))
      have hez : e ≠ z := fun q => by subst q; rw [z4] at hoe; cases hoe; simp at hce
      refine wpAny_setField_rec z4 (by simp) fun j5 _ b5 => hE j5 e (fun c o d1 d2 d3 d4 q => b5.extBut _ _ d1 (b4 _ _ d4 (b3.extBut _ _ d2 (b2.extBut _ _ d3 (b1.extBut _ _ d1 (hs0.extBut _ _ d1 q)))))) ⟨oe, b5.extBut _ _ hez hoe, hce⟩
  | false =>
    dsimp only
    rw [if_neg Bool.false_ne_true]
    refine wpAny_bind ?_
    simp only [List.forIn_toArray, List.forIn_cons, List.forIn_nil]
    refine wpAny_bind (wpAny_bind (wpAny_holding ?_))
    show wpAny _ _ (Builtin.SmallTypes.nextOf (.ref i1) >>= _) _ _ _
    cases hx : xs[k1]? with
    | none =>
      refine wpAny_bind (nextOf_tuple_end hh a1 c1 hx fun j2 e b2 he => hE j2 e (fun c o d1 _ d3 _ q => b2 _ _ d3 (hs0.extBut _ _ d1 q)) he)
    | some x =>
      have hy : ys[k2]? = none := by rcases hend with h | h; rw [hx] at h; cases h; exact h
      refine wpAny_bind (nextOf_tuple_item a1 c1 hx fun j2 n1 b2 => wpAny_pure ?_)
      refine wpAny_pure ?_
      refine wpAny_bind (wpAny_bind (wpAny_holding ?_))
      show wpAny _ _ (Builtin.SmallTypes.nextOf (.ref i2) >>= _) _ _ _
      refine wpAny_bind (nextOf_tuple_end hh (a2.extBut b2.extBut D.i12.symm) (c2.extBut b2.extBut D.l2i1) hy fun j4 e b4 he => hE j4 e (fun c o d1 d2 d3 d4 q => b4 _ _ d4 (b2.extBut _ _ d3 (hs0.extBut _ _ d1 q))) he)
theorem pyNextZ {z TI TO i1 i2 l1 l2 : Addr} {k1 k2 : Nat} {xs ys : Array Value} {x y a b f0 f1 : Value} {Q : Option Value → Shared → Prop} (D : ZipApart z TI TO i1 i2 l1 l2)
    (hz : IsZ s.heap z TI TO f0 f1) (hf : Mark f0) (hTI : IsPair s.heap TI (.ref i1) (.ref i2)) (hTO : IsPair s.heap TO a b)
    (h1 : s.heap.IsTupleIter i1 l1 k1) (h2 : s.heap.IsTupleIter i2 l2 k2) (hl1 : s.heap.IsTuple l1 xs) (hl2 : s.heap.IsTuple l2 ys) (hx : xs[k1]? = some x) (hy : ys[k2]? = some y)
    (hQ : ∀ h', (∃ g0 g1, IsZ h' z TI TO g0 g1 ∧ Mark g0) → (∃ a b, IsPair h' TO a b) → h'.IsTupleIter i1 l1 (k1 + 1) → h'.IsTupleIter i2 l2 (k2 + 1) → IsPair h' s.heap.objs.size x y →
      (∀ c o, c ≠ z → c ≠ TO → c ≠ i1 → c ≠ i2 → s.heap.get? c = some o → h'.get? c = some o) → Q (some (.ref s.heap.objs.size)) { s with heap := h' }) :
    wpAny (model prog w) A (pyNext (.ref z)) Q E s := by
  have hT : s.TypeIs (.ref z) "zip" := ⟨_, hz, rfl⟩
  unfold pyNext
  exact wpAny_bind (wpAny_attempt (wpAny_callSpecial?_slot (name := Str.ofString "__next__") hT F.slot_zip_next
    (wpAny_call_entry F.slot_zip_next hT F.entry_zip_next
      (nextZ D hz hf hTI hTO h1 h2 hl1 hl2 hx hy fun h' a1 a2 a3 a4 a5 a6 => wpAny_pure (hQ h' a1 a2 a3 a4 a5 a6)) (F.args_zip_next_1 _))))
theorem pyNextEnd {z TI TO i1 i2 l1 l2 : Addr} {k1 k2 : Nat} {xs ys : Array Value} {a b f0 f1 : Value} {Q : Option Value → Shared → Prop} (hh : A.handled = none) (D : ZipApart z TI TO i1 i2 l1 l2)
    (hz : IsZ s.heap z TI TO f0 f1) (hf : Mark f0) (hTI : IsPair s.heap TI (.ref i1) (.ref i2)) (hTO : IsPair s.heap TO a b)
    (h1 : s.heap.IsTupleIter i1 l1 k1) (h2 : s.heap.IsTupleIter i2 l2 k2) (hl1 : s.heap.IsTuple l1 xs) (hl2 : s.heap.IsTuple l2 ys) (hend : xs[k1]? = none ∨ ys[k2]? = none)
    (hQ : ∀ h', (∀ c o, c ≠ z → c ≠ TO → c ≠ i1 → c ≠ i2 → s.heap.get? c = some o → h'.get? c = some o) → Q none { s with heap := h' }) : wpAny (model prog w) A (pyNext (.ref z)) Q E s := by
  have hT : s.TypeIs (.ref z) "zip" := ⟨_, hz, rfl⟩
  unfold pyNext
  refine wpAny_bind (wpAny_attempt (wpAny_callSpecial?_slot (name := Str.ofString "__next__") hT F.slot_zip_next
    (wpAny_call_entry F.slot_zip_next hT F.entry_zip_next (endZ hh D hz hf hTI hTO h1 h2 hl1 hl2 hend fun h' e hk he => ?_) (F.args_zip_next_1 _))))
  obtain ⟨o, ho, hc⟩ := he
  refine wpAny_bind (wpAny_isInstance (T := "StopIteration") (b := true) ⟨o, ho, hc⟩ isSubtype_stop ?_)
  exact wpAny_pure (hQ _ hk)
end
section
variable {prog : Program} {w : World} {A : Around} {E : Value → Shared → Prop} {s : Shared}
theorem iterZ {z TI TO : Addr} {f0 f1 : Value} {Q : Value → Shared → Prop} (hz : IsZ s.heap z TI TO f0 f1) (h : Q (.ref z) s) : wpAny (model prog w) A (pyIter (.ref z)) Q E s := by
  have hT : s.TypeIs (.ref z) "zip" := ⟨_, hz, rfl⟩
  refine wpAny_pyIter_slot hT F.slot_zip_iter (wpAny_call_entry F.slot_zip_iter hT F.entry_zip_iter ?_ (F.args_zip_iter_1 _))
  show wpAny _ _ (ret (.ref z)) _ _ s
  exact wpAny_pure ⟨_, rfl, "zip", _, hT, F.slot_zip_next.lookup, h⟩
end
theorem turnZ {P : Program} {w : World} {K : PySem.W.Frag} {y : Str} {tpos : Pos} {a b z TI TO i1 i2 : Addr} (D : ZipApart z TI TO i1 i2 a b) :
    Turn P w K (.Name y tpos) (ItzT K a b) [z, TI, TO, i1, i2] z (fun i h => (∃ f0 f1, IsZ h z TI TO f0 f1 ∧ Mark f0) ∧ IsPair h TI (.ref i1) (.ref i2) ∧ (∃ x y, IsPair h TO x y) ∧ h.IsTupleIter i1 a i ∧ h.IsTupleIter i2 b i) where
  mem := by simp
  obj := fun i h st c hc => by
    obtain ⟨⟨f0, f1, hz, _⟩, hTI, ⟨x, y, hTO⟩, ⟨o1, e1, _, d1⟩, ⟨o2, e2, _, d2⟩⟩ := st
    have e' : c = z ∨ c = TI ∨ c = TO ∨ c = i1 ∨ c = i2 := by simpa using hc
    rcases e' with q | q | q | q | q
    · rw [q]; exact ⟨_, hz, fun v q => nomatch q⟩
    · rw [q]; exact ⟨_, hTI, fun v q => nomatch q⟩
    · rw [q]; exact ⟨_, hTO, fun v q => nomatch q⟩
    · rw [q]; exact ⟨o1, e1, fun v q => by rw [d1] at q; cases q⟩
    · rw [q]; exact ⟨o2, e2, fun v q => by rw [d2] at q; cases q⟩
  keep := fun i h h' st k => by
    obtain ⟨⟨f0, f1, hz, m⟩, hTI, ⟨x, y, hTO⟩, h1, h2⟩ := st
    exact ⟨⟨f0, f1, k z (by simp) _ hz, m⟩, k TI (by simp) _ hTI, ⟨x, y, k TO (by simp) _ hTO⟩, h1.at fun o q => k i1 (by simp) o q, h2.at fun o q => k i2 (by simp) o q⟩
  item := by
    intro X hP hw hK hc i pins s σ H E I hf st hg
    subst hP hw hK
    obtain ⟨⟨f0, f1, hz, m⟩, hTI, ⟨x0, y0, hTO⟩, h1, h2⟩ := st
    obtain ⟨xs, ys, x, y, hqx, hqy, hx, hy⟩ := hg
    obtain ⟨its, rv, p, _⟩ := I.tuple hqx
    obtain ⟨its2, rv2, p2, _⟩ := I.tuple hqy
    obtain ⟨u, hu, ru⟩ := rv.get hx
    obtain ⟨u2, hu2, ru2⟩ := rv2.get hy
    have hzl : z < s.heap.objs.size := Heap.lt_size hz
    refine pyNextZ D hz m hTI hTO h1 h2 p p2 (x := u) (y := u2) (by simpa using hu) (by simpa using hu2) fun h' z' TO' h1' h2' hT hk => ?_
    refine ⟨_, rfl, wpAny_pure ?_⟩
    have new : ObjOk X.prog X.w (upd H s.heap.objs.size (.tup [x, y])) h' s.heap.objs.size (.tup [x, y]) :=
      ⟨by show 2 ≤ sizeLine; decide, [u, u2], .cons ru (.cons ru2 .nil), ⟨_, hT, rfl, _, rfl⟩⟩
    have I1 : Inv X pins σ (upd H s.heap.objs.size (.tup [x, y])) { s with heap := h' } :=
      I.turnedNew (t' := s.toks) (ch := [z, TI, TO, i1, i2]) (fun c o hb q => hk c o (fun q' => hb (by simp [q'])) (fun q' => hb (by simp [q'])) (fun q' => hb (by simp [q'])) (fun q' => hb (by simp [q'])) q) hf (Nat.le_refl _) new
    refine ⟨.ref s.heap.objs.size, _, I1, rfl, ⟨_, x, y, rfl, I.hok.fresh (Nat.le_refl _), rfl, fun l hl => by rw [I.tuple_inj hl hqx]; exact hx, fun l hl => by rw [I.tuple_inj hl hqy]; exact hy⟩, ⟨z', ?_, TO', h1', h2'⟩, fun c hcm => ?_⟩
    · exact hk _ _ D.TIz D.TITO D.TIi1 D.TIi2 hTI
    · have hlt : c < s.heap.objs.size := by
        have e' : c = z ∨ c = TI ∨ c = TO ∨ c = i1 ∨ c = i2 := by simpa using hcm
        rcases e' with q | q | q | q | q
        · rw [q]; exact hzl
        · rw [q]; exact Heap.lt_size hTI
        · rw [q]; exact Heap.lt_size hTO
        · rw [q]; obtain ⟨_, e1, _⟩ := h1; exact Heap.lt_size e1
        · rw [q]; obtain ⟨_, e2, _⟩ := h2; exact Heap.lt_size e2
      rw [upd_ne (Nat.ne_of_lt hlt)]
      exact (hf c hcm).1
  done := by
    intro X hP hw hK hc i pins s σ H E I hf st hg
    subst hP hw hK
    obtain ⟨⟨f0, f1, hz, m⟩, hTI, ⟨x0, y0, hTO⟩, h1, h2⟩ := st
    obtain ⟨xs, ys, hqx, hqy, hend⟩ := hg
    obtain ⟨its, rv, p, _⟩ := I.tuple hqx
    obtain ⟨its2, rv2, p2, _⟩ := I.tuple hqy
    have l1 := rv.length
    have l2 := rv2.length
    have he : its.toArray[i]? = none ∨ its2.toArray[i]? = none := by
      rcases hend with q | q
      · exact .inl (by simp; omega)
      · exact .inr (by simp; omega)
    exact pyNextEnd (I.ok.hd hc) D hz m hTI hTO h1 h2 p p2 he fun h' hk => ⟨rfl, I.turnedL (t' := s.toks) (ch := [z, TI, TO, i1, i2]) (fun c o hb q =>
      hk c o (fun q' => hb (by simp [q'])) (fun q' => hb (by simp [q'])) (fun q' => hb (by simp [q'])) (fun q' => hb (by simp [q'])) q) hf⟩
  self := fun A i s Q E st h => by
    obtain ⟨⟨f0, f1, hz, m⟩, _⟩ := st
    exact iterZ hz h
def iZipN (K : PySem.W.Frag) (ta : TA) : TI := fun σ H R => ta σ H fun vs H1 => ∃ a b xs ys, vs = [.ref a, .ref b] ∧ SqT K H1 a xs ∧ SqT K H1 b ys ∧ R (ItzT K a b) H1
theorem pi_zipN {X : Cx} {e e2 : Expr} {ta : TA} {p pos tpos : Pos} {y : Str} (hg : Gl X "zip") (hm : X.mg "zip" = none) (ha : PA X [e, e2] ta)
    (hs : starEach [e, e2] X.env = (false, eval e X.env) :: starEach [e2] X.env := by rfl) (hpl : (backTo pos (starEach [e2] X.env)).any (·.1) = false := by rfl) :
    PI X (.Name y tpos) (.Call (.Name "zip" p) [e, e2] [] pos) (iZipN X.K ta) := by
  refine ⟨fun pins s σ H R I h => ?_⟩
  refine Call_ (ld_blt I hg hm PyProof.Rows.boot_zip (PyProof.Rows.callWith_type1 (thn (ha.run pos pins s σ H _ I h) fun us s1 ⟨vs, H1, I1, r1, q1⟩ => ?_) hs hpl))
  obtain ⟨a, b, xs, ys, ex, hqx, hqy, q⟩ := q1
  subst ex
  cases r1 with
  | cons r rr =>
    cases rr with
    | cons r' rr =>
      cases rr
      cases r
      cases r'
      have fresh5 : ∀ c, c ∈ [s1.heap.objs.size + 4, s1.heap.objs.size + 2, s1.heap.objs.size + 3, s1.heap.objs.size, s1.heap.objs.size + 1] → FpOk X pins H1 c := fun c hcm => by
        have e' : c = s1.heap.objs.size + 4 ∨ c = s1.heap.objs.size + 2 ∨ c = s1.heap.objs.size + 3 ∨ c = s1.heap.objs.size ∨ c = s1.heap.objs.size + 1 := by simpa using hcm
        have hle : s1.heap.objs.size ≤ c := by
          rcases e' with z | z | z | z | z
          · rw [z]; exact Nat.le_add_right _ _
          · rw [z]; exact Nat.le_add_right _ _
          · rw [z]; exact Nat.le_add_right _ _
          · rw [z]; exact Nat.le_refl _
          · rw [z]; exact Nat.le_add_right _ _
        exact I1.fpOk hle (I1.hok.fresh hle)
      obtain ⟨its, rv, p1, _⟩ := I1.tuple hqx
      obtain ⟨its2, rv2, p2, _⟩ := I1.tuple hqy
      obtain ⟨o1, ho1, _⟩ := id p1
      obtain ⟨o2, ho2, _⟩ := id p2
      refine call_zipT (show s1.heap.IsTuple a its.toArray from p1) (show s1.heap.IsTuple b its2.toArray from p2) fun h' hz hTI hTO h1 h2 hsz hk => wpAny_pyIter_zip hz ?_
      have I2 : Inv X pins σ H1 { s1 with heap := h' } := I1.kept (t' := s1.toks) hk
      exact ⟨s1.heap.objs.size + 4, [s1.heap.objs.size + 4, s1.heap.objs.size + 2, s1.heap.objs.size + 3, s1.heap.objs.size, s1.heap.objs.size + 1], _, _, H1, rfl, I2, turnZ (PySem.W.ktu_apart s1.heap.objs.size a b (Heap.lt_size ho1) (Heap.lt_size ho2)), ⟨⟨_, _, hz, .inl rfl⟩, hTI, ⟨_, _, hTO⟩, h1, h2⟩, fresh5, q⟩
end ZN
namespace DL
open PySem PySem.Spec PyProof.Rows L2 TL
section
variable {X : Cx} {m : Mem} {ta : DTA m} {p pos : Pos}
/-- zip of two tuples, its pairs under one name -/
def diZipN {m : Mem} (ta : DTA m) : DTI m := fun ρ s Q => ta ρ s fun ds ρ1 s1 => ∃ xs ys, ds = [.tup xs, .tup ys] ∧ Q (pairsD xs ys) ρ1 s1
theorem di_zipN {a b : Expr} {y : Str} {tpos : Pos} (hg : Gl X "zip") (hm : X.mg "zip" = none) (ha : PA X [a, b] (upA X.K m ta))
    (hs : starEach [a, b] X.env = (false, eval a X.env) :: starEach [b] X.env := by rfl) (hpl : (backTo pos (starEach [b] X.env)).any (·.1) = false := by rfl) :
    PI X (.Name y tpos) (.Call (.Name "zip" p) [a, b] [] pos) (upI X.K m (diZipN ta)) := PI.imp (ZN.pi_zipN hg hm ha hs hpl) fun σ H R h => by
  obtain ⟨F, ρ, s, Qd, r, ht, hQ⟩ := h
  refine ⟨F, ρ, s, _, r, ht, fun ds ρ1 s1 vs F1 H1 ⟨xs, ys, ed, q1⟩ r1 st1 rs => ?_⟩
  subst ed
  obtain ⟨v, _, rfl, rv, w, _, rfl, rw', rn⟩ := rs
  cases rn
  obtain ⟨a, vs, rfl, h1, _, k1⟩ := rv
  obtain ⟨b, ws, rfl, h2, _, k2⟩ := rw'
  exact ⟨a, b, vs, ws, rfl, Same.seqT r1.sub h1, Same.seqT r1.sub h2, hQ _ ρ1 s1 _ F1 H1 q1 r1 st1 (walks_zipT h1 k1 h2 k2)⟩
end
end DL

set_option Elab.async false
set_option linter.all false
set_option maxRecDepth 100000
set_option maxHeartbeats 1000000
/-! LP3: rows of modules: chains or not -/
namespace RP
open PySem PySem.Spec PyProof.Rows L2 TL DL TX TO RG
/-- [e for x in xs if p x], nothing drawn, the items as they are -/
theorem lcA {m : Mem} {h : D → D} {p : D → Bool} {g : DG} {tt : DTT m} {te : DT m} {vs : List Nat} {ρ1 : List Sl} {s1 : m.S} {Q : DK m} (xs : List D) (hl : xs.length ≤ 2000)
    (turn : ∀ x ∈ xs, ∀ (T : D → m.S → Prop) (U : m.S → Prop), (p x = true → T (h x) s1) → (p x = false → U s1) → g x (wipeD ρ1 vs) fun ρ2 => tt ρ2 s1 fun b ρ3 s3 => ρ3 = ρ2 ∧ ifB b (te ρ2 s3 fun y ρ4 s4 => ρ4 = ρ2 ∧ T y s4) (U s3))
    (fin : Q (.lst ((xs.filter p).map h)) ρ1 s1) : lcK g tt te vs Q xs ρ1 s1 := by
  have z := lcF (f := fun x : D => x) (h := h) (p := p) (g := g) (tt := tt) (te := te) (vs := vs) (ρ1 := ρ1) (s1 := s1) (Q := Q) xs hl turn fin
  rwa [List.map_id''] at z
  intro x; rfl
/-! ### rows -/
def txts : List D → Option (List Str)
  | [] => some []
  | .str x :: r => (txts r).map (x :: ·)
  | _ :: _ => none
theorem txts_map : ∀ xs : List Str, txts (xs.map .str) = some xs
  | [] => rfl
  | x :: xs => by
    show (txts (xs.map .str)).map (x :: ·) = _
    rw [txts_map xs]; rfl
theorem txts_some : ∀ {ds : List D} {xs : List Str}, txts ds = some xs → ds = xs.map .str
  | [], xs, h => by cases h; rfl
  | d :: ds, xs, h => by
    cases d with
    | str x =>
      have h : (txts ds).map (x :: ·) = some xs := h
      obtain ⟨ys, e, rfl⟩ := Option.map_eq_some_iff.mp h
      rw [txts_some e]; rfl
    | _ => cases h
theorem inTx_str (x : Str) (ys : List Str) : inTx (.str x) ys = decide (x ∈ ys) := by
  show (ys.any fun y => decide (y = x)) = _
  induction ys with
  | nil => rfl
  | cons y ys ih =>
    rw [List.any_cons, ih, ← Bool.decide_or]
    exact decide_eq_decide.mpr ((or_congr_left eq_comm).trans List.mem_cons.symm)
theorem inTx_all (ys : List Str) : ∀ ds : List D, (ds.map fun d => inTx d ys).all id = (match txts ds with
  | some xs => xs.all fun x => decide (x ∈ ys)
  | none => false)
  | [] => rfl
  | d :: ds => by
    rw [List.map_cons, List.all_cons, inTx_all ys ds]
    cases d with
    | str x =>
      show (inTx (.str x) ys && _) = (match (txts ds).map (x :: ·) with
        | some xs => xs.all fun x => decide (x ∈ ys)
        | none => false)
      cases txts ds with
      | none => rw [Bool.and_false]; rfl
      | some xs =>
        rw [inTx_str]
        show _ = (x :: xs).all _
        rw [List.all_cons]
    | _ => rfl
def rowB (ms : List Str) (us : List (Str × Str)) (xs : List Str) : Bool := decide (2 ≤ xs.length) && (xs.all (fun x => decide (x ∈ ms)) && (decide ((once xs).length = xs.length) && (xs.zip (xs.drop 1)).all fun u => decide (u ∈ us)))
def rowD (ms : List Str) (us : List (Str × Str)) : D → Bool
  | .tup ds => (match txts ds with
    | some xs => rowB ms us xs
    | none => false)
  | _ => false
theorem rowD_map (ms : List Str) (us : List (Str × Str)) (xs : List Str) : rowD ms us (.tup (xs.map .str)) = rowB ms us xs := by
  show (match txts (xs.map .str) with
    | some xs => rowB ms us xs
    | none => false) = _
  rw [txts_map]
theorem rowD_yes {ms : List Str} {us : List (Str × Str)} {d : D} (h : rowD ms us d = true) : ∃ xs : List Str, d = .tup (xs.map .str) ∧ 2 ≤ xs.length ∧ ∀ x ∈ xs, x ∈ ms := by
  cases d with
  | tup ds =>
    have h : (match txts ds with
      | some xs => rowB ms us xs
      | none => false) = true := h
    cases e : txts ds with
    | none => rw [e] at h; cases h
    | some xs =>
      rw [e] at h
      have h : rowB ms us xs = true := h
      unfold rowB at h
      rw [Bool.and_eq_true, Bool.and_eq_true, List.all_eq_true] at h
      exact ⟨xs, by rw [txts_some e], of_decide_eq_true h.1, fun x hx => of_decide_eq_true (h.2.1 x hx)⟩
  | _ => cases h
theorem eqD_nat (n m : Nat) : eqD (.int n) (.int m) = decide (n = m) := by
  show ((n : Int) == (m : Int)) = _
  by_cases h : n = m
  · rw [h]; simp
  · rw [decide_eq_false h]
    exact beq_eq_false_iff_ne.mpr fun z => h (by omega)
theorem pairs_str : ∀ (xs ys : List Str), pairsD (xs.map .str) (ys.map .str) = (xs.zip ys).map ptD
  | [], ys => by simp [pairsD]
  | x :: xs, [] => by simp [pairsD]
  | x :: xs, y :: ys => by
    have := pairs_str xs ys
    simp only [pairsD, List.map_cons, List.zip_cons_cons] at this ⊢
    rw [List.zipWith_cons_cons, this]; rfl
theorem zip_rng (xs : List Str) (e : Str) : ((List.range (xs.length - 1)).map fun i => (xs.getD i e, xs.getD (i + 1) e)) = xs.zip (xs.drop 1) := by
  refine List.ext_getElem (by simp) fun i h1 h2 => ?_
  have h1 : i < xs.length - 1 := by simpa using h1
  rw [List.getElem_map, List.getElem_range, List.getElem_zip, List.getElem_drop, List.getD_eq_getElem?_getD, List.getD_eq_getElem?_getD, List.getElem?_eq_getElem (by omega), List.getElem?_eq_getElem (by omega)]
  have e : (1 + i) = i + 1 := Nat.add_comm 1 i
  simp only [Option.getD_some, e]
/-! ### promises -/
def spChain {m : Mem} (C : Addr) : DSp m := fun ds s Q => ∃ ms us d N W n, ds = [progD C ms us, d] ∧ Gd N W n d ∧ N ≤ 1000 ∧ Q (.bl (rowD ms us d)) s
theorem spChain_len {m : Mem} {C : Addr} : ∀ ds s Qd, (spChain C : DSp m) ds s Qd → ds.length = 2 := fun ds s Qd ⟨_, _, _, _, _, _, e, _⟩ => by rw [e]; rfl
/-- does one of these paths cover that one -/
def anyCov (ps : List Str) (x : Str) : Bool := (ps.find? fun p => coversS p x).isSome
def holdD (ms : List Str) (us : List (Str × Str)) (ss ts : List Str) : D → Bool
  | .tup ds => (match txts ds with
    | some xs => rowB ms us xs && (anyCov ss (xs.headD Str.empty) && anyCov ts (xs.getLastD Str.empty))
    | none => false)
  | _ => false
def spHolds {m : Mem} (C : Addr) : DSp m := fun ds s Q => ∃ ms us ss ts d N W n, ds = [progD C ms us, .tup ((ss : List Str).map .str), .tup ((ts : List Str).map .str), d] ∧ (∀ p ∈ ss, p.length ≤ 1000) ∧ (∀ p ∈ ts, p.length ≤ 1000) ∧ Gd N W n d ∧ N ≤ 1000 ∧ Q (.bl (holdD ms us ss ts d)) s
theorem spHolds_len {m : Mem} {C : Addr} : ∀ ds s Qd, (spHolds C : DSp m) ds s Qd → ds.length = 4 := fun ds s Qd ⟨_, _, _, _, _, _, _, _, e, _⟩ => by rw [e]; rfl
def spData : DSp Mem.deck := fun ds s Q => ∃ a b c x y, ds = [.any (.ref a), .int x, .int y] ∧ s.adr = some (a, b, c) ∧ 1 ≤ x ∧ x ≤ 30 ∧ 1 ≤ y ∧ y ≤ 100 ∧ s.n + 1300 < drawLim ∧ ∀ ms us k, Mods ms → Uses ms us → (ms.length : Int) ≤ x → (us.length : Int) ≤ y → k ≤ s.n + 1300 → Q (.tup [.lst (ms.map .str), .lst (us.map ptD)]) ⟨s.adr, k⟩
theorem spData_len : ∀ ds s Qd, (spData : DSp Mem.deck) ds s Qd → ds.length = 3 := fun ds s Qd ⟨_, _, _, _, _, e, _⟩ => by rw [e]; rfl
def spSome11 : DSp Mem.deck := fun ds s Q => ∃ a b c ms y, ds = [.any (.ref a), .lst ((ms : List Str).map .str), .int y] ∧ s.adr = some (a, b, c) ∧ 0 ≤ y ∧ y ≤ 30 ∧ ms.length ≤ 100 ∧ (∀ x ∈ ms, PathS x) ∧ s.n + 100 < drawLim ∧ ∀ (xs : List Str) k, (xs.length : Int) ≤ y → (∀ x ∈ xs, x.length ≤ 1000) → k ≤ s.n + 100 → Q (.tup (xs.map .str)) ⟨s.adr, k⟩
theorem spSome11_len : ∀ ds s Qd, (spSome11 : DSp Mem.deck) ds s Qd → ds.length = 3 := fun ds s Qd ⟨_, _, _, _, _, e, _⟩ => by rw [e]; rfl
theorem path_gd {x : Str} (h : PathS x) (n : Nat) : Gd 150 100 n (.str x) := (gd_str h.2 (fun c hc => sOk_cps h.ok c hc) n).mono (by omega) (Nat.le_refl _) (Nat.le_refl _)
theorem holdD_no {ms : List Str} {us : List (Str × Str)} {ss ts : List Str} {d : D} (h : rowD ms us d = false) : holdD ms us ss ts d = false := by
  cases d with
  | tup ds =>
    have h : (match txts ds with
      | some xs => rowB ms us xs
      | none => false) = false := h
    show (match txts ds with
      | some xs => rowB ms us xs && (anyCov ss (xs.headD Str.empty) && anyCov ts (xs.getLastD Str.empty))
      | none => false) = false
    cases e : txts ds with
    | none => rfl
    | some xs =>
      rw [e] at h
      have h : rowB ms us xs = false := h
      show (rowB ms us xs && _) = false
      rw [h]; rfl
  | _ => rfl
theorem holdD_map (ms : List Str) (us : List (Str × Str)) (ss ts xs : List Str) : holdD ms us ss ts (.tup (xs.map .str)) = (rowB ms us xs && (anyCov ss (xs.headD Str.empty) && anyCov ts (xs.getLastD Str.empty))) := by
  show (match txts (xs.map .str) with
    | some xs => rowB ms us xs && (anyCov ss (xs.headD Str.empty) && anyCov ts (xs.getLastD Str.empty))
    | none => false) = _
  rw [txts_map]
theorem at_head {xs : List Str} (h : xs ≠ []) : atI (xs.map D.str) 0 = some (.str (xs.headD Str.empty)) := by
  cases xs with
  | nil => exact absurd rfl h
  | cons x xs => exact atI_nat (j := 0) rfl
theorem at_last {xs : List Str} (h : xs ≠ []) : atI (xs.map D.str) (-1) = some (.str (xs.getLastD Str.empty)) := by
  obtain ⟨l, v, e⟩ : ∃ l v, xs = l ++ [v] := ⟨xs.dropLast, xs.getLast h, (List.dropLast_concat_getLast h).symm⟩
  subst e
  rw [List.map_append, List.getLastD_concat]
  exact L2.atI_last (xs := l.map D.str) (v := .str v)
theorem anyCov_some (ps : List Str) (x : Str) : anyCov ps x = ps.any fun p => coversS p x := by
  unfold anyCov
  rw [Bool.eq_iff_iff, List.find?_isSome, List.any_eq_true]
theorem last_mem {xs : List Str} (h : xs ≠ []) : xs.getLastD Str.empty ∈ xs := by
  obtain ⟨l, v, e⟩ : ∃ l v, xs = l ++ [v] := ⟨xs.dropLast, xs.getLast h, (List.dropLast_concat_getLast h).symm⟩
  subst e
  rw [List.getLastD_concat]
  simp
theorem head_mem {xs : List Str} (h : xs ≠ []) : xs.headD Str.empty ∈ xs := by
  cases xs with
  | nil => exact absurd rfl h
  | cons x xs => exact List.mem_cons_self
theorem zz_path : PathS (Str.ofString "zz") := ⟨by decide +kernel, by decide +kernel⟩
theorem sum_le {ns : List Str} {n : Nat} (h : ∀ x ∈ ns, x.length ≤ n) : (ns.map (·.length)).sum ≤ n * ns.length := by
  induction ns with
  | nil => exact Nat.zero_le _
  | cons x xs ih =>
    rw [List.map_cons, List.sum_cons, List.length_cons]
    have := h x List.mem_cons_self
    have := ih fun y hy => h y (List.mem_cons_of_mem _ hy)
    rw [Nat.mul_succ]
    omega
end RP

set_option Elab.async false
set_option linter.all false
set_option maxRecDepth 100000
set_option maxHeartbeats 1000000
namespace RP
open PySem PySem.Spec PyProof.Rows L2 TL DL TX TO RG

def T_chain11 (a : Nat → Addr) {m : Mem} : DTS m :=
  (dSeq (dIf (dOrT (dNotT (dTr (dB isiD (daCons (dVar 1) (daCons (dC (D.any (V.ty "tuple"))) daNil))))) (dCmT ltD (dB lenD (daCons (dVar 1) daNil)) (dC (D.int 2)))) (dRet (dC (D.bl false))) dNext)
      (dSeq (dIf (dNotT (dTr (dB allD (daCons (dLc (diSeq (dVar 1)) (gN 2) dYes (dCm inTxD (dVar 2) (dProp (a 25) (spGetM (a 25)) (dVar 0))) [2]) daNil)))) (dRet (dC (D.bl false))) dNext)
      (dRet (dAndV (dCm eqC (dLenSet (dVar 1)) (dB lenD (daCons (dVar 1) daNil))) (dB allD (daCons (dLc (diZipN (daCons (dVar 1) (daCons (dSl slD (dVar 1) (doSome (dC (D.int 1))) doNone) daNil))) (gN 3) dYes (dCm (inTD false) (dVar 3) (dProp (a 25) (spGetU (a 25)) (dVar 0))) [3]) daNil))))))
theorem read_chain11 {a : Nat → Addr} {m : Mem} : ∀ ds s Qd, (spChain (a 25) : DSp m) ds s Qd → (T_chain11 a : DTS m) (endsOf Qd) (startD ["program", "value", "module", "use"] ds) s := by
  intro ds s Qd h
  obtain ⟨ms, us, d, N, W, n, rfl, hd, hN, hQ⟩ := h
  obtain ⟨t, ht⟩ := hd.ty
  cases d with
  | ins _ _ _ => cases ht
  | any _ => cases ht
  | fz _ => cases ht
  | exc _ _ _ => cases ht
  | tup ds =>
    obtain ⟨hl, hs⟩ := RG.sm_tup hd.s
    have hp : (srt lessS ms).length = ms.length := srt_len _
    have tyd : ∀ x ∈ ds, (tyT x).isSome = true := fun x hx => RG.sm_ty (hs x hx)
    have er : rowD ms us (.tup ds) = (match txts ds with
      | some xs => rowB ms us xs
      | none => false) := rfl
    refine ⟨_, .tup, _, rfl, rfl, (by intro z; cases z), _, rfl, _, _, rfl, rfl, ifBd (fun h2 => ?_) fun h2 => ?_⟩
    · have : rowD ms us (.tup ds) = false := by
        rw [er]
        cases e : txts ds with
        | none => rfl
        | some xs =>
          have := congrArg List.length (txts_some e)
          rw [List.length_map] at this
          show rowB ms us xs = false
          unfold rowB
          rw [decide_eq_false (by omega), Bool.false_and]
      rw [this] at hQ
      exact hQ
    refine ⟨_, rfl, lcA (p := fun _ => true) (h := fun d => .bl (inTx d (srt lessS ms))) ds (by omega) (fun x hx T U t f => ?_) ?_⟩
    · exact ⟨rfl, ⟨_, _, rfl⟩, ms, us, rfl, _, tyd x hx, rfl, rfl, t rfl⟩
    have ha := inTx_all (srt lessS ms) ds
    refine ⟨ds.map fun d => inTx d (srt lessS ms), by rw [filter_yes, List.map_map]; rfl, _, rfl, ?_⟩
    rw [ha]
    cases e : txts ds with
    | none =>
      have : rowD ms us (.tup ds) = false := by rw [er, e]
      rw [this] at hQ
      exact hQ
    | some xs =>
      have ed := txts_some e
      subst ed
      rw [rowD_map] at hQ
      have em : (xs.all fun x => decide (x ∈ srt lessS ms)) = xs.all fun x => decide (x ∈ ms) := by
        congr 1
        funext x
        exact decide_eq_decide.mpr mem_srt
      show ifB (!(xs.all fun x => decide (x ∈ srt lessS ms))) _ _
      rw [em]
      rw [List.length_map] at hl h2
      refine ifB2 (fun h3 => ?_) fun h3 => ?_
      · have h3 : (xs.all fun x => decide (x ∈ ms)) = false := by rw [← Bool.not_not (xs.all _), h3]; rfl
        have : rowB ms us xs = false := by unfold rowB; rw [h3, Bool.false_and, Bool.and_false]
        rw [this] at hQ
        exact hQ
      have h3 : (xs.all fun x => decide (x ∈ ms)) = true := by rw [← Bool.not_not (xs.all _), h3]; rfl
      have hr : rowB ms us xs = (decide ((once xs).length = xs.length) && (xs.zip (xs.drop 1)).all fun u => decide (u ∈ us)) := by
        unfold rowB
        rw [h3, Bool.true_and, decide_eq_true (by omega), Bool.true_and]
      rw [hr] at hQ
      refine ⟨xs, rfl, by omega, _, _, rfl, rfl, rfl, rfl, _, rfl, ?_⟩
      rw [List.length_map, eqD_nat]
      refine ifB2 (fun h4 => ?_) fun h4 => ?_
      · rw [h4, Bool.true_and] at hQ
        refine ⟨_, rfl, ?_⟩
        simp only [slD, daNil, doNone]
        rw [show (1 : Int) = ((1 : Nat) : Int) from rfl, cut_from, ← List.map_drop]
        refine ⟨_, _, rfl, ?_⟩
        rw [pairs_str]
        refine lcF (f := ptD) (p := fun _ => true) (h := fun u => .bl (decide (u ∈ us))) _ (by rw [List.length_zip]; omega) (fun x hx T U t f => ?_) ?_
        · refine ⟨rfl, ⟨_, _, rfl⟩, ms, us, rfl, _, rfl, rfl, plain_prs 57 _, ?_⟩
          rw [any_pr, Bool.false_xor, decide_eq_decide.mpr (mem_srt (lt := lessP) (l := us) (x := x))]
          exact ⟨rfl, t rfl⟩
        refine ⟨(xs.zip (xs.drop 1)).map fun u => decide (u ∈ us), by rw [filter_yes, List.map_map]; rfl, ?_⟩
        rw [List.all_map]
        exact hQ
      · rw [h4, Bool.false_and] at hQ
        rw [h4]
        exact hQ
  | _ => exact ⟨_, .tup, _, rfl, rfl, (by intro z; cases z), _, rfl, hQ⟩
def T_holds11 (a : Nat → Addr) {m : Mem} : DTS m :=
  (dRet (dAndV (dCall (spChain (a 25)) (daCons (dVar 0) (daCons (dVar 3) daNil))) (dAndV (dCm isntD' (dCall spCovered (daCons (dVar 1) (daCons (dOp ixD (dVar 3) (dC (D.int 0))) daNil))) (dC D.non)) (dCm isntD' (dCall spCovered (daCons (dVar 2) (daCons (dOp ixD (dVar 3) (dUn negD (dC (D.int 1)))) daNil))) (dC D.non)))))
theorem read_holds11 {a : Nat → Addr} {m : Mem} : ∀ ds s Qd, (spHolds (a 25) : DSp m) ds s Qd → (T_holds11 a : DTS m) (endsOf Qd) (startD ["program", "sources", "targets", "value"] ds) s := by
  intro ds s Qd h
  obtain ⟨ms, us, ss, ts, d, N, W, n, rfl, h1, h2, hd, hN, hQ⟩ := h
  refine ⟨ms, us, d, N, W, n, rfl, hd, hN, _, rfl, ifB2 (fun h => ?_) fun h => ?_⟩
  · obtain ⟨xs, rfl, l2, hx⟩ := rowD_yes h
    have ne : xs ≠ [] := fun z => by rw [z] at l2; exact absurd l2 (by decide)
    rw [rowD_map] at h
    rw [holdD_map, h, Bool.true_and] at hQ
    refine ⟨_, at_head ne, ss, _, rfl, h1, ?_⟩
    unfold anyCov at hQ
    cases e1 : ss.find? fun p => coversS p (xs.headD Str.empty) with
    | none =>
      rw [e1] at hQ
      exact ⟨(by intro w z; cases z), _, rfl, hQ⟩
    | some p =>
      rw [e1] at hQ
      refine ⟨(by intro w z; cases z), _, rfl, _, at_last ne, ts, _, rfl, h2, ?_⟩
      cases e2 : ts.find? fun p => coversS p (xs.getLastD Str.empty) with
      | none =>
        rw [e2] at hQ
        exact ⟨(by intro w z; cases z), hQ⟩
      | some q =>
        rw [e2] at hQ
        exact ⟨(by intro w z; cases z), hQ⟩
  · rw [holdD_no h] at hQ
    rw [h]
    exact hQ
def T_data11 : DTS Mem.deck :=
  (dSeq (dSet 3 (dCall spModules (daCons (dVar 0) (daCons (dCall spPool (daCons (dVar 0) (daCons (dC (D.int 5)) daNil))) (daCons (dVar 1) daNil)))))
      (dRet (dTup (daCons (dVar 3) (daCons (dCall spUses (daCons (dVar 0) (daCons (dVar 3) (daCons (dVar 2) daNil)))) daNil)))))
theorem read_data11 : ∀ ds s Qd, (spData : DSp Mem.deck) ds s Qd → (T_data11 : DTS Mem.deck) (endsOf Qd) (startD ["_law_deck_here", "_law_most", "_law_uses_here", "_law_modules_here"] ds) s := by
  intro ds s Qd h
  obtain ⟨a, b, c, x, y, rfl, hs, h1, h30, h3, h100, hn, hQ⟩ := h
  have hlim : drawLim = 1152921504606846976 := rfl
  refine ⟨a, b, c, 5, hs, rfl, by decide, by decide, by omega, fun pool k1 hpl hpool hk1 => ?_⟩
  have hpl : pool.length = 5 := hpl
  refine ⟨a, b, c, pool, x, rfl, hs, h1, h30, by omega, by omega, hpool, (by show k1 + _ < _; omega), fun ms k2 hm hml hk2 => ?_⟩
  have hk2 : k2 ≤ k1 + 700 := hk2
  refine ⟨a, b, c, ms, y, rfl, hs, h3, h100, by omega, (by show k2 + _ < _; omega), fun us k3 hu hul hk3 => ?_⟩
  have hk3 : k3 ≤ k2 + 300 := hk3
  exact ⟨lz rfl, hQ ms us k3 hm hu hml hul (by omega)⟩
def T_some11 : DTS Mem.deck :=
  (dSeq (dSetL 3 daNil)
      (dSeq (dFor (diR1 (daCons (dCall spNext (daCons (dVar 0) (daCons (dOp addD (dVar 2) (dC (D.int 1))) daNil))) daNil)) (gN 4)
        (dSeq (dSet 5 (dMt "str" splitD (dOp ixD (dOp addD (dVar 1) (dLst (daCons (dC (D.str (Str.ofString "zz"))) daNil))) (dCall spNext (daCons (dVar 0) (daCons (dOp addD (dB lenD (daCons (dVar 1) daNil)) (dC (D.int 1))) daNil)))) (daCons (dC (D.str (Str.ofString "."))) daNil)))
        (dSeq (dSet 6 (dOp addD (dC (D.int 1)) (dCall spNext (daCons (dVar 0) (daCons (dB lenD (daCons (dVar 5) daNil)) daNil)))))
        (dApp 3 (dMt "str" joinD (dC (D.str (Str.ofString "."))) (daCons (dOp addD (dSl slD (dVar 5) doNone (doSome (dVar 6))) (dOp mulD (dOp ixD (dLst (daCons (dLst daNil) (daCons (dLst (daCons (dC (D.str (Str.ofString "z"))) daNil)) (daCons (dLst daNil) (daCons (dLst daNil) daNil))))) (dCall spNext (daCons (dVar 0) (daCons (dC (D.int 4)) daNil)))) (dB intBD (daCons (dCm ltD (dVar 6) (dC (D.int 6))) daNil)))) daNil))))))
      (dRet (dB tupD (daCons (dVar 3) daNil)))))
theorem read_some11 : ∀ ds s Qd, (spSome11 : DSp Mem.deck) ds s Qd → (T_some11 : DTS Mem.deck) (endsOf Qd) (startD ["_law_deck_here", "_law_modules_here", "_law_most", "_law_found", "_law_k", "_law_names", "_law_many"] ds) s := by
  intro ds s Qd h
  obtain ⟨a, b, c, ms, y, rfl, hs, hy0, hy30, hml, hm, hn, hQ⟩ := h
  have hlim : drawLim = 1152921504606846976 := rfl
  have hd : (Str.ofString ".") = dot := by decide +kernel
  refine ⟨Nat.zero_le _, a, b, c, _, hs, rfl, by omega, by omega, by omega, fun r k h0 h1 hk => ?_⟩
  have hk : k = s.n + 1 := hk
  refine ⟨r, rfl, by omega, by omega, ?_⟩
  refine ⟨fun pre ρ s' => s'.adr = some (a, b, c) ∧ s'.n ≤ k + 3 * pre.length ∧ ∃ c4 c5 c6 xs, ρ = [.sh (.any (.ref a)), .sh (.lst (ms.map .str)), .sh (.int y), .ow (.lst ((xs : List Str).map .str)), c4, c5, c6] ∧ xs.length = pre.length ∧ ∀ x ∈ xs, x.length ≤ 1000,
    ⟨hs, Nat.le_refl _, _, _, _, [], rfl, rfl, by simp⟩, ?_, ?_⟩
  · rintro pre q post ρ s' e ⟨e1, e2, c4, c5, c6, xs, rfl, lx, hx⟩
    obtain ⟨hlt, rfl⟩ := rng_pre e
    have hlt : pre.length < r.toNat := hlt
    refine ⟨lz rfl, line_of2 (by rw [List.length_map]; show ms.length + 1 ≤ _; omega), _, _, rfl, rfl, a, b, c, _, e1, rfl, by rw [List.length_map]; omega, by rw [List.length_map]; omega, by omega, fun r3 k3 h4 h5 hk3 => ?_⟩
    have hk3 : k3 = s'.n + 1 := hk3
    rw [List.length_map] at h5
    obtain ⟨o, ho, hat⟩ := pick_map D.str (ms ++ [Str.ofString "zz"]) r3 h4 (by rw [List.length_append, List.length_singleton]; omega)
    have po : PathS o := by
      rcases List.mem_append.mp ho with z | z
      · exact hm o z
      · rw [List.mem_singleton.mp z]; exact zz_path
    rw [List.map_append] at hat
    refine ⟨_, hat, rfl, o, 46, rfl, by rw [hd]; rfl, by decide, ?_⟩
    have hns := po.names
    have hnp : 0 < (splS 46 o).length := List.length_pos_iff.mpr (splS_ne 46 o)
    refine ⟨_, _, rfl, rfl, a, b, c, _, e1, rfl, by rw [List.length_map]; omega, by rw [List.length_map]; omega, by show k3 < _; omega, fun r4 k4 g4 g5 hk4 => ?_⟩
    have hk4 : k4 = k3 + 1 := hk4
    obtain ⟨j, rfl⟩ : ∃ j : Nat, r4 = (j : Int) := ⟨r4.toNat, by omega⟩
    have ej : (1 : Int) + (j : Int) = ((j + 1 : Nat) : Int) := by omega
    refine ⟨⟨_, rfl⟩, rfl, _, rfl, ?_⟩
    rw [ej]
    simp only [slD, daNil]
    rw [cut_take, ← List.map_take]
    refine ⟨lz rfl, lz rfl, lz rfl, lz rfl, lz rfl, a, b, c, 4, e1, rfl, by decide, by decide, by show k4 < _; omega, fun r5 k5 g6 g7 hk5 => ?_⟩
    have hk5 : k5 = k4 + 1 := hk5
    obtain ⟨w, hw, hat5⟩ := pick_map (fun l : List Str => D.lst (l.map .str)) [[], [Str.ofString "z"], [], []] r5 g6 g7
    have hw1 : w.length ≤ 1 ∧ ∀ x ∈ w, x.length ≤ 8 := by
      have z1 : (Str.ofString "z").length ≤ 8 := by decide +kernel
      simp only [List.mem_cons, List.not_mem_nil, or_false] at hw
      rcases hw with rfl | rfl | rfl | rfl
      · exact ⟨by decide, by simp⟩
      · exact ⟨by decide, by simpa using z1⟩
      · exact ⟨by decide, by simp⟩
      · exact ⟨by decide, by simp⟩
    refine ⟨_, hat5, _, rfl, ?_⟩
    obtain ⟨v, hv, ev⟩ : ∃ v : List Str, (v.length ≤ 1 ∧ ∀ x ∈ v, x.length ≤ 8) ∧ (List.replicate (Int.toNat (if decide (((j + 1 : Nat) : Int) < 6) = true then 1 else 0)) (w.map D.str)).flatten = v.map D.str := by
      by_cases h : ((j + 1 : Nat) : Int) < 6
      · refine ⟨w, hw1, ?_⟩
        rw [if_pos (decide_eq_true h)]
        simp
      · refine ⟨[], ⟨by decide, by simp⟩, ?_⟩
        rw [if_neg (by rw [decide_eq_false h]; decide)]
        rfl
    have b01 : (0 : Int) ≤ (if decide (((j + 1 : Nat) : Int) < 6) = true then (1 : Int) else 0) ∧ (if decide (((j + 1 : Nat) : Int) < 6) = true then (1 : Int) else 0) ≤ 1 := by
      split <;> decide
    refine ⟨⟨b01.1, by omega, ?_⟩, ?_⟩
    · have : (w.map D.str).length * Int.toNat (if decide (((j + 1 : Nat) : Int) < 6) = true then (1 : Int) else 0) ≤ 1 * 1 := Nat.mul_le_mul (by rw [List.length_map]; exact hw1.1) (by omega)
      exact line_of2 (by omega)
    rw [ev]
    have tk : ((splS 46 o).take (j + 1)).length ≤ 6 := by rw [List.length_take]; omega
    refine ⟨line_of2 (by rw [List.length_map, List.length_map]; omega), ?_⟩
    rw [← List.map_append]
    have lens : ∀ x ∈ (splS 46 o).take (j + 1) ++ v, x.length ≤ 8 := fun x hx => by
      rcases List.mem_append.mp hx with z | z
      · have z := hns.2 x (List.mem_of_mem_take z)
        unfold okName okLen at z
        rw [Bool.and_eq_true, Bool.and_eq_true] at z
        exact of_decide_eq_true z.1.2
      · exact hv.2 x z
    have sum := sum_le lens
    have nl : ((splS 46 o).take (j + 1) ++ v).length ≤ 7 := by rw [List.length_append]; omega
    have d1 : dot.length = 1 := rfl
    have hsl : strLim = 1000000 := rfl
    refine ⟨_, _, rfl, .inl rfl, by rw [hd, d1]; omega, _, rfl, Nat.lt_of_le_of_lt (by rw [List.length_map]; omega) (show 2000 < sizeLine by rw [sizeLine_eq]; decide), e1, ?_, _, _, _, xs ++ [joinS (Str.ofString ".") ((splS 46 o).take (j + 1) ++ v)], by rw [List.map_append]; rfl, by rw [List.length_append, List.length_append, lx]; rfl, fun x hx' => ?_⟩
    · show k5 ≤ _
      rw [List.length_append, List.length_singleton]; omega
    · rcases List.mem_append.mp hx' with z | z
      · exact hx x z
      · rw [List.mem_singleton.mp z, hd]
        have := joinS_len (z := dot) (ns := (splS 46 o).take (j + 1) ++ v)
        rw [d1] at this
        omega
  · rintro ρ s' ⟨e1, e2, c4, c5, c6, xs, rfl, lx, hx⟩
    rw [rngD_length] at e2 lx
    refine ⟨_, _, rfl, rfl, ?_⟩
    have z := hQ xs s'.n (by omega) hx (by omega)
    rw [hs, ← e1] at z
    exact z
end RP

set_option Elab.async false
set_option linter.all false
set_option maxRecDepth 100000
/-! EL22: x, y = f(..), y a list that the def will change: f is asked with nothing known but its arguments, so what it gives is new -/
namespace DL
open PySem PySem.Spec PyProof.Rows L2 TL TX TO
/-- data that says nothing of any place -/
def bare : D → Bool
  | .non => true
  | .bl _ => true
  | .int _ => true
  | .str _ => true
  | .any _ => true
  | _ => false
theorem bare_rep {K : PySem.W.Frag} {F F' : Hp} {d : D} {v : V} (h : bare d = true) (r : Rep K F d v) : Rep K F' d v := by
  cases d with
  | non => exact r
  | bl _ => exact r
  | int _ => exact r
  | str _ => exact r
  | any _ => exact r
  | _ => cases h
theorem bare_reps {K : PySem.W.Frag} {F F' : Hp} : ∀ {ds : List D} {vs : List V}, ds.all bare = true → Reps K F ds vs → Reps K F' ds vs
  | [], _, _, r => r
  | d :: ds, vs, h, r => by
    rw [List.all_cons, Bool.and_eq_true] at h
    obtain ⟨v, w, rfl, r1, r2⟩ := r
    exact ⟨v, w, rfl, bare_rep h.1 r1, bare_reps h.2 r2⟩
def orH (F G : Hp) : Hp := fun b => match F b with
  | some o => some o
  | none => G b
def offH (F : Hp) (p : Addr) : Hp := fun b => if b = p then none else F b
theorem same_or {F G : Hp} : Same F (orH F G) := fun a o h => by
  unfold orH
  rw [h]
theorem same_off {F : Hp} {p : Addr} : Same (offH F p) F := fun a o h => by
  unfold offH at h
  split at h
  · cases h
  · exact h
theorem off_at {F : Hp} {p b : Addr} {o : HO} (h : F b = some o) (n : b ≠ p) : offH F p b = some o := by
  unfold offH
  rw [if_neg n]
  exact h
section
variable {m : Mem} {K : PySem.W.Frag} {F1 F2 F3 H1 H2 : Hp} {σ : L2.St} {ρ1 : List Sl} {s1 s' : m.S}
end
section
variable {X : Cx} {m : Mem} {e : Expr} {es : List Expr} {u : DTA m} {E : Ent m}
end
end DL

set_option Elab.async false
set_option linter.all false
set_option maxRecDepth 100000
/-! EL23: behind a value that is a tuple of texts, too, the own lists are the slots' own again -/
namespace DL
open PySem PySem.Spec PyProof.Rows L2 TL TX TO
section
variable {K : PySem.W.Frag} {m : Mem} {F H F' H' : Hp} {σ : L2.St} {ρ ρ' : List Sl} {s s' : m.S}
end
section
variable {X : Cx} {m : Mem} {e : Expr} {te : DT m}
end
end DL

set_option Elab.async false
set_option linter.all false
set_option maxRecDepth 100000
set_option maxHeartbeats 1000000
namespace RP
open PySem PySem.Spec PyProof.Rows L2 TL DL TX TO RG
theorem gs_paths : ∀ l : List Str, (∀ x ∈ l, PathS x) → Gs 150 (101 * l.length) 5 (l.map .str)
  | [], _ => ⟨by simp, by simp, by simp, by rw [List.map_nil, wl_nil]; exact Nat.zero_le _⟩
  | y :: l, h => by
    have z := (Gs.one (path_gd (h y List.mem_cons_self) 5)).app (gs_paths l fun w hw => h w (List.mem_cons_of_mem _ hw))
    exact z.mono (Nat.le_refl _) (by rw [List.length_cons, Nat.mul_succ]; omega) (Nat.le_refl _)

end RP

set_option Elab.async false
set_option linter.all false
set_option maxRecDepth 100000
/-! EL24: a def's own dict written; a dict of lists that are changed where they lie (next_table) -/
namespace DL
open PySem PySem.Spec PyProof.Rows L2 TL
section
variable {K : PySem.W.Frag} {m : Mem} {F H : Hp} {σ : L2.St} {ρ : List Sl} {s : m.S} {L L' A B : List (Addr × List Str)} {q : Addr} {xs ys : List Str} {E : Ent (Mem.hot m)}
/-- the order of the lists beside is nothing -/
theorem hot_perm (p : L.Perm L') (a : Addr) : (Mem.hot m).R (s, L) a ↔ (Mem.hot m).R (s, L') a := by
  constructor
  · rintro (h | ⟨x, hx, e⟩)
    · exact .inl h
    · exact .inr ⟨x, p.mem_iff.mp hx, e⟩
  · rintro (h | ⟨x, hx, e⟩)
    · exact .inl h
    · exact .inr ⟨x, p.mem_iff.mpr hx, e⟩
theorem Rel.hotPerm (r : Rel K (Mem.hot m) F H σ ρ (s, L)) (p : L.Perm L') : Rel K (Mem.hot m) F H σ ρ (s, L') := by
  obtain ⟨m1, m2, m3⟩ := r.mem
  exact ⟨r.sub, ⟨m1, (p.map Prod.fst).nodup_iff.mp m2, fun x hx => m3 x (p.mem_iff.mpr hx)⟩, fun a h => r.reg a ((hot_perm p a).mpr h), r.len, r.sh, r.ow, fun i a h => ⟨(r.owF i a h).1, fun z => (r.owF i a h).2 ((hot_perm p a).mpr z)⟩, r.uq⟩
theorem Own.hotPerm (o : Own (Mem.hot m) E F H σ ρ (s, L)) (p : L.Perm L') : Own (Mem.hot m) E F H σ ρ (s, L') := ⟨o.ext, o.keep, o.alive, o.fresh, fun a h => o.regf a ((hot_perm p a).mpr h), o.own⟩
theorem mid_perm {α : Type} {A B : List α} {x : α} : (A ++ x :: B).Perm ((A ++ B) ++ [x]) := (List.perm_middle).trans (List.perm_append_singleton x (A ++ B)).symm
theorem Rel.hotWA (r : Rel K (Mem.hot m) F H σ ρ (s, A ++ (q, xs) :: B)) (hl : ys.length ≤ sizeLine) (hs : ∀ x ∈ ys, sOk x = true) : Rel K (Mem.hot m) F (upd H q (.lst (ys.map V.str))) σ ρ (s, A ++ (q, ys) :: B) :=
  ((r.hotPerm mid_perm).hotW hl hs).hotPerm mid_perm.symm
theorem Own.hotWA (o : Own (Mem.hot m) E F H σ ρ (s, A ++ (q, xs) :: B)) : Own (Mem.hot m) E F (upd H q (.lst (ys.map V.str))) σ ρ (s, A ++ (q, ys) :: B) :=
  ((o.hotPerm mid_perm).hotW).hotPerm mid_perm.symm
/-- the lists beside are known from now on, and changed no more -/
def coolH (F H : Hp) (L : List (Addr × List Str)) : Hp := fun b => match F b with
  | some o => some o
  | none => if b ∈ L.map Prod.fst then H b else none
theorem cool_cases {a : Addr} {o : HO} (h : coolH F H L a = some o) : F a = some o ∨ (F a = none ∧ a ∈ L.map Prod.fst ∧ H a = some o) := by
  unfold coolH at h
  cases q : F a with
  | some u => rw [q] at h; exact .inl h
  | none =>
    rw [q] at h
    by_cases c : a ∈ L.map Prod.fst
    · rw [if_pos c] at h; exact .inr ⟨rfl, c, h⟩
    · rw [if_neg c] at h; cases h
theorem cool_ext : Same F (coolH F H L) := fun a o h => by
  unfold coolH
  rw [h]
theorem Rel.cool (r : Rel K (Mem.hot m) F H σ ρ (s, L)) : Rel K (Mem.hot m) (coolH F H L) H σ ρ (s, []) ∧ ∀ p ∈ L, coolH F H L p.1 = some (.lst (p.2.map V.str)) := by
  obtain ⟨m1, m2, m3⟩ := r.mem
  have sub : Same (coolH F H L) H := fun a o h => by
    rcases cool_cases h with z | ⟨_, _, z⟩
    · exact r.sub a o z
    · exact z
  refine ⟨⟨sub, ⟨m1, List.nodup_nil, fun p hp => by cases hp⟩, fun a ha => ?_, r.len, fun i d e => ?_, fun i o e => ?_, fun i p hp => ⟨?_, fun z => ?_⟩, r.uq⟩, fun p hp => ?_⟩
  · have ha : m.R s a := ha.elim id fun ⟨p, hp, _⟩ => by cases hp
    cases q : coolH F H L a with
    | none => rfl
    | some o =>
      rcases cool_cases q with z | ⟨_, z, _⟩
      · rw [r.reg a (.inl ha)] at z; cases z
      · obtain ⟨p, hp, rfl⟩ := List.mem_map.mp z
        exact absurd ha (m3 p hp).2.2.2
  · obtain ⟨v, h1, h2⟩ := r.sh i d e
    exact ⟨v, h1, Rep.mono cool_ext _ _ h2⟩
  · obtain ⟨p, ho, h1, h2, h3⟩ := r.ow i o e
    exact ⟨p, ho, h1, h2, h3.mono cool_ext⟩
  · cases q : coolH F H L p with
    | none => rfl
    | some o =>
      rcases cool_cases q with z | ⟨_, z, _⟩
      · rw [(r.owF i p hp).1] at z; cases z
      · obtain ⟨p', hp', rfl⟩ := List.mem_map.mp z
        exact absurd (.inr ⟨p', hp', rfl⟩) (r.owF i _ hp).2
  · have z : m.R s p := z.elim id fun ⟨p, hp, _⟩ => by cases hp
    exact (r.owF i p hp).2 (.inl z)
  · have nF : F p.1 = none := r.reg p.1 (.inr ⟨p, hp, rfl⟩)
    unfold coolH
    rw [nF]
    show (if p.1 ∈ L.map Prod.fst then H p.1 else none) = _
    rw [if_pos (List.mem_map_of_mem hp)]
    exact (m3 p hp).1
theorem Own.cool (o : Own (Mem.hot m) E F H σ ρ (s, L)) (new : ∀ p ∈ L, E.H p.1 = none) : Own (Mem.hot m) E (coolH F H L) H σ ρ (s, []) := by
  refine ⟨o.ext.trans cool_ext, o.keep, o.alive, fun a x h => ?_, fun a h => ?_, o.own⟩
  · rcases cool_cases h with z | ⟨_, z, _⟩
    · exact o.fresh a x z
    · obtain ⟨p, hp, rfl⟩ := List.mem_map.mp z
      exact .inr (new p hp)
  · rcases h with h | ⟨p, hp, _⟩
    · exact o.regf a (.inl h)
    · cases hp
end
section
variable {X : Cx} {m : Mem} {pos : Pos} {e b : Expr}
/-- x[k] = e, a new key of a def's own dict -/
def dDicPut {m : Mem} (i : Nat) (te tb : DT m) : DTS m := fun dd ρ s => te ρ s fun d ρ1 s1 => (∃ ks0 ds0, ρ1[i]? = some (.ow (.dic ks0 ds0))) ∧ tb ρ1 s1 fun y ρ2 s2 => ∃ ks ds z, y = .str z ∧ ρ2[i]? = some (.ow (.dic ks ds)) ∧ (.inr z ∉ ks) ∧ ks.length + 1 ≤ 1000 ∧
  dd.nx (ρ2.set i (.ow (.dic (ks ++ [.inr z]) (ds ++ [d])))) s2
theorem ds_dicPut {E : Ent m} {te tb : DT m} (i : Nat) {x : Str} {xpos spos : Pos} (hu : X.A.units + 1 < cLine) (he : PE X e (up X.K m te)) (hb : PE X b (up X.K m tb)) (hN : X.N[i]? = some x := by rfl) (hv : Vis X.env.scope x := by first | exact Or.inl rfl | exact Or.inr (Or.inl rfl) | exact Or.inr (Or.inr rfl))
    (hd : (x == ("__debug__" : Str)) = false := by decide) (hcd : (x == ("__classdict__" : Str)) = false := by decide) (hs : swapsWith e (some (.Subscript (.Name x xpos) b spos)) pos.line X.env = pure false := by rfl) :
    PS X (.Assign [.Subscript (.Name x xpos) b spos] e pos) (upS X.K m E (dDicPut i te tb)) := PS.imp (ps_dput hu (pv i hN hv hd hcd) hb he hs) fun DD σ H h => by
  obtain ⟨F, ρ, s, dd, r, o, ht, f⟩ := h
  refine ⟨F, ρ, s, _, r, ht, fun d ρ1 s1 v F1 H1 ⟨⟨ks0, ds0, e0⟩, q1⟩ r1 st1 rv => ?_⟩
  obtain ⟨p, ho, h1, h2, ⟨kv0, rfl, hl0, _, rs0⟩, h4, h5⟩ := r1.own_at e0
  refine ⟨_, h1, F1, ρ1, s1, _, r1, q1, fun y ρ2 s2 u F2 H2 ⟨ks, ds, z, ey, e2, nk, hz, q2⟩ r2 st2 ru => ?_⟩
  subst ey
  obtain ⟨rfl, _⟩ := ru
  obtain ⟨p', ho, g1, g2, ⟨kvs, rfl, hl, hk, rs⟩, g4, g5⟩ := r2.own_at e2
  rw [h1] at g1; cases g1
  have hlen : kvs.length = ks.length := by rw [← hk, List.length_map]
  have m1 : ∀ q ∈ kvs, q.1 ≠ Sum.inr z := fun q hq e => nk (by rw [← hk, ← e]; exact List.mem_map_of_mem hq)
  have z1000 : 1000 ≤ sizeLine := by rw [sizeLine_eq]; decide
  refine ⟨p, _, rfl, DPut.k (k := .inr z) g2 (by omega), ?_⟩
  rw [putK_new m1]
  refine f.nx F2 _ σ _ s2 (st1.ext.trans st2.ext) (r2.write (o' := .dic (ks ++ [.inr z]) (ds ++ [d])) e2 h1 ⟨_, rfl, by rw [List.length_append]; simp; omega, ?_, ?_⟩) (((o.stp st1).stp st2).write (K := X.K) e2 h1) q2
  · rw [List.map_append, hk]; rfl
  · rw [List.map_append]
    exact rs.append (.one (Rep.mono st2.ext _ _ rv))
/-- x = {}, a dict that this def will change -/
def dSetD0 {m : Mem} (i : Nat) : DTS m := fun dd ρ s => dd.nx (ρ.set i (.ow (.dic [] []))) s
theorem ds_setD0 {E : Ent m} (i : Nat) {x : Str} {pos' dpos : Pos} (hN : X.N.Nodup) (hi : X.N[i]? = some x := by rfl) (hx : Loc X.env.scope x := by first | exact Or.inl rfl | exact Or.inr rfl)
    (hs : swapsWith (.Dict [] [] dpos) (some (.Name x pos')) pos.line X.env = pure false := by rfl) (hf : X.fn x = true ∨ X.env.scope.names.lookup x = some .local := by first | exact .inl rfl | exact .inr rfl) :
    PS X (.Assign [.Name x pos'] (.Dict [] [] dpos) pos) (upS X.K m E (dSetD0 i)) := PS.imp (ps_set hN hi hx pe_dnewK hs hf) fun DD σ H h => by
  obtain ⟨F, ρ, s, dd, r, o, ht, f⟩ := h
  intro p np
  have r2 := r.putO (i := i) (o := .dic [] []) np ⟨[], rfl, Nat.zero_le _, rfl, rfl⟩
  exact f.nx F _ _ _ s (Same.refl F) r2 (Own.putO r o np) ht
variable {te tb : DT (Mem.hot m)} {E : Ent (Mem.hot m)}
/-- x[k] = [], a list that is changed where it lies -/
def dTabNew {m : Mem} (i : Nat) (tb : DT (Mem.hot m)) : DTS (Mem.hot m) := fun dd ρ s => (∃ ks0 ds0, ρ[i]? = some (.ow (.dic ks0 ds0))) ∧ ∀ q, tb ρ (s.1, s.2 ++ [(q, [])]) fun y ρ2 s2 => ∃ ks ds z, y = .str z ∧ ρ2[i]? = some (.ow (.dic ks ds)) ∧ (.inr z ∉ ks) ∧ ks.length + 1 ≤ 1000 ∧
  dd.nx (ρ2.set i (.ow (.dic (ks ++ [.inr z]) (ds ++ [.any (.ref q)])))) s2
theorem ds_tabNew (i : Nat) {x : Str} {xpos spos lpos : Pos} (hu : X.A.units + 1 < cLine) (hb : PE X b (up X.K (Mem.hot m) tb)) (hN : X.N[i]? = some x := by rfl) (hv : Vis X.env.scope x := by first | exact Or.inl rfl | exact Or.inr (Or.inl rfl) | exact Or.inr (Or.inr rfl))
    (hd : (x == ("__debug__" : Str)) = false := by decide) (hcd : (x == ("__classdict__" : Str)) = false := by decide) (hs : swapsWith (.List [] lpos) (some (.Subscript (.Name x xpos) b spos)) pos.line X.env = pure false := by rfl) :
    PS X (.Assign [.Subscript (.Name x xpos) b spos] (.List [] lpos) pos) (upS X.K (Mem.hot m) E (dTabNew i tb)) := PS.imp (ps_dput hu (pv i hN hv hd hcd) hb (pe_lst pa_nil) hs) fun DD σ H h => by
  obtain ⟨F, ρ, ⟨s1, L⟩, dd, r, o, ⟨⟨ks0, ds0, e0⟩, ht⟩, f⟩ := h
  obtain ⟨p, ho, h1, h2, ⟨kv0, rfl, hl0, _, rs0⟩, h4, h5⟩ := r.own_at e0
  refine ⟨by show 0 ≤ sizeLine; exact Nat.zero_le _, fun q nq => ?_⟩
  have r1 : Rel X.K (Mem.hot m) F (upd H q (.lst ([].map V.str))) σ ρ (s1, L ++ [(q, [])]) := Rel.hotNew (xs := []) r nq (Nat.zero_le _) (by simp)
  have o1 : Own (Mem.hot m) E F (upd H q (.lst ([].map V.str))) σ ρ (s1, L ++ [(q, [])]) := Own.hotNew (xs := []) o nq
  refine ⟨_, h1, F, ρ, (s1, L ++ [(q, [])]), _, r1, ht q, fun y ρ2 s2 u F2 H2 ⟨ks, ds, z, ey, e2, nk, hz, q2⟩ r2 st2 ru => ?_⟩
  subst ey
  obtain ⟨rfl, _⟩ := ru
  obtain ⟨p', ho, g1, g2, ⟨kvs, rfl, hl, hk, rs⟩, g4, g5⟩ := r2.own_at e2
  rw [h1] at g1; cases g1
  have hlen : kvs.length = ks.length := by rw [← hk, List.length_map]
  have m1 : ∀ q ∈ kvs, q.1 ≠ Sum.inr z := fun q hq e => nk (by rw [← hk, ← e]; exact List.mem_map_of_mem hq)
  have z1000 : 1000 ≤ sizeLine := by rw [sizeLine_eq]; decide
  refine ⟨p, _, rfl, DPut.k (k := .inr z) g2 (by omega), ?_⟩
  rw [putK_new m1]
  refine f.nx F2 _ σ _ s2 st2.ext (r2.write (o' := .dic (ks ++ [.inr z]) (ds ++ [.any (.ref q)])) e2 h1 ⟨_, rfl, by rw [List.length_append]; simp; omega, ?_, ?_⟩) ((o1.stp st2).write (K := X.K) e2 h1) q2
  · rw [List.map_append, hk]; rfl
  · rw [List.map_append]
    exact rs.append (Reps.one (d := .any (.ref q)) (v := .ref q) rfl)
/-- x[k].append(e), x a dict of lists that are changed where they lie -/
def dTabApp {m : Mem} (i : Nat) (tb te : DT (Mem.hot m)) : DTS (Mem.hot m) := fun dd ρ s => (∃ ks0 ds0, ρ[i]? = some (.ow (.dic ks0 ds0))) ∧ tb ρ s fun y ρ1 s1 => ∃ ks ds z q, y = .str z ∧ ρ1[i]? = some (.ow (.dic ks ds)) ∧ dicGet ks ds (.inr z) = some (.any (.ref q)) ∧ (∃ xs, (q, xs) ∈ s1.2) ∧
  te ρ1 s1 fun d ρ2 s2 => ∃ A B xs t, d = .str t ∧ s2.2 = A ++ (q, xs) :: B ∧ xs.length < sizeLine ∧ dd.nx ρ2 (s2.1, A ++ (q, xs ++ [t]) :: B)
theorem ds_tabApp (i : Nat) {x : Str} {xpos spos apos cpos : Pos} (hu : X.A.units + 1 < cLine) (hb : PE X b (up X.K (Mem.hot m) tb)) (he : PE X e (up X.K (Mem.hot m) te)) (hN : X.N[i]? = some x := by rfl) (hv : Vis X.env.scope x := by first | exact Or.inl rfl | exact Or.inr (Or.inl rfl) | exact Or.inr (Or.inr rfl))
    (hd : (x == ("__debug__" : Str)) = false := by decide) (hcd : (x == ("__classdict__" : Str)) = false := by decide) (hix : NoSl b := by exact fun _ _ => rfl)
    (hbase : attributeBase (.Subscript (.Name x xpos) b spos) "append" X.env (eval (.Subscript (.Name x xpos) b spos) X.env) = eval (.Subscript (.Name x xpos) b spos) X.env := by rfl)
    (hfew : ((backTo cpos (starEach [e] X.env)).all (fun x => !x.1) && (backToKw cpos (keywordEach [] X.env)).all (fun x => x.1.isSome)
      && decide ([e].length + ([] : List Keyword).length + (if ([] : List Keyword).isEmpty then 0 else 1) < 30)) = true := by rfl)
    (hline : (apos.endLine == cpos.line) = true := by rfl) (hs : starEach [e] X.env = [(false, eval e X.env)] := by rfl)
    (hsw : swapsWith (.Call (.Attribute (.Subscript (.Name x xpos) b spos) "append" apos) [e] [] cpos) none pos.line X.env = pure false := by rfl) :
    PS X (.Expr (.Call (.Attribute (.Subscript (.Name x xpos) b spos) "append" apos) [e] [] cpos) pos) (upS X.K (Mem.hot m) E (dTabApp i tb te)) :=
  PS.imp (ps_expr (pe_bm PySem.F.plainAttrs_list PySem.F.slot_list_append PySem.F.type_list_append mt_append (pe_dget hu (pv i hN hv hd hcd) hb hix) (pa_cons he pa_nil (by rw [hs]; rfl)) hbase hfew hline (by rw [hs]; rfl) rfl) hsw) fun DD σ H h => by
  obtain ⟨F, ρ, s, dd, r, o, ⟨⟨ks0, ds0, e0⟩, ht⟩, f⟩ := h
  obtain ⟨p, ho, h1, h2, ⟨kv0, rfl, hl0, _, rs0⟩, h4, h5⟩ := r.own_at e0
  refine ⟨_, h1, F, ρ, s, _, r, ht, fun y ρ1 s1 v F1 H1 ⟨ks, ds, z, q, ey, e1, eg, ⟨xs0, hin⟩, q1⟩ r1 st1 rv => ?_⟩
  subst ey
  obtain ⟨rfl, _⟩ := rv
  obtain ⟨p', ho, g1, g2, ⟨kvs, rfl, hl, hk, rs⟩, g4, g5⟩ := r1.own_at e1
  rw [h1] at g1; cases g1
  obtain ⟨w, ew, rw'⟩ := (val_rep hk rs).1 _ eg
  obtain rfl : w = .ref q := rw'
  have a1 := (r1.mem.2.2 _ hin).1
  refine ⟨p, .ref q, rfl, by rw [← ew]; exact DGet.k (k := .inr z) g2, .inl ⟨rfl, _, .inl (.inl a1)⟩, F1, ρ1, s1, _, r1, q1, fun d ρ2 s2 v F2 H2 ⟨A, B, xs, t, ed, es, hz, q2⟩ r2 st2 rv => ?_⟩
  subst ed
  obtain ⟨rfl, hok⟩ := rv
  obtain ⟨s2a, s2b⟩ := s2
  obtain rfl : s2b = A ++ (q, xs) :: B := es
  obtain ⟨b1, b2, b3, b4⟩ := r2.mem.2.2 (q, xs) (by simp)
  have b1 : H2 q = some (.lst (xs.map V.str)) := b1
  refine ⟨q, xs.map V.str, .str t, rfl, rfl, b1, by rw [List.length_map]; omega, ?_⟩
  have es : xs.map V.str ++ [V.str t] = (xs ++ [t]).map V.str := by rw [List.map_append]; rfl
  rw [es]
  exact f.nx F2 _ σ _ _ (st1.ext.trans st2.ext) (r2.hotWA (by rw [List.length_append, List.length_singleton]; omega) fun x hx => (List.mem_append.mp hx).elim (b3 x) fun z => by rw [List.mem_singleton.mp z]; exact hok) (((o.stp st1).stp st2).hotWA) q2
end
section
variable {X : Cx} {pos : Pos}
theorem tab_lists {K : PySem.W.Frag} {F G : Hp} : ∀ (L : List (Addr × List Str)) (vs : List V), (∀ p ∈ L, G p.1 = some (.lst (p.2.map V.str)) ∧ p.2.length ≤ sizeLine ∧ ∀ x ∈ p.2, sOk x = true) → Reps K F (L.map fun p => .any (.ref p.1)) vs → Reps K G (L.map fun p => .lst (p.2.map .str)) vs
  | [], _, _, r => r
  | p :: L, vs, h, r => by
    obtain ⟨v, w, rfl, r1, r2⟩ := r
    obtain rfl : v = .ref p.1 := r1
    obtain ⟨h1, h2, h3⟩ := h p List.mem_cons_self
    exact ⟨_, w, rfl, ⟨p.1, _, rfl, h1, by rw [List.length_map]; exact h2, reps_of_strs _ h3⟩, tab_lists L w (fun q hq => h q (List.mem_cons_of_mem _ hq)) r2⟩
/-- return x, a dict of lists that were changed where they lie -/
def dRetTab (i : Nat) : DTS (Mem.hot Mem.nil) := fun dd ρ s => ∃ ks, ρ[i]? = some (.ow (.dic ks (s.2.map fun p => .any (.ref p.1)))) ∧ dd.rt (.dic ks (s.2.map fun p => .lst (p.2.map .str))) (s.1, [])
theorem ds_retTab {E : Ent (Mem.hot Mem.nil)} (hE : E.s.2 = []) (i : Nat) {x : Str} {xpos : Pos} (hN : X.N[i]? = some x := by rfl) (hv : Vis X.env.scope x := by first | exact Or.inl rfl | exact Or.inr (Or.inl rfl) | exact Or.inr (Or.inr rfl))
    (hd : (x == ("__debug__" : Str)) = false := by decide) (hcd : (x == ("__classdict__" : Str)) = false := by decide) : PS X (.Return (some (.Name x xpos)) pos) (upS X.K (Mem.hot Mem.nil) E (dRetTab i)) := PS.imp (ps_ret (pv i hN hv hd hcd)) fun DD σ H h => by
  obtain ⟨F, ρ, ⟨s1, L⟩, dd, r, o, ⟨ks, e0, hrt⟩, f⟩ := h
  obtain ⟨p, ho, h1, h2, ob, h4, h5⟩ := r.own_at e0
  obtain ⟨r1, st1, rp⟩ := r.share rfl e0 h1 h2 ob
  obtain ⟨r2, at2⟩ := Rel.cool (L := L) r1
  have o1 := o.stp st1
  have new : ∀ q ∈ L, E.H q.1 = none := fun q hq => by
    rcases o1.regf q.1 (.inr ⟨q, hq, rfl⟩) with z | z
    · rcases z with z | ⟨p', hp', _⟩
      · exact z.elim
      · rw [hE] at hp'; cases hp'
    · exact z
  refine ⟨_, h1, f.rt _ H σ _ (s1, []) _ _ (st1.ext.trans cool_ext) r2 (Own.cool o1 new) ?_ hrt⟩
  obtain ⟨a, kvs, e1, ha, hl, hk, rs⟩ := rp
  cases e1
  exact ⟨p, kvs, rfl, cool_ext _ _ ha, hl, hk, tab_lists L _ (fun q hq => ⟨at2 q hq, (r.mem.2.2 q hq).2.1, (r.mem.2.2 q hq).2.2.1⟩) rs⟩
end
section
variable {P : Program} {w : World} {K : PySem.W.Frag} {mg : Str → Option Value} {base : Heap} {m : Mem}
/-- a promise that says nothing of the state -/
abbrev PSp := List D → (D → Prop) → Prop
def pur {m : Mem} (p : PSp) : DSp m := fun ds s Q => p ds fun d => Q d s
/-- .. kept by a def that has lists beside, none at its entry and none at its end -/
def purH (p : PSp) : DSp (Mem.hot Mem.nil) := fun ds s Q => s.2 = [] ∧ p ds fun d => Q d (s.1, [])
theorem lift_nil {n : Nat} {p : PSp} {vs : List V} {H : Hp} {Q : VK} {E : XK} (h : lift K m n (pur p) vs H Q E) : lift K Mem.nil n (pur p) vs H Q E := by
  obtain ⟨hl, F, ds, s, Qd, sub, hm, hr, rs, hsp, hQ⟩ := h
  refine ⟨hl, F, ds, (), fun d _ => Qd d s, sub, trivial, fun _ z => z.elim, rs, hsp, fun d s' v F' H' q c rv => hQ d s v F' H' q ⟨c.ext, fun a o e _ => c.keep a o e fun z => z.elim, c.alive, c.fresh, fun a e => .inl e, c.sub, m.loc s H H' hm fun a ha => ?_, fun a ha => ?_⟩ rv⟩
  · cases e : H a with
    | none => exact absurd e (m.there s H a hm ha)
    | some o => exact c.keep a o e fun z => z.elim
  · cases e : F' a with
    | none => rfl
    | some o =>
      rcases c.fresh a o e with z | z
      · rw [hr a ha] at z; cases z
      · exact absurd z (m.there s H a hm ha)
theorem lift_tab {n : Nat} {p : PSp} {vs : List V} {H : Hp} {Q : VK} {E : XK} (h : lift K m n (pur p) vs H Q E) : lift K (Mem.hot Mem.nil) n (purH p) vs H Q E :=
  lift_cold (sp := pur p) (fun _ _ _ h => ⟨rfl, h⟩) (lift_nil h)
end
/-- x += y of ints -/
def iaddD : D → D → (D → Prop) → Prop := fun x y Q => ∃ i j, x = .int i ∧ y = .int j ∧ Q (.int (i + j))
theorem o_iadd {K : PySem.W.Frag} : Op2 K (rI0 fun i j => .int (i + j)) iaddD := o_ints0 fun x y Qd h => h
end DL

set_option Elab.async false
set_option linter.all false
set_option maxRecDepth 100000
/-! EL25: defs with a default: made, bound with all arguments or without the last, called without it -/
namespace DL
open PySem PySem.Spec PyProof.Rows L2 TL
/-- a def as it stands behind the top, whatever its defaults -/
structure FunE (K : PySem.W.Frag) (x qual : Str) (st : Stmt) (f : Addr) (fd : FuncData) : Prop where
  ex : ∃ (oc : Value) (od : Option Addr) (dV kV doc pm : Value) (an : Option Addr) (cdv ct : Value) (osl : Array (Option Value)),
    fd = PySem.W.fnOf x qual (defArgs st) (defBody st) (defScope st) dV kV doc pm an cdv ct ∧ K.lookup f = some ⟨oc, od, .func fd, osl⟩ ∧ PySem.W.codeIn K cdv qual = true
  kp : PySem.W.keepIn K (.ref f) = true
section
variable {P : Program} {w : World} {K : PySem.W.Frag} {mg : Str → Option Value} {base : Heap} {m : Mem}
theorem FunE.okG {CX : CXT} {x qual : Str} {st : Stmt} {f : Addr} {fd : FuncData} {N ps : List Str} {k : Nat} {sp : Sp} (F : FunE K x qual st f fd) (S : FnScope N ps (defScope st)) (len : ∀ vs H Q E, sp vs H Q E → vs.length = ps.length)
    (body : ∀ (cdv : Value) (A : Around) (outer : List Env) (s : Shared) (H : Hp) (vs : List V) (Q : VK) (E : XK), RoomG k (A.deeper (envOfC qual (defScope st) s.heap.objs.size f cdv)) → sp vs H Q E →
      ∃ t, PSs (cxOf CX P w K mg base N qual (defScope st) f cdv A outer s H E) (defBody st) t ∧ t { nx := fun _ H' => Q .non H', rt := Q } (start N vs) H) : FnG P w K mg base CX (k + 1) f fd ps sp := by
  obtain ⟨oc, od, dV, kV, doc, pm, an, cdv, ct, osl, rfl, lk, code⟩ := F.ex
  refine ⟨len, fun A outer s H args us vs Q E hr e0 hb rv hsp => ?_⟩
  have Kin : K.In s.heap := e0.mod.kin.keeps fun b o z => (e0.bs b o z).1
  have nl : s.heap.NoLimit := e0.mod.nolimit.keeps fun b o z => (e0.bs b o z).1
  have places : ∀ y ∈ ps.zip us, (defScope st).names.lookup y.1 = some .local ∨ ((defScope st).names.lookup y.1 = some .cell ∧ ((cellsFrom (s.heap.objs.size + 1) (defScope st).names []).lookup y.1).isSome = true) := fun y hy =>
    (S.par y.1 (List.of_mem_zip (show (y.1, y.2) ∈ ps.zip us from hy)).1).elim .inl fun q => .inr ⟨q, PySem.W.cellsFrom_some _ _ _ (.inl q)⟩
  refine codeAny_call_function hr.r.depth (Kin _ _ lk) rfl S.co S.gen rfl (PySem.W.codeRec_of Kin code) (hb _ _ _ _ (wpAny_newFunctionEnv_cells S.kind places fun env he s1 new => ?_))
  subst he
  obtain ⟨t, ht, hq⟩ := body cdv A outer s H vs Q E (hr.deeper _) hsp
  have J : Inv (cxOf CX P w K mg base N qual (defScope st) f cdv A outer s H E) [] (start N vs) H s1 := inv_start S hr.r.hd e0 (len _ _ _ _ hsp) rv new
  refine ⟨nl.keeps new.toInCall.keep, codeAny_func (wpAny_mono (ht.run [] s1 (start N vs) H _ J hq) (fun fl s' z => ?_) fun _ _ z => z)⟩
  rcases fl with _ | _ | _ | u
  · obtain ⟨σ', H', J', q⟩ := z
    exact ⟨V.non, H', J'.os, J'.bare, J'.base, J'.hok, rfl, q⟩
  · obtain ⟨_, _, _, q⟩ := z
    exact q.elim
  · obtain ⟨_, _, _, q⟩ := z
    exact q.elim
  · obtain ⟨v, σ', H', J', r', q⟩ := z
    exact ⟨v, H', J'.os, J'.bare, J'.base, J'.hok, r', q⟩
/-- THE RULE for such a def, its state at the entry of a kind that the promise tells -/
theorem dfnED {x qual : Str} {st : Stmt} {f : Addr} {fd : FuncData} {N ps : List Str} {k n : Nat} {sp : DSp m} (P' : m.S → Prop) (hP : ∀ ds s Qd, sp ds s Qd → P' s) (F : FunE K x qual st f fd) (S : FnScope N ps (defScope st)) (hn : n = ps.length)
    (hb : ∀ (cdv : Value) (A : Around) (outer : List Env) (s : Shared) (H : Hp) (E : XK) (En : Ent m), P' En.s → RoomG k (A.deeper (envOfC qual (defScope st) s.heap.objs.size f cdv)) →
      ∃ t, PSs (cxOf CX0 P w K mg base N qual (defScope st) f cdv A outer s H E).nox (defBody st) (upS K m En t) ∧ ∀ ds s Qd, sp ds s Qd → t (endsOf Qd) (startD N ds) s) : FnG P w K mg base CX0 (k + 1) f fd ps (lift K m n sp) := by
  subst hn
  refine FunE.okG F S (fun vs H Q E h => h.1) (fun cdv A outer s H vs Q E hr h => ?_)
  obtain ⟨hl, F0, ds, s0, Qd, sub, hm, hreg, rs, hsp, hQ⟩ := h
  obtain ⟨t, ht, hq⟩ := hb cdv A outer s H E ⟨F0, H, s0⟩ (hP ds s0 Qd hsp) hr
  refine ⟨_, ht.nox, F0, startD N ds, s0, _, rel_start sub hm hreg rs, ⟨Same.refl _, fun _ _ h _ => h, fun _ h => h, fun _ _ h => .inl h, fun _ h => .inl h, fun i p ⟨⟨o, e⟩, _⟩ => ?_⟩, hq ds s0 Qd hsp, ?_⟩
  · unfold startD at e
    by_cases hi : i < ds.length
    · rw [List.getElem?_append_left (by simpa using hi), List.getElem?_map, List.getElem?_eq_getElem hi] at e; cases e
    · rw [List.getElem?_append_right (by simpa using hi), List.getElem?_replicate] at e
      split at e <;> cases e
  · have cs : ∀ F' H' σ ρ s, Rel K m F' H' σ ρ s → Own m ⟨F0, H, s0⟩ F' H' σ ρ s → CStp m F0 H s0 F' H' s := fun F' H' σ ρ s r o => ⟨o.ext, o.keep, o.alive, o.fresh, o.regf, r.sub, r.mem, r.reg⟩
    exact ⟨fun F' H' σ ρ s _ r o q => hQ .non s _ F' H' q (cs F' H' σ ρ s r o) rfl, fun F' H' σ ρ s d v _ r o rv q => hQ d s v F' H' q (cs F' H' σ ρ s r o) rv, fun _ _ _ _ _ _ _ _ q => q.elim, fun _ _ _ _ _ _ _ _ q => q.elim⟩
end
section
variable {K : PySem.W.Frag} {x qual : Str} {st : Stmt} {f : Addr} {oc : Value} {od an : Option Addr} {osl : Array (Option Value)} {kV doc pm cdv ct : Value} {T : Addr} {oT : Obj} {n : Nat} {ps : List Str} {b : Bool}
/-- a def with one default, True or False: its facts -/
theorem funE_mk (l : K.lookup f = some ⟨oc, od, .func (PySem.W.fnOf x qual (defArgs st) (defBody st) (defScope st) (.ref T) kV doc pm an cdv ct), osl⟩) (c : PySem.W.codeIn K cdv qual = true) (k : PySem.W.keepIn K (.ref f) = true) :
    FunE K x qual st f (PySem.W.fnOf x qual (defArgs st) (defBody st) (defScope st) (.ref T) kV doc pm an cdv ct) := ⟨⟨oc, od, _, kV, doc, pm, an, cdv, ct, osl, rfl, l, c⟩, k⟩
theorem funD_mk (l : K.lookup f = some ⟨oc, od, .func (PySem.W.fnOf x qual (defArgs st) (defBody st) (defScope st) (.ref T) kV doc pm an cdv ct), osl⟩) (c : PySem.W.codeIn K cdv qual = true) (k : PySem.W.keepIn K (.ref f) = true) (lT : K.lookup T = some oT) (dT : oT.data = .seq #[.bool b] n) :
    FunD K x qual (defArgs st) (defBody st) (defScope st) [.bl b] [] f (PySem.W.fnOf x qual (defArgs st) (defBody st) (defScope st) (.ref T) kV doc pm an cdv ct) :=
  ⟨⟨oc, od, _, kV, doc, pm, an, cdv, ct, osl, rfl, l, c, .inr ⟨by simp, T, oT, [.bool b], n, rfl, lT, dT, .cons rfl .nil⟩, .inl rfl⟩, k⟩
/-- all arguments given -/
theorem bindE {fd : FuncData} (F : FunD K x qual (defArgs st) (defBody st) (defScope st) [.bl b] [] f fd) (m : Nat) (hm : m = ps.length)
    (h : ∀ (T : Addr) (kV doc pm : Value) (an : Option Addr) (cdv ct : Value) (us its : List Value), us.length = m → its.length = 1 →
      ∃ k, bindArgs (PySem.W.fnOf x qual (defArgs st) (defBody st) (defScope st) (.ref T) kV doc pm an cdv ct) ⟨us, []⟩ = seqItems? (.ref T) >>= k ∧ k (some its.toArray) = pure (ps.zip (us ++ its.drop 1))) : Binds K fd ps [] := by
  obtain ⟨ds, r, B⟩ := F.binds1 m 1 (by simp) (by simpa using hm) h
  cases r
  exact B
/-- without the last, for which the default stands -/
theorem bindD {fd : FuncData} (F : FunD K x qual (defArgs st) (defBody st) (defScope st) [.bl b] [] f fd) (m : Nat) (hm : m + 1 = ps.length)
    (h : ∀ (T : Addr) (kV doc pm : Value) (an : Option Addr) (cdv ct : Value) (us its : List Value), us.length = m → its.length = 1 →
      ∃ k, bindArgs (PySem.W.fnOf x qual (defArgs st) (defBody st) (defScope st) (.ref T) kV doc pm an cdv ct) ⟨us, []⟩ = seqItems? (.ref T) >>= k ∧ k (some its.toArray) = pure (ps.zip (us ++ its.drop 0))) : Binds K fd ps [.bool b] := by
  obtain ⟨ds, r, B⟩ := F.binds1 m 0 (by simp) (by simpa using hm) h
  cases r with
  | cons r1 r2 =>
    cases r2
    cases r1
    exact B
end
section
variable {X : Cx} {m : Mem} {u : DTA m} {x : Str} {p pos : Pos} {e : Expr} {es : List Expr}
/-- a call without the last argument -/
def dCallD {m : Mem} (sp : DSp m) (d : D) (t : DTA m) : DT m := fun ρ s Q => t ρ s fun ds ρ1 s1 => sp (ds ++ [d]) s1 fun d s' => Q d ρ1 s'
theorem de_callD {k n : Nat} {fa : Addr} {fd : FuncData} {ps : List Str} {sp : DSp m} (b : Bool) (G : FnG X.prog X.w X.K X.mg X.base CX0 k fa fd ps (lift X.K m n sp)) (hn : ∀ ds s Qd, sp ds s Qd → ds.length = n) (hr : RoomG k X.A) (hg : Gl X x) (hm : X.mg x = some (.ref fa)) (hk : PySem.W.keepIn X.K (.ref fa) = true) (hb : Binds X.K fd ps [.bool b])
    (ha : PA X (e :: es) (upA X.K m u)) (hdb : (x == ("__debug__" : Str)) = false := by decide) (he : starEach (e :: es) X.env = (false, eval e X.env) :: starEach es X.env := by rfl) (hpl : (backTo pos (starEach es X.env)).any (·.1) = false := by rfl) :
    PE X (.Call (.Name x p) (e :: es) [] pos) (up X.K m (dCallD sp (.bl b) u)) := PE.imp (pg_call (dvs := [.bl b]) G hr hg hm hk hb (.cons rfl .nil) pass0 ha hdb he hpl) fun σ H Q h => by
  obtain ⟨F, ρ, s, Qd, rl, ht, hQ⟩ := h
  refine ⟨F, ρ, s, _, rl, ht, fun ds ρ1 s1 vs F1 H1 q1 r1 st1 rs => ?_⟩
  have rs' : Reps X.K F1 (ds ++ [.bl b]) (vs ++ [.bl b]) := rs.append (Reps.one (d := .bl b) (v := .bl b) rfl)
  show lift X.K m n sp (vs ++ [.bl b]) H1 Q _
  exact ⟨by rw [rs'.length]; exact hn _ _ _ q1, F1, _, s1, _, r1.sub, r1.mem, r1.reg, rs', q1, fun d s' v F2 H2 q2 c rv => hQ d ρ1 s' v F2 H2 q2 (r1.call c) (st1.trans c.stp) rv⟩
end
section
variable {X : Cx} {m : Mem} {te td : DT m} {pos : Pos} {e o : Expr}
end
end DL

set_option Elab.async false
set_option linter.all false
set_option maxRecDepth 100000
/-! EL26: a dict handed out that is new: its place is in the state beside, so that it may be locked and walked -/
namespace DL
open PySem PySem.Spec PyProof.Rows L2 TL
/-- beside the state of m: new dicts, told by their keys -/
def Mem.dk (m : Mem) : Mem where
  S := m.S × List (Addr × List Key)
  M := fun s H => m.M s.1 H ∧ (s.2.map Prod.fst).Nodup ∧ ∀ p ∈ s.2, (∃ kvs : List (Key × V), H p.1 = some (.dK kvs) ∧ kvs.map (·.1) = p.2 ∧ kvs.length ≤ sizeLine) ∧ ¬ m.R s.1 p.1
  R := fun s a => m.R s.1 a ∨ ∃ p ∈ s.2, p.1 = a
  loc := fun s H H' h k => ⟨m.loc s.1 H H' h.1 fun a ha => k a (.inl ha), h.2.1, fun p hp => by
    obtain ⟨⟨kvs, h1, h2⟩, h3⟩ := h.2.2 p hp
    exact ⟨⟨kvs, (k p.1 (.inr ⟨p, hp, rfl⟩)).trans h1, h2⟩, h3⟩⟩
  there := fun s H a h ha => by
    rcases ha with ha | ⟨p, hp, rfl⟩
    · exact m.there s.1 H a h.1 ha
    · obtain ⟨⟨kvs, h1, _⟩, _⟩ := h.2.2 p hp
      rw [h1]; simp
section
variable {X : Cx} {tg e : Expr} {td : TE}
end
def keyD : Key → D
  | .inl i => .int i
  | .inr x => .str x
theorem key_rep {K : PySem.W.Frag} {F : Hp} {k : Key} (h : ∀ z, k = .inr z → sOk z = true) : Rep K F (keyD k) (kV k) := by
  cases k with
  | inl i => rfl
  | inr x => exact ⟨rfl, h x rfl⟩
section
variable {X : Cx} {m : Mem} {te : DT (Mem.dk m)} {tg e : Expr} {pos : Pos} {E : Ent (Mem.dk m)}
end
end DL

set_option Elab.async false
set_option linter.all false
set_option maxRecDepth 100000
set_option maxHeartbeats 1000000
/-! LP4: what is used by what: next_table -/
namespace RP
open PySem PySem.Spec PyProof.Rows L2 TL DL TX TO
/-- user and used, or the other way round -/
def fl (b : Bool) (u : Str × Str) : Str × Str := if b then (u.2, u.1) else u
/-- what m uses, in the order of the uses -/
def nextsS (b : Bool) (us : List (Str × Str)) (m : Str) : List Str := ((us.map (fl b)).filter fun u => decide (u.1 = m)).map (·.2)
def keyI (ms : List Str) : List Key := ms.map Sum.inr
/-- the table of these modules, these uses -/
def tabD (b : Bool) (ms : List Str) (us : List (Str × Str)) : D := .dic (keyI ms) (ms.map fun m => .lst ((nextsS b us m).map .str))
def pTable (C : Addr) : PSp := fun ds Q => ∃ ms us b, ds = [progD C ms us, .bl b] ∧ ms.Nodup ∧ ms.length ≤ 200 ∧ us.length ≤ 400 ∧ (∀ u ∈ us, u.1 ∈ ms ∧ u.2 ∈ ms) ∧ Q (tabD b (srt lessS ms) (srt lessP us))
def spTable {m : Mem} (C : Addr) : DSp m := pur (pTable C)
theorem spTable_len {m : Mem} {C : Addr} : ∀ ds s Qd, (spTable C : DSp m) ds s Qd → ds.length = 2 := fun ds s Qd ⟨_, _, _, e, _⟩ => by rw [e]; rfl
theorem dicGet_at : ∀ {ms : List Str} {ds : List D} {i : Nat} {z : Str} {d : D}, ms.Nodup → ms[i]? = some z → ds[i]? = some d → dicGet (keyI ms) ds (.inr z) = some d
  | [], _, _, _, _, _, h, _ => by simp at h
  | m :: ms, [], i, _, _, _, _, h => by simp at h
  | m :: ms, d0 :: ds, 0, z, d, _, h1, h2 => by
    have h1 : m = z := by simpa using h1
    have h2 : d0 = d := by simpa using h2
    subst h1 h2
    show (if (Sum.inr m : Key) = .inr m then some d0 else _) = _
    rw [if_pos rfl]
  | m :: ms, d0 :: ds, i + 1, z, d, nd, h1, h2 => by
    have h1 : ms[i]? = some z := by simpa using h1
    have h2 : ds[i]? = some d := by simpa using h2
    obtain ⟨n1, n2⟩ := List.nodup_cons.mp nd
    show (if (Sum.inr m : Key) = .inr z then some d0 else dicGet (keyI ms) ds (.inr z)) = _
    rw [if_neg fun e => n1 (by rw [Sum.inr.inj e]; exact List.mem_of_getElem? h1)]
    exact dicGet_at n2 h1 h2
theorem nexts_snoc (b : Bool) (us : List (Str × Str)) (u : Str × Str) (m : Str) : nextsS b (us ++ [u]) m = nextsS b us m ++ (if (fl b u).1 = m then [(fl b u).2] else []) := by
  unfold nextsS
  rw [List.map_append, List.filter_append, List.map_append, List.map_singleton]
  congr 1
  by_cases h : (fl b u).1 = m
  · rw [if_pos h, List.filter_cons, decide_eq_true h]; rfl
  · rw [if_neg h, List.filter_cons, decide_eq_false h]; rfl
theorem nexts_len (b : Bool) (us : List (Str × Str)) (m : Str) : (nextsS b us m).length ≤ us.length := by
  unfold nextsS
  rw [List.length_map]
  exact Nat.le_trans (List.length_filter_le _ _) (by rw [List.length_map]; exact Nat.le_refl _)
theorem keyI_not {ms : List Str} {z : Str} (h : z ∉ ms) : (.inr z : Key) ∉ keyI ms := fun hm => by
  obtain ⟨y, hy, e⟩ := List.mem_map.mp hm
  exact h (by rw [← Sum.inr.inj e]; exact hy)
/-! ### chains from one on, in the order in which they are found -/
/-- o is put in behind way, if it is new -/
def addW (start : Str) (way : List Str) (W : List (Str × List Str)) (o : Str) : List (Str × List Str) := if o ≠ start ∧ o ∉ W.map (·.1) then W ++ [(o, way ++ [o])] else W
def stepW (nx : Str → List Str) (start : Str) (way : List Str) (W : List (Str × List Str)) : List (Str × List Str) := (nx (way.getLastD Str.empty)).foldl (addW start way) W
/-- what is to be gone on from -/
def rowW (start : Str) (W : List (Str × List Str)) : List (List Str) := [start] :: W.map (·.2)
def runW (nx : Str → List Str) (start : Str) : Nat → Nat → List (Str × List Str) → List (Str × List Str)
  | 0, _, W => W
  | n + 1, i, W => match (rowW start W)[i]? with
    | some way => runW nx start n (i + 1) (stepW nx start way W)
    | none => W
/-- the chains from start on, n modules in all -/
def chainsS (n : Nat) (nx : Str → List Str) (start : Str) : List (Str × List Str) := runW nx start n 0 []
abbrev wayD (w : List Str) : D := .tup (w.map .str)
def waysD (W : List (Str × List Str)) : D := .dic (keyI (W.map (·.1))) (W.map fun p => wayD p.2)
def nextD (ks : List Str) (nx : Str → List Str) : D := .dic (keyI ks) (ks.map fun m => .lst ((nx m).map .str))
def pChains : PSp := fun ds Q => ∃ ks nx start, ds = [nextD ks nx, .str start] ∧ ks.Nodup ∧ start ∈ ks ∧ ks.length ≤ 100 ∧ (∀ m ∈ ks, ∀ x ∈ nx m, x ∈ ks) ∧ Q (waysD (chainsS ks.length nx start))
def spChains {m : Mem} : DSp m := pur pChains
theorem spChains_len {m : Mem} : ∀ ds s Qd, (spChains : DSp m) ds s Qd → ds.length = 2 := fun ds s Qd ⟨_, _, _, e, _⟩ => by rw [e]; rfl
theorem dicGet_some : ∀ {ms : List Str} {ds : List D} {z : Str}, ds.length = ms.length → (dicGet (keyI ms) ds (.inr z)).isSome = decide (z ∈ ms)
  | [], [], z, _ => by simp [keyI, dicGet]
  | [], d :: ds, z, h => by simp at h
  | m :: ms, [], z, h => by simp at h
  | m :: ms, d :: ds, z, h => by
    show (if (Sum.inr m : Key) = .inr z then some d else dicGet (keyI ms) ds (.inr z)).isSome = _
    by_cases c : m = z
    · subst c
      rw [if_pos rfl]
      simp
    · rw [if_neg fun e => c (Sum.inr.inj e), dicGet_some (by simpa using h)]
      exact decide_eq_decide.mpr ⟨List.mem_cons_of_mem _, fun hm => (List.mem_cons.mp hm).resolve_left fun e => c e.symm⟩
theorem nd_len {α : Type} [DecidableEq α] : ∀ {l ks : List α}, l.Nodup → (∀ x ∈ l, x ∈ ks) → l.length ≤ ks.length
  | [], _, _, _ => Nat.zero_le _
  | x :: l, ks, nd, h => by
    obtain ⟨n1, n2⟩ := List.nodup_cons.mp nd
    have hx := h x List.mem_cons_self
    have ih := nd_len (ks := ks.filter fun y => decide (y ≠ x)) n2 fun y hy => List.mem_filter.mpr ⟨h y (List.mem_cons_of_mem _ hy), decide_eq_true fun e => n1 (e ▸ hy)⟩
    have lt : (ks.filter fun y => decide (y ≠ x)).length < ks.length := by
      refine List.length_filter_lt_length_iff_exists.mpr ⟨x, hx, by simp⟩
    rw [List.length_cons]
    omega
structure InvW (ks : List Str) (start : Str) (W : List (Str × List Str)) : Prop where
  nd : (W.map (·.1)).Nodup
  no : start ∉ W.map (·.1)
  ok : ∀ p ∈ W, p.1 ∈ ks ∧ p.2 ≠ [] ∧ p.2.getLastD Str.empty = p.1 ∧ p.2.length ≤ W.length + 1
theorem InvW.nil {ks : List Str} {start : Str} : InvW ks start [] := ⟨List.nodup_nil, by simp, fun p hp => by cases hp⟩
theorem InvW.len {ks : List Str} {start : Str} {W : List (Str × List Str)} (h : InvW ks start W) (hs : start ∈ ks) : W.length + 1 ≤ ks.length := by
  have nd : (start :: W.map (·.1)).Nodup := List.nodup_cons.mpr ⟨h.no, h.nd⟩
  have sub : (start :: W.map (·.1)) ⊆ ks := fun x hx => by
    rcases List.mem_cons.mp hx with rfl | hx
    · exact hs
    · obtain ⟨p, hp, rfl⟩ := List.mem_map.mp hx
      exact (h.ok p hp).1
  have := nd_len nd fun x hx => sub hx
  rw [List.length_cons, List.length_map] at this
  exact this
theorem InvW.add {ks : List Str} {start : Str} {W : List (Str × List Str)} (h : InvW ks start W) {way : List Str} {o : Str} (ho : o ∈ ks) (hw : way.length ≤ W.length + 1) (n1 : o ≠ start) (n2 : o ∉ W.map (·.1)) : InvW ks start (W ++ [(o, way ++ [o])]) := by
  refine ⟨?_, ?_, fun p hp => ?_⟩
  · rw [List.map_append, List.nodup_append]
    exact ⟨h.nd, List.nodup_cons.mpr ⟨List.not_mem_nil, List.nodup_nil⟩, fun a ha b hb e => n2 (by have hb : b = o := List.mem_singleton.mp hb; rw [← hb, ← e]; exact ha)⟩
  · rw [List.map_append]
    intro z
    rcases List.mem_append.mp z with z | z
    · exact h.no z
    · exact n1 (List.mem_singleton.mp z).symm
  · rw [List.length_append, List.length_singleton]
    rcases List.mem_append.mp hp with z | z
    · obtain ⟨a, b, c, d⟩ := h.ok p z
      exact ⟨a, b, c, by omega⟩
    · rw [List.mem_singleton.mp z]
      exact ⟨ho, by simp, by simp, by rw [List.length_append, List.length_singleton]; omega⟩
/-- the modules that one of the paths covers, in their order -/
def underS (ms ps : List Str) : List Str := (srt lessS ms).filter fun m => (ps.find? fun p => coversS p m).isSome
def pUnder (C : Addr) : PSp := fun ds Q => ∃ ms us ps, ds = [progD C ms us, .tup ((ps : List Str).map .str)] ∧ ms.length ≤ 1000 ∧ (∀ p ∈ ps, p.length ≤ 1000) ∧ Q (.lst ((underS ms ps).map .str))
def spUnder {m : Mem} (C : Addr) : DSp m := pur (pUnder C)
theorem spUnder_len {m : Mem} {C : Addr} : ∀ ds s Qd, (spUnder C : DSp m) ds s Qd → ds.length = 2 := fun ds s Qd ⟨_, _, _, e, _⟩ => by rw [e]; rfl
theorem fold_inv {ks : List Str} {start : Str} {way : List Str} : ∀ (l : List Str) (V : List (Str × List Str)), (∀ o ∈ l, o ∈ ks) → InvW ks start V → way.length ≤ V.length + 1 → InvW ks start (l.foldl (addW start way) V)
  | [], _, _, h, _ => h
  | o :: l, V, hl, h, hw => by
    rw [List.foldl_cons]
    have ho := hl o List.mem_cons_self
    by_cases c : o ≠ start ∧ o ∉ V.map (·.1)
    · have e : addW start way V o = V ++ [(o, way ++ [o])] := by unfold addW; rw [if_pos c]
      rw [e]
      exact fold_inv l _ (fun x hx => hl x (List.mem_cons_of_mem _ hx)) (h.add ho hw c.1 c.2) (by rw [List.length_append]; omega)
    · have e : addW start way V o = V := by unfold addW; rw [if_neg c]
      rw [e]
      exact fold_inv l _ (fun x hx => hl x (List.mem_cons_of_mem _ hx)) h hw
theorem run_inv {ks : List Str} {nx : Str → List Str} {start : Str} (hs : start ∈ ks) (hin : ∀ m ∈ ks, ∀ x ∈ nx m, x ∈ ks) : ∀ (n i : Nat) (W : List (Str × List Str)), InvW ks start W → InvW ks start (runW nx start n i W)
  | 0, _, _, h => h
  | n + 1, i, W, h => by
    show InvW ks start (match (rowW start W)[i]? with
      | some way => runW nx start n (i + 1) (stepW nx start way W)
      | none => W)
    cases e : (rowW start W)[i]? with
    | none => exact h
    | some way =>
      refine run_inv hs hin n (i + 1) _ ?_
      have wok : way.getLastD Str.empty ∈ ks ∧ way.length ≤ W.length + 1 := by
        rcases List.mem_cons.mp (List.mem_of_getElem? e) with rfl | hm
        · exact ⟨hs, by simp⟩
        · obtain ⟨p, hp, rfl⟩ := List.mem_map.mp hm
          obtain ⟨a1, a2, a3, a4⟩ := h.ok p hp
          exact ⟨by rw [a3]; exact a1, a4⟩
      exact fold_inv _ _ (hin _ wok.1) h wok.2
theorem chains_inv {ks : List Str} {nx : Str → List Str} {start : Str} (hs : start ∈ ks) (hin : ∀ m ∈ ks, ∀ x ∈ nx m, x ∈ ks) (n : Nat) : InvW ks start (chainsS n nx start) := run_inv hs hin n 0 [] .nil
theorem nexts_in {b : Bool} {ms : List Str} {us : List (Str × Str)} (h : ∀ u ∈ us, u.1 ∈ ms ∧ u.2 ∈ ms) : ∀ m ∈ ms, ∀ x ∈ nextsS b us m, x ∈ ms := fun m _ x hx => by
  obtain ⟨w, hw, rfl⟩ := List.mem_map.mp hx
  obtain ⟨u, hu, rfl⟩ := List.mem_map.mp (List.mem_filter.mp hw).1
  unfold fl
  split
  · exact (h u hu).1
  · exact (h u hu).2
end RP

set_option Elab.async false
set_option linter.all false
set_option maxRecDepth 100000
set_option maxHeartbeats 1000000
/-! LP5: what is reached, by chains_from and by the law's own rows -/
namespace RP
open PySem PySem.Spec PyProof.Rows L2 TL DL TX TO RG
/-- a way of these uses leads from s to .. -/
inductive Rc (us : List (Str × Str)) (s : Str) : Str → Prop
  | here : Rc us s s
  | on {x y : Str} : Rc us s x → (x, y) ∈ us → Rc us s y
theorem Rc.mono {us vs : List (Str × Str)} (h : ∀ u ∈ us, u ∈ vs) {s x : Str} (r : Rc us s x) : Rc vs s x := by
  induction r with
  | here => exact .here
  | on _ hu ih => exact .on ih (h _ hu)
theorem Rc.trans {us : List (Str × Str)} {s x y : Str} (r : Rc us s x) (q : Rc us x y) : Rc us s y := by
  induction q with
  | here => exact r
  | on _ hu ih => exact .on ih hu
theorem nexts_mem {b : Bool} {us : List (Str × Str)} {m y : Str} : y ∈ nextsS b us m ↔ (m, y) ∈ us.map (fl b) := by
  unfold nextsS
  rw [List.mem_map]
  constructor
  · rintro ⟨u, hu, rfl⟩
    obtain ⟨h1, h2⟩ := List.mem_filter.mp hu
    have h2 : u.1 = m := of_decide_eq_true h2
    subst h2
    exact h1
  · intro h
    exact ⟨(m, y), List.mem_filter.mpr ⟨h, decide_eq_true rfl⟩, rfl⟩
/-! ### chains_from -/
structure InvC (b : Bool) (us : List (Str × Str)) (start : Str) (i : Nat) (W : List (Str × List Str)) : Prop where
  ends : ∀ p ∈ W, p.2.getLastD Str.empty = p.1
  rc : ∀ p ∈ W, Rc (us.map (fl b)) start p.1
  shut : ∀ j w, j < i → (rowW start W)[j]? = some w → ∀ y ∈ nextsS b us (w.getLastD Str.empty), y = start ∨ y ∈ W.map (·.1)
theorem row_snoc (start : Str) (W V : List (Str × List Str)) : rowW start (W ++ V) = rowW start W ++ V.map (·.2) := by
  unfold rowW
  rw [List.map_append, List.cons_append]
theorem row_get {start : Str} {W V : List (Str × List Str)} {j : Nat} (h : j < (rowW start W).length) : (rowW start (W ++ V))[j]? = (rowW start W)[j]? := by
  rw [row_snoc, List.getElem?_append_left h]
theorem rowW_len (start : Str) (W : List (Str × List Str)) : (rowW start W).length = W.length + 1 := by
  show (W.map _).length + 1 = _
  rw [List.length_map]
/-- one more way -/
theorem InvC.add {b : Bool} {us : List (Str × Str)} {start : Str} {i : Nat} {W : List (Str × List Str)} (h : InvC b us start i W) (hi : i ≤ W.length + 1) {way : List Str} {o : Str} (ho : Rc (us.map (fl b)) start o) : InvC b us start i (W ++ [(o, way ++ [o])]) := by
  refine ⟨fun p hp => ?_, fun p hp => ?_, fun j w hj hw y hy => ?_⟩
  · rcases List.mem_append.mp hp with z | z
    · exact h.ends p z
    · rw [List.mem_singleton.mp z]
      show (way ++ [o]).getLastD Str.empty = o
      rw [List.getLastD_concat]
  · rcases List.mem_append.mp hp with z | z
    · exact h.rc p z
    · rw [List.mem_singleton.mp z]; exact ho
  · rw [row_get (by rw [rowW_len]; omega)] at hw
    rcases h.shut j w hj hw y hy with z | z
    · exact .inl z
    · exact .inr (by rw [List.map_append]; exact List.mem_append_left _ z)
/-! ### the law's rows -/
/-! ### reached -/
theorem fl_f (us : List (Str × Str)) : us.map (fl false) = us := by
  show us.map (fun u => u) = us
  exact List.map_id us
end RP
namespace RP
open PySem PySem.Spec PyProof.Rows L2 TL DL TX TO RG
def spLUnder {m : Mem} : DSp m := fun ds s Q => ∃ ps ms, ds = [.tup ((ps : List Str).map .str), .lst ((ms : List Str).map .str)] ∧ ps.length ≤ 100 ∧ ms.length ≤ 100 ∧ Q (.lst ((srt lessS (ms.filter (anyCov ps))).map .str)) s
theorem spLUnder_len {m : Mem} : ∀ ds s Qd, (spLUnder : DSp m) ds s Qd → ds.length = 2 := fun ds s Qd ⟨_, _, e, _⟩ => by rw [e]; rfl
def spWide13 : DSp Mem.deck := fun ds s Q => ∃ a b c y, ds = [.any (.ref a), .int y] ∧ s.adr = some (a, b, c) ∧ 30 ≤ y ∧ y ≤ 100 ∧ s.n + 1300 < drawLim ∧ ∀ ms us k, Mods ms → Uses ms us → ms.length = 24 → (us.length : Int) ≤ y → k ≤ s.n + 1300 → Q (.tup [.lst (ms.map .str), .lst (us.map ptD)]) ⟨s.adr, k⟩
theorem spWide13_len : ∀ ds s Qd, (spWide13 : DSp Mem.deck) ds s Qd → ds.length = 2 := fun ds s Qd ⟨_, _, _, _, e, _⟩ => by rw [e]; rfl
theorem under_own {ms ps : List Str} {y : Str} : y ∈ srt lessS (ms.filter (anyCov ps)) ↔ y ∈ underS ms ps := by
  unfold underS
  rw [mem_srt, List.mem_filter, List.mem_filter, mem_srt]
  rfl
end RP

set_option Elab.async false
set_option linter.all false
set_option maxRecDepth 100000
set_option maxHeartbeats 1000000
/-! LP6: the law's widest programs -/
namespace RP
open PySem PySem.Spec PyProof.Rows L2 TL DL TX TO RG
theorem of_tl {x y : Str} (h : tl x = tl y) : x = y := by
  cases x with
  | mk a =>
    cases y with
    | mk b =>
      have h : a.toList = b.toList := h
      rw [Array.toList_inj.mp h]
def stemO (o : Option Str) (n : Str) : Str := match o with
  | none => Str.ofString "" ++ n
  | some m => (m ++ Str.ofString ".") ++ n
def wideS (o : Option Str) (n : Str) (c : Nat) : Str := stemO o n ++ one c
theorem wide_join {o : Option Str} {n : Str} {c : Nat} : wideS o n c = joinS dot (o.toList ++ [n ++ one c]) := by
  refine of_tl ?_
  have hd : tl (Str.ofString ".") = [46] := by decide +kernel
  have he : tl (Str.ofString "") = [] := by decide +kernel
  cases o with
  | none =>
    show tl ((Str.ofString "" ++ n) ++ one c) = tl (joinS dot [n ++ one c])
    rw [tl_append, tl_append, he, show tl (joinS dot [n ++ one c]) = tl (n ++ one c) from tl_join _ _, tl_append]
    rfl
  | some m =>
    show tl (((m ++ Str.ofString ".") ++ n) ++ one c) = tl (joinS dot [m, n ++ one c])
    rw [tl_append, tl_append, tl_append, hd, show tl (joinS dot [m, n ++ one c]) = tl m ++ ([46] ++ tl (n ++ one c)) from tl_join _ _, tl_append, List.append_assoc, List.append_assoc]
structure StemOk (o : Option Str) (n : Str) : Prop where
  o : ∀ m, o = some m → NameOk m
  len : n.length ≤ 7
  n : ∀ c ∈ tl n, 97 ≤ c ∧ c ≤ 122
theorem StemOk.one {o : Option Str} {n : Str} (h : StemOk o n) {c : Nat} (h1 : 97 ≤ c) (h2 : c ≤ 122) : NameOk (n ++ one c) := by
  refine ⟨by rw [len_add]; exact Nat.le_add_left 1 _, by rw [len_add]; exact Nat.succ_le_succ h.len, fun d hd => ?_⟩
  rw [tl_append] at hd
  rcases List.mem_append.mp hd with z | z
  · exact h.n d z
  · rw [List.mem_singleton.mp z]; exact ⟨h1, h2⟩
theorem StemOk.ok {o : Option Str} {n : Str} (h : StemOk o n) {c : Nat} (h1 : 97 ≤ c) (h2 : c ≤ 122) : ∀ y ∈ o.toList ++ [n ++ DL.one c], okName y = true := fun y hy => by
  rcases List.mem_append.mp hy with z | z
  · cases o with
    | none => cases z
    | some m => rw [List.mem_singleton.mp z]; exact okName_of (h.o m rfl)
  · rw [List.mem_singleton.mp z]; exact okName_of (h.one h1 h2)
theorem StemOk.path {o : Option Str} {n : Str} (h : StemOk o n) {c : Nat} (h1 : 97 ≤ c) (h2 : c ≤ 122) : PathS (wideS o n c) := by
  rw [wide_join]
  refine pathS_names (by simp) ?_ (h.ok h1 h2)
  rw [List.length_append]
  cases o <;> exact Nat.le_of_ble_eq_true rfl
theorem StemOk.spl {o : Option Str} {n : Str} (h : StemOk o n) {c : Nat} (h1 : 97 ≤ c) (h2 : c ≤ 122) : splS 46 (wideS o n c) = o.toList ++ [n ++ DL.one c] := by
  rw [wide_join]
  exact spl_names (by simp) (h.ok h1 h2)
theorem StemOk.alone {o : Option Str} {n : Str} (h : StemOk o n) {c d : Nat} (h1 : 97 ≤ c) (h2 : c ≤ 122) (g1 : 97 ≤ d) (g2 : d ≤ 122) (hne : c ≠ d) : ovS (wideS o n c) (wideS o n d) = false := by
  have key : ∀ c d : Nat, 97 ≤ c → c ≤ 122 → 97 ≤ d → d ≤ 122 → c ≠ d → lcov (wideS o n c) (wideS o n d) = false := fun c d h1 h2 g1 g2 hne => by
    unfold lcov
    rw [h.spl h1 h2, h.spl g1 g2, List.take_of_length_le (by rw [List.length_append, List.length_append]; exact Nat.le_refl _)]
    refine beq_eq_false_iff_ne.mpr fun z => hne ?_
    have z := List.append_cancel_left z
    have z : n ++ DL.one d = n ++ DL.one c := by simpa using z
    have z := congrArg tl z
    rw [tl_append, tl_append] at z
    have z := List.append_cancel_left z
    have z : [d] = [c] := z
    exact (List.cons.inj z).1.symm
  rw [← ovS_lcov, key c d h1 h2 g1 g2 hne, key d c g1 g2 h1 h2 (Ne.symm hne)]; rfl
def lets : List Nat := (List.range 24).map (97 + ·)
theorem lets_tl : tl (Str.ofString "abcdefghijklmnopqrstuvwx") = lets := by decide +kernel
theorem lets_in : ∀ c ∈ lets, 97 ≤ c ∧ c ≤ 122 := by decide +kernel
theorem lets_nd : lets.Nodup := by decide +kernel
theorem wide_mods {o : Option Str} {n : Str} (h : StemOk o n) : Mods (lets.map (wideS o n)) := by
  refine ⟨fun x hx => ?_, ?_⟩
  · obtain ⟨c, hc, rfl⟩ := List.mem_map.mp hx
    exact h.path (lets_in c hc).1 (lets_in c hc).2
  · rw [List.pairwise_map]
    have nd : lets.Pairwise (· ≠ ·) := lets_nd
    refine nd.imp_of_mem fun {c d} hc hd hne => ?_
    exact h.alone (lets_in c hc).1 (lets_in c hc).2 (lets_in d hd).1 (lets_in d hd).2 hne
/-! ### along all -/
def roundS (ms : List Str) (b : Bool) : List (Str × Str) := ms.zip (ms.drop 1) ++ (if b then [(ms.getLastD Str.empty, ms.headD Str.empty)] else [])
theorem zip_uses {ms : List Str} (hm : ms.Nodup) : Uses ms (ms.zip (ms.drop 1)) := by
  have hf : ∀ l m : List Str, ((l.zip m).map (·.1)).Sublist l := fun l => by
    induction l with
    | nil => intro m; exact List.Sublist.refl _
    | cons x l ih =>
      intro m
      cases m with
      | nil => exact List.nil_sublist _
      | cons y m => exact (ih m).cons₂ x
  have hnd : ((ms.zip (ms.drop 1)).map (·.1)).Nodup := hm.sublist (hf _ _)
  have hnd : ((ms.zip (ms.drop 1)).map (·.1)).Pairwise (· ≠ ·) := hnd
  refine ⟨(List.pairwise_map.mp hnd).imp fun {x y} h e => h (by rw [e]), fun u hu => ?_⟩
  obtain ⟨i, hi⟩ := List.getElem?_of_mem hu
  obtain ⟨h1, h2⟩ := List.getElem?_zip_eq_some.mp hi
  rw [List.getElem?_drop] at h2
  refine ⟨List.mem_of_getElem? h1, List.mem_of_getElem? h2, fun z => ?_⟩
  obtain ⟨i1, i2⟩ := List.getElem?_eq_some_iff.mp h1
  obtain ⟨j1, j2⟩ := List.getElem?_eq_some_iff.mp h2
  exact List.pairwise_iff_getElem.mp hm i (1 + i) i1 j1 (by omega) (by rw [i2, j2, z])
theorem last_at {ms : List Str} (h : 0 < ms.length) : ms[ms.length - 1]? = some (ms.getLastD Str.empty) := by
  obtain ⟨l, v, e⟩ : ∃ l v, ms = l ++ [v] := ⟨ms.dropLast, ms.getLast (List.length_pos_iff.mp h), (List.dropLast_concat_getLast _).symm⟩
  subst e
  rw [List.getLastD_concat, List.length_append, List.length_singleton, Nat.add_sub_cancel, List.getElem?_concat_length]
theorem round_uses {ms : List Str} (hm : ms.Nodup) (hl : 3 ≤ ms.length) (b : Bool) : Uses ms (roundS ms b) := by
  have hz := zip_uses hm
  unfold roundS
  cases b with
  | false => rw [if_neg (by decide), List.append_nil]; exact hz
  | true =>
    rw [if_pos rfl]
    have ne : ms ≠ [] := fun z => by rw [z] at hl; exact absurd hl (by decide)
    have hla := last_at (ms := ms) (by omega)
    have hhd : ms[0]? = some (ms.headD Str.empty) := by
      cases ms with
      | nil => exact absurd rfl ne
      | cons x xs => rfl
    obtain ⟨l1, l2⟩ := List.getElem?_eq_some_iff.mp hla
    obtain ⟨k1, k2⟩ := List.getElem?_eq_some_iff.mp hhd
    have dif : ∀ {i j : Nat} (hi : i < ms.length) (hj : j < ms.length), ms[i] = ms[j] → i = j := fun {i j} hi hj e => by
      rcases Nat.lt_trichotomy i j with z | z | z
      · exact absurd e (List.pairwise_iff_getElem.mp hm i j hi hj z)
      · exact z
      · exact absurd e.symm (List.pairwise_iff_getElem.mp hm j i hj hi z)
    refine ⟨List.nodup_append.mpr ⟨hz.nd, List.nodup_cons.mpr ⟨List.not_mem_nil, List.nodup_nil⟩, fun u hu v hv e => ?_⟩, fun u hu => ?_⟩
    · rw [List.mem_singleton.mp hv] at e
      subst e
      obtain ⟨i, hi⟩ := List.getElem?_of_mem hu
      obtain ⟨h1, h2⟩ := List.getElem?_zip_eq_some.mp hi
      rw [List.getElem?_drop] at h2
      obtain ⟨i1, i2⟩ := List.getElem?_eq_some_iff.mp h1
      obtain ⟨j1, j2⟩ := List.getElem?_eq_some_iff.mp h2
      have e1 := dif i1 l1 (i2.trans l2.symm)
      omega
    · rcases List.mem_append.mp hu with z | z
      · exact hz.ok u z
      · rw [List.mem_singleton.mp z]
        refine ⟨last_mem ne, head_mem ne, fun e => ?_⟩
        have := dif l1 k1 (l2.trans (Eq.trans e k2.symm))
        omega
theorem round_len (ms : List Str) (b : Bool) : (roundS ms b).length ≤ ms.length + 1 := by
  unfold roundS
  rw [List.length_append, List.length_zip, List.length_drop]
  cases b
  · show _ + 0 ≤ _; omega
  · show _ + 1 ≤ _; omega
theorem Uses.more {ms : List Str} {us vs : List (Str × Str)} (h : Uses ms us) (k : Uses ms vs) : Uses ms (us ++ vs.filter fun u => !decide (u ∈ us)) := by
  refine ⟨List.nodup_append.mpr ⟨h.nd, k.nd.sublist List.filter_sublist, fun u hu v hv e => ?_⟩, fun u hu => ?_⟩
  · obtain ⟨_, z⟩ := List.mem_filter.mp hv
    rw [Bool.not_eq_true'] at z
    exact of_decide_eq_false z (e ▸ hu)
  · rcases List.mem_append.mp hu with z | z
    · exact h.ok u z
    · exact k.ok u (List.mem_filter.mp z).1
theorem eraseIdx_map {α β : Type} (f : α → β) : ∀ (l : List α) (n : Nat), (l.map f).eraseIdx n = (l.eraseIdx n).map f
  | [], _ => rfl
  | a :: l, 0 => rfl
  | a :: l, n + 1 => by
    show f a :: (l.map f).eraseIdx n = f a :: (l.eraseIdx n).map f
    rw [eraseIdx_map f l n]
theorem seqIx {r : Int} {n : Nat} (h0 : 0 ≤ r) (h1 : r < (n : Nat)) : seqIndex? r n = some r.toNat := by
  have h2 : ¬ r < 0 := by omega
  unfold seqIndex?
  simp [h0, h1, h2]
theorem perm_pop {α : Type} {l : List α} {n : Nat} (h : n < l.length) : List.Perm ([l[n]] ++ l.eraseIdx n) l := by
  rw [List.eraseIdx_eq_take_drop_succ]
  have e : l = l.take n ++ l[n] :: l.drop (n + 1) := by rw [List.getElem_cons_drop, List.take_append_drop]
  have p : List.Perm (l.take n ++ l[n] :: l.drop (n + 1)) (l[n] :: (l.take n ++ l.drop (n + 1))) := List.perm_middle
  rw [← e] at p
  exact p.symm
end RP

set_option Elab.async false
set_option linter.all false
set_option maxRecDepth 100000
/-! EL27: a call with one keyword, the last parameter (keyword-only or not) -/
namespace DL
open PySem PySem.Spec PyProof.Rows L2 TL
section
variable {X : Cx} {CX : CXT} {k n : Nat} {f : Addr} {fd : FuncData} {ps : List Str} {sp : Sp} {E : XK} {x kw : Str} {p pos kpos : Pos} {e c : Expr} {es : List Expr} {t : TA} {tc : TE}
end
section
variable {X : Cx} {m : Mem} {u : DTA m} {tc : DT m} {x kw : Str} {p pos kpos : Pos} {e c : Expr} {es : List Expr}
end
section
variable {K : PySem.W.Frag} {x qual kw : Str} {st : Stmt} {f : Addr} {oc : Value} {od an : Option Addr} {osl : Array (Option Value)} {doc pm cdv ct : Value} {D : Addr} {ps : List Str} {b : Bool}
end
end DL

set_option Elab.async false
set_option linter.all false
set_option maxRecDepth 100000
/-! EL28: x, y = [], [e for ..], both own -/
namespace DL
open PySem PySem.Spec PyProof.Rows L2 TL
theorem line_two : 2 ≤ sizeLine := by rw [sizeLine_eq]; decide
section
variable {X : Cx} {m : Mem} {E : Ent m}
def dParOLc {m : Mem} (i j : Nat) (src : DTI m) (g : DG) (tt : DTT m) (te : DT m) (vs : List Nat) : DTS m := fun dd ρ s => dLc src g tt te vs ρ s fun d ρ1 s1 => ∃ ds, d = .lst ds ∧ dd.nx ((ρ1.set i (.ow (.lst []))).set j (.ow (.lst ds))) s1
/-- .. with names that comprehensions read -/
theorem ds_parOLcC (i j : Nat) {x y : Str} {px py pt lp tp : Pos} {kt k2 : Nat} {elt tg iter : Expr} {ifs : List Expr} {scope : Scope} {own : List (Str × Nat)} {pos spos : Pos} {src : DTI m} {g : DG} {ts : List Nat} {tt : DTT m} {te : DT m} (hN : X.N.Nodup) (hi : PI X tg iter (upI X.K m src)) (ok : BlkOk X.N X.env.scope scope own)
    (hg : ∀ (s : Shared) (H : Hp) (C : Addr) (cl : List (Str × Addr)) (fp : List Addr), PG (X.blk s H scope (compEnvC scope cl C X.env) fp) tg (upG X.K m ts g)) (ht : ∀ (s : Shared) (H : Hp) (C : Addr) (cl : List (Str × Addr)) (fp : List Addr), PTs (X.blk s H scope (compEnvC scope cl C X.env) fp) ifs (upT X.K m tt))
    (he : ∀ (s : Shared) (H : Hp) (C : Addr) (cl : List (Str × Addr)) (fp : List Addr), PE (X.blk s H scope (compEnvC scope cl C X.env) fp) elt (up X.K m te)) (hni : X.N[i]? = some x := by rfl) (hnj : X.N[j]? = some y := by rfl)
    (hx : Loc X.env.scope x := by first | exact Or.inl rfl | exact Or.inr rfl) (hy : Loc X.env.scope y := by first | exact Or.inl rfl | exact Or.inr rfl) (hfx : X.fn x = true ∨ X.env.scope.names.lookup x = some .local := by first | exact .inl rfl | exact .inr rfl) (hfy : X.fn y = true ∨ X.env.scope.names.lookup y = some .local := by first | exact .inl rfl | exact .inr rfl)
    (hts : ∀ j ∈ ts, j ∈ own.map (·.2) := by decide) (hc : X.calm = true := by rfl) (hs : ∀ x, foldedSetIterable iter X.env x = pure x := by intro _; rfl)
    (hst : starEach [.List [] lp, .ListComp elt [⟨tg, iter, ifs, 0⟩] scope pos] X.env = (false, eval (.List [] lp) X.env) :: starEach [.ListComp elt [⟨tg, iter, ifs, 0⟩] scope pos] X.env := by rfl) (hst2 : starEach [.ListComp elt [⟨tg, iter, ifs, 0⟩] scope pos] X.env = (false, eval (.ListComp elt [⟨tg, iter, ifs, 0⟩] scope pos) X.env) :: starEach [] X.env := by rfl)
    (hsw : swapsWithSole [.Tuple [.Name x px, .Name y py] kt pt] (.Tuple [.List [] lp, .ListComp elt [⟨tg, iter, ifs, 0⟩] scope pos] k2 tp) spos.line X.env = pure false := by rfl) (hw : swappedStores [.Tuple [.Name x px, .Name y py] kt pt] (.Tuple [.List [] lp, .ListComp elt [⟨tg, iter, ifs, 0⟩] scope pos] k2 tp) X.env = pure none := by rfl)
    (h1 : (assignEach [.Tuple [.Name x px, .Name y py] kt pt] X.env).map (·.2) = [assign (.Tuple [.Name x px, .Name y py] kt pt) X.env] := by rfl) (hl2 : (assignEach [.Name x px, .Name y py] X.env).length = 2 := by rfl) (hsf : (assignEach [.Name x px, .Name y py] X.env).findIdx? (·.1) = none := by rfl)
    (ha1 : (assignEach [.Name x px, .Name y py] X.env).map (·.2) = assign (.Name x px) X.env :: (assignEach [.Name y py] X.env).map (·.2) := by rfl) (ha2 : (assignEach [.Name y py] X.env).map (·.2) = assign (.Name y py) X.env :: (assignEach [] X.env).map (·.2) := by rfl) :
    PS X (.Assign [.Tuple [.Name x px, .Name y py] kt pt] (.Tuple [.List [] lp, .ListComp elt [⟨tg, iter, ifs, 0⟩] scope pos] k2 tp) spos) (upS X.K m E (dParOLc i j src g tt te (own.map (·.2)))) :=
  PS.imp (ps_asg (L2.pe_tup (pa_cons (pe_lst pa_nil) (pa_cons (pe_lc hc hN hi ok hg ht he hs) pa_nil hst2) hst)) (L2.pg_tup hc (pgs_cons (pg_name hN hni hx hfx) (pgs_cons (pg_name hN hnj hy hfy) pgs_nil ha2) ha1) hl2 hsf) hsw hw h1) fun DD σ H h => by
  obtain ⟨F, ρ, s, dd, r, o, h, f⟩ := h
  refine ⟨by show 0 ≤ sizeLine; exact Nat.zero_le _, fun l nl => ?_⟩
  obtain ⟨r2, keep⟩ := hid_keep (ho := .lst []) r o nl
  refine up_lc hts r2 h fun ds ρ' s' p ws F' H' ⟨es, e, q⟩ r' st hp nF nR nO nH hz rs => ?_
  cases e
  obtain ⟨g1, g2, g3, g4, g5, g6, g7⟩ := keep F' H' ρ' s' st
  have hpl : p ≠ l := fun z => by
    subst z
    rw [upd_same] at nH; cases nH
  have eHp : E.H p = none := by
    rw [upd_ne hpl] at nH
    cases q : E.H p with
    | none => rfl
    | some u => exact absurd nH (o.alive p (by rw [q]; simp))
  refine ⟨by show 2 ≤ sizeLine; exact line_two, fun t nt => ?_⟩
  refine ⟨t, [.ref l, .ref p], rfl, .inl (.inl upd_same), rfl, .ref l, _, rfl, .ref p, _, rfl, rfl, ?_⟩
  obtain ⟨r5, keep5⟩ := hid_keep (ho := .tup [.ref l, .ref p]) r' g6 nt
  obtain ⟨_, _, _, _, _, o5, _⟩ := keep5 F' _ ρ' s' Stp.refl
  have lt : l ≠ t := fun z => by subst z; rw [nt] at g1; cases g1
  have ptt : p ≠ t := fun z => by subst z; rw [nt] at hp; cases hp
  obtain ⟨r3, o3⟩ := put_hid r5 o5 i (ob := .lst []) (by rw [upd_ne lt]; exact g1) g2 g3 g4 g5 ⟨[], rfl, Nat.zero_le _, .nil⟩
  have nO3 : ∀ k, ¬ Owns (σ.set i (some (.ref l))) (ρ'.set i (.ow (.lst []))) k p := fun k ⟨⟨ob, h1⟩, h2⟩ => by
    by_cases hk : i = k
    · subst hk
      have hi : i < σ.length := by
        have := (List.getElem?_eq_some_iff.mp h2).1
        rw [List.length_set] at this; exact this
      rw [List.getElem?_set_self hi] at h2
      cases h2
      exact hpl rfl
    · rw [List.getElem?_set_ne hk] at h1 h2
      exact nO k ⟨⟨ob, h1⟩, h2⟩
  obtain ⟨r4, o4⟩ := put_hid r3 o3 j (ob := .lst ds) (by rw [upd_ne ptt]; exact hp) nF nR nO3 eHp ⟨ws, rfl, hz, rs⟩
  exact f.nx F' _ _ _ s' (g7.trans (Same.refl _)) r4 o4 q
end
end DL

set_option Elab.async false
set_option linter.all false
set_option maxRecDepth 100000
set_option maxHeartbeats 1000000
namespace RP
open PySem PySem.Spec PyProof.Rows L2 TL DL TX TO RG

def T_under13 (a : Nat → Addr) {m : Mem} : DTS m :=
  (dRet (dLc (diSeq (dProp (a 26) (spGetM (a 26)) (dVar 0))) (gN 2) (dCmT isntD' (dCall spCovered (daCons (dVar 1) (daCons (dVar 2) daNil))) (dC D.non)) (dVar 2) [2]))
theorem read_under13 {a : Nat → Addr} {m : Mem} : ∀ ds s Qd, (spUnder (a 26) : DSp m) ds s Qd → (T_under13 a : DTS m) (endsOf Qd) (startD ["program", "paths", "module"] ds) s := by
  intro ds s Qd h
  obtain ⟨ms, us, ps, rfl, l1, l2, hQ⟩ := h
  refine ⟨⟨_, _, rfl⟩, ms, us, rfl, _, rfl, lcF (f := D.str) (p := fun m => (ps.find? fun p => coversS p m).isSome) (h := D.str) (srt lessS ms) (by rw [srt_len]; omega) (fun x hx T U t f => ?_) hQ⟩
  refine ⟨ps, x, rfl, l2, ?_⟩
  cases e : ps.find? fun p => coversS p x with
  | none => exact ⟨(by intro w z; cases z), rfl, f (by rw [e]; rfl)⟩
  | some p => exact ⟨(by intro w z; cases z), rfl, rfl, t (by rw [e]; rfl)⟩
def T_table19 (a : Nat → Addr) : DTS (Mem.hot Mem.nil) :=
  (dSeq (dSetD0 2)
      (dSeq (dFor (diSeq (dProp (a 26) (hotSp (spGetM (a 26))) (dVar 0))) (gN 3)
        (dTabNew 2 (dVar 3)))
      (dSeq (dFor (diSeq (dProp (a 26) (hotSp (spGetU (a 26))) (dVar 0))) (gTup' 2 (gCons' (gN 4) (gCons' (gN 5) gNil')))
        (dIf (dTr (dVar 1)) (dTabApp 2 (dVar 5) (dVar 4)) (dTabApp 2 (dVar 4) (dVar 5))))
      (dRetTab 2))))
theorem read_table19 {a : Nat → Addr} : ∀ ds s Qd, (purH (pTable (a 26)) : DSp (Mem.hot Mem.nil)) ds s Qd → (T_table19 a : DTS (Mem.hot Mem.nil)) (endsOf Qd) (startD ["program", "backward", "table", "module", "user", "used"] ds) s := by
  intro ds s Qd h
  obtain ⟨hs, ms, us, b, rfl, nd, l1, l2, hin, hQ⟩ := h
  have ndM : (srt lessS ms).Nodup := (srt_perm (lt := lessS) ms).nodup_iff.mpr nd
  have lM : (srt lessS ms).length = ms.length := srt_len _
  have lU : (srt lessP us).length = us.length := srt_len _
  have inM : ∀ u ∈ srt lessP us, u.1 ∈ srt lessS ms ∧ u.2 ∈ srt lessS ms := fun u hu => by
    have z := hin u (mem_srt.mp hu)
    exact ⟨mem_srt.mpr z.1, mem_srt.mpr z.2⟩
  generalize hM : srt lessS ms = M at *
  generalize hU : srt lessP us = U at *
  have prog : progD (a 26) ms us = .ins (a 26) pFields [.tup (M.map .str), .tup (U.map ptD), .tup ((partsS ms).map .str)] := by unfold progD; rw [hM, hU]
  refine ⟨⟨_, _, rfl⟩, ms, us, rfl, _, by rw [hM]; rfl, fun pre ρ s' => ∃ L c3, s' = (s.1, L) ∧ ρ = [.sh (progD (a 26) ms us), .sh (.bl b), .ow (.dic (keyI (M.take pre.length)) (L.map fun p => .any (.ref p.1))), c3, .no, .no] ∧ L.map (·.2) = (M.take pre.length).map fun _ => [],
    ⟨[], .no, by rw [← hs], rfl, rfl⟩, ?_, ?_⟩
  · rintro pre y post ρ s' e ⟨L, c3, rfl, rfl, hL⟩
    obtain ⟨m0, hm0, rfl, -⟩ := mid_map e
    have ht : M.take (pre.length + 1) = M.take pre.length ++ [m0] := by rw [List.take_add_one, hm0]; rfl
    have lp : (pre ++ [D.str m0]).length = pre.length + 1 := by rw [List.length_append, List.length_singleton]
    have nk : m0 ∉ M.take pre.length := fun hm => by
      have z : (M.take pre.length ++ [m0]).Nodup := by rw [← ht]; exact ndM.sublist (List.take_sublist _ _)
      exact (List.nodup_append.mp z).2.2 m0 hm m0 (by simp) rfl
    refine ⟨⟨_, _, rfl⟩, fun q => ⟨_, _, m0, rfl, rfl, keyI_not nk, ?_, L ++ [(q, [])], .sh (.str m0), rfl, ?_, ?_⟩⟩
    · show (List.map _ _).length + 1 ≤ 1000
      rw [List.length_map, List.length_take]; omega
    · rw [lp, ht, List.map_append]
      show _ = [_, _, Sl.ow (.dic (List.map _ _) _), _, _, _]
      rw [List.map_append]; rfl
    · rw [lp, ht, List.map_append, List.map_append, hL]; rfl
  · rintro ρ s' ⟨L, c3, rfl, rfl, hL⟩
    rw [List.length_map, List.take_length] at hL ⊢
    have hL0 : L.map (·.2) = M.map (nextsS b (U.take 0)) := hL
    refine ⟨⟨_, _, rfl⟩, ms, us, rfl, _, by rw [hU]; rfl, fun pre ρ s' => ∃ L c3 c4 c5, s' = (s.1, L) ∧ ρ = [.sh (progD (a 26) ms us), .sh (.bl b), .ow (.dic (keyI M) (L.map fun p => .any (.ref p.1))), c3, c4, c5] ∧ L.map (·.2) = M.map (nextsS b (U.take pre.length)),
      ⟨L, c3, .no, .no, rfl, rfl, hL0⟩, ?_, ?_⟩
    · rintro pre y post ρ s' e ⟨L, c3, c4, c5, rfl, rfl, hL⟩
      obtain ⟨u, hu, rfl, -⟩ := mid_map e
      have ht : U.take (pre.length + 1) = U.take pre.length ++ [u] := by rw [List.take_add_one, hu]; rfl
      have lp : (pre ++ [ptD u]).length = pre.length + 1 := by rw [List.length_append, List.length_singleton]
      have lL : L.length = M.length := by
        have := congrArg List.length hL
        rw [List.length_map, List.length_map] at this
        exact this
      -- the list of w is made longer
      have key : ∀ w : Str × Str, fl b u = w → ∀ (c3 c4 c5 : Sl), ∃ (ks : List Key) (ds : List D) (z : Str) (q : Addr), D.str w.1 = .str z ∧ (Sl.ow (.dic (keyI M) (L.map fun p => .any (.ref p.1))) : Sl) = .ow (.dic ks ds) ∧ dicGet ks ds (.inr z) = some (.any (.ref q)) ∧ (∃ xs, (q, xs) ∈ L) ∧
          ∃ A B xs t, D.str w.2 = .str t ∧ L = A ++ (q, xs) :: B ∧ xs.length < sizeLine ∧ ∃ L' d3 d4 d5, ((s.1, A ++ (q, xs ++ [t]) :: B) : (Mem.hot Mem.nil).S) = (s.1, L') ∧ ([.sh (progD (a 26) ms us), .sh (.bl b), .ow (.dic (keyI M) (L.map fun p => .any (.ref p.1))), c3, c4, c5] : List Sl) = [.sh (progD (a 26) ms us), .sh (.bl b), .ow (.dic (keyI M) (L'.map fun p => .any (.ref p.1))), d3, d4, d5] ∧ L'.map (·.2) = M.map (nextsS b (U.take (pre ++ [ptD u]).length)) := by
        intro w hw c3 c4 c5
        have um := List.mem_of_getElem? hu
        have wm : w.1 ∈ M := by
          rw [← hw]
          unfold fl
          split
          · exact (inM u um).2
          · exact (inM u um).1
        obtain ⟨i, hi⟩ := List.getElem?_of_mem wm
        have il : i < M.length := (List.getElem?_eq_some_iff.mp hi).1
        obtain ⟨⟨q, xs⟩, hq⟩ : ∃ p, L[i]? = some p := ⟨L[i]'(by omega), List.getElem?_eq_getElem _⟩
        have hxs : xs = nextsS b (U.take pre.length) w.1 := by
          have h1 : (L.map (·.2))[i]? = some xs := by rw [List.getElem?_map, hq]; rfl
          rw [hL, List.getElem?_map, hi] at h1
          exact (Option.some.inj h1).symm
        have hs' : L = L.take i ++ (q, xs) :: L.drop (i + 1) := by
          have e1 : L.drop i = (q, xs) :: L.drop (i + 1) := by
            obtain ⟨h1, h2⟩ := List.getElem?_eq_some_iff.mp hq
            rw [← h2]
            exact List.drop_eq_getElem_cons h1
          rw [← e1, List.take_append_drop]
        refine ⟨_, _, w.1, q, rfl, rfl, dicGet_at ndM hi (by rw [List.getElem?_map, hq]; rfl), ⟨xs, List.mem_of_getElem? hq⟩, L.take i, L.drop (i + 1), xs, w.2, rfl, hs', ?_, L.take i ++ (q, xs ++ [w.2]) :: L.drop (i + 1), c3, c4, c5, rfl, ?_, ?_⟩
        · rw [hxs]
          refine Nat.lt_of_le_of_lt (nexts_len _ _ _) ?_
          rw [List.length_take]
          exact Nat.lt_of_le_of_lt (show min pre.length U.length ≤ 400 by omega) (by rw [sizeLine_eq]; decide)
        · have : L.map (fun p : Addr × List Str => D.any (.ref p.1)) = (L.take i ++ (q, xs ++ [w.2]) :: L.drop (i + 1)).map fun p => D.any (.ref p.1) := by
            conv => lhs; rw [hs']
            rw [List.map_append, List.map_append, List.map_cons, List.map_cons]
          rw [this]
        · rw [lp, ht]
          refine List.ext_getElem? fun j => ?_
          have hset : L.take i ++ (q, xs ++ [w.2]) :: L.drop (i + 1) = L.set i (q, xs ++ [w.2]) := (List.set_eq_take_append_cons_drop.trans (if_pos (by omega))).symm
          rw [hset, List.getElem?_map, List.getElem?_map, List.getElem?_set]
          by_cases hj : i = j
          · subst hj
            rw [if_pos rfl, if_pos (by omega), hi]
            show some (xs ++ [w.2]) = some _
            rw [nexts_snoc, hw, if_pos rfl, hxs]
          · rw [if_neg hj]
            have h1 : (L.map (·.2))[j]? = (M.map (nextsS b (U.take pre.length)))[j]? := by rw [hL]
            rw [List.getElem?_map, List.getElem?_map] at h1
            rw [h1]
            cases hm : M[j]? with
            | none => rfl
            | some m1 =>
              show some _ = some _
              have : (fl b u).1 ≠ m1 := fun z => by
                rw [hw] at z
                subst z
                obtain ⟨j1, j2⟩ := List.getElem?_eq_some_iff.mp hm
                obtain ⟨i1, i2⟩ := List.getElem?_eq_some_iff.mp hi
                have far := List.pairwise_iff_getElem.mp ndM
                rcases Nat.lt_trichotomy i j with z | z | z
                · exact far i j i1 j1 z (i2.trans j2.symm)
                · exact hj z
                · exact far j i j1 i1 z (j2.trans i2.symm)
              rw [nexts_snoc, if_neg this, List.append_nil]
      refine ⟨_, rfl, rfl, _, _, rfl, _, _, rfl, rfl, _, rfl, ?_⟩
      cases b with
      | true =>
        obtain ⟨ks, ds, z, q, a1, a2, a3, a4, A, B, xs, t, a5, a6, a7, a8⟩ := key (u.2, u.1) rfl c3 (.sh (.str u.1)) (.sh (.str u.2))
        exact ⟨⟨_, _, rfl⟩, ks, ds, z, q, a1, congrArg some a2, a3, a4, A, B, xs, t, a5, a6, a7, a8⟩
      | false =>
        obtain ⟨ks, ds, z, q, a1, a2, a3, a4, A, B, xs, t, a5, a6, a7, a8⟩ := key (u.1, u.2) rfl c3 (.sh (.str u.1)) (.sh (.str u.2))
        exact ⟨⟨_, _, rfl⟩, ks, ds, z, q, a1, congrArg some a2, a3, a4, A, B, xs, t, a5, a6, a7, a8⟩
    · rintro ρ s' ⟨L, c3, c4, c5, rfl, rfl, hL⟩
      rw [List.length_map, List.take_length] at hL
      refine ⟨keyI M, rfl, ?_⟩
      have e : L.map (fun p : Addr × List Str => D.lst (p.2.map .str)) = M.map fun m => .lst ((nextsS b U m).map .str) := by
        have : L.map (fun p : Addr × List Str => D.lst (p.2.map .str)) = (L.map (·.2)).map fun l => D.lst (l.map .str) := by rw [List.map_map]; rfl
        rw [this, hL, List.map_map]; rfl
      show Qd (.dic (keyI M) (L.map fun p : Addr × List Str => D.lst (p.2.map .str))) (s.1, [])
      rw [e]
      exact hQ
def T_lunder13 {m : Mem} : DTS m :=
  (dRet (dB sortD (daCons (dLc (diSeq (dVar 1)) (gN 2) (dCmT (eqE true) (dLc (diSeq (dVar 0)) (gN 3) (dTr (dCall spLcov (daCons (dVar 3) (daCons (dVar 2) daNil)))) (dVar 3) [3]) (dLst daNil)) (dVar 2) [2]) daNil)))
theorem read_lunder13 {m : Mem} : ∀ ds s Qd, (spLUnder : DSp m) ds s Qd → (T_lunder13 : DTS m) (endsOf Qd) (startD ["_law_paths", "_law_modules_here", "_law_one", "_law_path_here"] ds) s := by
  intro ds s Qd h
  obtain ⟨ps, ms, rfl, h1, h2, hQ⟩ := h
  refine ⟨_, rfl, lcF (f := D.str) (p := anyCov ps) (h := D.str) ms (by omega) (fun x hx T U t f => ?_) ?_⟩
  · refine ⟨_, rfl, lcF (f := D.str) (p := fun p => coversS p x) (h := D.str) ps (by omega) (fun p hp T2 U2 t2 f2 => ?_) ?_⟩
    · refine ⟨p, x, rfl, _, rfl, ?_⟩
      rw [← cov_eq]
      exact ⟨rfl, ifB2 (fun h => ⟨rfl, t2 h⟩) f2⟩
    · refine ⟨Nat.zero_le _, _, rfl, rfl, ?_⟩
      rw [Bool.true_xor, List.isEmpty_map, filter_any, Bool.not_not]
      have e : (ps.any fun p => coversS p x) = anyCov ps x := (anyCov_some ps x).symm
      rw [e]
      exact ⟨rfl, ifB2 (fun h => ⟨rfl, t h⟩) f⟩
  · exact .inl ⟨_, _, rfl, rfl, hQ⟩
def T_wide13 : DTS Mem.deck :=
  (dSeq (dAsg (dTup (daCons (dOp addD (dOp ixD (dLst (daCons (dC (D.str (Str.ofString ""))) (daCons (dOp addD (dCall spName (daCons (dVar 0) daNil)) (dC (D.str (Str.ofString ".")))) daNil))) (dCall spNext (daCons (dVar 0) (daCons (dC (D.int 2)) daNil)))) (dSl slD (dCall spName (daCons (dVar 0) daNil)) doNone (doSome (dC (D.int 7))))) (daCons (dCall spNext (daCons (dVar 0) (daCons (dC (D.int 3)) daNil))) daNil))) (gTup' 2 (gCons' (gN 4) (gCons' (gN 5) gNil'))))
      (dSeq (dParOLc 6 7 (diStr (dC (D.str (Str.ofString "abcdefghijklmnopqrstuvwx")))) (gN 8) dYes (dOp addD (dVar 4) (dVar 8)) [8])
      (dSeq (dFor (diR1 (daCons (dC (D.int 24)) daNil)) (gN 2)
        (dAppPop 6 7 (dCall spNext (daCons (dVar 0) (daCons (dLenO 7) daNil)))))
      (dSeq (dIf (dCmT eqC (dVar 5) (dC (D.int 0))) (dRet (dTup (daCons (dVar 6) (daCons (dCall spUses (daCons (dVar 0) (daCons (dVar 6) (daCons (dVar 1) daNil)))) daNil)))) dNext)
      (dSeq (dSet 3 (dOp addD (dLc (diR1 (daCons (dC (D.int 23)) daNil)) (gN 2) dYes (dTup (daCons (dIxO 6 (dVar 2)) (daCons (dIxO 6 (dOp addD (dVar 2) (dC (D.int 1)))) daNil))) [2]) (dOp mulD (dLst (daCons (dTup (daCons (dIxO 6 (dC (D.int 23))) (daCons (dIxO 6 (dC (D.int 0))) daNil))) daNil)) (dB intBD (daCons (dCm eqC (dVar 5) (dC (D.int 1))) daNil)))))
      (dRet (dTup (daCons (dVar 6) (daCons (dOp addD (dVar 3) (dLc (diSeq (dCall spUses (daCons (dVar 0) (daCons (dVar 6) (daCons (dC (D.int 4)) daNil))))) (gN 9) (dCmT notInD (dVar 9) (dVar 3)) (dVar 9) [9])) daNil)))))))))
theorem read_wide13 : ∀ ds s Qd, (spWide13 : DSp Mem.deck) ds s Qd → (T_wide13 : DTS Mem.deck) (endsOf Qd) (startD ["_law_deck_here", "_law_uses_here", "_law_k", "_law_found", "_law_stem", "_law_along", "_law_modules_here", "_law_rest", "_law_letter", "_law_use"] ds) s := by
  intro ds s Qd h
  obtain ⟨a, b, c, y, rfl, hs, h30, h100, hn, hQ⟩ := h
  have hlim : drawLim = 1152921504606846976 := rfl
  have hsl : strLim = 1000000 := rfl
  have hdl : (Str.ofString ".").length = 1 := by decide +kernel
  have hel : (Str.ofString "").length = 0 := by decide +kernel
  refine ⟨a, b, c, hs, rfl, by omega, fun m k1 hm hk1 => ?_⟩
  have hk1 : k1 ≤ s.n + 20 := hk1
  have hm8 := hm.2.1
  refine ⟨by omega, lz rfl, a, b, c, 2, hs, rfl, by decide, by decide, by show k1 < _; omega, fun r k2 h0 h1 hk2 => ?_⟩
  have hk2 : k2 = k1 + 1 := hk2
  obtain ⟨w, hw, hat⟩ := pick_map D.str [Str.ofString "", m ++ Str.ofString "."] r h0 h1
  refine ⟨_, hat, a, b, c, hs, rfl, by show k2 + _ < _; omega, fun n0 k3 hn0 hk3 => ?_⟩
  have hk3 : k3 ≤ k2 + 20 := hk3
  have hn8 := hn0.2.1
  generalize hnn : cutS n0 none (some 7) = n
  have en : tl n = (tl n0).take 7 := by rw [← hnn]; exact tl_cut n0 7
  have ln : n.length ≤ 7 := by rw [len_tl, en, List.length_take]; omega
  obtain ⟨o, ho, eo, lw⟩ : ∃ o, (∀ m, o = some m → NameOk m) ∧ w ++ n = stemO o n ∧ w.length ≤ 9 := by
    simp only [List.mem_cons, List.not_mem_nil, or_false] at hw
    rcases hw with rfl | rfl
    · exact ⟨none, fun m z => (by cases z), rfl, by omega⟩
    · exact ⟨some m, fun m' z => (by cases z; exact hm), rfl, by rw [len_add]; omega⟩
  have ok : StemOk o n := ⟨ho, ln, fun c hc => hn0.2.2 c (by rw [en] at hc; exact List.mem_of_mem_take hc)⟩
  refine ⟨7, rfl, ?_⟩
  show _ ∧ _
  rw [hnn]
  refine ⟨by omega, a, b, c, 3, hs, rfl, by decide, by decide, by show k3 < _; omega, fun al k4 g0 g1 hk4 => ?_⟩
  have hk4 : k4 = k3 + 1 := hk4
  refine ⟨lz rfl, _, rfl, rfl, _, _, rfl, _, _, rfl, rfl, ?_⟩
  rw [eo]
  have lst : (stemO o n).length ≤ 16 := by rw [← eo, len_add]; omega
  have ech : chD (Str.ofString "abcdefghijklmnopqrstuvwx") = lets.map fun c => D.str (DL.one c) := by
    show (tl (Str.ofString "abcdefghijklmnopqrstuvwx")).map _ = _
    rw [lets_tl]; rfl
  refine ⟨_, rfl, ?_⟩
  rw [ech]
  refine lcF (f := fun c => D.str (DL.one c)) (p := fun _ => true) (h := fun c => .str (wideS o n c)) lets (by decide) (fun x hx T U t f => ?_) ?_
  · refine ⟨rfl, ?_, rfl, t rfl⟩
    show _ + 1 ≤ _
    omega
  rw [filter_yes]
  refine ⟨_, rfl, 24, rfl, by decide, by decide, fun pre ρ s' => s'.adr = some (a, b, c) ∧ s'.n ≤ k4 + pre.length ∧ ∃ c2 fs rs, ρ = [.sh (.any (.ref a)), .sh (.int y), c2, .no, .sh (.str (stemO o n)), .sh (.int al), .ow (.lst ((fs : List Str).map .str)), .ow (.lst ((rs : List Str).map .str)), .no, .no] ∧ (fs ++ rs).Perm (lets.map (wideS o n)) ∧ fs.length = pre.length,
    ⟨hs, Nat.le_refl _, .no, [], lets.map (wideS o n), by rw [List.map_map]; rfl, List.Perm.refl _, rfl⟩, ?_, ?_⟩
  · rintro pre z post ρ s' e ⟨e1, e2, c2, fs, rs, rfl, hp, hf⟩
    obtain ⟨hlt, rfl⟩ := rng_pre e
    have hlt : pre.length < 24 := hlt
    have hlen := hp.length_eq
    rw [List.length_append, List.length_map] at hlen
    have hll : lets.length = 24 := rfl
    refine ⟨⟨_, rfl⟩, ⟨_, rfl⟩, _, rfl, a, b, c, _, e1, rfl, by rw [List.length_map]; omega, by rw [List.length_map]; omega, by omega, fun r5 k5 h4 h5 hk5 => ?_⟩
    have hk5 : k5 = s'.n + 1 := hk5
    rw [List.length_map] at h5
    have hrn : r5.toNat < rs.length := by omega
    refine ⟨r5, _, _, r5.toNat, .str (rs[r5.toNat]), rfl, by omega, by omega, rfl, rfl, by rw [List.length_map]; exact seqIx h4 h5, by rw [List.getElem?_map, List.getElem?_eq_getElem hrn]; rfl, Nat.lt_of_le_of_lt (by rw [List.length_map]; omega) (show 2000 < sizeLine by rw [sizeLine_eq]; decide), e1, ?_, .sh (.int (0 + (pre.length : Int))), fs ++ [rs[r5.toNat]], rs.eraseIdx r5.toNat, ?_, ?_, ?_⟩
    · show k5 ≤ _
      rw [List.length_append, List.length_singleton]; omega
    · rw [eraseIdx_map, List.map_append]; rfl
    · refine List.Perm.trans ?_ hp
      rw [List.append_assoc]
      exact List.Perm.append_left _ (perm_pop hrn)
    · rw [List.length_append, List.length_append, hf]; rfl
  · rintro ρ s' ⟨e1, e2, c2, fs, rs, rfl, hp, hf⟩
    rw [rngD_length] at e2 hf
    have hf : fs.length = 24 := hf
    have e2 : s'.n ≤ k4 + 24 := e2
    have hlen := hp.length_eq
    rw [List.length_append, List.length_map] at hlen
    have hll : lets.length = 24 := rfl
    have h0 : rs = [] := List.eq_nil_of_length_eq_zero (by omega)
    subst h0
    rw [List.append_nil] at hp
    have hM : Mods fs := (wide_mods ok).perm hp
    refine ⟨rfl, rfl, ifB2 (fun _ => ?_) fun _ => ?_⟩
    · refine ⟨a, b, c, fs, y, rfl, e1, by omega, h100, by omega, by omega, fun us k5 hu hul hk5 => ?_⟩
      have hk5 : k5 ≤ s'.n + 300 := hk5
      refine ⟨lz rfl, ?_⟩
      have z := hQ fs us k5 hM hu hf hul (by omega)
      rw [hs, ← e1] at z
      exact z
    · have atx : ∀ i : Nat, i < 24 → ∀ k : Int, k = (i : Int) → atI (fs.map D.str) k = some (.str (fs.getD i Str.empty)) := fun i hi k hk => by
        subst hk
        refine atI_nat ?_
        rw [List.getElem?_map, List.getElem?_eq_getElem (by omega), List.getD_eq_getElem?_getD, List.getElem?_eq_getElem (by omega)]
        rfl
      have h23 : fs.getD 23 Str.empty = fs.getLastD Str.empty := by
        have z := last_at (ms := fs) (by omega)
        rw [List.getD_eq_getElem?_getD]
        rw [hf] at z
        have z : fs[23]? = some (fs.getLastD Str.empty) := z
        rw [z]; rfl
      have h00 : fs.getD 0 Str.empty = fs.headD Str.empty := by
        cases fs with
        | nil => cases hf
        | cons x xs => rfl
      refine ⟨23, rfl, by decide, by decide, lcF (f := fun i : Nat => D.int (0 + (i : Int))) (p := fun _ => true) (h := fun i => ptD (fs.getD i Str.empty, fs.getD (i + 1) Str.empty)) (List.range 23) (by decide) (fun i hi T U t f => ?_) ?_⟩
      · have hi : i < 23 := List.mem_range.mp hi
        refine ⟨rfl, ⟨_, rfl⟩, _, _, _, rfl, rfl, atx i (by omega) _ (by omega), ⟨_, rfl⟩, _, _, _, rfl, rfl, atx (i + 1) (by omega) _ (by omega), lz rfl, rfl, t rfl⟩
      rw [filter_yes]
      refine ⟨⟨_, rfl⟩, _, _, _, rfl, rfl, atx 23 (by decide) 23 rfl, ⟨_, rfl⟩, _, _, _, rfl, rfl, atx 0 (by decide) 0 rfl, lz rfl, lz rfl, rfl, rfl, _, rfl, ?_⟩
      rw [h23, h00]
      generalize eqD (.int al) (.int 1) = bb
      have eZ : (List.range 23).map (fun i => ptD (fs.getD i Str.empty, fs.getD (i + 1) Str.empty)) = (fs.zip (fs.drop 1)).map ptD := by
        rw [← zip_rng fs Str.empty, hf, List.map_map]; rfl
      have eB : (List.replicate (Int.toNat (if bb then 1 else 0)) [D.tup [.str (fs.getLastD Str.empty), .str (fs.headD Str.empty)]]).flatten = (if bb then [(fs.getLastD Str.empty, fs.headD Str.empty)] else []).map ptD := by
        cases bb <;> rfl
      have hU := round_uses hM.nd (by omega) bb
      have hL := round_len fs bb
      rw [eZ]
      refine ⟨⟨by cases bb <;> decide, by cases bb <;> decide, by cases bb <;> exact lz rfl⟩, ?_⟩
      rw [eB]
      refine ⟨?_, ?_⟩
      · rw [← List.length_append, ← List.map_append, List.length_map]
        exact line_of2 (by show (roundS fs bb).length ≤ _; omega)
      rw [← List.map_append]
      rw [show fs.zip (fs.drop 1) ++ (if bb then [(fs.getLastD Str.empty, fs.headD Str.empty)] else []) = roundS fs bb from rfl]
      refine ⟨a, b, c, fs, 4, rfl, e1, by decide, by decide, by omega, by omega, fun vs k5 hv hvl hk5 => ?_⟩
      have hk5 : k5 ≤ s'.n + 300 := hk5
      refine ⟨_, rfl, lcF (f := ptD) (p := fun u => !decide (u ∈ roundS fs bb)) (h := ptD) vs (by omega) (fun u hu T U t f => ?_) ?_⟩
      · refine ⟨rfl, plain_prs 57 _, ?_⟩
        rw [any_pr]
        exact ⟨rfl, ifB2 (fun h => ⟨rfl, t h⟩) f⟩
      have hfl := List.length_filter_le (fun u => !decide (u ∈ roundS fs bb)) vs
      refine ⟨line_of2 (by rw [List.length_map, List.length_map]; omega), lz rfl, ?_⟩
      rw [← List.map_append]
      have z := hQ fs _ k5 hM (hU.more hv) hf (by rw [List.length_append]; omega) (by omega)
      rw [hs, ← e1] at z
      exact z
end RP

set_option Elab.async false
set_option linter.all false
set_option maxRecDepth 100000
/-! EM1: {**x, k: v} -/
namespace DL
open PySem PySem.Spec PyProof.Rows L2 TL
section
variable {prog : Program} {w : World} {J : Type} [DecidableEq J] {κ : PySem.KeyKind prog w J} {A : Around} {E : Value → Shared → Prop} {s : Shared}
end
section
variable {X : Cx} {em ek ev : Expr} {pos : Pos} {tm tk tv : TE}
end
end DL

set_option Elab.async false
set_option linter.all false
set_option maxRecDepth 100000
/-! EM2: {**x, k: v} over data: x, k, v names, k a key of x -/
namespace DL
open PySem PySem.Spec PyProof.Rows L2 TL
def putD : List Key → List D → Key → D → List D
  | k0 :: ks, d0 :: ds, k, d => (if k0 = k then d else d0) :: putD ks ds k d
  | _, _, _, _ => []
section
variable {K : PySem.W.Frag} {F : Hp}
theorem put_reps {k : Key} {d : D} {v : V} (rv : Rep K F d v) : ∀ (kvs : List (Key × V)) (ds : List D), Reps K F ds (kvs.map (·.2)) → Reps K F (putD (kvs.map (·.1)) ds k d) ((kvs.map fun kv => if kv.1 = k then (kv.1, v) else kv).map (·.2))
  | [], ds, h => by cases ds with | nil => rfl | cons _ _ => rfl
  | kv :: kvs, [], h => by cases h
  | kv :: kvs, d0 :: ds, h => by
    obtain ⟨u, r, e, h1, h2⟩ := h
    obtain ⟨rfl, rfl⟩ := List.cons.inj e
    refine ⟨_, _, rfl, ?_, put_reps rv kvs ds h2⟩
    by_cases c : kv.1 = k
    · show Rep K F (if kv.1 = k then d else d0) (if kv.1 = k then (kv.1, v) else kv).2
      rw [if_pos c, if_pos c]; exact rv
    · show Rep K F (if kv.1 = k then d else d0) (if kv.1 = k then (kv.1, v) else kv).2
      rw [if_neg c, if_neg c]; exact h1
theorem put_keys {k : Key} {v : V} (kvs : List (Key × V)) : (kvs.map fun kv => if kv.1 = k then (kv.1, v) else kv).map (·.1) = kvs.map (·.1) := by
  rw [List.map_map]
  refine List.map_congr_left fun kv _ => ?_
  show (if kv.1 = k then (kv.1, v) else kv).1 = kv.1
  split <;> rfl
end
section
variable {X : Cx} {m : Mem} {pos : Pos}
end
end DL

set_option Elab.async false
set_option linter.all false
set_option maxRecDepth 100000
set_option maxHeartbeats 1000000
namespace RP
open PySem PySem.Spec PyProof.Rows L2 TL DL TX TO RG
def T_chains19 {m : Mem} : DTS m :=
  (dSeq (dSetD0 2)
      (dSeq (dSetL 3 (daCons (dTup (daCons (dVar 1) daNil)) daNil))
      (dSeq (dSet 4 (dC (D.int 0)))
      (dSeq (dWhile (dCmT ltD (dVar 4) (dLenO 3))
        (dSeq (dSet 5 (dIxO 3 (dVar 4)))
        (dSeq (dFor (diSeq (dGet (dVar 0) (dOp ixD (dVar 5) (dUn negD (dC (D.int 1)))))) (gN 6)
          (dIf (dAndT (dCmT neC (dVar 6) (dVar 1)) (dInO true (dVar 6) 2)) (dSeq (dDicPut 2 (dTup (daStar (dVar 5) (daCons (dVar 6) daNil))) (dVar 6))
            (dApp 3 (dTup (daStar (dVar 5) (daCons (dVar 6) daNil))))) dNext))
        (dAug 4 iaddD (dC (D.int 1))))))
      (dRet (dVar 2))))))
theorem read_chains19 {m : Mem} : ∀ ds s Qd, (spChains : DSp m) ds s Qd → (T_chains19 : DTS m) (endsOf Qd) (startD ["nexts", "start", "ways", "queue", "at", "way", "other"] ds) s := by
  intro ds s Qd h
  obtain ⟨ks, nx, start, rfl, nd, hst, hks, hin, hQ⟩ := h
  have sl : ∀ n, n ≤ 1000 → n ≤ sizeLine := fun n h => line_of2 (by omega)
  have sl2 : ∀ n, n ≤ 1000 → n < sizeLine := fun n h => Nat.lt_of_le_of_lt h (by rw [sizeLine_eq]; decide)
  refine ⟨lz rfl, lz rfl, ?_⟩
  refine ⟨fun n ρ s' => s' = s ∧ ∃ (i : Nat) (W : List (Str × List Str)) (c5 c6 : Sl), ρ = [.sh (nextD ks nx), .sh (.str start), .ow (.dic (keyI (W.map (·.1))) (W.map fun p => wayD p.2)), .ow (.lst ((rowW start W).map wayD)), .sh (.int (i : Nat)), c5, c6] ∧ n = ks.length + 1 - i ∧ InvW ks start W ∧ i ≤ ks.length ∧ runW nx start (ks.length - i) i W = chainsS ks.length nx start,
    ⟨_, rfl, 0, [], .no, .no, rfl, rfl, .nil, Nat.zero_le _, rfl⟩, ?_⟩
  rintro n ρ s' ⟨rfl, i, W, c5, c6, rfl, rfl, hW, hi, hrun⟩
  have lW := hW.len hst
  have lR : (rowW start W).length = W.length + 1 := by
    show (W.map _).length + 1 = _
    rw [List.length_map]
  refine ⟨_, rfl, ?_⟩
  rw [List.length_map, lR]
  refine ifBd (fun hlt => ?_) fun hge => ?_
  · have hlt : i < W.length + 1 := by omega
    obtain ⟨way, hway⟩ : ∃ w, (rowW start W)[i]? = some w := ⟨(rowW start W)[i]'(by omega), List.getElem?_eq_getElem _⟩
    have wok : way ≠ [] ∧ way.getLastD Str.empty ∈ ks ∧ way.length ≤ W.length + 1 := by
      have hm := List.mem_of_getElem? hway
      rcases List.mem_cons.mp hm with rfl | hm
      · exact ⟨by simp, hst, by simp⟩
      · obtain ⟨p, hp, rfl⟩ := List.mem_map.mp hm
        obtain ⟨a1, a2, a3, a4⟩ := hW.ok p hp
        exact ⟨a2, by rw [a3]; exact a1, a4⟩
    obtain ⟨w0, w1, w2⟩ := wok
    obtain ⟨j, hj⟩ := List.getElem?_of_mem w1
    refine ⟨⟨_, rfl⟩, _, _, _, rfl, rfl, atI_nat (by rw [List.getElem?_map, hway]; rfl), ?_⟩
    refine ⟨_, at_last w0, _, _, _, _, rfl, rfl, dicGet_at nd hj (by rw [List.getElem?_map, hj]; rfl), _, rfl, ?_⟩
    refine ⟨fun pre ρ s3 => s3 = s' ∧ ∃ V c6, V = ((nx (way.getLastD Str.empty)).take pre.length).foldl (addW start way) W ∧ ρ = [.sh (nextD ks nx), .sh (.str start), .ow (.dic (keyI (V.map (·.1))) (V.map fun p => wayD p.2)), .ow (.lst ((rowW start V).map wayD)), .sh (.int (i : Nat)), .sh (wayD way), c6] ∧ InvW ks start V ∧ W.length ≤ V.length,
      ⟨rfl, W, _, rfl, rfl, hW, Nat.le_refl _⟩, ?_, ?_⟩
    · rintro pre y post ρ s3 e ⟨rfl, V, c6, eV, rfl, hV, hle⟩
      obtain ⟨o, ho, rfl, -⟩ := mid_map e
      have ht : ((nx (way.getLastD Str.empty)).take (pre ++ [D.str o]).length).foldl (addW start way) W = addW start way V o := by
        rw [List.length_append, List.length_singleton, List.take_add_one, ho, List.foldl_append, ← eV]; rfl
      have oks : o ∈ ks := hin _ w1 o (List.mem_of_getElem? ho)
      have lV := hV.len hst
      refine ⟨rfl, rfl, ?_⟩
      rw [eqs]
      by_cases h1 : o = start
      · rw [decide_eq_true h1]
        have : addW start way V o = V := by unfold addW; rw [if_neg fun z => z.1 h1]
        exact ⟨rfl, V, _, by rw [ht, this], rfl, hV, hle⟩
      · rw [decide_eq_false h1]
        refine ⟨_, _, o, rfl, rfl, ?_⟩
        rw [dicGet_some (by rw [List.length_map, List.length_map]), Bool.true_xor]
        by_cases h2 : o ∈ V.map (·.1)
        · rw [decide_eq_true h2]
          have : addW start way V o = V := by unfold addW; rw [if_neg fun z => z.2 h2]
          exact ⟨rfl, V, _, by rw [ht, this], rfl, hV, hle⟩
        · rw [decide_eq_false h2]
          have ea : addW start way V o = V ++ [(o, way ++ [o])] := by unfold addW; rw [if_pos ⟨h1, h2⟩]
          have wl : (way.map D.str ++ [D.str o]).length ≤ 1000 := by rw [List.length_append, List.length_map, List.length_singleton]; omega
          have we : way.map D.str ++ [D.str o] = (way ++ [o]).map .str := by rw [List.map_append]; rfl
          refine ⟨_, rfl, sl _ wl, ⟨_, _, rfl⟩, _, _, o, rfl, rfl, keyI_not h2, by show (List.map _ _).length + 1 ≤ 1000; rw [List.length_map, List.length_map]; omega, ?_⟩
          refine ⟨⟨_, rfl⟩, _, rfl, sl _ wl, _, rfl, sl2 _ (by rw [List.length_map]; show (V.map _).length + 1 ≤ 1000; rw [List.length_map]; omega), rfl, V ++ [(o, way ++ [o])], .sh (.str o), by rw [ht, ea], ?_, hV.add oks (by omega) h1 h2, by rw [List.length_append]; omega⟩
          show [_, _, Sl.ow (.dic (List.map _ _ ++ _) _), Sl.ow (.lst (wayD _ :: List.map _ _ ++ _)), _, _, _] = [_, _, Sl.ow (.dic (List.map _ _) _), Sl.ow (.lst (wayD _ :: List.map _ _)), _, _, _]
          simp only [wayD, List.map_append, List.map_cons, List.map_nil, List.cons_append]
    · rintro ρ s3 ⟨rfl, V, c6, eV, rfl, hV, hle⟩
      rw [List.length_map, List.take_length] at eV
      have lV := hV.len hst
      refine ⟨_, rfl, _, _, rfl, rfl, ks.length + 1 - (i + 1), by omega, rfl, i + 1, V, _, _, rfl, rfl, hV, by omega, ?_⟩
      obtain ⟨m, hm⟩ : ∃ m, ks.length - i = m + 1 := ⟨ks.length - i - 1, by omega⟩
      rw [hm] at hrun
      rw [show ks.length - (i + 1) = m by omega, ← hrun]
      show _ = (match (rowW start W)[i]? with
        | some way => runW nx start m (i + 1) (stepW nx start way W)
        | none => W)
      rw [hway, eV]; rfl
  · have hge : W.length + 1 ≤ i := by omega
    have e : W = chainsS ks.length nx start := by
      rw [← hrun]
      cases ks.length - i with
      | zero => rfl
      | succ m =>
        show _ = (match (rowW start W)[i]? with
          | some way => runW nx start m (i + 1) (stepW nx start way W)
          | none => W)
        rw [List.getElem?_eq_none (by omega)]
    show Qd (.dic (keyI (W.map (·.1))) (W.map fun p => wayD p.2)) s'
    rw [e]
    exact hQ
end RP

set_option Elab.async false
set_option linter.all false
set_option maxRecDepth 100000
set_option maxHeartbeats 1000000
/-! LP7: the chains that chains_from finds are the first ones: by how many they have, then in order -/
namespace RP
open PySem PySem.Spec PyProof.Rows L2 TL DL TX TO RG
/-! ### rows in order -/
def lexL {α : Type} [DecidableEq α] (lt : α → α → Bool) : List α → List α → Bool
  | [], [] => false
  | [], _ :: _ => true
  | _ :: _, [] => false
  | x :: xs, y :: ys => if x = y then lexL lt xs ys else lt x y
theorem Lin.lexL {α : Type} [DecidableEq α] {lt : α → α → Bool} (L : Lin lt) : Lin (RP.lexL lt) := by
  refine ⟨fun x => ?_, fun x => ?_, fun x => ?_⟩
  · induction x with
    | nil => rfl
    | cons a x ih => show (if a = a then _ else _) = _; rw [if_pos rfl]; exact ih
  · induction x with
    | nil =>
      intro y z h1 h2
      cases z with
      | nil => cases y with
        | nil => cases h1
        | cons _ _ => cases h2
      | cons c z => rfl
    | cons a x ih =>
      intro y z h1 h2
      cases y with
      | nil => cases h1
      | cons b y =>
        cases z with
        | nil => cases h2
        | cons c z =>
          have h1 : (if a = b then RP.lexL lt x y else lt a b) = true := h1
          have h2 : (if b = c then RP.lexL lt y z else lt b c) = true := h2
          show (if a = c then RP.lexL lt x z else lt a c) = true
          by_cases e1 : a = b
          · subst e1
            rw [if_pos rfl] at h1
            by_cases e2 : a = c
            · rw [if_pos e2] at h2 ⊢; exact ih y z h1 h2
            · rw [if_neg e2] at h2 ⊢; exact h2
          · rw [if_neg e1] at h1
            by_cases e2 : b = c
            · subst e2
              rw [if_neg e1]; exact h1
            · rw [if_neg e2] at h2
              have z1 := L.tr _ _ _ h1 h2
              rw [if_neg fun e => by rw [e, L.irr] at z1; cases z1]; exact z1
  · induction x with
    | nil => intro y h1 h2; cases y with
      | nil => rfl
      | cons _ _ => cases h1
    | cons a x ih =>
      intro y h1 h2
      cases y with
      | nil => cases h2
      | cons b y =>
        have h1 : (if a = b then RP.lexL lt x y else lt a b) = false := h1
        have h2 : (if b = a then RP.lexL lt y x else lt b a) = false := h2
        by_cases e : a = b
        · subst e
          rw [if_pos rfl] at h1 h2
          rw [ih y h1 h2]
        · rw [if_neg e] at h1
          rw [if_neg (Ne.symm e)] at h2
          exact absurd (L.tri _ _ h1 h2) e
/-- fewer first, then in order -/
def wlt (a b : List Str) : Bool := if a.length = b.length then lexL lessS a b else decide (a.length < b.length)
theorem wlt_eq {a b : List Str} (h : a.length = b.length) : wlt a b = lexL lessS a b := if_pos h
theorem wlt_less {a b : List Str} (h : a.length < b.length) : wlt a b = true := by
  unfold wlt
  rw [if_neg (by omega)]
  exact decide_eq_true h
theorem wlt_len {a b : List Str} (h : wlt a b = true) : a.length ≤ b.length := by
  unfold wlt at h
  by_cases c : a.length = b.length
  · omega
  · rw [if_neg c] at h
    have := of_decide_eq_true h
    omega
theorem linL : Lin (lexL lessS) := Lin.lexL linS
theorem linW : Lin wlt := by
  refine ⟨fun x => ?_, fun x y z h1 h2 => ?_, fun x y h1 h2 => ?_⟩
  · rw [wlt_eq rfl]; exact linL.irr x
  · have l1 := wlt_len h1
    have l2 := wlt_len h2
    by_cases e : x.length = z.length
    · rw [wlt_eq e]
      rw [wlt_eq (by omega)] at h1 h2
      exact linL.tr _ _ _ h1 h2
    · exact wlt_less (by omega)
  · by_cases e : x.length = y.length
    · rw [wlt_eq e] at h1
      rw [wlt_eq e.symm] at h2
      exact linL.tri _ _ h1 h2
    · rcases Nat.lt_or_ge x.length y.length with z | z
      · rw [wlt_less z] at h1; cases h1
      · rw [wlt_less (by omega)] at h2; cases h2
theorem lexL_snoc {a b : List Str} (x y : Str) (hl : a.length = b.length) (h : lexL lessS a b = true) : lexL lessS (a ++ [x]) (b ++ [y]) = true := by
  induction a generalizing b with
  | nil => cases b with
    | nil => cases h
    | cons _ _ => cases hl
  | cons c a ih =>
    cases b with
    | nil => cases hl
    | cons d b =>
      have h : (if c = d then lexL lessS a b else lessS c d) = true := h
      show (if c = d then lexL lessS (a ++ [x]) (b ++ [y]) else lessS c d) = true
      by_cases e : c = d
      · rw [if_pos e] at h ⊢
        exact ih (Nat.succ.inj hl) h
      · rw [if_neg e] at h ⊢; exact h
theorem wlt_snoc {a b : List Str} (x y : Str) (h : wlt a b = true) : wlt (a ++ [x]) (b ++ [y]) = true := by
  have l := wlt_len h
  by_cases e : a.length = b.length
  · rw [wlt_eq e] at h
    rw [wlt_eq (by rw [List.length_append, List.length_append, e]; rfl)]
    exact lexL_snoc x y e h
  · refine wlt_less ?_
    rw [List.length_append, List.length_append]
    show a.length + 1 < b.length + 1
    omega
theorem lexL_pre (a b c : List Str) : lexL lessS (a ++ b) (a ++ c) = lexL lessS b c := by
  induction a with
  | nil => rfl
  | cons x a ih => show (if x = x then lexL lessS (a ++ b) (a ++ c) else _) = _; rw [if_pos rfl, ih]
theorem wlt_last {a : List Str} {x y : Str} (h : lessS x y = true) : wlt (a ++ [x]) (a ++ [y]) = true := by
  rw [wlt_eq (by rw [List.length_append, List.length_append]; rfl), lexL_pre]
  show (if x = y then _ else lessS x y) = true
  rw [if_neg fun e => by rw [e, linS.irr] at h; cases h]; exact h
/-- not after -/
def wle (a b : List Str) : Prop := wlt b a = false
theorem wle_refl (a : List Str) : wle a a := linW.irr a
theorem wle_of {a b : List Str} (h : wlt a b = true) : wle a b := linW.asym h
theorem wle_tr {a b c : List Str} (h1 : wle a b) (h2 : wle b c) : wle a c := by
  unfold wle at *
  cases q : wlt c a with
  | false => rfl
  | true =>
    cases q2 : wlt b c with
    | true => rw [← h1, linW.tr b c a q2 q]
    | false =>
      have e := linW.tri b c q2 h2
      rw [e] at h1
      rw [← h1, q]
theorem wle_cases {a b : List Str} (h : wle a b) : a = b ∨ wlt a b = true := by
  cases q : wlt a b with
  | true => exact .inr rfl
  | false => exact .inl (linW.tri a b q h)
theorem wle_snoc {a b : List Str} (x : Str) (h : wle a b) : wle (a ++ [x]) (b ++ [x]) := by
  rcases wle_cases h with rfl | z
  · exact wle_refl _
  · exact wle_of (wlt_snoc x x z)
theorem wle_anti {a b : List Str} (h1 : wle a b) (h2 : wle b a) : a = b := linW.tri a b h2 h1
theorem wle_len {a b : List Str} (h : wle a b) : a.length ≤ b.length := by
  rcases wle_cases h with rfl | z
  · exact Nat.le_refl _
  · exact wlt_len z
/-! ### ways -/
inductive Wy (nx : Str → List Str) (s : Str) : List Str → Str → Prop
  | one : Wy nx s [s] s
  | on {w : List Str} {x y : Str} : Wy nx s w x → y ∈ nx x → Wy nx s (w ++ [y]) y
theorem Wy.last {nx : Str → List Str} {s x : Str} {w : List Str} (h : Wy nx s w x) : w.getLastD Str.empty = x := by
  cases h with
  | one => rfl
  | on _ _ => rw [List.getLastD_concat]
theorem Wy.pos {nx : Str → List Str} {s x : Str} {w : List Str} (h : Wy nx s w x) : 1 ≤ w.length := by
  cases h with
  | one => exact Nat.le_refl _
  | on _ _ => rw [List.length_append]; exact Nat.le_add_left 1 _
theorem Wy.first {nx : Str → List Str} {s x : Str} {w : List Str} (h : Wy nx s w x) : wle [s] w := by
  induction h with
  | one => exact wle_refl _
  | on h _ _ =>
    refine wle_of (wlt_less ?_)
    have := h.pos
    rw [List.length_append]
    show 1 < _ + 1
    omega
/-- what has been gone on from, up to i, and the row's item at i up to P -/
structure InvL (nx : Str → List Str) (start : Str) (i : Nat) (way : List Str) (P : List Str) (V : List (Str × List Str)) : Prop where
  asc : (rowW start V).Pairwise fun a b => wlt a b = true
  wy : ∀ p ∈ V, Wy nx start p.2 p.1
  par : ∀ p ∈ V, (∃ j v, j < i ∧ (rowW start V)[j]? = some v ∧ p.2 = v ++ [p.1]) ∨ (p.2 = way ++ [p.1] ∧ p.1 ∈ P)
  shut : ∀ j v, j < i → (rowW start V)[j]? = some v → ∀ y ∈ nx (v.getLastD Str.empty), y = start ∨ ∃ w, (y, w) ∈ V ∧ wle w (v ++ [y])
  now : ∀ y ∈ P, y = start ∨ ∃ w, (y, w) ∈ V ∧ wle w (way ++ [y])
  at_ : P ≠ [] → (rowW start V)[i]? = some way
theorem row_keep {start : Str} {V : List (Str × List Str)} {q : Str × List Str} {j : Nat} {v : List Str} (h : (rowW start V)[j]? = some v) : (rowW start (V ++ [q]))[j]? = some v := by
  rw [row_get (List.getElem?_eq_some_iff.mp h).1]; exact h
theorem row_cut {start : Str} {V : List (Str × List Str)} {q : Str × List Str} {i j : Nat} {way v : List Str} (hi : (rowW start V)[i]? = some way) (hj : j < i) (h : (rowW start (V ++ [q]))[j]? = some v) : (rowW start V)[j]? = some v := by
  have := (List.getElem?_eq_some_iff.mp hi).1
  rwa [row_get (by omega)] at h
theorem asc_at {start : Str} {V : List (Str × List Str)} (h : (rowW start V).Pairwise fun a b => wlt a b = true) {i j : Nat} {v w : List Str} (hij : i < j) (hv : (rowW start V)[i]? = some v) (hw : (rowW start V)[j]? = some w) : wlt v w = true := by
  obtain ⟨a1, a2⟩ := List.getElem?_eq_some_iff.mp hv
  obtain ⟨b1, b2⟩ := List.getElem?_eq_some_iff.mp hw
  have := List.pairwise_iff_getElem.mp h i j a1 b1 hij
  rwa [a2, b2] at this
theorem fold_invL {nx : Str → List Str} {start : Str} {i : Nat} {way : List Str} {x : Str} (hw : Wy nx start way x) : ∀ (l P : List Str) (V : List (Str × List Str)), (∀ o ∈ l, o ∈ nx x) → (l.Pairwise fun a b => lessS a b = true) → (∀ a ∈ P, ∀ o ∈ l, lessS a o = true) → (rowW start V)[i]? = some way → InvL nx start i way P V →
    InvL nx start i way (P ++ l) (l.foldl (addW start way) V) ∧ (rowW start (l.foldl (addW start way) V))[i]? = some way
  | [], P, V, _, _, _, hi, h => by rw [List.append_nil]; exact ⟨h, hi⟩
  | o :: l, P, V, hl, ha, hP, hi, h => by
    rw [List.foldl_cons]
    obtain ⟨ha1, ha2⟩ := List.pairwise_cons.mp ha
    have hP' : ∀ a ∈ P ++ [o], ∀ z ∈ l, lessS a z = true := fun a hm z hz => by
      rcases List.mem_append.mp hm with q | q
      · exact hP a q z (List.mem_cons_of_mem _ hz)
      · rw [List.mem_singleton.mp q]; exact ha1 z hz
    have ho := hl o List.mem_cons_self
    have e3 : P ++ o :: l = (P ++ [o]) ++ l := by rw [List.append_assoc]; rfl
    rw [e3]
    by_cases c : o ≠ start ∧ o ∉ V.map (·.1)
    · have e : addW start way V o = V ++ [(o, way ++ [o])] := by unfold addW; rw [if_pos c]
      rw [e]
      refine fold_invL hw l (P ++ [o]) _ (fun z hz => hl z (List.mem_cons_of_mem _ hz)) ha2 hP' (row_keep hi) ⟨?_, ?_, ?_, ?_, ?_, fun _ => row_keep hi⟩
      · rw [row_snoc]
        refine List.pairwise_append.mpr ⟨h.asc, by simp, fun v hv u hu => ?_⟩
        have hu : u = way ++ [o] := by simpa using hu
        subst hu
        rcases List.mem_cons.mp hv with rfl | hv
        · refine wlt_less ?_
          have := hw.pos
          rw [List.length_append]
          show 1 < way.length + 1
          omega
        · obtain ⟨p, hp, rfl⟩ := List.mem_map.mp hv
          rcases h.par p hp with ⟨j, v, hj, hv', e'⟩ | ⟨e', hm⟩
          · show wlt p.2 _ = true
            rw [e']; exact wlt_snoc _ _ (asc_at h.asc hj hv' hi)
          · show wlt p.2 _ = true
            rw [e']; exact wlt_last (hP _ hm o List.mem_cons_self)
      · intro p hp
        rcases List.mem_append.mp hp with z | z
        · exact h.wy p z
        · rw [List.mem_singleton.mp z]; exact .on hw ho
      · intro p hp
        rcases List.mem_append.mp hp with z | z
        · rcases h.par p z with ⟨j, v, hj, hv', e'⟩ | ⟨e', hm⟩
          · exact .inl ⟨j, v, hj, row_keep hv', e'⟩
          · exact .inr ⟨e', List.mem_append_left _ hm⟩
        · rw [List.mem_singleton.mp z]
          exact .inr ⟨rfl, List.mem_append_right _ (by simp)⟩
      · intro j v hj hv y hy
        rcases h.shut j v hj (row_cut hi hj hv) y hy with z | ⟨w, z1, z2⟩
        · exact .inl z
        · exact .inr ⟨w, List.mem_append_left _ z1, z2⟩
      · intro y hy
        rcases List.mem_append.mp hy with z | z
        · rcases h.now y z with q | ⟨w, q1, q2⟩
          · exact .inl q
          · exact .inr ⟨w, List.mem_append_left _ q1, q2⟩
        · rw [List.mem_singleton.mp z]
          exact .inr ⟨_, List.mem_append_right _ (by simp), wle_refl _⟩
    · have e : addW start way V o = V := by unfold addW; rw [if_neg c]
      rw [e]
      refine fold_invL hw l (P ++ [o]) V (fun z hz => hl z (List.mem_cons_of_mem _ hz)) ha2 hP' hi ⟨h.asc, h.wy, ?_, h.shut, ?_, fun _ => hi⟩
      · intro p hp
        rcases h.par p hp with z | ⟨e', hm⟩
        · exact .inl z
        · exact .inr ⟨e', List.mem_append_left _ hm⟩
      · intro y hy
        rcases List.mem_append.mp hy with z | z
        · exact h.now y z
        · rw [List.mem_singleton.mp z]
          by_cases c1 : o = start
          · exact .inl c1
          · have c2 : o ∈ V.map (·.1) := Decidable.not_not.mp fun z => c ⟨c1, z⟩
            obtain ⟨p, hp, rfl⟩ := List.mem_map.mp c2
            refine .inr ⟨p.2, hp, ?_⟩
            rcases h.par p hp with ⟨j, v, hj, hv', e'⟩ | ⟨e', hm⟩
            · rw [e']; exact wle_of (wlt_snoc _ _ (asc_at h.asc hj hv' hi))
            · rw [e']; exact wle_refl _
theorem run_invL {nx : Str → List Str} {start : Str} (hnx : ∀ m, (nx m).Pairwise fun a b => lessS a b = true) : ∀ (n i : Nat) (W : List (Str × List Str)) (way : List Str), InvL nx start i way [] W →
    ∃ j way', InvL nx start j way' [] (runW nx start n i W) ∧ (j = i + n ∨ (rowW start (runW nx start n i W)).length ≤ j)
  | 0, i, W, way, h => ⟨i, way, h, .inl rfl⟩
  | n + 1, i, W, way, h => by
    show ∃ j way', InvL nx start j way' [] (match (rowW start W)[i]? with
      | some way => runW nx start n (i + 1) (stepW nx start way W)
      | none => W) ∧ (j = i + (n + 1) ∨ (rowW start (match (rowW start W)[i]? with
      | some way => runW nx start n (i + 1) (stepW nx start way W)
      | none => W)).length ≤ j)
    cases q : (rowW start W)[i]? with
    | none => exact ⟨i, way, h, .inr (List.getElem?_eq_none_iff.mp q)⟩
    | some v =>
      have hv : Wy nx start v (v.getLastD Str.empty) := by
        rcases List.mem_cons.mp (List.mem_of_getElem? q) with rfl | hm
        · exact .one
        · obtain ⟨p, hp, rfl⟩ := List.mem_map.mp hm
          have z := h.wy p hp
          show Wy nx start p.2 (p.2.getLastD Str.empty)
          rw [z.last]; exact z
      have h0 : InvL nx start i v [] W := ⟨h.asc, h.wy, fun p hp => .inl ((h.par p hp).resolve_right fun z => absurd z.2 List.not_mem_nil), h.shut, fun y hy => absurd hy List.not_mem_nil, fun z => absurd rfl z⟩
      obtain ⟨a1, a2⟩ := fold_invL hv (nx (v.getLastD Str.empty)) [] W (fun o ho => ho) (hnx _) (fun a ha => absurd ha List.not_mem_nil) q h0
      rw [List.nil_append] at a1
      have a3 : InvL nx start (i + 1) v [] (stepW nx start v W) := by
        refine ⟨a1.asc, a1.wy, fun p hp => ?_, fun j u hj hu y hy => ?_, fun y hy => absurd hy List.not_mem_nil, fun z => absurd rfl z⟩
        · rcases a1.par p hp with ⟨j, u, hj, hu, e⟩ | ⟨e, hm⟩
          · exact .inl ⟨j, u, by omega, hu, e⟩
          · exact .inl ⟨i, v, by omega, a2, e⟩
        · by_cases c : j < i
          · exact a1.shut j u c hu y hy
          · have : j = i := by omega
            subst this
            have e : u = v := Option.some.inj (hu.symm.trans a2)
            subst e
            exact a1.now y hy
      obtain ⟨j, way', b1, b2⟩ := run_invL hnx n (i + 1) _ v a3
      exact ⟨j, way', b1, b2.imp (fun z => by omega) id⟩
/-- what chains_from finds: ways, in their order, none before them -/
structure Firsts (nx : Str → List Str) (start : Str) (W : List (Str × List Str)) : Prop where
  asc : (W.map (·.2)).Pairwise fun a b => wlt a b = true
  wy : ∀ p ∈ W, Wy nx start p.2 p.1
  no : ∀ p ∈ W, p.1 ≠ start
  least : ∀ v x, Wy nx start v x → x ≠ start → ∃ w, (x, w) ∈ W ∧ wle w v
theorem chains_first {ks : List Str} {nx : Str → List Str} {start : Str} (hs : start ∈ ks) (hin : ∀ m ∈ ks, ∀ x ∈ nx m, x ∈ ks) (hnx : ∀ m, (nx m).Pairwise fun a b => lessS a b = true) : Firsts nx start (chainsS ks.length nx start) := by
  have inv := chains_inv hs hin ks.length
  have len := inv.len hs
  obtain ⟨j, way, h, hj⟩ := run_invL hnx ks.length 0 [] [] (start := start) ⟨by show [[start]].Pairwise _; simp, fun p hp => absurd hp List.not_mem_nil, fun p hp => absurd hp List.not_mem_nil, fun j v hj => by omega, fun y hy => absurd hy List.not_mem_nil, fun z => absurd rfl z⟩
  have e : runW nx start ks.length 0 [] = chainsS ks.length nx start := rfl
  rw [e] at h hj
  generalize chainsS ks.length nx start = W at *
  have all : (rowW start W).length ≤ j := by
    rcases hj with z | z
    · rw [rowW_len]; omega
    · exact z
  refine ⟨(List.pairwise_cons.mp h.asc).2, h.wy, fun p hp z => inv.no (z ▸ List.mem_map_of_mem hp), fun v x hv => ?_⟩
  have step : ∀ (u : List Str) (y z : Str) (v : List Str), u ∈ rowW start W → u.getLastD Str.empty = y → z ∈ nx y → z ≠ start → wle u v → ∃ w, (z, w) ∈ W ∧ wle w (v ++ [z]) := fun u y z v hu hy hz hne hle => by
    obtain ⟨i, hi⟩ := List.getElem?_of_mem hu
    have hlt := Nat.lt_of_lt_of_le (List.getElem?_eq_some_iff.mp hi).1 all
    rcases h.shut i u hlt hi z (by rw [hy]; exact hz) with q | ⟨w, q1, q2⟩
    · exact absurd q hne
    · exact ⟨w, q1, wle_tr q2 (wle_snoc z hle)⟩
  induction hv with
  | one => intro z; exact absurd rfl z
  | @on w x y hw hy ih =>
    intro hne
    by_cases c : x = start
    · subst c
      exact step [x] x y w List.mem_cons_self rfl hy hne hw.first
    · obtain ⟨u, h1, h2⟩ := ih c
      exact step u x y w (List.mem_cons_of_mem _ (List.mem_map_of_mem (f := (·.2)) h1)) (h.wy _ h1).last hy hne h2
end RP

set_option Elab.async false
set_option linter.all false
set_option maxRecDepth 100000
set_option maxHeartbeats 1000000
/-! LP8: the first ring; how near modules are; the way that goes nearer at each step -/
namespace RP
open PySem PySem.Spec PyProof.Rows L2 TL DL TX TO RG
/-- the first of those of which P holds -/
def LeastO (P : List Str → Prop) : Option (List Str) → Prop
  | none => ∀ v, ¬ P v
  | some w => P w ∧ ∀ v, P v → wle w v
theorem LeastO.uniq {P : List Str → Prop} {a b : Option (List Str)} (h1 : LeastO P a) (h2 : LeastO P b) : a = b := by
  cases a with
  | none =>
    cases b with
    | none => rfl
    | some w => exact absurd h2.1 (h1 w)
  | some v =>
    cases b with
    | none => exact absurd h1.1 (h2 v)
    | some w => rw [wle_anti (h1.2 w h2.1) (h2.2 v h1.1)]
theorem nexts_asc {us : List (Str × Str)} (h : us.Nodup) (m : Str) : (nextsS false (srt lessP us) m).Pairwise fun a b => lessS a b = true := by
  unfold nextsS
  have e : (srt lessP us).map (fl false) = srt lessP us := List.map_id _
  rw [e, List.pairwise_map]
  refine ((srt_strict linP h).sublist List.filter_sublist).imp_of_mem fun {u v} hu hv huv => ?_
  have h1 : u.1 = m := of_decide_eq_true (List.mem_filter.mp hu).2
  have h2 : v.1 = m := of_decide_eq_true (List.mem_filter.mp hv).2
  have z : (if u.1 = v.1 then lessS u.2 v.2 else lessS u.1 v.1) = true := huv
  rwa [if_pos (h1.trans h2.symm)] at z
theorem nexts_in2 {us : List (Str × Str)} {m y : Str} : y ∈ nextsS false (srt lessP us) m ↔ (m, y) ∈ us := by
  rw [nexts_mem, fl_f, mem_srt]
/-! ### rings -/
/-! ### how near: by uses gone over again and again -/
inductive Pt (us : List (Str × Str)) (G : List Str) : Nat → Str → Prop
  | z {x : Str} : x ∈ G → Pt us G 0 x
  | s {x y : Str} {n : Nat} : (x, y) ∈ us → Pt us G n y → Pt us G (n + 1) x
def relax (L : Str → Option Nat) (u : Str × Str) : Str → Option Nat := match L u.2 with
  | none => L
  | some d => match L u.1 with
    | none => fun m => if m = u.1 then some (d + 1) else L m
    | some e => if d + 1 < e then fun m => if m = u.1 then some (d + 1) else L m else L
def near0 (G : List Str) : Str → Option Nat := fun m => if m ∈ G then some 0 else none
def nearN (us : List (Str × Str)) (G : List Str) : Nat → Str → Option Nat
  | 0 => near0 G
  | n + 1 => us.foldl relax (nearN us G n)
def nearS (ms : List Str) (us : List (Str × Str)) (G : List Str) : Str → Option Nat := nearN us G ms.length
def LeL (L' L : Str → Option Nat) : Prop := ∀ x d, L x = some d → ∃ e, L' x = some e ∧ e ≤ d
theorem LeL.refl (L : Str → Option Nat) : LeL L L := fun x d h => ⟨d, h, Nat.le_refl _⟩
theorem LeL.trans {A B C : Str → Option Nat} (h1 : LeL A B) (h2 : LeL B C) : LeL A C := fun x d h => by
  obtain ⟨e, h3, h4⟩ := h2 x d h
  obtain ⟨f, h5, h6⟩ := h1 x e h3
  exact ⟨f, h5, by omega⟩
theorem relax_le (L : Str → Option Nat) (u : Str × Str) : LeL (relax L u) L := by
  intro x d h
  unfold relax
  cases e1 : L u.2 with
  | none => exact ⟨d, h, Nat.le_refl _⟩
  | some a =>
    show ∃ e, (match L u.1 with
      | none => fun m => if m = u.1 then some (a + 1) else L m
      | some e => if a + 1 < e then fun m => if m = u.1 then some (a + 1) else L m else L) x = some e ∧ e ≤ d
    cases e2 : L u.1 with
    | none =>
      show ∃ e, (if x = u.1 then some (a + 1) else L x) = some e ∧ e ≤ d
      rw [if_neg fun z => by rw [z, e2] at h; cases h]
      exact ⟨d, h, Nat.le_refl _⟩
    | some b =>
      show ∃ e, (if a + 1 < b then fun m => if m = u.1 then some (a + 1) else L m else L) x = some e ∧ e ≤ d
      by_cases c : a + 1 < b
      · rw [if_pos c]
        show ∃ e, (if x = u.1 then some (a + 1) else L x) = some e ∧ e ≤ d
        by_cases c2 : x = u.1
        · rw [if_pos c2]
          rw [c2, e2] at h
          cases h
          exact ⟨a + 1, rfl, by omega⟩
        · rw [if_neg c2]; exact ⟨d, h, Nat.le_refl _⟩
      · rw [if_neg c]; exact ⟨d, h, Nat.le_refl _⟩
theorem relax_at {L : Str → Option Nat} {u : Str × Str} {a : Nat} (h : L u.2 = some a) : ∃ e, relax L u u.1 = some e ∧ e ≤ a + 1 := by
  unfold relax
  rw [h]
  show ∃ e, (match L u.1 with
    | none => fun m => if m = u.1 then some (a + 1) else L m
    | some e => if a + 1 < e then fun m => if m = u.1 then some (a + 1) else L m else L) u.1 = some e ∧ e ≤ a + 1
  cases e2 : L u.1 with
  | none =>
    show ∃ e, (if u.1 = u.1 then some (a + 1) else L u.1) = some e ∧ e ≤ a + 1
    rw [if_pos rfl]; exact ⟨_, rfl, Nat.le_refl _⟩
  | some b =>
    show ∃ e, (if a + 1 < b then fun m => if m = u.1 then some (a + 1) else L m else L) u.1 = some e ∧ e ≤ a + 1
    by_cases c : a + 1 < b
    · rw [if_pos c]
      show ∃ e, (if u.1 = u.1 then some (a + 1) else L u.1) = some e ∧ e ≤ a + 1
      rw [if_pos rfl]; exact ⟨_, rfl, Nat.le_refl _⟩
    · rw [if_neg c, e2]; exact ⟨b, rfl, by omega⟩
theorem fold_le : ∀ (us : List (Str × Str)) (L : Str → Option Nat), LeL (us.foldl relax L) L
  | [], L => .refl L
  | u :: us, L => by
    rw [List.foldl_cons]
    exact (fold_le us _).trans (relax_le L u)
theorem fold_at : ∀ (us : List (Str × Str)) (L : Str → Option Nat) (u : Str × Str), u ∈ us → ∀ a, L u.2 = some a → ∃ e, (us.foldl relax L) u.1 = some e ∧ e ≤ a + 1
  | [], _, _, h, _, _ => absurd h List.not_mem_nil
  | v :: us, L, u, h, a, ha => by
    rw [List.foldl_cons]
    rcases List.mem_cons.mp h with rfl | h
    · obtain ⟨e, h1, h2⟩ := relax_at ha
      obtain ⟨f, h3, h4⟩ := fold_le us (relax L u) u.1 e h1
      exact ⟨f, h3, by omega⟩
    · obtain ⟨b, h1, h2⟩ := relax_le L v u.2 a ha
      obtain ⟨e, h3, h4⟩ := fold_at us (relax L v) u h b h1
      exact ⟨e, h3, by omega⟩
theorem fold_true {us0 : List (Str × Str)} {G : List Str} : ∀ (us : List (Str × Str)) (L : Str → Option Nat), (∀ u ∈ us, u ∈ us0) → (∀ x d, L x = some d → Pt us0 G d x) → ∀ x d, (us.foldl relax L) x = some d → Pt us0 G d x
  | [], _, _, h => h
  | u :: us, L, hu, h => by
    rw [List.foldl_cons]
    refine fold_true us _ (fun v hv => hu v (List.mem_cons_of_mem _ hv)) fun x d hx => ?_
    have huu := hu u List.mem_cons_self
    unfold relax at hx
    cases e1 : L u.2 with
    | none => rw [e1] at hx; exact h x d hx
    | some a =>
      rw [e1] at hx
      have put : (if x = u.1 then some (a + 1) else L x) = some d → Pt us0 G d x := fun hx => by
        by_cases c : x = u.1
        · rw [if_pos c] at hx
          cases hx
          rw [c]; exact .s huu (h _ _ e1)
        · rw [if_neg c] at hx; exact h x d hx
      have hx : (match L u.1 with
        | none => fun m => if m = u.1 then some (a + 1) else L m
        | some e => if a + 1 < e then fun m => if m = u.1 then some (a + 1) else L m else L) x = some d := hx
      cases e2 : L u.1 with
      | none => rw [e2] at hx; exact put hx
      | some b =>
        rw [e2] at hx
        have hx : (if a + 1 < b then fun m => if m = u.1 then some (a + 1) else L m else L) x = some d := hx
        by_cases c : a + 1 < b
        · rw [if_pos c] at hx; exact put hx
        · rw [if_neg c] at hx; exact h x d hx
theorem near_true {us : List (Str × Str)} {G : List Str} : ∀ n x d, nearN us G n x = some d → Pt us G d x
  | 0, x, d, h => by
    have h : (if x ∈ G then some 0 else none) = some d := h
    by_cases c : x ∈ G
    · rw [if_pos c] at h; cases h; exact .z c
    · rw [if_neg c] at h; cases h
  | n + 1, x, d, h => fold_true us _ (fun _ h => h) (near_true n) x d h
theorem near_all {us : List (Str × Str)} {G : List Str} : ∀ t n x, n ≤ t → Pt us G n x → ∃ d, nearN us G t x = some d ∧ d ≤ n
  | 0, n, x, hn, h => by
    have : n = 0 := by omega
    subst this
    cases h with
    | z hx => exact ⟨0, if_pos hx, Nat.le_refl _⟩
  | t + 1, n, x, hn, h => by
    cases h with
    | z hx =>
      obtain ⟨d, h1, h2⟩ := near_all t 0 x (Nat.zero_le _) (.z hx)
      obtain ⟨e, h3, h4⟩ := fold_le us (nearN us G t) x d h1
      exact ⟨e, h3, by omega⟩
    | @s _ y m hu hy =>
      obtain ⟨d, h1, h2⟩ := near_all t m y (by omega) hy
      obtain ⟨e, h3, h4⟩ := fold_at us (nearN us G t) (x, y) hu d h1
      exact ⟨e, h3, by omega⟩
/-! ### ways from the front -/
inductive Ch (nx : Str → List Str) : Str → List Str → Str → Prop
  | nil {x : Str} : Ch nx x [] x
  | cons {x y z : Str} {r : List Str} : y ∈ nx x → Ch nx y r z → Ch nx x (y :: r) z
theorem Wy.app {nx : Str → List Str} {s x z : Str} {r : List Str} (h : Ch nx x r z) : ∀ {w : List Str}, Wy nx s w x → Wy nx s (w ++ r) z := by
  induction h with
  | nil => intro w hw; rw [List.append_nil]; exact hw
  | cons hy _ ih =>
    intro w hw
    have := ih (.on hw hy)
    rwa [List.append_assoc] at this
theorem Ch.snoc {nx : Str → List Str} {x y z : Str} {r : List Str} (h : Ch nx x r y) (hz : z ∈ nx y) : Ch nx x (r ++ [z]) z := by
  induction h with
  | nil => exact .cons hz .nil
  | cons hy _ ih => exact .cons hy (ih hz)
theorem Wy.ch {nx : Str → List Str} {s x : Str} {v : List Str} (h : Wy nx s v x) : ∃ r, v = s :: r ∧ Ch nx s r x := by
  induction h with
  | one => exact ⟨[], rfl, .nil⟩
  | on _ hy ih =>
    obtain ⟨r, rfl, h1⟩ := ih
    exact ⟨r ++ [_], rfl, h1.snoc hy⟩
theorem Ch.pt {us : List (Str × Str)} {nx : Str → List Str} {G : List Str} (hnx : ∀ x y, y ∈ nx x → (x, y) ∈ us) {x z : Str} {r : List Str} (h : Ch nx x r z) {n : Nat} (hz : Pt us G n z) : Pt us G (r.length + n) x := by
  induction h with
  | nil => rw [show ([] : List Str).length + n = n from Nat.zero_add n]; exact hz
  | cons hy _ ih =>
    rw [List.length_cons, Nat.add_right_comm]
    exact .s (hnx _ _ hy) (ih hz)
theorem Pt.ch {us : List (Str × Str)} {nx : Str → List Str} {G : List Str} (hnx : ∀ x y, (x, y) ∈ us → y ∈ nx x) {n : Nat} {x : Str} (h : Pt us G n x) : ∃ r g, Ch nx x r g ∧ g ∈ G ∧ r.length = n := by
  induction h with
  | z hx => exact ⟨[], _, .nil, hx, rfl⟩
  | s hu _ ih =>
    obtain ⟨r, g, h1, h2, h3⟩ := ih
    exact ⟨_ :: r, g, .cons (hnx _ _ hu) h1, h2, by rw [List.length_cons, h3]⟩
/-- how near each is, told by ways alone -/
structure NearOk (us : List (Str × Str)) (G : List Str) (ms : List Str) (L : Str → Option Nat) : Prop where
  yes : ∀ x d, L x = some d → Pt us G d x
  all : ∀ x n, x ∈ ms → Pt us G n x → ∃ d, L x = some d ∧ d ≤ n
theorem near_ok {ms : List Str} {us : List (Str × Str)} (hm : Mods ms) (hu : Uses ms us) (G : List Str) : NearOk us G ms (nearS ms us G) := by
  refine ⟨near_true _, fun x n hx h => ?_⟩
  have inU : ∀ u ∈ srt lessP us, u.1 ∈ srt lessS ms ∧ u.2 ∈ srt lessS ms := fun u hu' => by
    have z := hu.ok u (mem_srt.mp hu')
    exact ⟨mem_srt.mpr z.1, mem_srt.mpr z.2.1⟩
  have hs : x ∈ srt lessS ms := mem_srt.mpr hx
  have F := chains_first hs (nexts_in (b := false) inU) (nexts_asc hu.nd)
  have inv := chains_inv hs (nexts_in (b := false) inU) (srt lessS ms).length
  obtain ⟨r, g, h1, h2, h3⟩ := Pt.ch (nx := nextsS false (srt lessP us)) (fun a b h => nexts_in2.mpr h) h
  have small : ∃ k, Pt us G k x ∧ k ≤ n ∧ k ≤ ms.length := by
    by_cases c : g = x
    · subst c
      exact ⟨0, .z h2, Nat.zero_le _, Nat.zero_le _⟩
    · have hw : Wy (nextsS false (srt lessP us)) x (x :: r) g := Wy.app (w := [x]) h1 .one
      obtain ⟨w, q1, q2⟩ := F.least _ g hw c
      have len := (inv.ok _ q1).2.2.2
      have il := inv.len hs
      rw [srt_len] at len il
      have wl := wle_len q2
      obtain ⟨r', e, h4⟩ := (F.wy _ q1).ch
      have e : w = x :: r' := e
      subst e
      rw [List.length_cons, List.length_cons] at wl
      rw [List.length_cons] at len
      have p := h4.pt (us := us) (G := G) (fun a b h => nexts_in2.mp h) (n := 0) (.z h2)
      rw [srt_len] at *
      exact ⟨r'.length, p, by omega, by omega⟩
  obtain ⟨k, p, k1, k2⟩ := small
  obtain ⟨d, h4, h5⟩ := near_all ms.length k x k2 p
  exact ⟨d, h4, by omega⟩
/-! ### nearer at each step -/
def minB {α : Type} (lt : α → α → Bool) (x : α) (xs : List α) : α := xs.foldl (fun a b => if lt b a then b else a) x
theorem minB_mem {α : Type} {lt : α → α → Bool} : ∀ (xs : List α) (x : α), minB lt x xs ∈ x :: xs
  | [], x => List.mem_cons_self
  | y :: ys, x => by
    have ih := minB_mem ys (if lt y x then y else x) (lt := lt)
    show minB lt (if lt y x then y else x) ys ∈ _
    rcases List.mem_cons.mp ih with z | z
    · rw [z]
      by_cases c : lt y x = true
      · rw [if_pos c]; exact List.mem_cons_of_mem _ List.mem_cons_self
      · rw [if_neg c]; exact List.mem_cons_self
    · exact List.mem_cons_of_mem _ (List.mem_cons_of_mem _ z)
theorem minB_le {α : Type} {lt : α → α → Bool} (L : Lin lt) : ∀ (xs : List α) (x : α), ∀ z ∈ x :: xs, lt z (minB lt x xs) = false
  | [], x, z, hz => by rw [List.mem_singleton.mp hz]; exact L.irr x
  | y :: ys, x, z, hz => by
    have ih := minB_le L ys (if lt y x then y else x)
    show lt z (minB lt (if lt y x then y else x) ys) = false
    have tr : ∀ a b c : α, lt a b = false → lt b c = false → lt a c = false := fun a b c h1 h2 => by
      cases q : lt a c with
      | false => rfl
      | true =>
        cases q2 : lt b a with
        | true => rw [← h2, L.tr b a c q2 q]
        | false =>
          have e := L.tri a b h1 q2
          rw [e] at q
          rw [← h2, q]
    have h0 := ih _ List.mem_cons_self
    by_cases c : lt y x = true
    · rw [if_pos c] at ih h0 ⊢
      rcases List.mem_cons.mp hz with rfl | hz
      · exact tr _ y _ (L.asym c) h0
      · rcases List.mem_cons.mp hz with rfl | hz
        · exact h0
        · exact ih z (List.mem_cons_of_mem _ hz)
    · have c : lt y x = false := by simpa using c
      rw [c] at ih h0 ⊢
      rcases List.mem_cons.mp hz with rfl | hz
      · exact h0
      · rcases List.mem_cons.mp hz with rfl | hz
        · exact tr _ x _ c h0
        · exact ih z (List.mem_cons_of_mem _ hz)
def candS (us : List (Str × Str)) (L : Str → Option Nat) (x : Str) (k : Nat) : List Str := (us.filter fun u => decide (u.1 = x) && decide (L u.2 = some k)).map (·.2)
theorem cand_mem {us : List (Str × Str)} {L : Str → Option Nat} {x y : Str} {k : Nat} : y ∈ candS us L x k ↔ (x, y) ∈ us ∧ L y = some k := by
  unfold candS
  rw [List.mem_map]
  constructor
  · rintro ⟨u, hu, rfl⟩
    obtain ⟨h1, h2⟩ := List.mem_filter.mp hu
    rw [Bool.and_eq_true] at h2
    have e : u.1 = x := of_decide_eq_true h2.1
    subst e
    exact ⟨h1, of_decide_eq_true h2.2⟩
  · rintro ⟨h1, h2⟩
    exact ⟨(x, y), List.mem_filter.mpr ⟨h1, by rw [Bool.and_eq_true]; exact ⟨decide_eq_true rfl, decide_eq_true h2⟩⟩, rfl⟩
def minO (xs : List Str) : Str := match xs with
  | [] => Str.empty
  | y :: ys => minB lessS y ys
section
variable {us : List (Str × Str)} {ms G : List Str} {L : Str → Option Nat}
theorem near_next (N : NearOk us G ms L) (hin : ∀ u ∈ us, u.2 ∈ ms) {x : Str} {k : Nat} (hx : x ∈ ms) (h : L x = some (k + 1)) : ∃ y, (x, y) ∈ us ∧ L y = some k := by
  have p := N.yes x _ h
  cases p with
  | @s _ y _ hu hy =>
    obtain ⟨d, h1, h2⟩ := N.all y k (hin _ hu) hy
    obtain ⟨e, h3, h4⟩ := N.all x (d + 1) hx (.s hu (N.yes y d h1))
    rw [h] at h3
    cases h3
    have : d = k := by omega
    subst this
    exact ⟨y, hu, h1⟩
theorem gr_step (N : NearOk us G ms L) (hin : ∀ u ∈ us, u.2 ∈ ms) {x : Str} {k : Nat} (hx : x ∈ ms) (h : L x = some (k + 1)) : (x, minO (candS us L x k)) ∈ us ∧ L (minO (candS us L x k)) = some k ∧ ∀ y, (x, y) ∈ us → L y = some k → lessS y (minO (candS us L x k)) = false := by
  obtain ⟨y, h1, h2⟩ := near_next N hin hx h
  have hy := cand_mem.mpr ⟨h1, h2⟩
  cases e : candS us L x k with
  | nil => rw [e] at hy; cases hy
  | cons a as =>
    have m := minB_mem as a (lt := lessS)
    have le := minB_le linS as a
    rw [← e] at m le
    have z := cand_mem.mp m
    exact ⟨z.1, z.2, fun y h1 h2 => le y (cand_mem.mpr ⟨h1, h2⟩)⟩
end
/-! ### the law's ring -/
def minWO : List (List Str) → Option (List Str)
  | [] => none
  | w :: ws => some (minB wlt w ws)
end RP

set_option Elab.async false
set_option linter.all false
set_option maxRecDepth 100000
/-! EM3: for k, v in f(x, y).items(): f is asked knowing x alone, so that what it gives is seen to be new, and may be locked -/
namespace DL
open PySem PySem.Spec PyProof.Rows L2 TL TX TO
section
variable {X : Cx} {e : Expr} {td : TE}
/-- a value that is a dict, locked for good -/
def tLockK (td : TE) : TE := fun σ H Q => td σ H fun x H1 => ∃ d kvs, x = .ref d ∧ H1 d = some (.dK kvs) ∧ ∀ o, Q x (upd H1 d (.frz o (.dK kvs)))
theorem pe_lockK (he : PE X e td) : PE X e (tLockK td) := by
  refine ⟨fun pins s σ H Q I h => ?_⟩
  refine thn (he.run pins s σ H _ I h) fun u s1 ⟨x, H1, I1, rx, d, kvs, ex, hd, q⟩ => ?_
  obtain ⟨o, I2⟩ := I1.lock hd trivial
  exact ⟨x, _, I2, rx, q o⟩
end
section
variable {m : Mem} {K : PySem.W.Frag} {F0 F1 F2 F3 H1 H2 : Hp} {σ : L2.St} {ρ1 : List Sl} {s1 s' : m.S}
/-- a def that was asked knowing less -/
theorem joinR (r1 : Rel K m F1 H1 σ ρ1 s1) (h0 : Same F0 F1) (c : CStp m F0 H1 s1 F2 H2 s') (h3 : Same F3 F2) : CStp m F1 H1 s1 (orH F1 F3) H2 s' ∧ Same F3 (orH F1 F3) := by
  have cs : ∀ a o, orH F1 F3 a = some o → F1 a = some o ∨ (F1 a = none ∧ F3 a = some o) := fun a o h => by
    unfold orH at h
    cases q : F1 a with
    | some u => rw [q] at h; exact .inl h
    | none => rw [q] at h; exact .inr ⟨rfl, h⟩
  refine ⟨⟨same_or, c.keep, c.alive, fun a o h => ?_, c.regf, fun a o h => ?_, c.mem, fun a h => ?_⟩, fun a o h => ?_⟩
  · rcases cs a o h with z | ⟨z0, z⟩
    · exact .inl z
    · rcases c.fresh a o (h3 a o z) with y | y
      · rw [h0 a o y] at z0; cases z0
      · exact .inr y
  · rcases cs a o h with z | ⟨_, z⟩
    · refine c.keep a o (r1.sub a o z) fun y => ?_
      rw [r1.reg a y] at z
      cases z
    · exact c.sub a o (h3 a o z)
  · cases q : orH F1 F3 a with
    | none => rfl
    | some o =>
      rcases cs a o q with z | ⟨_, z⟩
      · rcases c.regf a h with y | y
        · rw [r1.reg a y] at z; cases z
        · rw [r1.sub a o z] at y; cases y
      · have := h3 a o z
        rw [c.reg a h] at this
        cases this
  · unfold orH
    cases q : F1 a with
    | none => exact h
    | some u =>
      rcases c.fresh a o (h3 a o h) with y | y
      · rw [h0 a o y] at q
        exact q.symm ▸ rfl
      · rw [r1.sub a u q] at y; cases y
theorem off_tups {p : Addr} {kvs : List (Key × V)} (hp : F2 p = some (.dK kvs)) : ∀ (ws : List (List Str)) (vs : List V), Reps K F2 (ws.map fun w => .tup (w.map .str)) vs → Reps K (offH F2 p) (ws.map fun w => .tup (w.map .str)) vs
  | [], _, r => r
  | x :: ws, vs, r => by
    obtain ⟨v, w, rfl, r1, r2⟩ := r
    obtain ⟨q, xs, rfl, hT, hl, rs⟩ := r1
    refine ⟨_, w, rfl, ⟨q, xs, rfl, ?_, hl, ?_⟩, off_tups hp ws w r2⟩
    · rcases hT with (h | ⟨o, h⟩) | h
      · exact .inl (.inl (off_at h fun z => by subst z; rw [hp] at h; cases h))
      · exact .inl (.inr ⟨o, off_at h fun z => by subst z; rw [hp] at h; cases h⟩)
      · exact .inr h
    · refine bare_reps ?_ rs
      rw [List.all_eq_true]
      intro d hd
      obtain ⟨y, _, rfl⟩ := List.mem_map.mp hd
      rfl
/-- the part of what is known that a dict of lists of texts needs -/
noncomputable def partH (F : Hp) (a : Addr) (vs : List V) : Hp := fun b => @ite _ (b = a ∨ V.ref b ∈ vs) (Classical.propDecidable _) (F b) none
theorem part_some {F : Hp} {a b : Addr} {vs : List V} {o : HO} (h : partH F a vs b = some o) : F b = some o ∧ (b = a ∨ V.ref b ∈ vs) := by
  unfold partH at h
  by_cases c : b = a ∨ V.ref b ∈ vs
  · rw [if_pos c] at h; exact ⟨h, c⟩
  · rw [if_neg c] at h; cases h
theorem part_at {F : Hp} {a b : Addr} {vs : List V} (c : b = a ∨ V.ref b ∈ vs) : partH F a vs b = F b := by
  unfold partH
  rw [if_pos c]
theorem part_same {F : Hp} {a : Addr} {vs : List V} : Same (partH F a vs) F := fun b o h => (part_some h).1
theorem part_lists {F : Hp} {a : Addr} {vs0 : List V} : ∀ (ls : List (List Str)) (vs : List V), (∀ v ∈ vs, v ∈ vs0) → Reps K F (ls.map fun l => .lst (l.map .str)) vs → Reps K (partH F a vs0) (ls.map fun l => .lst (l.map .str)) vs
  | [], _, _, r => r
  | x :: ls, vs, h, r => by
    obtain ⟨v, w, rfl, r1, r2⟩ := r
    obtain ⟨q, xs, rfl, hT, hl, rs⟩ := r1
    refine ⟨_, w, rfl, ⟨q, xs, rfl, ?_, hl, ?_⟩, part_lists ls w (fun y hy => h y (List.mem_cons_of_mem _ hy)) r2⟩
    · rw [part_at (.inr (h _ List.mem_cons_self))]; exact hT
    · refine bare_reps ?_ rs
      rw [List.all_eq_true]
      intro d hd
      obtain ⟨y, _, rfl⟩ := List.mem_map.mp hd
      rfl
theorem lists_at {F : Hp} {b : Addr} : ∀ (ls : List (List Str)) (vs : List V), Reps K F (ls.map fun l => .lst (l.map .str)) vs → V.ref b ∈ vs → ∃ xs, F b = some (.lst xs)
  | [], _, r, h => by cases r; cases h
  | x :: ls, vs, r, h => by
    obtain ⟨v, w, rfl, r1, r2⟩ := r
    obtain ⟨q, xs, rfl, hT, hl, rs⟩ := r1
    rcases List.mem_cons.mp h with z | z
    · cases z; exact ⟨xs, hT⟩
    · exact lists_at ls w r2 z
end
/-- the items of a dict, as new pairs -/
def itemsD (ks : List Key) (ds : List D) : List D := List.zipWith (fun k d => .tup [keyD k, d]) ks ds
theorem walks_items {K : PySem.W.Frag} {F : Hp} {p : Addr} {o : Obj} {kvs : List (Key × V)} {ks : List Key} {ds : List D} (h : F p = some (.frz o (.dK kvs))) (hk : kvs.map (·.1) = ks) (rs : Reps K F ds (kvs.map (·.2))) (hok : ∀ k ∈ ks, ∀ z, k = .inr z → sOk z = true) : Walks K F (Iti p o kvs) (itemsD ks ds) := fun F' H' s1 s2 => by
  have q := s2 _ _ (s1 _ _ h)
  have l1 : kvs.length = ks.length := by rw [← hk, List.length_map]
  have l2 : ds.length = kvs.length := by have := rs.length; rw [List.length_map] at this; exact this.symm
  have hl : (itemsD ks ds).length = kvs.length := by unfold itemsD; rw [List.length_zipWith]; omega
  refine ⟨fun i hi => ⟨q, by omega⟩, fun i d e => ?_⟩
  have hi : i < (itemsD ks ds).length := (List.getElem?_eq_some_iff.mp e).1
  refine ⟨⟨q, by omega⟩, fun x H2 y => ?_⟩
  obtain ⟨T, k, v, e2, rfl, hT, rfl⟩ := y
  have ek : ks[i]? = some k := by rw [← hk, List.getElem?_map, e2]; rfl
  have ev : (kvs.map (·.2))[i]? = some v := by rw [List.getElem?_map, e2]; rfl
  obtain ⟨dd, ed⟩ : ∃ dd, ds[i]? = some dd := ⟨ds[i]'(by omega), List.getElem?_eq_getElem _⟩
  have ei : d = .tup [keyD k, dd] := by
    unfold itemsD at e
    rw [List.getElem?_zipWith, ek, ed] at e
    exact (Option.some.inj e).symm
  subst ei
  have rv : Rep K F dd v := by
    obtain ⟨w, e3, rw'⟩ := rs.get ed
    rw [ev] at e3
    cases e3
    exact rw'
  have g : Grow F' H' (upd F' T (.tup [kV k, v])) (upd H' T (.tup [kV k, v])) := Grow.new s2 hT
  refine ⟨_, g, T, [kV k, v], rfl, .inl (.inl upd_same), by show 2 ≤ sizeLine; exact line_two, _, _, rfl, key_rep (hok k (List.mem_of_getElem? ek)), _, _, rfl, Rep.mono (s1.trans g.fF) _ _ rv, rfl⟩
section
variable {X : Cx} {m : Mem} {e : Expr} {es : List Expr} {u : DTA m}
/-- for .. in f(x, y).items() -/
def diItemsF {m : Mem} (sp : DSp m) (u : DTA m) : DTI m := fun ρ s Q => u ρ s fun ds ρ1 s1 => ∃ (ks1 : List Key) (ls : List (List Str)) (z : Str), ds = [.dic ks1 (ls.map fun l => .lst (l.map .str)), .str z] ∧ sp ds s1 fun d s' => ∃ (ks2 : List Key) (ws : List (List Str)), d = .dic ks2 (ws.map fun w => .tup (w.map .str)) ∧
  (∃ k ∈ ks1, k ∉ ks2) ∧ (∀ k ∈ ks2, ∀ z, k = .inr z → sOk z = true) ∧ Q (itemsD ks2 (ws.map fun w => .tup (w.map .str))) ρ1 s'
theorem di_itemsF {k n : Nat} {fa : Addr} {fd : FuncData} {ps : List Str} {sp : DSp m} {f : Str} {p cp apos cp2 : Pos} {elts : List Expr} {kk : Nat} {tpos : Pos} (G : FnG X.prog X.w X.K X.mg X.base CX0 k fa fd ps (lift X.K m n sp)) (hn : ∀ ds s Qd, sp ds s Qd → ds.length = n) (hr : RoomG k X.A) (hg : Gl X f) (hm : X.mg f = some (.ref fa)) (hk : PySem.W.keepIn X.K (.ref fa) = true) (hb : Binds X.K fd ps [])
    (ha : PA X (e :: es) (upA X.K m u)) (hdb : (f == ("__debug__" : Str)) = false := by decide) (he : starEach (e :: es) X.env = (false, eval e X.env) :: starEach es X.env := by rfl) (hpl : (backTo cp (starEach es X.env)).any (·.1) = false := by rfl)
    (hbase : attributeBase (.Call (.Name f p) (e :: es) [] cp) "items" X.env (eval (.Call (.Name f p) (e :: es) [] cp) X.env) = eval (.Call (.Name f p) (e :: es) [] cp) X.env := by rfl) (hline : (apos.endLine == cp2.line) = true := by rfl) :
    PI X (.Tuple elts kk tpos) (.Call (.Attribute (.Call (.Name f p) (e :: es) [] cp) "items" apos) [] [] cp2) (upI X.K m (diItemsF sp u)) :=
  PI.imp (pi_items (pe_lockK (pg_call G hr hg hm hk hb .nil pass0 ha hdb he hpl)) hbase hline) fun σ H R h => by
  obtain ⟨F, ρ, s, Qd, r, ht, hQ⟩ := h
  refine ⟨F, ρ, s, _, r, ht, fun ds ρ1 s1 vs F1 H1 ⟨ks1, ls, z, ed, hsp⟩ r1 st1 rs => ?_⟩
  show lift X.K m n sp (vs ++ []) H1 _ _
  rw [List.append_nil]
  have len : vs.length = n := by rw [rs.length]; exact hn _ _ _ hsp
  have rs' := rs
  rw [ed] at rs'
  obtain ⟨v1, _, rfl, ⟨a1, kvs1, rfl, ha1, hl1, hk1, rd1⟩, v2, _, rfl, ⟨rfl, hz⟩, rfl⟩ := rs'
  have s0 : Same (partH F1 a1 (kvs1.map (·.2))) F1 := part_same
  have rs0 : Reps X.K (partH F1 a1 (kvs1.map (·.2))) ds [.ref a1, .str z] := by
    rw [ed]
    exact ⟨_, _, rfl, ⟨a1, kvs1, rfl, by rw [part_at (.inl rfl)]; exact ha1, hl1, hk1, part_lists ls _ (fun _ h => h) rd1⟩, _, _, rfl, ⟨rfl, hz⟩, rfl⟩
  refine ⟨len, _, ds, s1, _, s0.trans r1.sub, r1.mem, fun a h => ?_, rs0, hsp, fun d s' v F2 H2 ⟨ks2, ws, ed2, ⟨k0, hk01, hk02⟩, hok, q1⟩ c rv => ?_⟩
  · cases q : partH F1 a1 (kvs1.map (·.2)) a with
    | none => rfl
    | some o => exact absurd (s0 a o q) (by rw [r1.reg a h]; simp)
  subst ed2
  obtain ⟨a, kvs, rfl, ha2, hl2, hk2, rd2⟩ := rv
  have new : H1 a = none := by
    rcases c.fresh a _ ha2 with y | y
    · obtain ⟨y1, y2⟩ := part_some y
      rcases y2 with rfl | y2
      · rw [ha1] at y1
        cases y1
        exact absurd (hk1.symm.trans hk2 ▸ hk01) hk02
      · obtain ⟨xs, y3⟩ := lists_at ls _ rd1 y2
        rw [y1] at y3; cases y3
    · exact y
  have nF1 : F1 a = none := r1.sub.free new
  obtain ⟨c', s3⟩ := joinR r1 s0 c (F3 := offH F2 a) same_off
  have nF4 : orH F1 (offH F2 a) a = none := by
    unfold orH
    rw [nF1]
    unfold offH
    rw [if_pos rfl]
  have nR : ¬ m.R s' a := fun z => by rw [c.reg a z] at ha2; cases ha2
  have nH : H a = none := by
    cases q : H a with
    | none => rfl
    | some w => exact absurd new (st1.alive a (by rw [q]; simp))
  have nO : ∀ j, ¬ Owns σ ρ1 j a := fun j ⟨⟨o', e⟩, hσ⟩ => by
    obtain ⟨p', ho, b1, b2, _⟩ := r1.ow j o' e
    rw [hσ] at b1
    cases b1
    rw [new] at b2
    cases b2
  have r4 : Rel X.K m (orH F1 (offH F2 a)) H2 σ ρ1 s' := r1.call c'
  have st4 : Stp m F H σ ρ s (orH F1 (offH F2 a)) H2 ρ1 s' := st1.trans c'.stp
  refine ⟨a, kvs, rfl, c.sub a _ ha2, fun o => ⟨a, o, kvs, rfl, upd_same, ?_⟩⟩
  have r5 := r4.hidW (ho := .frz o (.dK kvs)) nF4 nR nO
  have st5 := st4.hidW (ho := .frz o (.dK kvs)) nH
  have sm : Same (orH F1 (offH F2 a)) (upd (orH F1 (offH F2 a)) a (.frz o (.dK kvs))) := same_upd nF4
  refine hQ _ ρ1 s' _ (upd (orH F1 (offH F2 a)) a (.frz o (.dK kvs))) _ q1 (r5.adopt upd_same nF4 nR nO) ⟨st5.ext.trans sm, st5.keep, st5.alive, fun b x e => ?_, st5.regf, st5.shr⟩ (walks_items upd_same hk2 (Reps.mono (s3.trans sm) _ _ (off_tups ha2 ws _ rd2)) hok)
  by_cases hb : b = a
  · subst hb; exact .inr (.inl nH)
  · rw [upd_ne hb] at e; exact st5.fresh b x e
end
end DL

set_option Elab.async false
set_option linter.all false
set_option maxRecDepth 100000
/-! EM4: min(x) of a list of data that are alike; x[k] = e, k a key of x or not -/
namespace DL
open PySem PySem.Spec PyProof.Rows L2 TL TX TO
def pickB {α : Type} (lt : α → α → Bool) (x : α) (xs : List α) : α := xs.foldl (fun a b => if lt b a then b else a) x
def lessD (a b : D) : Bool := PySem.W.dataLt (pyR a) (pyR b)
theorem pyRs_getD : ∀ (ds : List D) (i : Nat), (pyRs ds).getD i .none = pyR (ds.getD i .non)
  | [], i => by rw [show (pyRs ([] : List D)) = [] from rfl]; simp [pyR]
  | d :: ds, 0 => rfl
  | d :: ds, i + 1 => by
    have := pyRs_getD ds i
    rw [show pyRs (d :: ds) = pyR d :: pyRs ds from rfl]
    simpa using this
section
variable {X : Cx} {pins : List (Addr × Obj)} {σ : L2.St} {H : Hp} {s : Shared}
def rMinD (X : Cx) : List V → Hp → VK → Prop := fun xs H Q => ∃ (F : Hp) (d : D) (ds : List D) (a : Addr) (vs : List V), xs = [V.ref a] ∧ Same F H ∧ F a = some (.lst vs) ∧ Reps X.K F (d :: ds) vs ∧ repDs 60 (d :: ds) = true ∧ PySem.W.AlikeAll (pyRs (d :: ds)) ∧ ∀ v, Rep X.K F (pickB lessD d ds) v → Q v H
theorem cr_minD (hc : X.calm = true) (hk : ∃ o, X.base.get? sysModules = some o) (hu : X.A.units + 65 < cLine) : CallR X (.builtin "min") (rMinD X) := by
  intro pins s σ H xs us Q I r h
  obtain ⟨F, d, ds, a, vs, rfl, sub, ha, rs, ok, al, q⟩ := h
  rw [Vals.ref1 r]
  obtain ⟨its, rv, hl, hz⟩ := I.list (.inl (.inl (sub _ _ ha)))
  obtain ⟨as, rd, _⟩ := reps_reads (sys_free hk I) I sub 60 (d :: ds) vs its ok rs rv
  have rd : PySem.ReadsAll s.heap its.toArray.toList (pyRs (d :: ds)) as := rd
  have dp := depths_of 60 (d :: ds) ok
  have n1 : its.length = ds.length + 1 := by
    have l1 := rv.length
    have l2 := rs.length
    rw [List.length_cons] at l2
    omega
  have hh : X.A.handled = none := I.ok.hd hc
  refine PySem.call_min_walkH (PySem.W.iter_listW (A := X.A.in1) hh hl.isList fun t0 e0 W0 st0 f0 w0 k0 => ?_)
  refine ⟨_, _, _, _, _, _, _, s.heap, _, rfl, W0, st0, f0, (by show 0 < its.length; omega), w0, k0, PySem.W.cmpIn_lt (A := X.A.in1) rd al (by show X.A.units + 1 + _ < _; omega), fun v s' hP mv => ?_⟩
  obtain ⟨h', tk, rfl, hk'⟩ := PySem.W.moved_old e0 rfl mv
  have hb : (fun i j => PySem.W.dataLt ((pyRs (d :: ds)).getD i .none) ((pyRs (d :: ds)).getD j .none)) = fun i j => lessD ((d :: ds).getD i .non) ((d :: ds).getD j .non) := by
    funext i j
    rw [pyRs_getD, pyRs_getD]; rfl
  rw [hb] at hP
  have e1 : its.toArray.size - 1 = ds.length := by show its.length - 1 = _; omega
  rw [e1] at hP
  obtain ⟨b1, b2⟩ := PySem.W.argBest_fold lessD D.non d ds ds.length (Nat.le_refl _)
  rw [List.take_length] at b2
  generalize argBest (fun i j => lessD ((d :: ds).getD i .non) ((d :: ds).getD j .non)) ds.length = k at hP b1 b2
  have hd : (d :: ds)[k]? = some (pickB lessD d ds) := by
    have hk1 : k < (d :: ds).length := by rw [List.length_cons]; omega
    rw [List.getElem?_eq_getElem hk1]
    rw [List.getD_eq_getElem?_getD, List.getElem?_eq_getElem hk1] at b2
    exact congrArg some b2
  obtain ⟨x, ex, rx⟩ := rs.get hd
  have hP : its[k]? = some v := by simpa using hP
  obtain ⟨y, ey, ry⟩ := rv.get ex
  rw [hP] at ey
  cases ey
  exact ⟨x, H, I.kept (t' := tk) hk', ry, q x rx⟩
end
def minDD (ds : List D) (Q : D → Prop) : Prop := ∃ d es, ds = [.lst (d :: es)] ∧ repDs 60 (d :: es) = true ∧ PySem.W.AlikeAll (pyRs (d :: es)) ∧ Q (pickB lessD d es)
theorem o_minD {X : Cx} : OpN X.K (rMinD X) minDD := by
  intro F H ds vs Qd Q sub rs h hQ
  obtain ⟨d, es, rfl, ok, al, q⟩ := h
  obtain ⟨v, _, rfl, ⟨a, ws, rfl, h1, _, r1⟩, rn⟩ := rs
  cases rn
  exact ⟨F, d, es, a, ws, rfl, sub, h1, r1, ok, al, fun v rv => hQ _ _ F H q (Grow.refl sub) rv⟩
/-! ### x[k] = e -/
/-- a dict with k told anew -/
def hasK (ks : List Key) (k : Key) : Bool := ks.any fun k' => decide (k' = k)
theorem hasK_yes {ks : List Key} {k : Key} (h : k ∈ ks) : hasK ks k = true := List.any_eq_true.mpr ⟨k, h, decide_eq_true rfl⟩
theorem hasK_no {ks : List Key} {k : Key} (h : k ∉ ks) : hasK ks k = false := by
  cases q : hasK ks k with
  | false => rfl
  | true =>
    obtain ⟨k', h1, h2⟩ := List.any_eq_true.mp q
    exact absurd (of_decide_eq_true h2 ▸ h1) h
def stK (ks : List Key) (k : Key) : List Key := if hasK ks k = true then ks else ks ++ [k]
def stD (ks : List Key) (ds : List D) (k : Key) (d : D) : List D := if hasK ks k = true then putD ks ds k d else ds ++ [d]
section
variable {X : Cx} {m : Mem} {pos : Pos} {e b : Expr}
def dDicSet {m : Mem} (i : Nat) (te tb : DT m) : DTS m := fun dd ρ s => te ρ s fun d ρ1 s1 => (∃ ks0 ds0, ρ1[i]? = some (.ow (.dic ks0 ds0))) ∧ tb ρ1 s1 fun y ρ2 s2 => ∃ ks ds z, y = .str z ∧ ρ2[i]? = some (.ow (.dic ks ds)) ∧ ks.length + 1 ≤ 1000 ∧
  dd.nx (ρ2.set i (.ow (.dic (stK ks (.inr z)) (stD ks ds (.inr z) d)))) s2
theorem ds_dicSet {E : Ent m} {te tb : DT m} (i : Nat) {x : Str} {xpos spos : Pos} (hu : X.A.units + 1 < cLine) (he : PE X e (up X.K m te)) (hb : PE X b (up X.K m tb)) (hN : X.N[i]? = some x := by rfl) (hv : Vis X.env.scope x := by first | exact Or.inl rfl | exact Or.inr (Or.inl rfl) | exact Or.inr (Or.inr rfl))
    (hd : (x == ("__debug__" : Str)) = false := by decide) (hcd : (x == ("__classdict__" : Str)) = false := by decide) (hs : swapsWith e (some (.Subscript (.Name x xpos) b spos)) pos.line X.env = pure false := by rfl) :
    PS X (.Assign [.Subscript (.Name x xpos) b spos] e pos) (upS X.K m E (dDicSet i te tb)) := PS.imp (ps_dput hu (pv i hN hv hd hcd) hb he hs) fun DD σ H h => by
  obtain ⟨F, ρ, s, dd, r, o, ht, f⟩ := h
  refine ⟨F, ρ, s, _, r, ht, fun d ρ1 s1 v F1 H1 ⟨⟨ks0, ds0, e0⟩, q1⟩ r1 st1 rv => ?_⟩
  obtain ⟨p, ho, h1, h2, ⟨kv0, rfl, hl0, _, rs0⟩, h4, h5⟩ := r1.own_at e0
  refine ⟨_, h1, F1, ρ1, s1, _, r1, q1, fun y ρ2 s2 u F2 H2 ⟨ks, ds, z, ey, e2, hz, q2⟩ r2 st2 ru => ?_⟩
  subst ey
  obtain ⟨rfl, _⟩ := ru
  obtain ⟨p', ho, g1, g2, ⟨kvs, rfl, hl, hk, rs⟩, g4, g5⟩ := r2.own_at e2
  rw [h1] at g1; cases g1
  have hlen : kvs.length = ks.length := by rw [← hk, List.length_map]
  have z1000 : 1000 ≤ sizeLine := by rw [sizeLine_eq]; decide
  refine ⟨p, _, rfl, DPut.k (k := .inr z) g2 (by omega), ?_⟩
  have rv2 := Rep.mono st2.ext _ _ rv
  have fin : ∃ P : List (Key × V), putK kvs (.inr z) v = P ∧ P.length ≤ sizeLine ∧ P.map (·.1) = stK ks (.inr z) ∧ Reps X.K F2 (stD ks ds (.inr z) d) (P.map (·.2)) := by
    by_cases c : Sum.inr z ∈ ks
    · refine ⟨_, rfl, ?_, ?_, ?_⟩
      · have := length_putK kvs (.inr z) v; omega
      all_goals
        have eP : putK kvs (.inr z) v = kvs.map fun kv => if kv.1 = Sum.inr z then (kv.1, v) else kv := by
          unfold putK
          refine if_pos (List.any_eq_true.mpr ?_)
          rw [← hk] at c
          obtain ⟨kv, hkv, e⟩ := List.mem_map.mp c
          exact ⟨kv, hkv, decide_eq_true e⟩
        rw [eP]
      · unfold stK
        rw [if_pos (hasK_yes c), put_keys]; exact hk
      · unfold stD
        rw [if_pos (hasK_yes c), ← hk]
        exact put_reps rv2 kvs ds rs
    · have m1 : ∀ q ∈ kvs, q.1 ≠ Sum.inr z := fun q hq e => c (by rw [← hk, ← e]; exact List.mem_map_of_mem hq)
      refine ⟨_, rfl, ?_, ?_, ?_⟩
      · have := length_putK kvs (.inr z) v; omega
      all_goals rw [putK_new m1, List.map_append]
      · unfold stK
        rw [if_neg (by rw [hasK_no c]; decide), hk]; rfl
      · unfold stD
        rw [if_neg (by rw [hasK_no c]; decide)]
        exact rs.append (.one rv2)
  obtain ⟨P, eP, f1, f2, f3⟩ := fin
  rw [eP]
  exact f.nx F2 _ σ _ s2 (st1.ext.trans st2.ext) (r2.write (o' := .dic (stK ks (.inr z)) (stD ks ds (.inr z) d)) e2 h1 ⟨P, rfl, f1, f2, f3⟩) (((o.stp st1).stp st2).write (K := X.K) e2 h1) q2
end
/-! ### x is True -/
def isntBl (x y : D) (Q : Bool → Prop) : Prop := ∃ a b, x = .bl a ∧ y = .bl b ∧ Q (!decide (a = b))
theorem o_isntBl {K : PySem.W.Frag} : Cm2 K (fun x y H Q => ∃ a b, x = V.bl a ∧ y = V.bl b ∧ Q (.bl (!decide (a = b))) H) isntBl := by
  intro F H dx dy x y Qd Q sub rx ry h hQ
  obtain ⟨a, b, rfl, rfl, q⟩ := h
  cases rx
  cases ry
  exact ⟨a, b, rfl, rfl, hQ _ F H q (Grow.refl sub)⟩
end DL

set_option Elab.async false
set_option linter.all false
set_option maxRecDepth 100000
set_option maxHeartbeats 1000000
/-! LP9: rings and how near, as data -/
namespace RP
open PySem PySem.Spec PyProof.Rows L2 TL DL TX TO RG
def optW : Option (List Str) → D
  | none => .non
  | some w => wayD w
def optN : Option Nat → D
  | none => .non
  | some d => .int (d : Nat)
def leftD (ms : List Str) (L : Str → Option Nat) : D := .dic (keyI ms) (ms.map fun m => optN (L m))
theorem keyI_mem {ms : List Str} {z : Str} : (.inr z : Key) ∈ keyI ms ↔ z ∈ ms := by
  constructor
  · intro h
    obtain ⟨y, hy, e⟩ := List.mem_map.mp h
    rw [← Sum.inr.inj e]; exact hy
  · intro h
    exact List.mem_map_of_mem h
theorem put_tab2 (M : List Str) (f : Str → D) (x : Str) (d : D) : DL.putD (keyI M) (M.map f) (.inr x) d = M.map fun m => if m = x then d else f m := by
  induction M with
  | nil => rfl
  | cons m M ih =>
    show (if (Sum.inr m : Key) = .inr x then d else f m) :: DL.putD (keyI M) (M.map f) (.inr x) d = _
    rw [ih, List.map_cons]
    congr 1
    by_cases c : m = x
    · rw [if_pos c, if_pos (by rw [c])]
    · rw [if_neg c, if_neg fun e => c (Sum.inr.inj e)]
/-- a key that is there -/
theorem st_old {M : List Str} {f : Str → D} {x : Str} {d : D} (h : x ∈ M) : stK (keyI M) (.inr x) = keyI M ∧ stD (keyI M) (M.map f) (.inr x) d = M.map fun m => if m = x then d else f m := by
  have k := hasK_yes (keyI_mem.mpr h)
  exact ⟨if_pos k, (if_pos k).trans (put_tab2 M f x d)⟩
/-- a new one -/
theorem st_new {M : List Str} {f : Str → D} {x : Str} {d : D} (h : x ∉ M) : stK (keyI M) (.inr x) = keyI (M ++ [x]) ∧ stD (keyI M) (M.map f) (.inr x) d = (M ++ [x]).map fun m => if m = x then d else f m := by
  have k : ¬ hasK (keyI M) (.inr x) = true := by rw [hasK_no fun z => h (keyI_mem.mp z)]; decide
  refine ⟨(if_neg k).trans (by unfold keyI; rw [List.map_append]; rfl), (if_neg k).trans ?_⟩
  rw [List.map_append]
  show _ = M.map _ ++ [if x = x then d else f x]
  rw [if_pos rfl]
  congr 1
  refine List.map_congr_left fun m hm => ?_
  show f m = if m = x then d else f m
  rw [if_neg fun e : m = x => h (e ▸ hm)]
theorem got_at {M : List Str} {f : Str → D} (nd : M.Nodup) {x : Str} (h : x ∈ M) : dicGet (keyI M) (M.map f) (.inr x) = some (f x) := by
  obtain ⟨i, hi⟩ := List.getElem?_of_mem h
  exact dicGet_at nd hi (by rw [List.getElem?_map, hi]; rfl)
/-! ### the ways have no module twice -/
structure InvN (start : Str) (W : List (Str × List Str)) : Prop where
  nd : ∀ p ∈ W, p.2.Nodup
  mem : ∀ p ∈ W, ∀ x ∈ p.2, x = start ∨ x ∈ W.map (·.1)
theorem fold_invN {start : Str} {way : List Str} (hw : way.Nodup) : ∀ (l : List Str) (V : List (Str × List Str)), InvN start V → (∀ x ∈ way, x = start ∨ x ∈ V.map (·.1)) → InvN start (l.foldl (addW start way) V)
  | [], _, h, _ => h
  | o :: l, V, h, hm => by
    rw [List.foldl_cons]
    by_cases c : o ≠ start ∧ o ∉ V.map (·.1)
    · have e : addW start way V o = V ++ [(o, way ++ [o])] := by unfold addW; rw [if_pos c]
      rw [e]
      have more : ∀ x, (x = start ∨ x ∈ V.map (·.1)) → x = start ∨ x ∈ (V ++ [(o, way ++ [o])]).map (·.1) := fun x hx => hx.imp id fun z => by rw [List.map_append]; exact List.mem_append_left _ z
      refine fold_invN hw l _ ⟨fun p hp => ?_, fun p hp x hx => ?_⟩ fun x hx => more x (hm x hx)
      · rcases List.mem_append.mp hp with z | z
        · exact h.nd p z
        · rw [List.mem_singleton.mp z]
          refine List.nodup_append.mpr ⟨hw, by simp, fun a ha b hb e => ?_⟩
          have hb : b = o := by simpa using hb
          rw [hb] at e
          subst e
          exact (hm a ha).elim c.1 c.2
      · rcases List.mem_append.mp hp with z | z
        · exact more x (h.mem p z x hx)
        · rw [List.mem_singleton.mp z] at hx
          rcases List.mem_append.mp hx with y | y
          · exact more x (hm x y)
          · have y : x = o := by simpa using y
            rw [y, List.map_append]
            exact .inr (List.mem_append_right _ (by simp))
    · have e : addW start way V o = V := by unfold addW; rw [if_neg c]
      rw [e]
      exact fold_invN hw l V h hm
theorem run_invN {nx : Str → List Str} {start : Str} : ∀ (n i : Nat) (W : List (Str × List Str)), InvN start W → InvN start (runW nx start n i W)
  | 0, _, _, h => h
  | n + 1, i, W, h => by
    show InvN start (match (rowW start W)[i]? with
      | some way => runW nx start n (i + 1) (stepW nx start way W)
      | none => W)
    cases e : (rowW start W)[i]? with
    | none => exact h
    | some way =>
      refine run_invN n (i + 1) _ ?_
      rcases List.mem_cons.mp (List.mem_of_getElem? e) with rfl | hm
      · exact fold_invN (by simp) _ W h fun x hx => .inl (List.mem_singleton.mp hx)
      · obtain ⟨p, hp, rfl⟩ := List.mem_map.mp hm
        exact fold_invN (h.nd p hp) _ W h (h.mem p hp)
theorem chains_nd {nx : Str → List Str} {start : Str} (n : Nat) : InvN start (chainsS n nx start) := run_invN n 0 [] ⟨fun p hp => absurd hp List.not_mem_nil, fun p hp => absurd hp List.not_mem_nil⟩
theorem once_same {xs : List Str} (h : xs.Nodup) : (once xs).length = xs.length := ((List.perm_ext_iff_of_nodup (once_nodup xs) h).mpr fun x => once_mem).length_eq
theorem ch_zip {us : List (Str × Str)} {nx : Str → List Str} (hnx : ∀ x y, y ∈ nx x → (x, y) ∈ us) {x z : Str} {r : List Str} (h : Ch nx x r z) : ∀ u ∈ (x :: r).zip r, u ∈ us := by
  induction h with
  | nil => intro u hu; cases hu
  | cons hy _ ih =>
    intro u hu
    rcases List.mem_cons.mp hu with rfl | hu
    · exact hnx _ _ hy
    · exact ih u hu
/-! ### min of texts, of ways with their lengths -/
theorem pick_map2 {α : Type} {f : α → D} {lt : α → α → Bool} (h : ∀ a b, lessD (f a) (f b) = lt a b) : ∀ (xs : List α) (x : α), pickB lessD (f x) (xs.map f) = f (minB lt x xs)
  | [], x => rfl
  | y :: ys, x => by
    show pickB lessD (if lessD (f y) (f x) = true then f y else f x) (ys.map f) = f (minB lt (if lt y x = true then y else x) ys)
    rw [h, ← pick_map2 h ys]
    congr 1
    split <;> rfl
theorem less_str (a b : Str) : lessD (.str a) (.str b) = lessS a b := PySem.W.dataLt_str a b
theorem pyRs_strs (xs : List Str) : pyRs (xs.map .str) = xs.map PyData.str := by
  induction xs with
  | nil => rfl
  | cons x xs ih => show PyData.str x :: pyRs (xs.map .str) = _; rw [ih]; rfl
theorem alike_strs : ∀ xs ys : List Str, PySem.W.alikeAll (xs.map PyData.str) (ys.map PyData.str) = true
  | [], _ => by rw [List.map_nil, PySem.W.alikeAll]
  | _ :: _, [] => by rw [List.map_cons, List.map_nil, PySem.W.alikeAll]
  | x :: xs, y :: ys => by
    rw [List.map_cons, List.map_cons, PySem.W.alikeAll, alike_strs xs ys, PySem.W.alike]; rfl
theorem eqv_str (x y : Str) : PyData.eqv (.str x) (.str y) = decide (x = y) := by
  rw [Bool.eq_iff_iff, decide_eq_true_iff]
  simp [PyData.eqv]
theorem eqv_int (x y : Int) : PyData.eqv (.int x) (.int y) = decide (x = y) := by
  rw [Bool.eq_iff_iff, decide_eq_true_iff]
  simp [PyData.eqv]
theorem toks_strs : ∀ a b : List Str, PyProof.Rows.lexLt PyProof.Rows.itemOrd (PySem.W.keyToksAll (a.map PyData.str)) (PySem.W.keyToksAll (b.map PyData.str)) = lexL lessS a b
  | [], [] => PyProof.Rows.lex_irrefl _
  | [], y :: b => by
    rw [List.map_nil, List.map_cons, PySem.W.toks_all_cons, show PySem.W.keyToksAll [] = [Sum.inl 0] by rw [PySem.W.keyToksAll], PySem.W.lex_atom (by decide), PySem.W.lex_one]
    rfl
  | x :: a, [] => by
    rw [List.map_nil, List.map_cons, PySem.W.toks_all_cons, show PySem.W.keyToksAll [] = [Sum.inl 0] by rw [PySem.W.keyToksAll], PySem.W.lex_atom (by decide), PySem.W.lex_one]
    rfl
  | x :: a, y :: b => by
    rw [List.map_cons, List.map_cons, PySem.W.dataLt_cons (by rw [PySem.W.alike]), toks_strs a b, eqv_str, PySem.W.dataLt_str]
    show _ = if x = y then lexL lessS a b else lessS x y
    by_cases c : x = y
    · rw [decide_eq_true c, if_pos rfl, if_pos c]
    · rw [decide_eq_false c, if_neg (by decide), if_neg c]; rfl
def lwD (w : List Str) : D := .tup [.int (w.length : Nat), wayD w]
theorem less_way (a b : List Str) : lessD (lwD a) (lwD b) = wlt a b := by
  show PySem.W.dataLt (.tuple [.int (a.length : Nat), .tuple (pyRs (a.map .str))]) (.tuple [.int (b.length : Nat), .tuple (pyRs (b.map .str))]) = _
  rw [pyRs_strs, pyRs_strs, PySem.W.dataLt_pair (by rw [PySem.W.alike]) (by rw [PySem.W.alike]; exact alike_strs a b), eqv_int, PySem.W.dataLt_int]
  unfold wlt
  by_cases c : a.length = b.length
  · rw [decide_eq_true (by rw [c]), if_pos rfl, if_pos c]
    have e : PySem.W.dataLt (.tuple (a.map PyData.str)) (.tuple (b.map PyData.str)) = lexL lessS a b := by rw [PySem.W.dataLt_tuple, toks_strs]
    rw [e]
    cases q : PyData.eqv (.tuple (a.map PyData.str)) (.tuple (b.map PyData.str)) with
    | false => rfl
    | true =>
      have k := (PySem.W.toks_eqv (.tuple (a.map PyData.str)) (.tuple (b.map PyData.str)) (by rw [PySem.W.alike]; exact alike_strs a b)).1 q
      have z : PySem.W.dataLt (.tuple (a.map PyData.str)) (.tuple (b.map PyData.str)) = false := by
        unfold PySem.W.dataLt
        rw [k]
        exact PyProof.Rows.lex_irrefl _
      rw [← e, z]; rfl
  · rw [decide_eq_false (fun z => c (by omega)), if_neg (by decide), if_neg c]
    exact decide_eq_decide.mpr ⟨fun z => by omega, fun z => by omega⟩
theorem alike_texts (xs : List Str) : PySem.W.AlikeAll (pyRs (xs.map .str)) := by
  rw [pyRs_strs]
  refine ⟨fun a ha b hb => ?_, fun a ha e => ?_⟩
  · obtain ⟨x, _, rfl⟩ := List.mem_map.mp ha
    obtain ⟨y, _, rfl⟩ := List.mem_map.mp hb
    rw [PySem.W.alike]
  · obtain ⟨x, _, rfl⟩ := List.mem_map.mp ha
    cases e
theorem pyRs_lw (ws : List (List Str)) : pyRs (ws.map lwD) = ws.map fun w => PyData.tuple [.int (w.length : Nat), .tuple (w.map PyData.str)] := by
  induction ws with
  | nil => rfl
  | cons w ws ih =>
    show PyData.tuple [.int (w.length : Nat), .tuple (pyRs (w.map .str))] :: pyRs (ws.map lwD) = _
    rw [ih, pyRs_strs]; rfl
theorem alike_ways (ws : List (List Str)) : PySem.W.AlikeAll (pyRs (ws.map lwD)) := by
  rw [pyRs_lw]
  refine ⟨fun a ha b hb => ?_, fun a ha e => ?_⟩
  · obtain ⟨x, _, rfl⟩ := List.mem_map.mp ha
    obtain ⟨y, _, rfl⟩ := List.mem_map.mp hb
    rw [PySem.W.alike, PySem.W.alikeAll, PySem.W.alike, PySem.W.alikeAll, PySem.W.alike, alike_strs, PySem.W.alikeAll]; rfl
  · obtain ⟨x, _, rfl⟩ := List.mem_map.mp ha
    cases e
theorem repDs_strs : ∀ (n : Nat) (xs : List Str), DL.repDs n (xs.map .str) = true
  | _, [] => by simp [DL.repDs]
  | n, x :: xs => by
    rw [List.map_cons, DL.repDs, repDs_strs n xs]
    simp [DL.repD]
theorem repDs_ways : ∀ (n : Nat) (ws : List (List Str)), DL.repDs (n + 2) (ws.map lwD) = true
  | _, [] => by simp [DL.repDs]
  | n, w :: ws => by
    rw [List.map_cons, DL.repDs, repDs_ways n ws]
    have := repDs_strs n w
    simp [lwD, wayD, DL.repD, DL.repDs, this]
/-! ### promises -/
def spNear15 {m : Mem} : DSp m := fun ds s Q => ∃ ms us gs, ds = [.lst ((ms : List Str).map .str), .lst ((us : List (Str × Str)).map ptD), .lst ((gs : List Str).map .str)] ∧ ms.Nodup ∧ (∀ u ∈ us, u.1 ∈ ms ∧ u.2 ∈ ms) ∧ ms.length ≤ 100 ∧ us.length ≤ 100 ∧ Q (leftD ms (nearS ms us gs)) s
theorem spNear15_len {m : Mem} : ∀ ds s Qd, (spNear15 : DSp m) ds s Qd → ds.length = 3 := fun ds s Qd ⟨_, _, _, e, _⟩ => by rw [e]; rfl
theorem items_ways (W : List (Str × List Str)) : DL.itemsD (keyI (W.map (·.1))) ((W.map (·.2)).map fun w => .tup (w.map .str)) = W.map fun p => .tup [.str p.1, wayD p.2] := by
  induction W with
  | nil => rfl
  | cons p W ih =>
    exact congrArg (D.tup [.str p.1, wayD p.2] :: ·) ih
end RP
namespace RP
open PySem PySem.Spec PyProof.Rows L2 TL DL TX TO RG
theorem eqD_optN (o : Option Nat) (k : Nat) : eqD (optN o) (.int (k : Nat)) = decide (o = some k) := by
  cases o with
  | none => rfl
  | some d =>
    show eqD (.int (d : Nat)) (.int (k : Nat)) = _
    rw [eqD_nat]
    exact decide_eq_decide.mpr ⟨fun h => by rw [h], fun h => Option.some.inj h⟩
theorem relax_map {L : Str → Option Nat} {u : Str × Str} {d : Nat} (h : L u.2 = some d) (hb : L u.1 = none ∨ ∃ e, L u.1 = some e ∧ d + 1 < e) (m : Str) : relax L u m = if m = u.1 then some (d + 1) else L m := by
  unfold relax
  rw [h]
  rcases hb with hb | ⟨e, hb, lt⟩
  · rw [hb]
  · rw [hb]
    show (if d + 1 < e then fun m => if m = u.1 then some (d + 1) else L m else L) m = _
    rw [if_pos lt]
theorem relax_same {L : Str → Option Nat} {u : Str × Str} (h : L u.2 = none ∨ ∃ d e, L u.2 = some d ∧ L u.1 = some e ∧ ¬ d + 1 < e) : relax L u = L := by
  unfold relax
  rcases h with h | ⟨d, e, h, h2, lt⟩
  · rw [h]
  · rw [h, h2]
    show (if d + 1 < e then fun m => if m = u.1 then some (d + 1) else L m else L) = _
    rw [if_neg lt]
theorem near_small {ms : List Str} {us : List (Str × Str)} {G : List Str} (hm : Mods ms) (hu : Uses ms us) {L : Str → Option Nat} (N : NearOk us G ms L) {x : Str} (hx : x ∈ ms) {k : Nat} (h : L x = some (k + 1)) : k ≤ ms.length := by
  have inU : ∀ u ∈ srt lessP us, u.1 ∈ srt lessS ms ∧ u.2 ∈ srt lessS ms := fun u hu' => by
    have z := hu.ok u (mem_srt.mp hu')
    exact ⟨mem_srt.mpr z.1, mem_srt.mpr z.2.1⟩
  have hs : x ∈ srt lessS ms := mem_srt.mpr hx
  have F := chains_first hs (nexts_in (b := false) inU) (nexts_asc hu.nd)
  have inv := chains_inv hs (nexts_in (b := false) inU) (srt lessS ms).length
  obtain ⟨r, g, h1, h2, h3⟩ := Pt.ch (nx := nextsS false (srt lessP us)) (fun a b h => nexts_in2.mpr h) (N.yes x _ h)
  by_cases c : g = x
  · subst c
    obtain ⟨d, h4, h5⟩ := N.all g 0 hx (.z h2)
    rw [h] at h4
    cases h4
    omega
  · have hw : Wy (nextsS false (srt lessP us)) x (x :: r) g := Wy.app (w := [x]) h1 .one
    obtain ⟨w, q1, q2⟩ := F.least _ g hw c
    have len := (inv.ok _ q1).2.2.2
    have il := inv.len hs
    obtain ⟨r', e, h4⟩ := (F.wy _ q1).ch
    have e : w = x :: r' := e
    subst e
    rw [List.length_cons] at len
    have p := h4.pt (us := us) (G := G) (fun a b h => nexts_in2.mp h) (n := 0) (.z h2)
    obtain ⟨d, h5, h6⟩ := N.all x _ hx p
    rw [h] at h5
    cases h5
    rw [srt_len] at len il
    omega
end RP
namespace RP
open PySem PySem.Spec PyProof.Rows L2 TL DL TX TO RG
end RP

set_option Elab.async false
set_option linter.all false
set_option maxRecDepth 100000
set_option maxHeartbeats 1000000
namespace RP
open PySem PySem.Spec PyProof.Rows L2 TL DL TX TO RG


def T_near15 {m : Mem} : DTS m :=
  (dSeq (dSetD0 3)
      (dSeq (dFor (diSeq (dVar 0)) (gN 4)
        (dSeq (dDicSet 3 (dC D.non) (dVar 4))
        (dIf (dCmT inD (dVar 4) (dVar 2)) (dDicSet 3 (dC (D.int 0)) (dVar 4)) dNext)))
      (dSeq (dFor (diR1 (daCons (dB lenD (daCons (dVar 0) daNil)) daNil)) (gN 5)
        (dFor (diSeq (dVar 1)) (gTup' 2 (gCons' (gN 6) (gCons' (gN 7) gNil')))
          (dIf (dAndT (dCmT isntD' (dGetO 3 (dVar 7)) (dC D.non)) (dOrT (dCmT isD' (dGetO 3 (dVar 6)) (dC D.non)) (dCmT gtD (dGetO 3 (dVar 6)) (dOp addD (dGetO 3 (dVar 7)) (dC (D.int 1)))))) (dDicSet 3 (dOp addD (dGetO 3 (dVar 7)) (dC (D.int 1))) (dVar 6)) dNext)))
      (dRet (dVar 3)))))
theorem read_near15 {m : Mem} : ∀ ds s Qd, (spNear15 : DSp m) ds s Qd → (T_near15 : DTS m) (endsOf Qd) (startD ["_law_modules_here", "_law_uses_here", "_law_goals", "_law_left", "_law_module", "_law_turn", "_law_user", "_law_used"] ds) s := by
  intro ds s Qd h
  obtain ⟨ms, us, gs, rfl, nd, hin, l1, l2, hQ⟩ := h
  have kl : ∀ M : List Str, M.length ≤ 200 → (keyI M).length + 1 ≤ 1000 := fun M h => by unfold keyI; rw [List.length_map]; omega
  refine ⟨_, rfl, fun pre ρ s' => s' = s ∧ ∃ c4, ρ = [.sh (.lst (ms.map .str)), .sh (.lst (us.map ptD)), .sh (.lst (gs.map .str)), .ow (.dic (keyI (ms.take pre.length)) ((ms.take pre.length).map fun m => optN (near0 gs m))), c4, .no, .no, .no], ⟨rfl, .no, rfl⟩, ?_, ?_⟩
  · rintro pre y post ρ s' e ⟨rfl, c4, rfl⟩
    obtain ⟨m0, hm0, rfl, -⟩ := mid_map e
    have ht : ms.take (pre ++ [D.str m0]).length = ms.take pre.length ++ [m0] := by rw [List.length_append, List.length_singleton, List.take_add_one, hm0]; rfl
    have nk : m0 ∉ ms.take pre.length := fun hx => by
      have z : (ms.take pre.length ++ [m0]).Nodup := by rw [← ht]; exact nd.sublist (List.take_sublist _ _)
      exact (List.nodup_append.mp z).2.2 m0 hx m0 (by simp) rfl
    have tl : (ms.take pre.length).length ≤ 100 := by rw [List.length_take]; omega
    obtain ⟨e1, e2⟩ := st_new (f := fun m => optN (near0 gs m)) (d := D.non) nk
    refine ⟨⟨_, _, rfl⟩, _, _, m0, rfl, rfl, kl _ (by omega), ?_⟩
    rw [e1, e2]
    refine ⟨rfl, plain_strs 58 _, ?_⟩
    rw [any_str]
    refine ifB2 (fun h => ?_) fun h => ?_
    · have hg := of_decide_eq_true h
      obtain ⟨e3, e4⟩ := st_old (M := ms.take pre.length ++ [m0]) (f := fun m => if m = m0 then D.non else optN (near0 gs m)) (d := D.int 0) (x := m0) (by simp)
      refine ⟨⟨_, _, rfl⟩, _, _, m0, rfl, rfl, kl _ (by rw [List.length_append]; show _ + 1 ≤ _; omega), ?_⟩
      rw [e3, e4]
      refine ⟨rfl, .sh (.str m0), ?_⟩
      rw [ht]
      have em : ((ms.take pre.length ++ [m0]).map fun m => if m = m0 then D.int 0 else (if m = m0 then D.non else optN (near0 gs m))) = (ms.take pre.length ++ [m0]).map fun m => optN (near0 gs m) := by
        refine List.map_congr_left fun m _ => ?_
        by_cases c : m = m0
        · rw [if_pos c, c]
          unfold near0
          rw [if_pos hg]; rfl
        · rw [if_neg c, if_neg c]
      rw [em]; rfl
    · have hg := of_decide_eq_false h
      refine ⟨rfl, .sh (.str m0), ?_⟩
      rw [ht]
      have em : ((ms.take pre.length ++ [m0]).map fun m => if m = m0 then D.non else optN (near0 gs m)) = (ms.take pre.length ++ [m0]).map fun m => optN (near0 gs m) := by
        refine List.map_congr_left fun m _ => ?_
        by_cases c : m = m0
        · rw [if_pos c, c]
          unfold near0
          rw [if_neg hg]; rfl
        · rw [if_neg c]
      rw [em]; rfl
  · rintro ρ s' ⟨rfl, c4, rfl⟩
    rw [List.length_map, List.take_length]
    refine ⟨_, _, rfl, rfl, _, rfl, by omega, by rw [List.length_map]; omega, fun pre ρ s2 => s2 = s' ∧ ∃ c4 c5 c6 c7, ρ = [.sh (.lst (ms.map .str)), .sh (.lst (us.map ptD)), .sh (.lst (gs.map .str)), .ow (.dic (keyI ms) (ms.map fun m => optN (nearN us gs pre.length m))), c4, c5, c6, c7], ⟨rfl, c4, .no, .no, .no, rfl⟩, ?_, ?_⟩
    · rintro pre y post ρ s2 e ⟨rfl, c4, c5, c6, c7, rfl⟩
      refine ⟨_, rfl, fun pre2 ρ s3 => s3 = s2 ∧ ∃ c6 c7, ρ = [.sh (.lst (ms.map .str)), .sh (.lst (us.map ptD)), .sh (.lst (gs.map .str)), .ow (.dic (keyI ms) (ms.map fun m => optN ((us.take pre2.length).foldl relax (nearN us gs pre.length) m))), c4, .sh y, c6, c7], ⟨rfl, c6, c7, rfl⟩, ?_, ?_⟩
      · rintro pre2 y2 post2 ρ s3 e2 ⟨rfl, c6, c7, rfl⟩
        obtain ⟨u, hu, rfl, -⟩ := mid_map e2
        have ht : (us.take (pre2 ++ [ptD u]).length).foldl relax (nearN us gs pre.length) = relax ((us.take pre2.length).foldl relax (nearN us gs pre.length)) u := by rw [List.length_append, List.length_singleton, List.take_add_one, hu, List.foldl_append]; rfl
        generalize (us.take pre2.length).foldl relax (nearN us gs pre.length) = L at ht ⊢
        have um := hin u (List.mem_of_getElem? hu)
        have g1 := got_at (f := fun m => optN (L m)) nd um.1
        have g2 := got_at (f := fun m => optN (L m)) nd um.2
        refine ⟨_, rfl, rfl, _, _, rfl, _, _, rfl, rfl, ⟨_, _, rfl⟩, _, _, u.2, _, rfl, rfl, g2, ?_⟩
        cases h2 : L u.2 with
        | none =>
          refine ⟨(by intro w z; cases z), rfl, .sh (.str u.1), .sh (.str u.2), ?_⟩
          rw [ht, relax_same (.inl h2)]; rfl
        | some d =>
          rw [h2] at g2
          refine ⟨(by intro w z; cases z), ⟨_, _, rfl⟩, _, _, u.1, _, rfl, rfl, g1, ?_⟩
          have put : (L u.1 = none ∨ ∃ e, L u.1 = some e ∧ d + 1 < e) → ∀ E : DEnds m, E.nx [.sh (.lst (ms.map .str)), .sh (.lst (us.map ptD)), .sh (.lst (gs.map .str)), .ow (.dic (keyI ms) (ms.map fun m => optN (relax L u m))), c4, .sh y, .sh (.str u.1), .sh (.str u.2)] s3 → (dDicSet 3 (dOp addD (dGetO 3 (dVar 7)) (dC (D.int 1))) (dVar 6) : DTS m) E
              [.sh (.lst (ms.map .str)), .sh (.lst (us.map ptD)), .sh (.lst (gs.map .str)), .ow (.dic (keyI ms) (ms.map fun m => optN (L m))), c4, .sh y, .sh (.str u.1), .sh (.str u.2)] s3 := fun hb E hE => by
            refine ⟨⟨_, _, rfl⟩, _, _, u.2, _, rfl, rfl, g2, ⟨_, _, rfl⟩, _, _, u.1, rfl, rfl, kl _ (by omega), ?_⟩
            obtain ⟨e3, e4⟩ := st_old (M := ms) (f := fun m => optN (L m)) (d := D.int ((d : Int) + 1)) um.1
            rw [e3, e4]
            have em : (ms.map fun m => if m = u.1 then D.int ((d : Int) + 1) else optN (L m)) = ms.map fun m => optN (relax L u m) := by
              refine List.map_congr_left fun m _ => ?_
              rw [relax_map h2 hb]
              by_cases c : m = u.1
              · rw [if_pos c, if_pos c]; rfl
              · rw [if_neg c, if_neg c]
            rw [em]
            exact hE
          cases h1 : L u.1 with
          | none => exact ⟨(by intro w z; cases z), put (.inl h1) _ ⟨rfl, .sh (.str u.1), .sh (.str u.2), by rw [ht]⟩⟩
          | some e0 =>
            rw [h1] at g1
            refine ⟨(by intro w z; cases z), ⟨_, _, rfl⟩, _, _, u.1, _, rfl, rfl, g1, ⟨_, _, rfl⟩, _, _, u.2, _, rfl, rfl, g2, ?_⟩
            refine ifBd (fun c => put (.inr ⟨e0, h1, by omega⟩) _ ⟨rfl, .sh (.str u.1), .sh (.str u.2), by rw [ht]⟩) fun c => ?_
            refine ⟨rfl, .sh (.str u.1), .sh (.str u.2), ?_⟩
            rw [ht, relax_same (.inr ⟨d, e0, h2, h1, by omega⟩)]; rfl
      · rintro ρ s3 ⟨rfl, c6, c7, rfl⟩
        rw [List.length_map, List.take_length]
        refine ⟨rfl, c4, .sh y, c6, c7, ?_⟩
        rw [List.length_append, List.length_singleton]; rfl
    · rintro ρ s2 ⟨rfl, c4, c5, c6, c7, rfl⟩
      have el : (rngD 0 (Int.toNat ((ms.map D.str).length : Nat))).length = ms.length := by rw [rngD_length, List.length_map]; rfl
      rw [el]
      exact hQ
end RP

set_option Elab.async false
set_option linter.all false
set_option maxRecDepth 100000
set_option maxHeartbeats 1000000
/-! LP11: the first chain from some modules to some modules: as chains_from finds it, and step by step -/
namespace RP
open PySem PySem.Spec PyProof.Rows L2 TL DL TX TO
/-- k steps on from x, which is k from a goal -/
def grZ (us : List (Str × Str)) (L : Str → Option Nat) : Nat → Str → List Str
  | 0, _ => []
  | k + 1, x => minO (candS us L x k) :: grZ us L k (minO (candS us L x k))
theorem gz_len {us : List (Str × Str)} {L : Str → Option Nat} : ∀ (k : Nat) (x : Str), (grZ us L k x).length = k
  | 0, _ => rfl
  | k + 1, x => by
    show (grZ us L k _).length + 1 = _
    rw [gz_len k]
section
variable {us : List (Str × Str)} {ms G : List Str} {L : Str → Option Nat}
theorem gz_ch {nx : Str → List Str} (hnx : ∀ x y, (x, y) ∈ us → y ∈ nx x) (N : NearOk us G ms L) (hin : ∀ u ∈ us, u.2 ∈ ms) : ∀ (k : Nat) (x : Str), x ∈ ms → L x = some k → ∃ z, Ch nx x (grZ us L k x) z ∧ L z = some 0 ∧ z ∈ ms
  | 0, x, hx, h => ⟨x, .nil, h, hx⟩
  | k + 1, x, hx, h => by
    obtain ⟨h1, h2, _⟩ := gr_step N hin hx h
    obtain ⟨z, h3, h4, h5⟩ := gz_ch hnx N hin k _ (hin _ h1) h2
    exact ⟨z, .cons (hnx _ _ h1) h3, h4, h5⟩
theorem gz_first {nx : Str → List Str} (hnx : ∀ x y, y ∈ nx x → (x, y) ∈ us) (N : NearOk us G ms L) (hin : ∀ u ∈ us, u.2 ∈ ms) : ∀ (k : Nat) (x : Str), x ∈ ms → L x = some k → ∀ (r : List Str) (z : Str), Ch nx x r z → Pt us G 0 z → r.length = k → lexL lessS r (grZ us L k x) = false
  | 0, x, hx, h, r, z, hr, hz, hl => by
    rw [List.eq_nil_of_length_eq_zero hl]; rfl
  | k + 1, x, hx, h, r, z, hr, hz, hl => by
    cases hr with
    | nil => cases hl
    | @cons _ y _ r' hy hr' =>
      have hl : r'.length = k := Nat.succ.inj hl
      have hu := hnx _ _ hy
      have hym := hin _ hu
      obtain ⟨d, h1, h2⟩ := N.all y r'.length hym (hr'.pt hnx hz)
      obtain ⟨e, h3, h4⟩ := N.all x (d + 1) hx (.s hu (N.yes y d h1))
      rw [h] at h3
      cases h3
      have : d = k := by omega
      subst this
      obtain ⟨_, g2, g3⟩ := gr_step N hin hx h
      have g3 := g3 y hu h1
      show (if y = minO (candS us L x d) then lexL lessS r' (grZ us L d (minO (candS us L x d))) else lessS y (minO (candS us L x d))) = false
      by_cases c : y = minO (candS us L x d)
      · rw [if_pos c, ← c]
        exact gz_first hnx N hin d y hym h1 r' z hr' hz hl
      · rw [if_neg c]; exact g3
end
/-- a way from one of S to one of G that is another one -/
def ChainW (nx : Str → List Str) (S G : List Str) (v : List Str) : Prop := ∃ s ∈ S, ∃ x ∈ G, x ≠ s ∧ Wy nx s v x
theorem least_min {P : List Str → Prop} {ws : List (List Str)} (h1 : ∀ w ∈ ws, P w) (h2 : ∀ v, P v → ∃ w ∈ ws, wle w v) : LeastO P (minWO ws) := by
  cases ws with
  | nil => intro v hv; obtain ⟨w, hw, _⟩ := h2 v hv; cases hw
  | cons w ws =>
    refine ⟨h1 _ (minB_mem ws w), fun v hv => ?_⟩
    obtain ⟨c, hc, hcv⟩ := h2 v hv
    exact wle_tr (minB_le linW ws w c hc) hcv
/-- what the program finds -/
def chainA (n : Nat) (nx : Str → List Str) (S G : List Str) : List (List Str) := S.flatMap fun s => ((chainsS n nx s).filter fun p => decide (p.1 ∈ G)).map (·.2)
theorem chainA_first {n : Nat} {nx : Str → List Str} {S G : List Str} (F : ∀ s ∈ S, Firsts nx s (chainsS n nx s)) : LeastO (ChainW nx S G) (minWO (chainA n nx S G)) := by
  refine least_min (fun w hw => ?_) fun v ⟨s, hs, x, hx, ne, hv⟩ => ?_
  · obtain ⟨s, hs, hw⟩ := List.mem_flatMap.mp hw
    obtain ⟨p, hp, rfl⟩ := List.mem_map.mp hw
    obtain ⟨h1, h2⟩ := List.mem_filter.mp hp
    exact ⟨s, hs, p.1, of_decide_eq_true h2, (F s hs).no p h1, (F s hs).wy p h1⟩
  · obtain ⟨w, h1, h2⟩ := (F s hs).least v x hv ne
    exact ⟨w, List.mem_flatMap.mpr ⟨s, hs, List.mem_map.mpr ⟨(x, w), List.mem_filter.mpr ⟨h1, decide_eq_true hx⟩, rfl⟩⟩, h2⟩
/-- what the law awaits -/
def goalsN (G : List Str) (s : Str) : List Str := G.filter fun g => !decide (g = s)
def firstC (ms : List Str) (us : List (Str × Str)) (S G : List Str) : List (List Str) := S.filterMap fun s => (nearS ms us (goalsN G s) s).map fun k => s :: grZ us (nearS ms us (goalsN G s)) k s
theorem law_first {ms : List Str} {us : List (Str × Str)} (hm : Mods ms) (hu : Uses ms us) {nx : Str → List Str} (hnx : ∀ x y, y ∈ nx x ↔ (x, y) ∈ us) {S G : List Str} (hS : ∀ s ∈ S, s ∈ ms) : LeastO (ChainW nx S G) (minWO (firstC ms us S G)) := by
  have hin : ∀ u ∈ us, u.2 ∈ ms := fun u h => (hu.ok u h).2.1
  have gl : ∀ {s z}, Pt us (goalsN G s) 0 z → z ∈ G ∧ z ≠ s := fun {s z} p => by
    cases p with
    | z h =>
      obtain ⟨h1, h2⟩ := List.mem_filter.mp h
      exact ⟨h1, by simpa using h2⟩
  refine least_min (fun w hw => ?_) fun v ⟨s, hs, x, hx, ne, hv⟩ => ?_
  · obtain ⟨s, hs, hw⟩ := List.mem_filterMap.mp hw
    obtain ⟨k, hk, rfl⟩ := Option.map_eq_some_iff.mp hw
    have N := near_ok hm hu (goalsN G s)
    obtain ⟨z, h1, h2, h3⟩ := gz_ch (nx := nx) (fun x y h => (hnx x y).mpr h) N hin k s (hS s hs) hk
    obtain ⟨g1, g2⟩ := gl (N.yes z 0 h2)
    exact ⟨s, hs, z, g1, g2, Wy.app (w := [s]) h1 Wy.one⟩
  · have N := near_ok hm hu (goalsN G s)
    obtain ⟨r, rfl, hr⟩ := hv.ch
    have hz : Pt us (goalsN G s) 0 x := .z (List.mem_filter.mpr ⟨hx, by simp [ne]⟩)
    have p := hr.pt (us := us) (fun a b h => (hnx a b).mp h) hz
    obtain ⟨k, h1, h2⟩ := N.all s _ (hS s hs) p
    refine ⟨s :: grZ us (nearS ms us (goalsN G s)) k s, List.mem_filterMap.mpr ⟨s, hs, by rw [h1]; rfl⟩, ?_⟩
    have hl := gz_len (us := us) (L := nearS ms us (goalsN G s)) k s
    by_cases c : k < r.length
    · refine wle_of (wlt_less ?_)
      rw [List.length_cons, List.length_cons, hl]; omega
    · have e : r.length = k := by omega
      have := gz_first (nx := nx) (fun a b h => (hnx a b).mp h) N hin k s (hS s hs) h1 r x hr hz e
      show wlt (s :: r) (s :: grZ us (nearS ms us (goalsN G s)) k s) = false
      rw [wlt_eq (by rw [List.length_cons, List.length_cons, hl, e])]
      have z := lexL_pre [s] r (grZ us (nearS ms us (goalsN G s)) k s)
      exact z.trans this
theorem chainW_congr {nx : Str → List Str} {S G S' G' : List Str} (h1 : ∀ x, x ∈ S ↔ x ∈ S') (h2 : ∀ x, x ∈ G ↔ x ∈ G') {v : List Str} : ChainW nx S G v ↔ ChainW nx S' G' v :=
  ⟨fun ⟨s, hs, x, hx, r⟩ => ⟨s, (h1 s).mp hs, x, (h2 x).mp hx, r⟩, fun ⟨s, hs, x, hx, r⟩ => ⟨s, (h1 s).mpr hs, x, (h2 x).mpr hx, r⟩⟩
theorem LeastO.congr {P Q : List Str → Prop} (h : ∀ v, P v ↔ Q v) {o : Option (List Str)} (l : LeastO P o) : LeastO Q o := by
  cases o with
  | none => exact fun v hv => l v ((h v).mpr hv)
  | some w => exact ⟨(h w).mp l.1, fun v hv => l.2 v ((h v).mpr hv)⟩
/-- the law's answer is the program's -/
theorem chain_due12 {ms : List Str} {us : List (Str × Str)} (hm : Mods ms) (hu : Uses ms us) (ss ts : List Str) : minWO (firstC ms us (srt lessS (ms.filter (anyCov ss))) (srt lessS (ms.filter (anyCov ts)))) = minWO (chainA ms.length (nextsS false (srt lessP us)) (underS ms ss) (underS ms ts)) := by
  have hS : ∀ s ∈ srt lessS (ms.filter (anyCov ss)), s ∈ ms := fun s hs => (List.mem_filter.mp (mem_srt.mp hs)).1
  have hS2 : ∀ s ∈ underS ms ss, s ∈ ms := fun s hs => mem_srt.mp (List.mem_filter.mp hs).1
  refine (law_first hm hu (nx := nextsS false (srt lessP us)) (fun x y => nexts_in2) hS).uniq (LeastO.congr (fun v => chainW_congr (fun x => under_own.symm) fun x => under_own.symm) (chainA_first fun s hs => ?_))
  exact chains_first (hS2 s hs) (fun m _ x h => (hu.ok _ (nexts_in2.mp h)).2.1) (nexts_asc hu.nd)
/-- the first chain is one, of at most as many modules -/
theorem chain_hold12 {ms : List Str} {us : List (Str × Str)} (hm : Mods ms) (hu : Uses ms us) {ss ts w : List Str} (h : minWO (chainA ms.length (nextsS false (srt lessP us)) (underS ms ss) (underS ms ts)) = some w) : holdD ms us ss ts (wayD w) = true ∧ w.length ≤ ms.length ∧ ∀ x ∈ w, x ∈ ms := by
  have inU : ∀ u ∈ srt lessP us, u.1 ∈ srt lessS ms ∧ u.2 ∈ srt lessS ms := fun u hu' => by
    have z := hu.ok u (mem_srt.mp hu')
    exact ⟨mem_srt.mpr z.1, mem_srt.mpr z.2.1⟩
  have hw : w ∈ chainA ms.length (nextsS false (srt lessP us)) (underS ms ss) (underS ms ts) := by
    generalize chainA ms.length (nextsS false (srt lessP us)) (underS ms ss) (underS ms ts) = C at h
    cases C with
    | nil => cases h
    | cons c cs =>
      have h : some (minB wlt c cs) = some w := h
      injection h with h
      rw [← h]; exact minB_mem cs c
  obtain ⟨s, hs, hw⟩ := List.mem_flatMap.mp hw
  obtain ⟨hs', cs⟩ := List.mem_filter.mp hs
  have F := chains_first hs' (nexts_in (b := false) inU) (nexts_asc hu.nd)
  have inv := chains_inv hs' (nexts_in (b := false) inU) (srt lessS ms).length
  have N := chains_nd (nx := nextsS false (srt lessP us)) (start := s) (srt lessS ms).length
  rw [srt_len] at F inv N
  have il := inv.len hs'
  rw [srt_len] at il
  generalize chainsS ms.length (nextsS false (srt lessP us)) s = W at hw F inv N il
  obtain ⟨p, hp, rfl⟩ := List.mem_map.mp hw
  obtain ⟨hp, hg⟩ := List.mem_filter.mp hp
  have hg := of_decide_eq_true hg
  have wy := F.wy p hp
  obtain ⟨r, er, hr⟩ := wy.ch
  have inm : ∀ x ∈ p.2, x ∈ ms := fun x hx => by
    rcases N.mem p hp x hx with z | z
    · rw [z]; exact mem_srt.mp hs'
    · obtain ⟨p', hp', rfl⟩ := List.mem_map.mp z
      exact mem_srt.mp (inv.ok p' hp').1
  refine ⟨?_, by have := (inv.ok p hp).2.2.2; omega, inm⟩
  have l2 : 2 ≤ p.2.length := by
    rw [er]
    cases hr with
    | nil => exact absurd rfl (F.no p hp)
    | cons _ _ => exact Nat.succ_le_succ (Nat.succ_le_succ (Nat.zero_le _))
  show (match txts (p.2.map .str) with
    | some xs => rowB ms us xs && (anyCov ss (xs.headD Str.empty) && anyCov ts (xs.getLastD Str.empty))
    | none => false) = true
  rw [txts_map]
  show (rowB ms us p.2 && (anyCov ss (p.2.headD Str.empty) && anyCov ts (p.2.getLastD Str.empty))) = true
  rw [Bool.and_eq_true, Bool.and_eq_true]
  refine ⟨?_, ?_, ?_⟩
  · unfold rowB
    rw [Bool.and_eq_true, Bool.and_eq_true, Bool.and_eq_true, List.all_eq_true, List.all_eq_true]
    refine ⟨decide_eq_true l2, fun x hx => decide_eq_true (inm x hx), decide_eq_true (once_same (N.nd p hp)), fun u hu' => ?_⟩
    rw [er] at hu'
    exact decide_eq_true (ch_zip (fun x y h => nexts_in2.mp h) hr u hu')
  · rw [er]; exact cs
  · rw [wy.last]; exact (List.mem_filter.mp hg).2
end RP

set_option Elab.async false
set_option linter.all false
set_option maxRecDepth 100000
set_option maxHeartbeats 1000000
/-! EM5: {e for x in a for y in b}, each e a text: at the model -/
namespace SC2
open PySem PySem.Spec PyProof.Rows L2 TL DL TX TO
abbrev two (elt t0 i0 t1 i1 : Expr) (sc : Scope) (pos : Pos) : Expr := .SetComp elt [⟨t0, i0, [], 0⟩, ⟨t1, i1, [], 0⟩] sc pos
section
variable {prog : Program} {w : World} {A : Around} {R : Result → Shared → Prop} {s : Shared} {elt t0 i0 t1 i1 : Expr} {sc : Scope} {pos : Pos} {it acc : Value} {env : Env}
end
section
variable {X : Cx}
end
end SC2

set_option Elab.async false
set_option linter.all false
set_option maxRecDepth 100000
set_option maxHeartbeats 1000000
/-! EM6: sorted({e for x in a for y in b}), each e a text: over data -/
namespace DL
open PySem PySem.Spec PyProof.Rows L2 TL TX TO
section
variable {X : Cx} {m : Mem}
end
end DL

set_option Elab.async false
set_option linter.all false
set_option maxRecDepth 100000
set_option maxHeartbeats 1000000
/-! EM7: max(x, key=len, default=None), x a list of texts -/
namespace DL
open PySem PySem.Spec PyProof.Rows L2 TL TX TO
section
variable {X : Cx} {m : Mem} {e : Expr} {p p2 p3 p4 p5 pos : Pos} {k : Nat}
end
end DL

set_option Elab.async false
set_option linter.all false
set_option maxRecDepth 100000
set_option maxHeartbeats 1000000
/-! EM8: list(x), x a list, a tuple or a text -/
namespace DL
open PySem PySem.Spec PyProof.Rows L2 TL TX TO
section
variable {X : Cx}
end
section
variable {X : Cx} {m : Mem} {E : Ent m} {a b : Expr} {ta tb : DT m} {pos pos' bp : Pos}
end
end DL

set_option Elab.async false
set_option linter.all false
set_option maxRecDepth 100000
set_option maxHeartbeats 1000000
/-! EM9: a class's method of the class itself with *rest, over data; cls(e, ..), cls a parameter -/
namespace DL
open PySem PySem.Spec PyProof.Rows L2 TL TX TO
/-- a def keeps its promise wherever it is called with plain arguments -/
structure FnS (P : Program) (w : World) (K : PySem.W.Frag) (mg : Str → Option Value) (base : Heap) (k : Nat) (f : Addr) (sp : Sp) : Prop where
  run : ∀ (A : Around) (outer : List Env) (s : Shared) (H : Hp) (us : List Value) (vs : List V) (Q : VK) (E : XK), RoomG k A → Env0 P w K mg base A outer s H → Vals vs us → sp vs H Q E → codeAny (model P w) A (.call (.ref f) ⟨us, []⟩) (CR CX0 outer P w H s Q E) s
section
variable {P : Program} {w : World} {K : PySem.W.Frag} {mg : Str → Option Value} {base : Heap} {k : Nat} {f : Addr} {sp : Sp} {m : Mem}
theorem FnS.mono {j : Nat} (F : FnS P w K mg base j f sp) (h : j ≤ k) : FnS P w K mg base k f sp := ⟨fun A o s H us vs Q E hr => F.run A o s H us vs Q E (hr.mono h)⟩
theorem FnS.imp {sp' : Sp} (F : FnS P w K mg base k f sp) (h : ∀ vs H Q E, sp' vs H Q E → sp vs H Q E) : FnS P w K mg base k f sp' := ⟨fun A o s H us vs Q E hr e r q => F.run A o s H us vs Q E hr e r (h vs H Q E q)⟩
end
/-! ### C.m(e, ..) -/
section
variable {X : Cx} {m : Mem} {C p g f : Addr} {mc : Value} {k : Nat} {o e : Expr} {es : List Expr} {mn x : Str} {pos apos px : Pos} {ta : TE} {t : TA} {pl : Sem Bool} {to : DT m} {u : DTA m} {fd : FuncData} {ps : List Str}
/-! ### cls(e, ..), cls a local that holds the class -/
end
end DL

set_option Elab.async false
set_option linter.all false
set_option maxRecDepth 100000
/-! EM10: for k in f(x, y): f is asked knowing x alone, so that what it gives is seen to be new, and may be locked -/
namespace DL
open PySem PySem.Spec PyProof.Rows L2 TL TX TO
section
variable {X : Cx} {m : Mem} {e : Expr} {es : List Expr} {u : DTA m}
end
end DL
namespace DL
open PySem PySem.Spec PyProof.Rows L2 TL TX TO
section
variable {X : Cx} {m : Mem} {k : Nat} {C f : Addr} {fd : FuncData} {ps : List Str} {sp : DSp m} {a b : Expr} {ta tb : DT m} {pos : Pos}
end
end DL
namespace DL
open PySem PySem.Spec PyProof.Rows L2
end DL

set_option Elab.async false
set_option linter.all false
set_option maxRecDepth 100000
set_option maxHeartbeats 1000000
/-! EM11: {k: e for x in a if test}, each k a text that is new, over data -/
namespace DL
open PySem PySem.Spec PyProof.Rows L2 TL TX TO
section
variable {X : Cx} {m : Mem}
end
end DL

set_option Elab.async false
set_option linter.all false
set_option maxRecDepth 100000
set_option maxHeartbeats 1000000
/-! EM12: tuple(zip(a, b)) of two tuples -/
namespace ZN
open PySem PySem.Spec PyProof.Rows L2 RZ
open PySem.Sem (wp)
open AutoSeq1 (wpAny_loadPart')
/-- the zip, what it holds and its sources, at turn i -/
structure ZSt (h : Heap) (z TI TO i1 i2 l1 l2 : Addr) (xs ys : Array Value) (i : Nat) : Prop where
  hz : ∃ f0 f1, IsZ h z TI TO f0 f1 ∧ Mark f0
  hTI : IsPair h TI (.ref i1) (.ref i2)
  hTO : ∃ x y, IsPair h TO x y
  h1 : h.IsTupleIter i1 l1 i
  h2 : h.IsTupleIter i2 l2 i
  hl1 : h.IsTuple l1 xs
  hl2 : h.IsTuple l2 ys
theorem ZSt.keep {h h' : Heap} {z TI TO i1 i2 l1 l2 : Addr} {xs ys : Array Value} {i : Nat} (q : ZSt h z TI TO i1 i2 l1 l2 xs ys i) {S : Addr} (k : ∀ b o, b ≠ S → h.get? b = some o → h'.get? b = some o)
    (n : S ∉ [z, TI, TO, i1, i2, l1, l2]) : ZSt h' z TI TO i1 i2 l1 l2 xs ys i := by
  simp only [List.mem_cons, List.not_mem_nil, or_false, not_or] at n
  obtain ⟨n1, n2, n3, n4, n5, n6, n7⟩ := n
  obtain ⟨⟨f0, f1, hz, m⟩, hTI, ⟨x, y, hTO⟩, h1, h2, hl1, hl2⟩ := q
  refine ⟨⟨f0, f1, k z _ (Ne.symm n1) hz, m⟩, k TI _ (Ne.symm n2) hTI, ⟨x, y, k TO _ (Ne.symm n3) hTO⟩, h1.at fun o q => k i1 o (Ne.symm n4) q, h2.at fun o q => k i2 o (Ne.symm n5) q, ?_, ?_⟩
  · obtain ⟨o, ho, r⟩ := hl1; exact ⟨o, k l1 o (Ne.symm n6) ho, r⟩
  · obtain ⟨o, ho, r⟩ := hl2; exact ⟨o, k l2 o (Ne.symm n7) ho, r⟩
/-- the pairs that have been handed out -/
structure MadeZ (xs ys : Array Value) (lo : Addr) (h : Heap) (as : List Addr) : Prop where
  rise : as.Pairwise (· < ·)
  above : ∀ a ∈ as, lo < a
  pairs : ∀ (j : Nat) (a : Addr), as[j]? = some a → ∃ x y, xs[j]? = some x ∧ ys[j]? = some y ∧ IsPair h a x y
theorem MadeZ.there {xs ys : Array Value} {lo : Addr} {h : Heap} {as : List Addr} (g : MadeZ xs ys lo h as) {a : Addr} (ha : a ∈ as) : a < h.objs.size := by
  obtain ⟨j, hj⟩ := List.mem_iff_getElem?.mp ha
  obtain ⟨_, _, _, _, e⟩ := g.pairs j a hj
  exact Heap.lt_size e
section
variable {prog : Program} {w : World} {A : Around} {s : Shared} {R : Result → Shared → Prop} {xs ys : Array Value}
end
section
variable {prog : Program} {w : World} {A : Around} {E : Value → Shared → Prop} {s : Shared} {xs ys : Array Value}
end
section
variable {prog : Program} {w : World} {A : Around} {E : Value → Shared → Prop} {s : Shared} {xs ys : Array Value}
end
end ZN
namespace ZN
open PySem PySem.Spec PyProof.Rows L2 RZ
end ZN
namespace DL
open PySem PySem.Spec PyProof.Rows L2 TL
section
variable {X : Cx} {m : Mem} {ta : DTA m}
end
end DL

set_option Elab.async false
set_option linter.all false
set_option maxRecDepth 100000
set_option maxHeartbeats 1000000
/-! EM13: any data in a tuple or a list of pairs of texts -/
namespace DL
open PySem PySem.Spec PyProof.Rows L2 TL
open SeqAt (EqAt RcAt)
section
variable {A : Around} {s : Shared}
end
section
variable {X : Cx}
end
end DL

set_option Elab.async false
set_option linter.all false
set_option maxRecDepth 100000
set_option maxHeartbeats 1000000
/-! EM14: a value that is smaller than what is owned does not hold it: behind it the own lists are the slots' own again -/
namespace DL
open PySem PySem.Spec PyProof.Rows L2 TL TX TO
section
variable {X : Cx} {pins : List (Addr × Obj)} {σ : L2.St} {H : Hp} {s : Shared}
end
section
variable {X : Cx} {m : Mem} {e : Expr} {te : DT m}
end
end DL

set_option Elab.async false
set_option linter.all false
set_option maxRecDepth 100000
set_option maxHeartbeats 1000000
/-! ZL: zip of two lists, its pairs under one name; list(zip(a, b)): as ZN and EM12, over lists -/
namespace ZL
open PySem PySem.Spec PyProof.Rows L2 RZ ZN
open PySem.Sem (wp)
section
variable {prog : Program} {w : World} {A : Around} {E : Value → Shared → Prop} {s : Shared}
end
/-- the zip, what it holds and its sources, at turn i -/
structure ZSt (h : Heap) (z TI TO i1 i2 l1 l2 : Addr) (xs ys : Array Value) (i : Nat) : Prop where
  hz : ∃ f0 f1, IsZ h z TI TO f0 f1 ∧ Mark f0
  hTI : IsPair h TI (.ref i1) (.ref i2)
  hTO : ∃ x y, IsPair h TO x y
  h1 : h.IsListIter i1 l1 i
  h2 : h.IsListIter i2 l2 i
  hl1 : h.IsList l1 xs
  hl2 : h.IsList l2 ys
theorem ZSt.keep {h h' : Heap} {z TI TO i1 i2 l1 l2 : Addr} {xs ys : Array Value} {i : Nat} (q : ZSt h z TI TO i1 i2 l1 l2 xs ys i) {S : Addr} (k : ∀ b o, b ≠ S → h.get? b = some o → h'.get? b = some o)
    (n : S ∉ [z, TI, TO, i1, i2, l1, l2]) : ZSt h' z TI TO i1 i2 l1 l2 xs ys i := by
  simp only [List.mem_cons, List.not_mem_nil, or_false, not_or] at n
  obtain ⟨n1, n2, n3, n4, n5, n6, n7⟩ := n
  obtain ⟨⟨f0, f1, hz, m⟩, hTI, ⟨x, y, hTO⟩, h1, h2, hl1, hl2⟩ := q
  refine ⟨⟨f0, f1, k z _ (Ne.symm n1) hz, m⟩, k TI _ (Ne.symm n2) hTI, ⟨x, y, k TO _ (Ne.symm n3) hTO⟩, h1.at fun o q => k i1 o (Ne.symm n4) q, h2.at fun o q => k i2 o (Ne.symm n5) q, ?_, ?_⟩
  · obtain ⟨o, ho, r⟩ := hl1; exact ⟨o, k l1 o (Ne.symm n6) ho, r⟩
  · obtain ⟨o, ho, r⟩ := hl2; exact ⟨o, k l2 o (Ne.symm n7) ho, r⟩
section
variable {prog : Program} {w : World} {A : Around} {s : Shared} {R : Result → Shared → Prop} {xs ys : Array Value}
end
section
variable {prog : Program} {w : World} {A : Around} {s : Shared} {R : Result → Shared → Prop} {xs ys : Array Value}
end
section
variable {prog : Program} {w : World} {A : Around} {E : Value → Shared → Prop} {s : Shared} {xs ys : Array Value}
end
end ZL
namespace DL
open PySem PySem.Spec PyProof.Rows L2 TL
section
variable {X : Cx} {m : Mem} {ta : DTA m}
end
end DL

set_option Elab.async false
set_option linter.all false
set_option maxRecDepth 100000
set_option maxHeartbeats 1000000
/-! EM15: {k: e for x in a if test}, each k a text, new or not, over data -/
namespace DL
open PySem PySem.Spec PyProof.Rows L2 TL TX TO
section
variable {X : Cx} {m : Mem}
end
end DL

set_option Elab.async false
set_option linter.all false
set_option maxRecDepth 100000
set_option maxHeartbeats 1000000
/-! EM16: x = list(zip(a, b)), a list that the def will change -/
namespace DL
open PySem PySem.Spec PyProof.Rows L2 TL
section
variable {X : Cx} {m : Mem} {ta : DTA m} {E : Ent m}
end
end DL

set_option Elab.async false
set_option linter.all false
set_option maxRecDepth 100000
set_option maxHeartbeats 1000000
/-! EM17: a lambda with parameters is run; min(x, key=lambda e: (len(e), e), default=None) -/
namespace DL
open PySem PySem.Spec PyProof.Rows L2 TL LamX
theorem lam_run {P : Program} {w : World} {K : PySem.W.Frag} {mg : Str → Option Value} {base : Heap} {k : Nat} {f c' : Addr} {q : Str} {params : Arguments} {body : Expr} {scope : Scope} {pm ctv : Value} {N ps : List Str} {CX : CXT}
    {A : Around} {outer : List Env} {s : Shared} {H : Hp} {args : Args} {us : List Value} {vs : List V} {Q : VK} {E : XK} {tb : TE}
    (S : FnScope N ps scope) (of : s.heap.get? f = some (PySem.W.kla_obj "<lambda>" q params body scope [] pm c' ctv)) (hc : H c' = some (CodeO c' q))
    (hr : RoomG (k + 1) A) (e0 : Env0 P w K mg base A outer s H) (hb : bindArgs (PySem.W.kla_fn "<lambda>" q params body scope [] pm (.ref c') ctv) args = pure (ps.zip us)) (r : Vals vs us) (hl : vs.length = ps.length)
    (hbody : RoomG k (A.deeper (envOfC q scope s.heap.objs.size f (.ref c'))) → PE (cxOf CX P w K mg base N q scope f (.ref c') A outer s H E) body tb) (ht : tb (L2.start N vs) H Q) :
    codeAny (model P w) A (.call (.ref f) args) (CR CX outer P w H s Q E) s := by
  have lim : s.heap.NoLimit := e0.mod.nolimit.keeps fun b o e => (e0.bs b o e).1
  have hkind : ∀ y ∈ ps.zip us, scope.names.lookup y.1 = some .local ∨ (scope.names.lookup y.1 = some .cell ∧ ((cellsFrom (s.heap.objs.size + 1) scope.names []).lookup y.1).isSome = true) := fun ⟨n, v⟩ hy => by
    rcases S.par n (List.of_mem_zip hy).1 with q | q
    · exact .inl q
    · exact .inr ⟨q, PySem.W.cellsFrom_some _ _ _ (.inl q)⟩
  obtain ⟨⟨oc, vs', t, hoc, hdc, hvc⟩, _, _⟩ := e0.hok c' _ hc
  refine PySem.W.kla_callFunE hr.r.depth of rfl S.co S.gen rfl ⟨c', oc, vs', t, rfl, hoc, hdc, hvc⟩ ?_
  rw [hb]
  refine wpAny_pure (wpAny_newFunctionEnv_cells S.kind hkind fun env he s1 x => ?_)
  subst he
  refine ⟨lim.keeps x.toInCall.keep, ?_⟩
  have I : Inv (cxOf CX P w K mg base N q scope f (.ref c') A outer s H E) [] (L2.start N vs) H s1 := inv_start S hr.r.hd e0 hl r x
  refine PySem.W.kla_codeExpr (wpAny_mono ((hbody (hr.deeper _)).run [] s1 (L2.start N vs) H Q I ht) (fun v s' hq => ?_) fun e s' hq => hq)
  obtain ⟨w', H', J, rv, q⟩ := hq
  exact ⟨w', H', J.os, J.bare, J.base, J.hok, rv, q⟩
/-- a new tuple that holds an address is no key of a dict -/
theorem obj_less {P : Program} {w : World} {H : Hp} {h : Heap} {u b : Addr} {o : HO} {i : Int} {y : Addr} (hu : H u = none) (x : ObjOk P w (upd H u (.tup [.int i, .ref y])) h b o) : ObjOk P w H h b o := by
  induction o with
  | lst xs => exact x
  | tup xs => exact x
  | dK kvs => exact x
  | dT kvs =>
    obtain ⟨z, y1, xs, r, ob, es, ep, e, c⟩ := x
    refine ⟨z, y1, xs, Paired.mapP r fun p q z => ⟨z.1, ?_, z.2.2⟩, ob, es, ep, e, c⟩
    have z2 := z.2.1
    by_cases hq : q.2.1 = u
    · rw [hq, upd_same] at z2
      injection z2 with z2
      injection z2 with z2
      have hm : V.ref y ∈ p.1.map kV := by rw [← z2]; simp
      obtain ⟨k, _, hk⟩ := List.mem_map.mp hm
      cases k <;> cases hk
    · rw [upd_ne hq] at z2; exact z2
  | set S n => exact x
  | ins C dx fs =>
    obtain ⟨d, z⟩ := x
    refine ⟨?_, z⟩
    by_cases hq : dx = u
    · rw [hq, upd_same] at d; cases d
    · rw [upd_ne hq] at d; exact d
  | own y => exact x
  | xd fs => exact x
  | rng lo hi => exact x
  | frz ob v ih => exact ⟨x.1, ih x.2⟩
  | tbl ps => exact x
  | met f y => exact x
  | ext φ => exact x
section
variable {X : Cx} {pins : List (Addr × Obj)} {σ : L2.St} {H : Hp} {s s' : Shared}
/-- a new key is let go -/
theorem inv_less {u y : Addr} {i : Int} (I0 : Inv X pins σ H s) (hu : H u = none) (I : Inv X pins σ (upd H u (.tup [.int i, .ref y])) s') : Inv X pins σ H s' :=
  ⟨I.ok, I.os, I.bare, ⟨I.base.keep, I.base.slot, fun b o e n hx => I0.base.free b o e n hx, I.base.there, fun b xs e => I0.base.tups b xs e, fun b o u e => I0.base.frzs b o u e, fun b ps e => I0.base.tbls b ps e⟩, I.loc, I.cell, I0.free, fun x c e => I0.freeC x c e,
    fun p hp => ⟨(I.pin p hp).1, (I0.pin p hp).2.1, (I.pin p hp).2.2⟩, fun b o e => obj_less hu (I.hok b o (by rw [upd_ne (ne_of_none e hu)]; exact e)), I.len⟩
/-- what changes some new objects that nobody tells -/
theorem inv_moved {wr : List Addr} (I : Inv X pins σ H s) (hw : ∀ b ∈ wr, H b = none ∧ X.s_0.heap.objs.size ≤ b ∧ b ≠ X.env.locals ∧ (∀ x c, X.env.cells.lookup x = some c → c ≠ b) ∧ ∀ p ∈ X.pn ++ pins, p.1 ≠ b) (hm : Moved wr (fun a b => b = a) s s') : Inv X pins σ H s' := by
  rw [Moved.eq_with hm]
  have nw : ∀ b u, H b = some u → b ∉ wr := fun b u e z => by rw [(hw b z).1] at e; cases e
  refine I.step (g' := s.gens) (d' := s.drawn) (ch := wr) (fun b hb => ⟨.inr (hw b hb).2.1, (hw b hb).2.2⟩) (fun b o _ _ hb e _ => hm.heap b o hb e) (fun b o _ _ hb e _ => ⟨o.slots, hm.heap b o hb e⟩) (fun b o _ _ n => n) (fun b o hb e => ⟨o, hm.heap b o hb e⟩) (fun b xs e => e) (fun b o u e => e) (fun b ps e => ⟨#[], by rw [e]; simp⟩) (fun m hn => ?_) (fun b u e => ?_) I.bare
  · obtain ⟨ob, es, ep, ho, r⟩ := hn
    exact ⟨ob, es, ep, hm.heap _ ob (fun z => (hw _ z).2.2.1 rfl) ho, r⟩
  · refine (I.hok b u e).stay (fun d v hd q => hm.heap d v ?_ q) (fun d q => q) fun d xs q => q
    rcases hd with z | z
    · rw [z]; exact nw b u e
    · exact nw d _ z
theorem vals_refs : ∀ {vs : List V} {us us' : List Value}, (∀ v ∈ vs, ∃ b, v = V.ref b) → Vals vs us → Vals vs us' → us = us'
  | _, _, _, _, .nil, .nil => rfl
  | _, _, _, h, .cons r1 t1, .cons r2 t2 => by
    obtain ⟨b, rfl⟩ := h _ List.mem_cons_self
    obtain rfl : _ = Value.ref b := r1
    obtain rfl : _ = Value.ref b := r2
    rw [vals_refs (fun v hv => h v (List.mem_cons_of_mem _ hv)) t1 t2]
theorem repDs_at {n : Nat} : ∀ {ds : List D}, repDs n ds = true → ∀ d ∈ ds, repD n d = true
  | d :: ds, h, x, hx => by
    rw [repDs, Bool.and_eq_true] at h
    rcases List.mem_cons.mp hx with rfl | hx
    · exact h.1
    · exact repDs_at h.2 x hx
theorem pyRs_mem : ∀ {ds : List D} {d : D}, d ∈ ds → pyR d ∈ pyRs ds
  | e :: ds, d, h => by
    show pyR d ∈ pyR e :: pyRs ds
    rcases List.mem_cons.mp h with rfl | h
    · exact List.mem_cons_self
    · exact List.mem_cons_of_mem _ (pyRs_mem h)
def lenKey (d : D) : D := .tup [.int ((((lenOf d).getD 0 : Nat)) : Int), d]
def keyLt (d e : D) : Bool := lessD (lenKey d) (lenKey e)
theorem minKey_run {f c' a : Addr} {q x : Str} {params : Arguments} {body : Expr} {scope : Scope} {pm ctv : Value} {k : Nat} {F : Hp} {ds : List D} {vs : List V} {Q : VK} {tb : TE}
    (hc : X.calm = true) (hk : ∃ o, X.base.get? sysModules = some o) (hu : X.A.units + 65 < cLine) (hr : RoomG (k + 2) X.A) (I : Inv X pins σ H s) (sub : Same F H) (hs : SqL X.K H a vs) (rs : Reps X.K F ds vs) (ok : repDs 58 ds = true) (refs : ∀ v ∈ vs, ∃ b, v = V.ref b)
    (lens : ∀ d ∈ ds, ∃ n, lenOf d = some n) (al : PySem.W.AlikeAll (pyRs (ds.map lenKey))) (S : FnScope [x] [x] scope) (of : s.heap.get? f = some (PySem.W.kla_obj "<lambda>" q params body scope [] pm c' ctv)) (hfn : H f = none) (hfr : f ∉ frs X.stack) (hco : H c' = some (CodeO c' q))
    (hb : ∀ v, bindArgs (PySem.W.kla_fn "<lambda>" q params body scope [] pm (.ref c') ctv) ⟨[v], []⟩ = pure [(x, v)])
    (hbody : ∀ (A : Around) (outer : List Env) (s : Shared), RoomG k (A.deeper (envOfC q scope s.heap.objs.size f (.ref c'))) → PE (cxOf CX0 X.prog X.w X.K X.mg X.base [x] q scope f (.ref c') A outer s H E0) body tb)
    (ht : ∀ (b : Addr) (d : D) (n : Nat) (Q : VK), d ∈ ds → Rep X.K F d (V.ref b) → lenOf d = some n → (∀ u, H u = none → Q (.ref u) (upd H u (.tup [.int n, .ref b]))) → tb (L2.start [x] [V.ref b]) H Q)
    (q0 : ds = [] → Q .non H) (q1 : ∀ d es v, ds = d :: es → Rep X.K F (pickB keyLt d es) v → Q v H) :
    wpAny (model X.prog X.w) X.A (call (.builtin "min") [.ref a] [(Str.ofString "key", .ref f), (Str.ofString "default", .none)]) (EP X pins σ Q) X.xe s := by
  obtain ⟨its, rv, hl, hz⟩ := I.list hs
  have hh : X.A.handled = none := I.ok.hd hc
  have n1 : its.length = ds.length := by rw [← rv.length, rs.length]
  have nofr : ∀ f, s.heap.objs.size ≤ f → f ∉ frs X.stack := fun f hf z => by
    rcases List.mem_cons.mp (I.stkSub _ z) with e | e
    · have h1 := I.lt
      rw [← e] at h1
      exact Nat.lt_irrefl _ (Nat.lt_of_lt_of_le h1 hf)
    · exact I.nofs hf e
  have fresh : ∀ b, s.heap.objs.size ≤ b → H b = none ∧ X.s_0.heap.objs.size ≤ b ∧ b ≠ X.env.locals ∧ (∀ x c, X.env.cells.lookup x = some c → c ≠ b) ∧ ∀ p ∈ X.pn ++ pins, p.1 ≠ b := fun b hb => by
    refine ⟨I.hok.fresh hb, Nat.le_trans I.sz hb, fun z => ?_, fun y c e z => ?_, fun p hp z => ?_⟩
    · have := I.lt; rw [← z] at this; exact Nat.lt_irrefl _ (Nat.lt_of_lt_of_le this hb)
    · obtain ⟨v, o, ho, _⟩ := I.cell y c e
      have := Heap.lt_size ho
      rw [z] at this; exact Nat.lt_irrefl _ (Nat.lt_of_lt_of_le this hb)
    · have := Heap.lt_size (I.pin p hp).1
      rw [z] at this; exact Nat.lt_irrefl _ (Nat.lt_of_lt_of_le this hb)
  refine PySem.call_min_walkKD (PySem.W.iter_listW (A := X.A.in1) hh hl.isList fun t0 e0 W0 st0 f0 w0 k0 => ?_)
  have sz0 : s.heap.objs.size ≤ t0.heap.objs.size := by rw [e0]; show _ ≤ (s.heap.push _).objs.size; rw [Heap.size_push]; exact Nat.le_succ _
  refine ⟨_, _, _, _, _, _, _, fun s' => Inv X pins σ H s' ∧ s'.heap.get? f = some (PySem.W.kla_obj "<lambda>" q params body scope [] pm c' ctv), fun i kv s' => ∃ (u : Addr) (us : List Value) (d : D) (v : V) (n : Nat), kv = .ref u ∧ IsTup s'.heap u us.toArray ∧ ds[i]? = some d ∧ vs[i]? = some v ∧ lenOf d = some n ∧ Vals [.int n, v] us ∧ H u = none ∧ u ∉ [t0.heap.objs.size, s.heap.objs.size] ∧ u ∉ frs X.stack,
    fun i j => keyLt (ds.getD i .non) (ds.getD j .non), rfl, W0, st0, f0, ⟨?_, ?_, ?_, ?_⟩, ?_, ?_, ?_⟩
  · intro s1 s2 ⟨J1, J2⟩ hm
    refine ⟨inv_moved J1 (fun b hb => ?_) hm, hm.heap f _ (fun hb => ?_) J2⟩
    · rcases List.mem_cons.mp hb with rfl | hb
      · exact fresh _ sz0
      · rw [List.mem_singleton.mp hb]; exact fresh _ (Nat.le_refl _)
    · have lt := Heap.lt_size of
      rcases List.mem_cons.mp hb with z | z
      · rw [z] at lt; exact Nat.lt_irrefl _ (Nat.lt_of_lt_of_le lt sz0)
      · rw [List.mem_singleton.mp z] at lt; exact Nat.lt_irrefl _ lt
  · rintro i kv s1 s2 ⟨u, us, d, v, n, e, ⟨o, ho, r1⟩, r2, r3, r4, r5, r6, r7, r8⟩ hm
    exact ⟨u, us, d, v, n, e, ⟨o, hm.heap u o r7 ho, r1⟩, r2, r3, r4, r5, r6, r7, r8⟩
  · intro i v s1 o Q1 E1 hi hP hJ hSt hS hk1
    obtain ⟨J1, J2⟩ := hJ
    have hP : its.toArray[i]? = some v := hP
    rw [List.getElem?_toArray] at hP
    have hi : i < its.length := hi
    have hid : i < ds.length := by omega
    obtain ⟨x1, ex, rx⟩ := rs.get (List.getElem?_eq_getElem hid)
    obtain ⟨y, ey, ry⟩ := rv.get ex
    rw [hP] at ey; cases ey
    obtain ⟨b, rfl⟩ := refs x1 (List.mem_of_getElem? ex)
    obtain rfl : v = Value.ref b := ry
    obtain ⟨n, hn⟩ := lens _ (List.getElem_mem hid)
    have rc := lam_run (CX := CX0) (A := X.A.in1) (outer := X.stack) (s := s1) (H := H) (args := ⟨[.ref b], []⟩) (us := [.ref b]) (vs := [V.ref b]) (E := E0) (Q := fun v H' => ∃ u, v = V.ref u ∧ H u = none ∧ H' = upd H u (.tup [.int n, .ref b])) S J2 hco hr.in1 J1.env0.in1 (hb _) (.cons rfl .nil) rfl (hbody _ _ _) (ht b _ n _ (List.getElem_mem hid) rx hn fun u hu => ⟨u, rfl, hu, rfl⟩)
    refine wpAny_call (codeAny_mono rc fun r s2 hq => ?_)
    cases r with
    | error e => exact (show False from hq).elim
    | ok fl =>
      cases fl with
      | next => exact False.elim hq
      | brk => exact False.elim hq
      | cont => exact False.elim hq
      | ret kx =>
        have hq : CE X.stack X.prog X.w H s1 _ kx s2 := hq
        obtain ⟨v1, H1, os1, bare1, un, hok1, rk, u, rfl, hu0, rfl⟩ := hq
        obtain rfl : kx = Value.ref u := rk
        have keep : ∀ b o, s1.heap.get? b = some o → H b = none → b ∉ frs X.stack → s2.heap.get? b = some o := fun b o h1 h2 h3 => un.keep b o h1 h2 h3 (by simp)
        obtain ⟨v2, H2, I2, -, ev2, eH2⟩ := J1.after (Q := fun v H' => v = V.ref u ∧ H' = upd H u (.tup [.int n, .ref b])) (u := .ref u) (s' := s2) ⟨V.ref u, upd H u (.tup [.int n, .ref b]), os1, bare1, un, hok1, rfl, rfl, rfl⟩
        subst eH2
        have I3 := inv_less J1 hu0 I2
        have ne : ∀ b o, s1.heap.get? b = some o → H b = none → u ≠ b := fun b o h1 h2 e => by
          have := un.free b o h1 h2 (by simp)
          rw [← e, upd_same] at this; cases this
        obtain ⟨⟨o1, ho1, r1⟩, hL⟩ := hSt
        obtain ⟨its2, rv2, hl2, -⟩ := I3.list hs
        have ei : its2 = its := vals_refs refs rv2 rv
        subst ei
        have fI := fresh _ (Nat.le_refl s.heap.objs.size)
        have fS := fresh _ sz0
        refine hk1 (.ref u) s2 ⟨I3, keep f _ J2 hfn hfr⟩ ⟨⟨o1, keep _ o1 ho1 fI.1 (nofr _ (Nat.le_refl _)), r1⟩, hl2.isList⟩ (keep _ o hS fS.1 (nofr _ sz0)) ?_ ?_
        · obtain ⟨_, us2, r5, ht2⟩ := I2.hok u _ upd_same
          refine ⟨u, us2, _, _, n, rfl, ht2, List.getElem?_eq_getElem hid, ex, hn, r5, hu0, fun z => ?_, fun z => ?_⟩
          · rcases List.mem_cons.mp z with z | z
            · exact ne _ o hS fS.1 z
            · exact ne _ o1 ho1 fI.1 (List.mem_singleton.mp z)
          · have := I2.stkFree u z
            rw [upd_same] at this; cases this
        · rintro j k' ⟨u', us', d', v', n', e, ⟨o', ho', r1'⟩, r2, r3, r4, r5, r6, r7, r8⟩
          exact ⟨u', us', d', v', n', e, ⟨o', keep u' o' ho' r6 r8, r1'⟩, r2, r3, r4, r5, r6, r7, r8⟩
  · intro i j ki kj s1 Q1 E1 ⟨J1, _⟩ hi hj hq
    have rd : ∀ {i : Nat} {kv : Value}, (∃ (u : Addr) (us : List Value) (d : D) (v : V) (n : Nat), kv = .ref u ∧ IsTup s1.heap u us.toArray ∧ ds[i]? = some d ∧ vs[i]? = some v ∧ lenOf d = some n ∧ Vals [.int n, v] us ∧ H u = none ∧ u ∉ [t0.heap.objs.size, s.heap.objs.size] ∧ u ∉ frs X.stack) → ∃ as, Reads s1.heap kv (pyR (lenKey (ds.getD i .non))) as ∧ ds.getD i .non ∈ ds := by
      rintro i kv ⟨u, us, d, v, n, rfl, ⟨o, ho, hc1, m, hd1⟩, r2, r3, r4, r5, -⟩
      have eg : ds.getD i .non = d := by rw [List.getD_eq_getElem?_getD, r2]; rfl
      have hdm := List.mem_of_getElem? r2
      obtain ⟨x1, ex, rx⟩ := rs.get r2
      rw [r3] at ex; cases ex
      obtain ⟨w1, ws1, rfl, hw1, hws⟩ : ∃ w1 ws1, us = w1 :: ws1 ∧ L2.RelV (.int n) w1 ∧ Vals [v] ws1 := by
        cases r5 with
        | cons a b => exact ⟨_, _, rfl, a, b⟩
      have okd : repDs 58 [d] = true := by
        have := repDs_at ok d hdm
        rw [repDs, this]; rfl
      obtain ⟨as, ra, _⟩ := reps_reads (sys_free hk J1) J1 sub 58 [d] [v] ws1 okd ⟨v, [], rfl, rx, rfl⟩ hws
      rw [eg]
      have e2 : pyR (lenKey d) = .tuple (.int (n : Nat) :: pyRs [d]) := by unfold lenKey; rw [r4]; rfl
      obtain ⟨t, rfl⟩ : ∃ t, w1 = Value.int (n : Nat) t := hw1
      have h : Reads s1.heap (.ref u) (.tuple (.int (n : Nat) :: pyRs [d])) ([] ++ as) := .tuple ho hc1 hd1 (by rw [List.toList_toArray]; exact .cons (.int _ _) ra)
      rw [← e2] at h
      exact ⟨_, h, hdm⟩
    obtain ⟨as, ra, m1⟩ := rd hi
    obtain ⟨bs, rb, m2⟩ := rd hj
    have mem : ∀ {d}, d ∈ ds → pyR (lenKey d) ∈ pyRs (ds.map lenKey) := fun {d} h => pyRs_mem (List.mem_map_of_mem h)
    refine PySem.W.rcLt_alike _ _ _ s1 _ _ as bs ra rb (al.1 _ (mem m1) _ (mem m2)) (al.2 _ (mem m1)) ?_ X.prog X.w E1 Q1 hq
    have dp : (pyR (lenKey (ds.getD i .non))).depth ≤ 60 := by
      have h1 := repDs_at ok _ m1
      have h3 := depth_of 58 _ h1
      unfold lenKey
      simp only [pyR, pyRs, PyData.depth, PyData.depthAll]
      omega
    show X.A.units + 1 + min _ _ < cLine
    omega
  · subst e0
    exact ⟨I.kept (t' := s.toks) k0, k0 f _ of⟩
  · intro hn s' ⟨J1, _⟩
    have hn : its.length = 0 := hn
    exact ⟨.non, H, J1, rfl, q0 (List.eq_nil_of_length_eq_zero (by omega))⟩
  · intro hn v s' hP ⟨J1, _⟩
    have hn : 0 < its.length := hn
    have hP : its.toArray[argBest (fun i j => keyLt (ds.getD i .non) (ds.getD j .non)) (its.toArray.size - 1)]? = some v := hP
    cases ds with
    | nil => rw [List.length_nil] at n1; omega
    | cons d es =>
      have e1 : its.toArray.size - 1 = es.length := by show its.length - 1 = _; rw [n1, List.length_cons]; omega
      rw [e1] at hP
      obtain ⟨b1, b2⟩ := PySem.W.argBest_fold keyLt D.non d es es.length (Nat.le_refl _)
      rw [List.take_length] at b2
      generalize argBest (fun i j => keyLt ((d :: es).getD i .non) ((d :: es).getD j .non)) es.length = k at hP b1 b2
      have hd : (d :: es)[k]? = some (pickB keyLt d es) := by
        have hk1 : k < (d :: es).length := by rw [List.length_cons]; omega
        rw [List.getElem?_eq_getElem hk1]
        rw [List.getD_eq_getElem?_getD, List.getElem?_eq_getElem hk1] at b2
        exact congrArg some b2
      obtain ⟨x1, ex, rx⟩ := rs.get hd
      have hP : its[k]? = some v := by simpa using hP
      obtain ⟨y, ey, ry⟩ := rv.get ex
      rw [hP] at ey
      cases ey
      exact ⟨x1, H, J1, ry, q1 d es x1 rfl rx⟩
end
end DL

set_option Elab.async false
set_option linter.all false
set_option maxRecDepth 100000
set_option maxHeartbeats 1000000
/-! EM18: tables of code objects as a part of the state; a lambda is made -/
namespace DL
open PySem PySem.Spec PyProof.Rows L2 TL LamX
theorem clo_nil {cells : List (Str × Addr)} : ∀ {names : List (Str × NameKind)} {acc : List (Str × Addr)}, (∀ y ∈ names, y.2 ≠ .free) → cloFrom cells names acc = acc
  | [], _, _ => rfl
  | (m, k) :: r, acc, h => by
    unfold cloFrom
    have hk : k ≠ .free := h _ List.mem_cons_self
    split
    · rename_i z; exact absurd (by simpa using z) hk
    · exact clo_nil fun y hy => h y (List.mem_cons_of_mem _ hy)
/-- a table: ps its content, q its code objects' name -/
structure TabL (H : Hp) (q : Str) (ps : Array Value) : Prop where
  tri : TriplesOk ps.toList
  find : ∀ (pos : Pos) (cv : Value), codeAmong pos ps.toList = some cv → ∃ c, cv = .ref c ∧ Value.ref c ∈ ps.toList
  code : ∀ c, Value.ref c ∈ ps.toList → H c = some (CodeO c q)
section
variable {X : Cx} {pins : List (Addr × Obj)} {σ : L2.St} {H : Hp} {s : Shared}
theorem TabL.more {q : Str} {ps : Array Value} {P c' : Addr} {pos : Pos} (t : TabL H q ps) (hP : H P = some (.tbl ps)) (hc : H c' = none) : TabL (upd (upd H P (.tbl (ps ++ #[rawInt pos.line, rawInt pos.col, .ref c']))) c' (CodeO c' q)) q (ps ++ #[rawInt pos.line, rawInt pos.col, .ref c']) := by
  have eL : (ps ++ #[rawInt pos.line, rawInt pos.col, .ref c']).toList = ps.toList ++ [rawInt pos.line, rawInt pos.col, .ref c'] := by simp
  refine ⟨by rw [eL]; exact PySem.TriplesOk_snoc _ _ _ _ t.tri, fun p cv h => ?_, fun c h => ?_⟩
  · rw [eL] at h ⊢
    rcases among_app _ t.tri h with z | z
    · obtain ⟨c, e, m⟩ := t.find p cv z
      exact ⟨c, e, List.mem_append_left _ m⟩
    · exact ⟨c', z, List.mem_append_right _ (by simp)⟩
  · rw [eL] at h
    rcases List.mem_append.mp h with z | z
    · have e := t.code c z
      rw [upd_ne (ne_of_none e hc), upd_ne (fun z2 => codeO_ne ps (by rw [z2, hP] at e; exact (Option.some.inj e).symm))]
      exact e
    · have z : c = c' := by simpa [rawInt] using z
      rw [z, upd_same]
theorem lam_make3 {c P : Addr} {params : Arguments} {body : Expr} {scope : Scope} {pos : Pos} {E : Value → Shared → Prop} {Q : Value → Shared → Prop} {ps : Array Value} (I : Inv X pins σ H s) (TB : TabB X.base X.mg c P) (hcode : X.env.code = .ref c)
    (hP : H P = some (.tbl ps)) (ht : TabL H (X.env.qual ++ "<lambda>") ps) (hdef : defaultsOf params X.env = ([], [])) (nf : ∀ y ∈ scope.names, y.2 ≠ .free)
    (h : ∀ (f c' : Addr) (pm ctv : Value) (ps' : Array Value) (H1 : Hp) (s' : Shared), Inv X pins σ H1 s' → (H1 = H ∧ ps' = ps ∨ H c' = none ∧ c' ≠ P ∧ H1 = upd (upd H P (.tbl ps')) c' (CodeO c' (X.env.qual ++ "<lambda>")) ∧ ∀ b, Value.ref b ∈ ps'.toList → Value.ref b ∈ ps.toList ∨ b = c') → H1 P = some (.tbl ps') → TabL H1 (X.env.qual ++ "<lambda>") ps' →
      s'.heap.get? f = some (PySem.W.kla_obj "<lambda>" (X.env.qual ++ "<lambda>") params body scope [] pm c' ctv) → H1 f = none → f ∉ frs X.stack → H1 c' = some (CodeO c' (X.env.qual ++ "<lambda>")) → Q (.ref f) s') :
    wpAny (model X.prog X.w) X.A (eval (.Lambda params body scope pos) X.env) Q E s := by
  have hcl : closureFor scope X.env = pure [] := by
    have := closure_ok (scope := scope) (env := X.env) fun y hy e => absurd e (nf y hy)
    rwa [clo_nil nf] at this
  have tP : s.heap.get? P = some { cls := .none, data := .fields ps } := I.hok P _ hP
  have far : ∀ f, s.heap.objs.size ≤ f → f ∉ frs X.stack := fun f hf z => by
    rcases List.mem_cons.mp (I.stkSub _ z) with e | e
    · have := I.lt
      rw [← e] at this
      exact absurd (Nat.lt_of_lt_of_le this hf) (Nat.lt_irrefl _)
    · exact I.nofs hf e
  refine PySem.W.kla_eval hdef ?_
  cases hc : codeAmong pos ps.toList with
  | some cv =>
    obtain ⟨c', rfl, hm⟩ := ht.find pos cv hc
    refine PySem.W.kla_makeFunctionHit (mg := X.mg) (c := c) (P := P) (ps := ps) hcl I.ok.glob (I.mod.glob.keeps I.bk) hcode (TB.code.keeps I.bk) tP ht.tri hc (TB.bm.keeps I.bk) fun ctv h' tk hx hsz => ?_
    exact h h'.objs.size c' ((X.mg "__name__").getD .none) ctv ps H _ (I.kept fun b o e => Heap.get?_push_of_some _ (hx b o e)) (.inl ⟨rfl, rfl⟩) hP ht (Heap.get?_push_size _ rfl) (I.hok.fresh hsz) (far _ hsz) (ht.code c' hm)
  | none =>
    refine PySem.W.kla_makeFunction (mg := X.mg) (c := c) (P := P) (ps := ps) hcl I.ok.glob (I.mod.glob.keeps I.bk) hcode (TB.code.keeps I.bk) tP ht.tri hc TB.gP (TB.bm.keeps I.bk) fun c' ctv h' tk hx hge hlt hrec htb => ?_
    obtain ⟨_, oc, vs, t, e2, hoc, hd, hv⟩ := hrec
    cases e2
    have nC : H c' = none := I.hok.fresh hge
    have nP : c' ≠ P := fun z => by rw [z, hP] at nC; cases nC
    have hsz : s.heap.objs.size ≤ h'.objs.size := Nat.le_trans hge (Nat.le_of_lt hlt)
    have hsP : h'.objs.size ≠ P := fun z => absurd (Heap.lt_size tP) (by rw [← z]; exact Nat.not_lt.mpr hsz)
    refine h h'.objs.size c' ((X.mg "__name__").getD .none) ctv _ _ _ (inv_table (t' := tk) (more := #[rawInt pos.line, rawInt pos.col, .ref c']) I hP (fun b o hb e => Heap.get?_push_of_some _ (hx b o hb e)) (Heap.get?_push_of_some _ htb) hge ⟨oc, vs, t, Heap.get?_push_of_some _ hoc, hd, hv⟩)
      (.inr ⟨nC, nP, rfl, fun b hb => ?_⟩) (by rw [upd_ne nP.symm, upd_same]) (ht.more hP nC) (Heap.get?_push_size _ rfl) ?_ (far _ hsz) upd_same
    · have eL : (ps ++ #[rawInt pos.line, rawInt pos.col, .ref c']).toList = ps.toList ++ [rawInt pos.line, rawInt pos.col, .ref c'] := by simp
      rw [eL] at hb
      rcases List.mem_append.mp hb with z | z
      · exact .inl z
      · exact .inr (by simpa [rawInt] using z)
    · rw [upd_ne (Nat.ne_of_gt hlt), upd_ne hsP]
      exact I.hok.fresh hsz
end
/-- beside the state of m: tables of code objects (their places and the names of what they hold), with their content -/
def Mem.tab (T : List (Addr × Str)) (m : Mem) : Mem where
  S := m.S × (Addr → Array Value)
  M := fun s H => m.M s.1 H ∧ ∀ p ∈ T, H p.1 = some (.tbl (s.2 p.1)) ∧ TabL H p.2 (s.2 p.1) ∧ ¬ m.R s.1 p.1 ∧ ∀ c, Value.ref c ∈ (s.2 p.1).toList → ¬ m.R s.1 c
  R := fun s a => m.R s.1 a ∨ ∃ p ∈ T, a = p.1 ∨ Value.ref a ∈ (s.2 p.1).toList
  loc := fun s H H' h k => ⟨m.loc s.1 H H' h.1 fun a ha => k a (.inl ha), fun p hp => by
    obtain ⟨h1, h2, h3, h4⟩ := h.2 p hp
    refine ⟨(k _ (.inr ⟨p, hp, .inl rfl⟩)).trans h1, ⟨h2.tri, h2.find, fun c hc => ?_⟩, h3, h4⟩
    exact (k _ (.inr ⟨p, hp, .inr hc⟩)).trans (h2.code c hc)⟩
  there := fun s H a h ha => by
    rcases ha with ha | ⟨p, hp, rfl | hc⟩
    · exact m.there s.1 H a h.1 ha
    · rw [(h.2 p hp).1]; simp
    · rw [(h.2 p hp).2.1.code a hc]; simp
/-- a promise that knows of no tables -/
def tabSp {m : Mem} (T : List (Addr × Str)) (sp : DSp m) : DSp (Mem.tab T m) := fun ds s Q => sp ds s.1 fun d s' => Q d (s', s.2)
theorem lift_tabSp {K : PySem.W.Frag} {m : Mem} {T : List (Addr × Str)} {n : Nat} {sp : DSp m} {vs : List V} {H : Hp} {Q : VK} {E : XK} (h : lift K (Mem.tab T m) n (tabSp T sp) vs H Q E) : lift K m n sp vs H Q E := by
  obtain ⟨hl, F, ds, s, Qd, sub, hm, hr, rs, hsp, hQ⟩ := h
  refine ⟨hl, F, ds, s.1, fun d s' => Qd d (s', s.2), sub, hm.1, fun a h => hr a (.inl h), rs, hsp, fun d s' v F' H' q c rv => hQ d (s', s.2) v F' H' q ?_ rv⟩
  have alive : ∀ p ∈ T, ∀ a, (a = p.1 ∨ Value.ref a ∈ (s.2 p.1).toList) → ¬ m.R s.1 a ∧ ∃ o, H a = some o := fun p hp a ha => by
    obtain ⟨h1, h2, h3, h4⟩ := hm.2 p hp
    rcases ha with rfl | ha
    · exact ⟨h3, _, h1⟩
    · exact ⟨h4 a ha, _, h2.code a ha⟩
  have far : ∀ p ∈ T, ∀ a, (a = p.1 ∨ Value.ref a ∈ (s.2 p.1).toList) → ¬ m.R s' a := fun p hp a ha z => by
    obtain ⟨h1, o, h2⟩ := alive p hp a ha
    rcases c.regf a z with z | z
    · exact h1 z
    · rw [h2] at z; cases z
  refine ⟨c.ext, fun a o e nr => c.keep a o e fun z => nr (.inl z), c.alive, c.fresh, fun a e => ?_, c.sub, ⟨c.mem, fun p hp => ?_⟩, fun a e => ?_⟩
  · rcases e with e | e
    · exact (c.regf a e).elim (fun z => .inl (.inl z)) .inr
    · exact .inl (.inr e)
  · obtain ⟨h1, h2, h3, h4⟩ := hm.2 p hp
    exact ⟨c.keep _ _ h1 h3, ⟨h2.tri, h2.find, fun c1 hc => c.keep _ _ (h2.code c1 hc) (h4 c1 hc)⟩, far p hp _ (.inl rfl), fun c1 hc => far p hp _ (.inr hc)⟩
  · rcases e with e | ⟨p, hp, e⟩
    · exact c.reg a e
    · cases q : F' a with
      | none => rfl
      | some o =>
        obtain ⟨h1, o2, h2⟩ := alive p hp a e
        rcases c.fresh _ o q with z | z
        · rw [hr _ (.inr ⟨p, hp, e⟩)] at z; cases z
        · rw [h2] at z; cases z
end DL

set_option Elab.async false
set_option linter.all false
set_option maxRecDepth 100000
set_option maxHeartbeats 1000000
/-! EM19: min(x, key=lambda e: (len(e), e), default=None) -/
namespace DL
open PySem PySem.Spec PyProof.Rows L2 TL LamX
section
variable {X : Cx}
abbrev tKeyB (K : PySem.W.Frag) : TE := tTup (tCons (tCB (fun xs H Q => ∃ x n, xs = [x] ∧ LenV K x H n ∧ Q (.int n) H) (tCons (tVar 0) tNil)) (tCons (tVar 0) tNil))
theorem key_body {x : Str} {p1 p2 p3 p4 pos : Pos} {k : Nat} (hg : Gl X "len") (hm : X.mg "len" = none) (hN : X.N[0]? = some x) (hv : Vis X.env.scope x) (hd : (x == ("__debug__" : Str)) = false := by decide) (hcd : (x == ("__classdict__" : Str)) = false := by decide)
    (s1 : starEach [.Name x p2] X.env = (false, eval (.Name x p2) X.env) :: starEach [] X.env := by rfl) (s2 : (backTo p3 (starEach [] X.env)).any (·.1) = false := by rfl) :
    PE X (.Tuple [.Call (.Name "len" p1) [.Name x p2] [] p3, .Name x p4] k pos) (tKeyB X.K) :=
  pe_tup (pa_cons (pe_callB call_len hg hm (by decide +kernel) (pa_cons (pe_var hN hv hd hcd) pa_nil s1) (by decide) (by decide) s1 s2) (pa_cons (pe_var hN hv hd hcd) pa_nil))
/-- what the making of a lambda does to the told heap -/
def Made (H : Hp) (P : Addr) (q : Str) (ps : Array Value) (c' : Addr) (ps' : Array Value) (H1 : Hp) : Prop :=
  H1 = H ∧ ps' = ps ∨ H c' = none ∧ c' ≠ P ∧ H1 = upd (upd H P (.tbl ps')) c' (CodeO c' q) ∧ ∀ b, Value.ref b ∈ ps'.toList → Value.ref b ∈ ps.toList ∨ b = c'
def MinAt (K : PySem.W.Frag) (q : Str) (P : Addr) (x : V) (H1 : Hp) (Q : VK) : Prop := ∃ ps, H1 P = some (.tbl ps) ∧ TabL H1 q ps ∧ ∀ c' ps' H2, Made H1 P q ps c' ps' H2 → H2 P = some (.tbl ps') → TabL H2 q ps' →
  ∃ a F ds vs, [x] = [V.ref a] ∧ Same F H2 ∧ SqL K H2 a vs ∧ Reps K F ds vs ∧ repDs 58 ds = true ∧ (∀ v ∈ vs, ∃ b, v = V.ref b) ∧ (∀ d ∈ ds, ∃ n, lenOf d = some n ∧ ∀ b, Rep K F d (V.ref b) → LenV K (.ref b) H2 n) ∧ PySem.W.AlikeAll (pyRs (ds.map lenKey)) ∧ (ds = [] → Q .non H2) ∧ ∀ d es v, ds = d :: es → Rep K F (pickB keyLt d es) v → Q v H2
def tMinKey (K : PySem.W.Frag) (q : Str) (P : Addr) (te : TE) : TE := fun σ H Q => te σ H fun x H1 => ∃ y, [x] = [y] ∧ MinAt K q P y H1 Q
theorem pe_minKey {e : Expr} {te : TE} {x : Str} {params : Arguments} {scope : Scope} {c P : Addr} {p p1 p2 p3 p4 p6 p7 p8 pos lpos tpos : Pos} {j k : Nat} (hc : X.calm = true) (hk : ∃ o, X.base.get? sysModules = some o) (hu : X.A.units + 65 < cLine) (hr : RoomG 2 X.A) (hg : Gl X "min") (hm : X.mg "min" = none) (he : PE X e te)
    (TB : TabB X.base X.mg c P) (hcode : X.env.code = .ref c) (hdef : defaultsOf params X.env = ([], [])) (S : FnScope [x] [x] scope)
    (hbind : ∀ (q : Str) (body : Expr) (pm cv ctv v : Value), bindArgs (PySem.W.kla_fn "<lambda>" q params body scope [] pm cv ctv) ⟨[v], []⟩ = pure [(x, v)])
    (hgl : scope.names.lookup (Str.ofString "len") = some .globalImplicit) (hml : X.mg "len" = none) (hvx : scope.names.lookup x = some .local) (hd : (x == ("__debug__" : Str)) = false := by decide) (hcd : (x == ("__classdict__" : Str)) = false := by decide)
    (hs : starEach [e] X.env = [(false, eval e X.env)] := by rfl) :
    PE X (.Call (.Name "min" p) [e] [⟨some "key", .Lambda params (.Tuple [.Call (.Name "len" p1) [.Name x p2] [] p3, .Name x p4] k tpos) scope lpos, p6⟩, ⟨some "default", .Constant .none j p7, p8⟩] pos) (tMinKey X.K (X.env.qual ++ "<lambda>") P te) := by
  refine ⟨fun pins s σ H Q I h => ?_⟩
  refine wpAny_Call_Name_kw (ld_blt I hg hm (by decide +kernel : bootBuiltins "min" = some (.builtin "min")) ?_ (by decide) (by decide))
  have pa : PA X [e] (tCons te tNil) := pa_cons he pa_nil (by rw [hs]; rfl)
  refine PyProof.Rows.callWith_kw (e := e) (rest := []) (thn (pa.run pos pins s σ H (fun vs H1 => ∃ x, vs = [x] ∧ MinAt X.K (X.env.qual ++ "<lambda>") P x H1 Q) I ?_) fun us s1 ⟨vs, H1, I1, r1, x1, ex, ps, hP, hT, q1⟩ => ?_) (by first | rfl | (rw [hs]; rfl)) (by rw [hs]; rfl) rfl rfl
  · exact h
  · subst ex
    refine wpAny_evalAll_cons (wpAny_bind (lam_make3 I1 TB hcode hP hT hdef S.nofree fun f c' pm ctv ps' H2 s2 I2 alt hP2 hT2 of hfn hfr hco => wpAny_bind (wpAny_standAt (wpAny_pure ?_))))
    refine wpAny_evalAll_cons (wpAny_bind (Constant_none (wpAny_bind (wpAny_standAt (wpAny_pure (wpAny_evalAll_nil ?_))))))
    obtain ⟨a, F, ds, vs, ev, sub, hsq, rs, ok, refs, lens, al, z0, z1⟩ := q1 c' ps' H2 alt hP2 hT2
    rw [ev] at r1
    rw [Vals.ref1 r1]
    refine minKey_run (k := 0) (tb := tKeyB X.K) hc hk hu hr I2 sub hsq rs ok refs (fun d hd => let ⟨n, h, _⟩ := lens d hd; ⟨n, h⟩) al S of hfn hfr hco (fun v => hbind _ _ _ _ _ v) (fun A outer s _ => ?_) (fun b d n Q2 hd rep hln hq => ?_) z0 z1
    · exact key_body (X := cxOf CX0 X.prog X.w X.K X.mg X.base [x] (X.env.qual ++ "<lambda>") scope f (.ref c') A outer s H2 E0) hgl hml rfl (.inl hvx) hd hcd
    · obtain ⟨n2, h2, h3⟩ := lens d hd
      rw [hln] at h2
      cases h2
      exact ⟨.ref b, rfl, ⟨.ref b, n, rfl, h3 b rep, .ref b, rfl, by show 2 ≤ sizeLine; rw [sizeLine_eq]; decide, hq⟩⟩
end
section
variable {K : PySem.W.Frag} {m : Mem} {T : List (Addr × Str)} {F H H2 : Hp} {σ : L2.St} {ρ : List Sl} {s : m.S} {g : Addr → Array Value} {P c' : Addr} {q : Str} {ps' : Array Value}
def setTab (g : Addr → Array Value) (P : Addr) (ps : Array Value) : Addr → Array Value := fun b => if b = P then ps else g b
theorem setTab_self (g : Addr → Array Value) (P : Addr) : setTab g P (g P) = g := by
  funext b; unfold setTab
  by_cases h : b = P
  · rw [if_pos h, h]
  · rw [if_neg h]
theorem made_rel (hq : (P, q) ∈ T) (hu : ∀ p ∈ T, p.1 = P → p.2 = q) (r : Rel K (Mem.tab T m) F H σ ρ (s, g)) (md : Made H P q (g P) c' ps' H2) (hP : H2 P = some (.tbl ps')) (hT : TabL H2 q ps') :
    Rel K (Mem.tab T m) F H2 σ ρ (s, setTab g P ps') ∧ Stp (Mem.tab T m) F H σ ρ (s, g) F H2 ρ (s, setTab g P ps') := by
  rcases md with ⟨rfl, rfl⟩ | ⟨hc, ne, e2, more⟩
  · rw [setTab_self]; exact ⟨r, Stp.refl⟩
  obtain ⟨hm, ht⟩ := r.mem
  obtain ⟨h1, h2, h3, h4⟩ := ht _ hq
  have RP : (Mem.tab T m).R (s, g) P := .inr ⟨_, hq, .inl rfl⟩
  have at_ : ∀ b, b ≠ P → b ≠ c' → H2 b = H b := fun b n1 n2 => by rw [e2, upd_ne n2, upd_ne n1]
  have nc : ∀ b o, H b = some o → b ≠ c' := fun b o e => ne_of_none e hc
  have nR : ∀ b o, H b = some o → ¬ (Mem.tab T m).R (s, g) b → H2 b = some o := fun b o e n => by rw [at_ b (fun z => n (z ▸ RP)) (nc b o e)]; exact e
  have fresh : ∀ a, (Mem.tab T m).R (s, setTab g P ps') a → (Mem.tab T m).R (s, g) a ∨ a = c' := fun a ha => by
    rcases ha with ha | ⟨p, hp, rfl | ha⟩
    · exact .inl (.inl ha)
    · exact .inl (.inr ⟨p, hp, .inl rfl⟩)
    · have ha : Value.ref a ∈ (setTab g P ps' p.1).toList := ha
      unfold setTab at ha
      by_cases hp1 : p.1 = P
      · rw [if_pos hp1] at ha
        rcases more a ha with z | z
        · exact .inl (.inr ⟨_, hq, .inr z⟩)
        · exact .inr z
      · rw [if_neg hp1] at ha
        exact .inl (.inr ⟨p, hp, .inr ha⟩)
  have mR : ∀ a, m.R s a → a ≠ P ∧ a ≠ c' := fun a ha => ⟨fun z => h3 (z ▸ ha), fun z => m.there s H a hm ha (z ▸ hc)⟩
  refine ⟨⟨fun a o e => nR a o (r.sub a o e) fun z => ?_, ⟨m.loc s H H2 hm fun a ha => at_ a (mR a ha).1 (mR a ha).2, fun p hp => ?_⟩, fun a ha => ?_, r.len, r.sh, fun i o e => ?_, fun i p h => ?_, r.uq⟩, ⟨Same.refl _, fun a o e n => nR a o e n, fun a ha z => ?_, fun a o e => .inl e, fun a ha => ?_, fun _ _ h => h⟩⟩
  · rw [r.reg a z] at e; cases e
  · obtain ⟨g1, g2, g3, g4⟩ := ht p hp
    by_cases hp1 : p.1 = P
    · have e : setTab g P ps' p.1 = ps' := if_pos hp1
      show H2 p.1 = some (.tbl (setTab g P ps' p.1)) ∧ TabL H2 p.2 (setTab g P ps' p.1) ∧ ¬ m.R s p.1 ∧ ∀ c, Value.ref c ∈ (setTab g P ps' p.1).toList → ¬ m.R s c
      rw [e, hu p hp hp1, hp1]
      refine ⟨hP, hT, h3, fun c hcm z => ?_⟩
      rcases more c hcm with z2 | z2
      · exact h4 c z2 z
      · exact (mR c z).2 z2
    · have e : setTab g P ps' p.1 = g p.1 := if_neg hp1
      show H2 p.1 = some (.tbl (setTab g P ps' p.1)) ∧ TabL H2 p.2 (setTab g P ps' p.1) ∧ ¬ m.R s p.1 ∧ ∀ c, Value.ref c ∈ (setTab g P ps' p.1).toList → ¬ m.R s c
      rw [e]
      refine ⟨(at_ _ hp1 (nc _ _ g1)).trans g1, ⟨g2.tri, g2.find, fun c hcm => ?_⟩, g3, g4⟩
      have ec := g2.code c hcm
      exact (at_ c (fun z => by rw [z, h1] at ec; exact codeO_ne _ (Option.some.inj ec).symm) (nc _ _ ec)).trans ec
  · rcases fresh a ha with z | z
    · exact r.reg a z
    · cases e : F a with
      | none => rfl
      | some o => exact absurd z (nc a o (r.sub a o e))
  · obtain ⟨p, ho, g1, g2, g3, g4, g5⟩ := r.own_at e
    exact ⟨p, ho, g1, nR p ho g2 g5, g3⟩
  · obtain ⟨g1, g2⟩ := r.owF i p h
    refine ⟨g1, fun z => ?_⟩
    rcases fresh p z with z | z
    · exact g2 z
    · obtain ⟨⟨o, e⟩, hσ⟩ := id h
      obtain ⟨p', ho, k1, k2, _⟩ := r.own_at e
      rw [hσ] at k1; cases k1
      exact nc p ho k2 z
  · by_cases n1 : a = P
    · rw [n1, hP] at z; cases z
    · by_cases n2 : a = c'
      · rw [n2] at ha; exact ha hc
      · rw [at_ a n1 n2] at z; exact ha z
  · rcases fresh a ha with z | z
    · exact .inl z
    · exact .inr (z ▸ hc)
end
def minKD : List D → D
  | [] => .non
  | d :: es => pickB keyLt d es
def dMinKey {m : Mem} {T : List (Addr × Str)} (te : DT (Mem.tab T m)) : DT (Mem.tab T m) := fun ρ s Q => te ρ s fun d ρ1 s1 => ∃ ds, d = .lst ds ∧ repDs 58 ds = true ∧ (∀ x ∈ ds, ∃ xs, x = .tup xs) ∧ PySem.W.AlikeAll (pyRs (ds.map lenKey)) ∧ ∀ g, Q (minKD ds) ρ1 (s1.1, g)
theorem de_minKey {X : Cx} {m : Mem} {T : List (Addr × Str)} {e : Expr} {te : DT (Mem.tab T m)} {x : Str} {params : Arguments} {scope : Scope} {c P : Addr} {p p1 p2 p3 p4 p6 p7 p8 pos lpos tpos : Pos} {j k : Nat} (hc : X.calm = true) (hk : ∃ o, X.base.get? sysModules = some o) (hu : X.A.units + 65 < cLine) (hr : RoomG 2 X.A) (hg : Gl X "min") (hm : X.mg "min" = none) (he : PE X e (up X.K (Mem.tab T m) te))
    (hq : (P, X.env.qual ++ Str.ofString "<lambda>") ∈ T) (hun : ∀ p ∈ T, p.1 = P → p.2 = X.env.qual ++ Str.ofString "<lambda>") (TB : TabB X.base X.mg c P) (hcode : X.env.code = .ref c) (hdef : defaultsOf params X.env = ([], [])) (S : FnScope [x] [x] scope)
    (hbind : ∀ (q : Str) (body : Expr) (pm cv ctv v : Value), bindArgs (PySem.W.kla_fn "<lambda>" q params body scope [] pm cv ctv) ⟨[v], []⟩ = pure [(x, v)])
    (hgl : scope.names.lookup (Str.ofString "len") = some .globalImplicit) (hml : X.mg "len" = none) (hvx : scope.names.lookup x = some .local) (hd : (x == ("__debug__" : Str)) = false := by decide) (hcd : (x == ("__classdict__" : Str)) = false := by decide)
    (hs : starEach [e] X.env = [(false, eval e X.env)] := by rfl) :
    PE X (.Call (.Name "min" p) [e] [⟨some "key", .Lambda params (.Tuple [.Call (.Name "len" p1) [.Name x p2] [] p3, .Name x p4] k tpos) scope lpos, p6⟩, ⟨some "default", .Constant .none j p7, p8⟩] pos) (up X.K (Mem.tab T m) (dMinKey te)) :=
  PE.imp (pe_minKey hc hk hu hr hg hm he TB hcode hdef S hbind hgl hml hvx hd hcd hs) fun σ H Q h => by
  obtain ⟨F, ρ, s, Qd, r, ht, hQ⟩ := h
  refine ⟨F, ρ, s, _, r, ht, fun d ρ1 s1 v F1 H1 ⟨ds, ed, ok, tups, al, q1⟩ r1 st1 rv => ?_⟩
  subst ed
  obtain ⟨s1, g⟩ := s1
  obtain ⟨a, vs, rfl, h1, _, rs⟩ := rv
  obtain ⟨t1, t2, -, -⟩ := r1.mem.2 _ hq
  refine ⟨_, rfl, g P, t1, t2, fun c' ps' H2 md hP2 hT2 => ?_⟩
  obtain ⟨r2, st2⟩ := made_rel hq hun r1 md hP2 hT2
  have fin : ∀ v, Rep X.K F1 (minKD ds) v → Q v H2 := fun v rv => hQ _ ρ1 (s1, setTab g P ps') v F1 H2 (q1 _) r2 (st1.trans st2) rv
  refine ⟨a, F1, ds, vs, rfl, r2.sub, .inl (.inl (r2.sub _ _ h1)), rs, ok, fun v hv => ?_, fun d hd => ?_, al, fun e => fin .non (by rw [e]; rfl), fun d es v e rv => fin v (by rw [e]; exact rv)⟩
  · obtain ⟨i, hi, rfl⟩ := List.getElem_of_mem hv
    have hi2 : i < ds.length := by rw [rs.length] at hi; exact hi
    obtain ⟨x, ex, rx⟩ := rs.get (List.getElem?_eq_getElem hi2)
    rw [List.getElem?_eq_getElem hi] at ex
    cases ex
    obtain ⟨xs, ex⟩ := tups _ (List.getElem_mem hi2)
    rw [ex] at rx
    obtain ⟨b, _, rb, _⟩ := rx
    exact ⟨b, rb⟩
  · obtain ⟨xs, rfl⟩ := tups d hd
    refine ⟨xs.length, rfl, fun b rep => ?_⟩
    obtain ⟨a2, ws, e, k1, _, k2⟩ := rep
    cases e
    exact .inr ⟨ws, Same.seqT r2.sub k1, k2.length.symm⟩
end DL

set_option Elab.async false
set_option linter.all false
set_option maxRecDepth 100000
set_option maxHeartbeats 1000000
/-! EM20: the law's call where defs make lambdas (tables of code objects) -/
namespace DL
open PySem PySem.Spec PyProof.Rows L2 TL LamX
section
/-- the script and the empty tables -/
def scrT (K : PySem.W.Frag) (a : Addr) (vs : List Value) (ns : List Int) (ts : List Addr) : Hp := fun b => if b = a ∧ K.lookup a = none then some (.frz (scrO vs) (.lst (ns.map V.int))) else if b ∈ ts then some (.tbl #[]) else none
variable {P : Program} {w : World} {K : PySem.W.Frag} {mg mb : Str → Option Value} {k : Nat} {fa a : Addr} {fd : FuncData} {x : Str} {sp : Sp} {s : Shared} {vs : List Value} {ns : List Int} {ts : List Addr} {cs : List (Addr × Addr)}
theorem scrT_some {b : Addr} {u : HO} (h : scrT K a vs ns ts b = some u) : (b = a ∧ K.lookup a = none ∧ u = .frz (scrO vs) (.lst (ns.map V.int))) ∨ (b ∈ ts ∧ u = .tbl #[]) := by
  unfold scrT at h
  split at h
  · rename_i c
    exact .inl ⟨c.1, c.2, (Option.some.inj h).symm⟩
  · split at h
    · rename_i c; exact .inr ⟨c, (Option.some.inj h).symm⟩
    · cases h
theorem scrT_no {b : Addr} (h1 : b ≠ a) (h2 : b ∉ ts) : scrT K a vs ns ts b = none := by
  unfold scrT
  rw [if_neg (fun z => h1 z.1), if_neg h2]
theorem scrT_tab {b : Addr} (h1 : b ≠ a) (h2 : b ∈ ts) : scrT K a vs ns ts b = some (.tbl #[]) := by
  unfold scrT
  rw [if_neg (fun z => h1 z.1), if_pos h2]
/-- the law's def is called by the row; cs: code objects with their tables -/
theorem law_goT (KX : K.In s.heap) (hns : s.heap.Ns mainGlobals mg) (hbn : s.heap.Ns builtinsNs mb) (hbb : ∀ x : Str, x ≠ "__name__" → mb x = bootBuiltins x) (nl : s.heap.NoLimit) (hg : s.gens = #[]) (ha : s.heap.get? a = some (scrO vs)) (hi : IntsAre vs ns) (hl : ns.length ≤ sizeLine) (hr : Room k callerA) (hsm : ∃ mm, s.heap.Ns sysModules mm)
    (hT : ∀ p ∈ cs, s.heap.get? p.2 = some { cls := .none, data := .fields #[] }) (nT : ∀ p ∈ cs, K.lookup p.2 = none) (hC : ∀ p ∈ cs, PySem.W.CodeHd s.heap p.1 p.2)
    (hbm : ∃ (bm : Addr) (ob : Obj), mg "__builtins__" = some (.ref bm) ∧ bm ≠ builtinsNs ∧ s.heap.get? bm = some ob ∧ ob.cls = .type "module" ∧ ob.dict = some builtinsNs ∧ ob.data = .plain)
    (G : ∀ base : Heap, K.In base → base.Ns mainGlobals mg → (∃ o, base.get? sysModules = some o) → (∀ p ∈ cs, TabB base mg p.1 p.2) → FnG P w K mg base CX0 k fa fd [x] sp) (bind : ∀ (s : Shared) (u : Value), BindsTo s fd ⟨[u], []⟩ [(x, u)])
    (hsp : ∀ H : Hp, (∀ p ∈ cs, H p.2 = some (.tbl #[]) ∧ p.2 ≠ a) → SqL K H a (ns.map V.int) → sp [.ref a] H (fun v _ => v = .bl true) E0) :
    codeAny (model P w) callerA (.call (.ref fa) ⟨[.ref a], []⟩) (fun r s' => r = .ok (.ret (.bool true)) ∧ OldK s.heap s'.heap ∧ s'.os = s.os ∧ AllBare s'.gens) s := by
  obtain ⟨H, hH⟩ : ∃ H, H = scrT K a vs ns (cs.map (·.2)) := ⟨_, rfl⟩
  have tabAt : ∀ b ∈ cs.map (·.2), s.heap.get? b = some { cls := .none, data := .fields #[] } ∧ K.lookup b = none := fun b hb => by
    obtain ⟨p, hp, rfl⟩ := List.mem_map.mp hb
    exact ⟨hT p hp, nT p hp⟩
  have tabNe : ∀ b ∈ cs.map (·.2), b ≠ a := fun b hb z => by
    have q := (tabAt b hb).1
    rw [z, ha] at q
    cases (show Data.seq vs.toArray _ = Data.fields #[] from congrArg Obj.data (Option.some.inj q))
  have inT : ∀ p ∈ cs, p.2 ∈ cs.map (·.2) := fun p hp => List.mem_map_of_mem hp
  have low : ∀ {b : Addr} {o : Obj}, s.heap.get? b = some o → H b = none → (hidT s.heap H).get? b = some o := fun e n => hidT_get e n
  -- what is neither a list nor an empty table is in the base
  have free : ∀ {b : Addr} {o : Obj}, s.heap.get? b = some o → (∀ vs n, o.data ≠ .seq vs n) → o.data ≠ .fields #[] → H b = none := fun {b o} e h1 h2 => by
    rw [hH]
    refine scrT_no (fun z => ?_) fun z => ?_
    · rw [z, ha] at e; cases e; exact h1 _ _ rfl
    · rw [(tabAt b z).1] at e; cases e; exact h2 rfl
  have keepNs : ∀ {b : Addr} {m : Str → Option Value}, s.heap.Ns b m → (hidT s.heap H).Ns b m := fun {b m} ⟨o, es, ep, e, q, r⟩ => ⟨o, es, ep, low e (free e (fun _ _ z => by rw [q] at z; cases z) fun z => by rw [q] at z; cases z), q, r⟩
  have KB : K.In (hidT s.heap H) := fun b o e => low (KX b o e) (by
    cases q : H b with
    | none => rfl
    | some u =>
      rw [hH] at q
      rcases scrT_some q with ⟨rfl, n, _⟩ | ⟨hb, _⟩
      · rw [n] at e; cases e
      · rw [(tabAt b hb).2] at e; cases e)
  have md : Mod K mg (hidT s.heap H) := by
    obtain ⟨mc, l1, l2⟩ := nl
    exact ⟨KB, keepNs hns, ⟨mb, keepNs hbn, hbb⟩, ⟨mc, keepNs l1, l2⟩⟩
  have sysL : ∃ o, (hidT s.heap H).get? sysModules = some o := by
    obtain ⟨mm, q⟩ := hsm
    obtain ⟨o, _, _, z, _⟩ := keepNs q
    exact ⟨o, z⟩
  have ok : HOk P w H s.heap := fun b u e => by
    rw [hH] at e
    rcases scrT_some e with ⟨rfl, _, rfl⟩ | ⟨hb, rfl⟩
    · exact ⟨ha, by rw [List.length_map]; exact hl, vs, _, vals_ints hi, ha⟩
    · exact (tabAt b hb).1
  have seq : SqL K H a (ns.map V.int) := by
    rw [hH]
    cases hk : K.lookup a with
    | none => exact .inl (.inr ⟨scrO vs, if_pos ⟨rfl, hk⟩⟩)
    | some o =>
      have q : o = scrO vs := Option.some.inj ((KX a o hk).symm.trans ha)
      subst q
      exact .inr ⟨_, vs.toArray, _, hk, rfl, rfl, rfl, by rw [List.size_toArray, hi.length]; exact hl, by simpa using vals_ints hi⟩
  have TB : ∀ p ∈ cs, TabB (hidT s.heap H) mg p.1 p.2 := fun p hp => by
    refine ⟨?_, ?_, fun z => ?_⟩
    · obtain ⟨o, us, file, tf, flags, tg, inF, text, tt, e1, r1, r2, r3, rest⟩ := hC p hp
      refine ⟨o, us, file, tf, flags, tg, inF, text, tt, low e1 (free e1 (fun _ _ z => by rw [r2] at z; cases z) fun z => ?_), r1, r2, r3, rest⟩
      rw [r2] at z; cases z; simp at r3
    · obtain ⟨bm, ob, b1, b2, b3, b4, b5, b6⟩ := hbm
      refine ⟨bm, ob, b1, b2, fun q => ?_, fun q => ?_, low b3 (free b3 (fun _ _ z => by rw [b6] at z; cases z) fun z => by rw [b6] at z; cases z), b4, b5, b6⟩
      · obtain ⟨o, es, ep, e, hd, _⟩ := hns
        rw [q, e] at b3; cases b3
        rw [hd] at b6; cases b6
      · rw [q, hT p hp] at b3; cases b3; cases b6
    · obtain ⟨o, es, ep, e, hd, _⟩ := hns
      rw [z, hT p hp] at e; cases e; cases hd
  have start : Env0 P w K mg (hidT s.heap H) callerA [] s H :=
    { frames := rfl, mod := md, bs := fun b o e => of_hidT e, bsz := Nat.le_of_eq (hidT_size _ _), funs := trivial, frf := (fun b z => nomatch z), hok := ok, bare := .of_eq hg }
  refine codeAny_mono ((G _ KB (keepNs hns) sysL TB).run callerA [] s _ ⟨[.ref a], []⟩ [.ref a] [.ref a] _ _ ⟨hr, rfl⟩ start (bind s (.ref a)) (.cons rfl .nil) (hsp _ (fun p hp => ⟨by rw [hH]; exact scrT_tab (tabNe _ (inT p hp)) (inT p hp), tabNe _ (inT p hp)⟩) seq)) fun r s' z => ?_
  rcases r with er | (_ | _ | _ | u)
  · exact z.elim
  · exact z.elim
  · exact z.elim
  · exact z.elim
  · obtain ⟨v, H', os, bare, un, ok', rv, q⟩ := z
    have q' : v = .bl true := q
    subst q'
    have e : u = Value.bool true := rv
    subst e
    have old : ∀ b o, s.heap.get? b = some o → b ∉ cs.map (·.2) → s'.heap.get? b = some o := fun b o e nb => by
      cases q : H b with
      | none => exact un.keep b o e q (fun z => nomatch z) (fun z => nomatch z)
      | some u =>
        have q2 := q
        rw [hH] at q2
        rcases scrT_some q2 with ⟨rfl, _, rfl⟩ | ⟨hb, _⟩
        · have z := (ok' b _ (un.frzs b _ _ q)).1
          rw [Option.some.inj (e.symm.trans ha)]
          exact z
        · exact absurd hb nb
    have grown : ∀ p ∈ cs, ∃ more : Array Value, s'.heap.get? p.2 = some { cls := .none, data := .fields (#[] ++ more) } := fun p hp => by
      obtain ⟨more, z⟩ := un.tbls p.2 #[] (by rw [hH]; exact scrT_tab (tabNe _ (inT p hp)) (inT p hp))
      exact ⟨more, ok' p.2 _ z⟩
    refine ⟨rfl, ⟨fun b o e => ?_, fun b o e => ?_⟩, os, bare⟩
    · by_cases hb : b ∈ cs.map (·.2)
      · obtain ⟨p, hp, rfl⟩ := List.mem_map.mp hb
        obtain ⟨more, hm⟩ := grown p hp
        have eo := (hT p hp).symm.trans e
        cases eo
        exact .inr (.inl ⟨((hC p hp).tab (hT p hp)).isCodeTable, rfl, #[], more, rfl, hm⟩)
      · exact .inl (old b o e hb)
    · by_cases hb : b ∈ cs.map (·.2)
      · obtain ⟨p, hp, rfl⟩ := List.mem_map.mp hb
        obtain ⟨more, hm⟩ := grown p hp
        exact ⟨_, hm⟩
      · exact ⟨o, old b o e hb⟩
end
/-- from the law's promise to the row's walk -/
theorem walkT {l : PySem.W.OpenLaw} {n k : Nat} {q : Program} {loose : List Str} {XP : (Str → Option Value) → Heap → Prop} {YP : World → Heap → Prop} {d : DefRec} {K : Params → PySem.W.Frag} {cs : Params → List (Addr × Addr)} {sp : PySem.W.Frag → List (Addr × Addr) → Sp} {x : Str}
    (hn : l.most = some n) (hn2 : n ≤ sizeLine) (hdf : d.params.defaults = []) (hr : Room k callerA) (hno : importsNone q = true) (hY : ∀ (w : World) (h : Heap), YP w h → (K w.params).In h) (hT : ∀ (w : World) (h : Heap), YP w h → ∀ p ∈ cs w.params, h.get? p.2 = some { cls := .none, data := .fields #[] })
    (nT : ∀ P, ∀ p ∈ cs P, (K P).lookup p.2 = none) (hC : ∀ P, ∀ p ∈ cs P, PySem.W.codeHdIn (K P) p.1 p.2 = true)
    (G : ∀ (w : World) (mg : Str → Option Value) (fa : Addr) (h : Heap), (K w.params).In h → h.Ns mainGlobals mg → mg d.name = some (.ref fa) →
      ∃ fd : FuncData, (∀ (s : Shared) (u : Value), BindsTo s fd ⟨[u], []⟩ [(x, u)]) ∧ ∀ base : Heap, (K w.params).In base → base.Ns mainGlobals mg → (∃ o, base.get? sysModules = some o) → (∀ p ∈ cs w.params, TabB base mg p.1 p.2) → FnG l.prog w (K w.params) mg base CX0 k fa fd [x] (sp (K w.params) (cs w.params)))
    (hsp : ∀ (P : Params) (H : Hp) (a : Addr) (ns : List Int), ns.length ≤ n → (∀ p ∈ cs P, H p.2 = some (.tbl #[]) ∧ p.2 ≠ a) → SqL (K P) H a (ns.map V.int) → sp (K P) (cs P) [.ref a] H (fun v _ => v = .bl true) E0) : PySem.W.WalkO q loose XP YP l.row.toRowW d [] (fun f vs => PySem.call f vs) :=
  Att.attach_call hn hdf fun w _ s₁ mg mb fa o pm cd doc a vs ns Gr Y _ _ _ hmg hobj hints hlen hg => by
    have KX := hY w _ Y
    obtain ⟨fd, hb, hF⟩ := G w mg fa _ KX Gr.T.g hmg
    exact law_goT KX Gr.T.g Gr.T.b Gr.T.builtins Gr.T.nolimit hg hobj hints (Nat.le_trans hlen hn2) hr (by obtain ⟨mm, z, _⟩ := (Gr.T.seer hno).mods; exact ⟨mm, z⟩) (hT w _ Y) (nT _) (fun p hp => PySem.W.codeHd_of_K KX (hC _ p hp)) Gr.T.bmain hF hb fun H hO hS => hsp _ H a ns hlen hO hS
end DL

set_option Elab.async false
set_option linter.all false
set_option maxRecDepth 100000
set_option maxHeartbeats 1000000
/-! EM21: a def whose code object is told; the law's start with tables; where code objects and tables stand -/
namespace DL
open PySem PySem.Spec PyProof.Rows L2 TL LamX
def codeOf (fd : FuncData) : Addr := match fd.code with
  | .ref c => c
  | _ => 0
def tabOf (K : PySem.W.Frag) (c : Addr) : Addr := match K.lookup c with
  | some ⟨_, _, .fields vs, _⟩ => match (vs[11]? : Option Value) with
    | some (.ref P) => P
    | _ => 0
  | _ => 0
/-- where the code object of the def at f stands, and its table -/
def codeAt (K : PySem.W.Frag) (f : Addr) : Addr := match K.lookup f with
  | some ⟨_, _, .func fd, _⟩ => codeOf fd
  | _ => 0
def isRefC (fd : FuncData) : Bool := match fd.code with
  | .ref _ => true
  | _ => false
theorem code_ref {fd : FuncData} (h : isRefC fd = true) : fd.code = .ref (codeOf fd) := by
  unfold isRefC at h
  unfold codeOf
  split at h
  · rename_i c e; rw [e]
  · cases h
abbrev tabsOf (K : PySem.W.Frag) (fs : List Addr) : List (Addr × Addr) := fs.map fun f => (codeAt K f, tabOf K (codeAt K f))
section
variable {P : Program} {w : World} {K : PySem.W.Frag} {mg : Str → Option Value} {base : Heap} {m : Mem}
theorem Fun.okC {CX : CXT} {x qual : Str} {st : Stmt} {f c : Addr} {fd : FuncData} {N ps : List Str} {k : Nat} {sp : Sp} (F : Fun K x qual st f fd) (hc : fd.code = .ref c) (S : FnScope N ps (defScope st)) (len : ∀ vs H Q E, sp vs H Q E → vs.length = ps.length)
    (body : ∀ (A : Around) (outer : List Env) (s : Shared) (H : Hp) (vs : List V) (Q : VK) (E : XK), RoomG k (A.deeper (envOfC qual (defScope st) s.heap.objs.size f (.ref c))) → sp vs H Q E →
      ∃ t, PSs (cxOf CX P w K mg base N qual (defScope st) f (.ref c) A outer s H E) (defBody st) t ∧ t { nx := fun _ H' => Q .non H', rt := Q } (start N vs) H) : FnG P w K mg base CX (k + 1) f fd ps sp := by
  obtain ⟨oc, od, kV, doc, pm, an, cdv, ct, osl, rfl, lk, code⟩ := F.ex
  have hc : cdv = .ref c := hc
  subst hc
  refine ⟨len, fun A outer s H args us vs Q E hr e0 hb rv hsp => ?_⟩
  have Kin : K.In s.heap := e0.mod.kin.keeps fun b o z => (e0.bs b o z).1
  have nl : s.heap.NoLimit := e0.mod.nolimit.keeps fun b o z => (e0.bs b o z).1
  have places : ∀ y ∈ ps.zip us, (defScope st).names.lookup y.1 = some .local ∨ ((defScope st).names.lookup y.1 = some .cell ∧ ((cellsFrom (s.heap.objs.size + 1) (defScope st).names []).lookup y.1).isSome = true) := fun y hy =>
    (S.par y.1 (List.of_mem_zip (show (y.1, y.2) ∈ ps.zip us from hy)).1).elim .inl fun q => .inr ⟨q, PySem.W.cellsFrom_some _ _ _ (.inl q)⟩
  refine codeAny_call_function hr.r.depth (Kin _ _ lk) rfl S.co S.gen rfl (PySem.W.codeRec_of Kin code) (hb _ _ _ _ (wpAny_newFunctionEnv_cells S.kind places fun env he s1 new => ?_))
  subst he
  obtain ⟨t, ht, hq⟩ := body A outer s H vs Q E (hr.deeper _) hsp
  have J : Inv (cxOf CX P w K mg base N qual (defScope st) f (.ref c) A outer s H E) [] (start N vs) H s1 := inv_start S hr.r.hd e0 (len _ _ _ _ hsp) rv new
  refine ⟨nl.keeps new.toInCall.keep, codeAny_func (wpAny_mono (ht.run [] s1 (start N vs) H _ J hq) (fun fl s' z => ?_) fun _ _ z => z)⟩
  rcases fl with _ | _ | _ | u
  · obtain ⟨σ', H', J', q⟩ := z
    exact ⟨V.non, H', J'.os, J'.bare, J'.base, J'.hok, rfl, q⟩
  · obtain ⟨_, _, _, q⟩ := z
    exact q.elim
  · obtain ⟨_, _, _, q⟩ := z
    exact q.elim
  · obtain ⟨v, σ', H', J', r', q⟩ := z
    exact ⟨v, H', J'.os, J'.bare, J'.base, J'.hok, r', q⟩
theorem dfnC {x qual : Str} {st : Stmt} {f c : Addr} {fd : FuncData} {N ps : List Str} {k n : Nat} {sp : DSp m} (F : Fun K x qual st f fd) (hc : fd.code = .ref c) (S : FnScope N ps (defScope st)) (hn : n = ps.length)
    (hb : ∀ (A : Around) (outer : List Env) (s : Shared) (H : Hp) (E : XK) (En : Ent m), RoomG k (A.deeper (envOfC qual (defScope st) s.heap.objs.size f (.ref c))) →
      ∃ t, PSs (cxOf CX0 P w K mg base N qual (defScope st) f (.ref c) A outer s H E).nox (defBody st) (upS K m En t) ∧ ∀ ds s Qd, sp ds s Qd → t (endsOf Qd) (startD N ds) s) : FnG P w K mg base CX0 (k + 1) f fd ps (lift K m n sp) := by
  subst hn
  refine Fun.okC F hc S (fun vs H Q E h => h.1) (fun A outer s H vs Q E hr h => ?_)
  obtain ⟨hl, F0, ds, s0, Qd, sub, hm, hreg, rs, hsp, hQ⟩ := h
  obtain ⟨t, ht, hq⟩ := hb A outer s H E ⟨F0, H, s0⟩ hr
  refine ⟨_, ht.nox, F0, startD N ds, s0, _, rel_start sub hm hreg rs, ⟨Same.refl _, fun _ _ h _ => h, fun _ h => h, fun _ _ h => .inl h, fun _ h => .inl h, fun i p ⟨⟨o, e⟩, _⟩ => ?_⟩, hq ds s0 Qd hsp, ?_⟩
  · unfold startD at e
    by_cases hi : i < ds.length
    · rw [List.getElem?_append_left (by simpa using hi), List.getElem?_map, List.getElem?_eq_getElem hi] at e; cases e
    · rw [List.getElem?_append_right (by simpa using hi), List.getElem?_replicate] at e
      split at e <;> cases e
  · have cs : ∀ F' H' σ ρ s, Rel K m F' H' σ ρ s → Own m ⟨F0, H, s0⟩ F' H' σ ρ s → CStp m F0 H s0 F' H' s := fun F' H' σ ρ s r o => ⟨o.ext, o.keep, o.alive, o.fresh, o.regf, r.sub, r.mem, r.reg⟩
    exact ⟨fun F' H' σ ρ s _ r o q => hQ .non s _ F' H' q (cs F' H' σ ρ s r o) rfl, fun F' H' σ ρ s d v _ r o rv q => hQ d s v F' H' q (cs F' H' σ ρ s r o) rv, fun _ _ _ _ _ _ _ _ q => q.elim, fun _ _ _ _ _ _ _ _ q => q.elim⟩
end
/-- the law, where defs make lambdas -/
def spLawT (tb : List (Addr × Str)) : DSp (Mem.tab tb Mem.deck) := fun ds s Q => ∃ ns : List Int, ds = [.fz (ns.map .int)] ∧ ns.length ≤ 63 ∧ s.1.adr = none ∧ s.1.n = 0 ∧ ∀ s', Q (.bl true) s'
theorem law_startT {K : PySem.W.Frag} {H : Hp} {a : Addr} {ns : List Int} {E : XK} {tb : List (Addr × Str)} (hl : ns.length ≤ 63) (hT : ∀ p ∈ tb, H p.1 = some (.tbl #[]) ∧ p.1 ≠ a) (hS : SqL K H a (ns.map V.int)) : lift K (Mem.tab tb Mem.deck) 1 (spLawT tb) [.ref a] H (fun v _ => v = .bl true) E := by
  obtain ⟨F, hF⟩ : ∃ F : Hp, F = fun b => if b = a then H a else none := ⟨_, rfl⟩
  have Fa : F a = H a := by rw [hF]; exact if_pos rfl
  have Fn : ∀ b, b ≠ a → F b = none := fun b h => by rw [hF]; exact if_neg h
  have sq : SqL K F a (ns.map V.int) := by
    rcases hS with h | h
    · refine .inl ?_
      rcases h with h | h
      · exact .inl (Fa.trans h)
      · obtain ⟨o, h⟩ := h
        exact .inr ⟨o, Fa.trans h⟩
    · exact .inr h
  refine ⟨rfl, F, [.fz (ns.map .int)], (⟨none, 0⟩, fun _ => #[]), fun d _ => d = .bl true, fun b o e => ?_, ⟨(fun _ _ _ e => by cases e), fun p hp => ⟨(hT p hp).1, ⟨trivial, fun pos cv h => ?_, fun c h => ?_⟩, (fun ⟨_, _, _, e, _⟩ => by cases e), fun c h => ?_⟩⟩, fun x hx => ?_, .one ⟨a, _, rfl, sq, ?_, reps_of_ints ns⟩, ⟨ns, rfl, hl, rfl, rfl, fun _ => rfl⟩, fun d s' v F' H' e _ rv => ?_⟩
  · by_cases hb : b = a
    · rw [hb] at e ⊢; rw [← Fa]; exact e
    · rw [Fn b hb] at e; cases e
  · have z : codeAmong pos [] = some cv := h
    simp [codeAmong] at z
  · have h : Value.ref c ∈ ([] : List Value) := h
    cases h
  · have h : Value.ref c ∈ ([] : List Value) := h
    cases h
  · rcases hx with ⟨_, _, _, e, _⟩ | ⟨p, hp, rfl | h⟩
    · cases e
    · exact Fn _ (hT p hp).2
    · have h : Value.ref x ∈ ([] : List Value) := h
      cases h
  · rw [List.length_map]; exact Nat.le_of_lt (small1000 (by omega))
  · subst e; exact rv
end DL

set_option Elab.async false
set_option linter.all false
set_option maxRecDepth 100000
set_option maxHeartbeats 1000000
/-! EM22: the tables by the defs that make lambdas; the walk -/
namespace DL
open PySem PySem.Spec PyProof.Rows L2 TL LamX
def isRefV : Value → Bool
  | .ref _ => true
  | _ => false
theorem code_at {K : PySem.W.Frag} {f : Addr} {oc : Value} {od : Option Addr} {fd : FuncData} {sl : Array (Option Value)} (l : K.lookup f = some ⟨oc, od, .func fd, sl⟩) (h : isRefV fd.code = true) : fd.code = .ref (codeAt K f) := by
  unfold codeAt
  rw [l]
  show fd.code = .ref (codeOf fd)
  refine code_ref ?_
  unfold isRefC
  unfold isRefV at h
  split at h
  · first | rfl | (rename_i c e; rw [e])
  · cases h
/-- the tables of the defs fs, with the names of what they hold -/
abbrev tabNames (K : PySem.W.Frag) (fs : List (Addr × Str)) : List (Addr × Str) := fs.map fun p => (tabOf K (codeAt K p.1), p.2)
theorem walkT2 {l : PySem.W.OpenLaw} {n k : Nat} {q : Program} {loose : List Str} {XP : (Str → Option Value) → Heap → Prop} {YP : World → Heap → Prop} {d : DefRec} {K : Params → PySem.W.Frag} {x : Str} {fs : List (Addr × Str)}
    (hn : l.most = some n) (hn2 : n ≤ 63) (hdf : d.params.defaults = []) (hr : Room k callerA) (hno : importsNone q = true) (hY : ∀ (w : World) (h : Heap), YP w h → (K w.params).In h)
    (hT : ∀ (w : World) (h : Heap), YP w h → ∀ p ∈ fs, h.get? (tabOf (K w.params) (codeAt (K w.params) p.1)) = some { cls := .none, data := .fields #[] })
    (nT : ∀ P, ∀ p ∈ fs, (K P).lookup (tabOf (K P) (codeAt (K P) p.1)) = none) (hC : ∀ P, ∀ p ∈ fs, PySem.W.codeHdIn (K P) (codeAt (K P) p.1) (tabOf (K P) (codeAt (K P) p.1)) = true)
    (G : ∀ (w : World) (mg : Str → Option Value) (fa : Addr) (h : Heap), (K w.params).In h → h.Ns mainGlobals mg → mg d.name = some (.ref fa) →
      ∃ fd : FuncData, (∀ (s : Shared) (u : Value), BindsTo s fd ⟨[u], []⟩ [(x, u)]) ∧ ∀ base : Heap, (K w.params).In base → base.Ns mainGlobals mg → (∃ o, base.get? sysModules = some o) → (∀ p ∈ fs, TabB base mg (codeAt (K w.params) p.1) (tabOf (K w.params) (codeAt (K w.params) p.1))) →
        FnG l.prog w (K w.params) mg base CX0 k fa fd [x] (lift (K w.params) (Mem.tab (tabNames (K w.params) fs) Mem.deck) 1 (spLawT (tabNames (K w.params) fs)))) : PySem.W.WalkO q loose XP YP l.row.toRowW d [] (fun f vs => PySem.call f vs) := by
  have mem : ∀ {P : Params} {p : Addr × Addr}, p ∈ tabsOf (K P) (fs.map (·.1)) → ∃ r ∈ fs, p = (codeAt (K P) r.1, tabOf (K P) (codeAt (K P) r.1)) := fun {P p} hp => by
    obtain ⟨f, hf, rfl⟩ := List.mem_map.mp hp
    obtain ⟨r, hr, rfl⟩ := List.mem_map.mp hf
    exact ⟨r, hr, rfl⟩
  refine walkT (K := K) (x := x) (cs := fun P => tabsOf (K P) (fs.map (·.1))) (sp := fun K _ => lift K (Mem.tab (tabNames K fs) Mem.deck) 1 (spLawT (tabNames K fs))) hn (Nat.le_trans hn2 (by decide)) hdf hr hno hY (fun w h Y p hp => ?_) (fun P p hp => ?_) (fun P p hp => ?_) (fun w mg fa h KX hns hmg => ?_) fun P H a ns hl hO hS => law_startT (Nat.le_trans hl hn2) (fun p hp => ?_) hS
  · obtain ⟨r, hr, rfl⟩ := mem hp; exact hT w h Y r hr
  · obtain ⟨r, hr, rfl⟩ := mem hp; exact nT P r hr
  · obtain ⟨r, hr, rfl⟩ := mem hp; exact hC P r hr
  · obtain ⟨fd, b1, b2⟩ := G w mg fa h KX hns hmg
    exact ⟨fd, b1, fun base c1 c2 c3 c4 => b2 base c1 c2 c3 fun p hp => c4 (codeAt (K w.params) p.1, tabOf (K w.params) (codeAt (K w.params) p.1)) (List.mem_map.mpr ⟨p.1, List.mem_map_of_mem hp, rfl⟩)⟩
  · obtain ⟨r, hr, rfl⟩ := List.mem_map.mp hp
    exact hO (codeAt (K P) r.1, tabOf (K P) (codeAt (K P) r.1)) (List.mem_map.mpr ⟨r.1, List.mem_map_of_mem hr, rfl⟩)
end DL

set_option Elab.async false
set_option linter.all false
set_option maxRecDepth 100000
set_option maxHeartbeats 1000000
namespace RP
open PySem PySem.Spec PyProof.Rows L2 TL DL TX TO RG
def spChainB {tb : List (Addr × Str)} {m : Mem} (C : Addr) : DSp (Mem.tab tb m) := fun ds s Q => ∃ ms us ss ts, ds = [progD C ms us, .tup ((ss : List Str).map .str), .tup ((ts : List Str).map .str)] ∧ Mods ms ∧ Uses ms us ∧ ms.length ≤ 24 ∧ us.length ≤ 200 ∧ (∀ p ∈ ss, p.length ≤ 1000) ∧ (∀ p ∈ ts, p.length ≤ 1000) ∧ ∀ g, Q (optW (minWO (chainA ms.length (nextsS false (srt lessP us)) (underS ms ss) (underS ms ts)))) (s.1, g)
theorem spChainB_len {tb : List (Addr × Str)} {m : Mem} {C : Addr} : ∀ ds s Qd, (spChainB C : DSp (Mem.tab tb m)) ds s Qd → ds.length = 3 := fun ds s Qd ⟨_, _, _, _, e, _⟩ => by rw [e]; rfl
def spFirst12 {m : Mem} : DSp m := fun ds s Q => ∃ ms us ss gs, ds = [.lst ((ms : List Str).map .str), .lst ((us : List (Str × Str)).map ptD), .lst ((ss : List Str).map .str), .lst ((gs : List Str).map .str)] ∧ Mods ms ∧ Uses ms us ∧ ms.length ≤ 24 ∧ us.length ≤ 100 ∧ (∀ x ∈ ss, x ∈ ms) ∧ ss.length ≤ 24 ∧ gs.length ≤ 24 ∧ Q (optW (minWO (firstC ms us ss gs))) s
theorem spFirst12_len {m : Mem} : ∀ ds s Qd, (spFirst12 : DSp m) ds s Qd → ds.length = 4 := fun ds s Qd ⟨_, _, _, _, e, _⟩ => by rw [e]; rfl
theorem key_way (w : List Str) : lenKey (wayD w) = lwD w := by
  unfold lenKey lwD
  show D.tup [.int ((((lenOf (wayD w)).getD 0 : Nat)) : Int), wayD w] = _
  rw [show lenOf (wayD w) = some (w.map D.str).length from rfl, List.length_map]; rfl
theorem pick_map3 {α : Type} {f : α → D} {lt : α → α → Bool} (h : ∀ a b, keyLt (f a) (f b) = lt a b) : ∀ (xs : List α) (x : α), pickB keyLt (f x) (xs.map f) = f (minB lt x xs)
  | [], _ => rfl
  | y :: ys, x => by
    show pickB keyLt (if keyLt (f y) (f x) then f y else f x) (ys.map f) = f (minB lt (if lt y x then y else x) ys)
    rw [h]
    cases lt y x
    · exact pick_map3 h ys x
    · exact pick_map3 h ys y
theorem min_ways (ws : List (List Str)) : minKD (ws.map wayD) = optW (minWO ws) := by
  cases ws with
  | nil => rfl
  | cons w ws => exact pick_map3 (f := wayD) (lt := wlt) (fun a b => by unfold keyLt; rw [key_way, key_way, less_way]) ws w
theorem repDs_way : ∀ (n : Nat) (ws : List (List Str)), DL.repDs (n + 1) (ws.map wayD) = true
  | n, [] => by simp [DL.repDs]
  | n, w :: ws => by
    show DL.repDs (n + 1) (wayD w :: ws.map wayD) = true
    rw [DL.repDs, repDs_way n ws, Bool.and_true]
    show DL.repD (n + 1) (.tup (w.map D.str)) = true
    rw [DL.repD]
    exact repDs_strs n w
theorem alike_key (ws : List (List Str)) : PySem.W.AlikeAll (pyRs ((ws.map wayD).map lenKey)) := by
  rw [List.map_map, show lenKey ∘ wayD = lwD from funext key_way]
  exact alike_ways ws

def T_chain12 (tb : List (Addr × Str)) (a : Nat → Addr) {m : Mem} : DTS (Mem.tab tb m) :=
  (dSeq (dSet 3 (dCallD (spTable (a 26)) (D.bl false) (daCons (dVar 0) daNil)))
      (dSeq (dSet 4 (dCall (spUnder (a 26)) (daCons (dVar 0) (daCons (dVar 2) daNil))))
      (dSeq (dSetL 5 daNil)
      (dSeq (dFor (diSeq (dCall (spUnder (a 26)) (daCons (dVar 0) (daCons (dVar 1) daNil)))) (gN 6)
        (dExt 5 (dLc (diItemsF spChains (daCons (dVar 3) (daCons (dVar 6) daNil))) (gTup' 2 (gCons' (gN 7) (gCons' (gN 8) gNil'))) (dCmT inD (dVar 7) (dVar 4)) (dVar 8) [7, 8])))
      (dRet (dMinKey (dVar 5)))))))
theorem read_chain12 {tb : List (Addr × Str)} {a : Nat → Addr} {m : Mem} : ∀ ds s Qd, (spChainB (a 26) : DSp (Mem.tab tb m)) ds s Qd → (T_chain12 tb a : DTS (Mem.tab tb m)) (endsOf Qd) (startD ["program", "sources", "targets", "nexts", "ends", "found", "start", "end", "way"] ds) s := by
  intro ds s Qd h
  obtain ⟨ms, us, ss, ts, rfl, hm, hu, l1, l2, hs, ht, hQ⟩ := h
  have inU : ∀ u ∈ us, u.1 ∈ ms ∧ u.2 ∈ ms := fun u hu' => ⟨(hu.ok u hu').1, (hu.ok u hu').2.1⟩
  have inM : ∀ u ∈ srt lessP us, u.1 ∈ srt lessS ms ∧ u.2 ∈ srt lessS ms := fun u hu' => ⟨mem_srt.mpr (inU u (mem_srt.mp hu')).1, mem_srt.mpr (inU u (mem_srt.mp hu')).2⟩
  have ndM : (srt lessS ms).Nodup := (srt_perm (lt := lessS) ms).nodup_iff.mpr hm.nd
  have lM : (srt lessS ms).length = ms.length := srt_len _
  have okM : ∀ z ∈ srt lessS ms, sOk z = true := fun z hz => (hm.path z (mem_srt.mp hz)).ok
  have under : ∀ q ∈ underS ms ss, q ∈ srt lessS ms := fun q hq => (List.mem_filter.mp hq).1
  have uLen : (underS ms ss).length ≤ 24 := Nat.le_trans (List.length_filter_le _ _) (by omega)
  generalize hG : underS ms ts = G at hQ
  have inv : ∀ st ∈ srt lessS ms, InvW (srt lessS ms) st (chainsS ms.length (nextsS false (srt lessP us)) st) := fun st h => by
    have := chains_inv h (nexts_in (b := false) inM) (srt lessS ms).length
    rwa [lM] at this
  have klen : ∀ st ∈ srt lessS ms, (chainsS ms.length (nextsS false (srt lessP us)) st).length ≤ 24 := fun st h => by
    have := (inv st h).len h
    omega
  have room : ∀ qs : List Str, (∀ q ∈ qs, q ∈ srt lessS ms) → (chainA ms.length (nextsS false (srt lessP us)) qs G).length ≤ 24 * qs.length := fun qs => by
    induction qs with
    | nil => intro _; exact Nat.zero_le _
    | cons q qs ih =>
      intro h
      show (_ ++ chainA ms.length (nextsS false (srt lessP us)) qs G).length ≤ _
      rw [List.length_append, List.length_cons, List.length_map]
      have h1 := klen q (h q List.mem_cons_self)
      have h2 := List.length_filter_le (fun p : Str × List Str => decide (p.1 ∈ G)) (chainsS ms.length (nextsS false (srt lessP us)) q)
      have := ih fun y hy => h y (List.mem_cons_of_mem _ hy)
      omega
  refine ⟨ms, us, false, rfl, hm.nd, by omega, by omega, inU, ms, us, ts, rfl, by omega, ht, Nat.zero_le _, ms, us, ss, rfl, by omega, hs, _, rfl, fun pre ρ s' => s' = s ∧ ∃ c6 c7 c8, ∃ qs : List Str, pre = qs.map D.str ∧ ρ = [.sh (progD (a 26) ms us), .sh (.tup (ss.map .str)), .sh (.tup (ts.map .str)), .sh (tabD false (srt lessS ms) (srt lessP us)), .sh (.lst ((underS ms ts).map .str)), .ow (.lst ((chainA ms.length (nextsS false (srt lessP us)) qs G).map wayD)), c6, c7, c8],
    ⟨rfl, .no, .no, .no, [], rfl, rfl⟩, ?_, ?_⟩
  · rintro pre y post ρ s' e ⟨rfl, c6, c7, c8, qs, rfl, rfl⟩
    obtain ⟨st, hst, rfl, -⟩ := mid_map e
    rw [List.length_map] at hst
    have hlt : qs.length < (underS ms ss).length := (List.getElem?_eq_some_iff.mp hst).1
    have stM := under st (List.mem_of_getElem? hst)
    have qsM : ∀ q ∈ qs, q ∈ srt lessS ms := fun q hq => by
      have : D.str q ∈ (underS ms ss).map D.str := by rw [e]; exact List.mem_append_left _ (List.mem_map_of_mem hq)
      obtain ⟨q', h', e'⟩ := List.mem_map.mp this
      cases e'
      exact under q h'
    have few := room qs qsM
    have kl := klen st stM
    have iv := inv st stM
    refine ⟨⟨_, rfl⟩, keyI (srt lessS ms), (srt lessS ms).map (nextsS false (srt lessP us)), st, by unfold tabD; rw [List.map_map]; rfl, srt lessS ms, nextsS false (srt lessP us), st, rfl, ndM, stM, by omega, nexts_in inM, ?_⟩
    rw [lM]
    generalize hW : chainsS ms.length (nextsS false (srt lessP us)) st = W at kl iv
    refine ⟨keyI (W.map (·.1)), W.map (·.2), by unfold waysD; rw [List.map_map]; rfl, ⟨.inr st, keyI_mem.mpr stM, fun z => iv.no (keyI_mem.mp z)⟩, fun k hk z ez => ?_, ?_⟩
    · rw [ez] at hk
      obtain ⟨p, hp, rfl⟩ := List.mem_map.mp (keyI_mem.mp hk)
      exact okM _ (iv.ok p hp).1
    rw [items_ways]
    refine lcF (f := fun p : Str × List Str => .tup [.str p.1, wayD p.2]) (p := fun p => decide (p.1 ∈ G)) (h := fun p => wayD p.2) W (by omega) (fun p hp T U t f => ?_) ?_
    · refine ⟨_, rfl, rfl, _, _, rfl, _, _, rfl, rfl, ?_⟩
      refine ⟨rfl, plain_strs 58 _, ?_⟩
      rw [any_str, hG]
      cases c : decide (p.1 ∈ G) with
      | true => exact ⟨rfl, rfl, t c⟩
      | false => exact ⟨rfl, f c⟩
    · have hf := List.length_filter_le (fun p : Str × List Str => decide (p.1 ∈ G)) W
      refine ⟨_, _, rfl, rfl, by rw [List.length_map, List.length_map]; exact line_of2 (by omega), rfl, .sh (.str st), c7, c8, qs ++ [st], by rw [List.map_append]; rfl, ?_⟩
      have e1 : chainA ms.length (nextsS false (srt lessP us)) (qs ++ [st]) G = chainA ms.length (nextsS false (srt lessP us)) qs G ++ (W.filter fun p => decide (p.1 ∈ G)).map (·.2) := by
        unfold chainA
        rw [List.flatMap_append, List.flatMap_cons, List.flatMap_nil, List.append_nil, hW]
      rw [e1, List.map_append, List.map_map]
      rfl
  · rintro ρ s' ⟨rfl, c6, c7, c8, qs, eq, rfl⟩
    have eq2 : qs = underS ms ss := by
      exact ((List.map_inj_right (fun a b h => by cases h; rfl)).mp eq).symm
    subst eq2
    refine ⟨_, rfl, repDs_way 57 _, fun x hx => ?_, alike_key _, fun g => ?_⟩
    · obtain ⟨w, _, rfl⟩ := List.mem_map.mp hx
      exact ⟨_, rfl⟩
    · rw [min_ways]
      exact hQ g
def T_first12 {m : Mem} : DTS m :=
  (dSeq (dSetL 4 daNil)
      (dSeq (dFor (diSeq (dVar 2)) (gN 5)
        (dSeq (dSet 6 (dCall spNear15 (daCons (dVar 0) (daCons (dVar 1) (daCons (dLc (diSeq (dVar 3)) (gN 10) (dCmT neC (dVar 10) (dVar 5)) (dVar 10) [10]) daNil)))))
        (dIf (dCmT isntD' (dGet (dVar 6) (dVar 5)) (dC D.non)) (dSeq (dSetL 7 (daCons (dVar 5) daNil))
          (dSeq (dFor (diR1 (daCons (dGet (dVar 6) (dVar 5)) daNil)) (gN 8)
            (dSeq (dSet 9 (dOp subD (dGet (dVar 6) (dIxO 7 (dUn negD (dC (D.int 1))))) (dC (D.int 1))))
            (dApp 7 (dB minDD (daCons (dLc (diSeq (dVar 1)) (gTup' 2 (gCons' (gN 11) (gCons' (gN 12) gNil'))) (dAndT (dCmT eqC (dVar 11) (dIxO 7 (dUn negD (dC (D.int 1))))) (dCmT eqC (dGet (dVar 6) (dVar 12)) (dVar 9))) (dVar 12) [11, 12]) daNil)))))
          (dApp 4 (dTup (daCons (dLenO 7) (daCons (dB tupD (daCons (dVar 7) daNil)) daNil)))))) dNext)))
      (dSeq (dIf (dCmT (eqE false) (dVar 4) (dLst daNil)) (dRet (dC D.non)) dNext)
      (dRet (dOp ixD (dB minDD (daCons (dVar 4) daNil)) (dC (D.int 1)))))))
theorem read_first12 {m : Mem} : ∀ ds s Qd, (spFirst12 : DSp m) ds s Qd → (T_first12 : DTS m) (endsOf Qd) (startD ["_law_modules_here", "_law_uses_here", "_law_starts", "_law_goals", "_law_best", "_law_start", "_law_left", "_law_way", "_law_turn", "_law_here", "_law_goal", "_law_user", "_law_used"] ds) s := by
  intro ds s Qd h
  obtain ⟨ms, us, ss, gs, rfl, hm, hu, l1, l2, hss, l3, l4, hQ⟩ := h
  have inU : ∀ u ∈ us, u.1 ∈ ms ∧ u.2 ∈ ms := fun u hu' => ⟨(hu.ok u hu').1, (hu.ok u hu').2.1⟩
  have in2 : ∀ u ∈ us, u.2 ∈ ms := fun u h => (inU u h).2
  have eC : firstC ms us ss gs = ss.filterMap fun s => (nearS ms us (goalsN gs s) s).map fun k => s :: grZ us (nearS ms us (goalsN gs s)) k s := rfl
  rw [eC] at hQ
  generalize hg : (fun s : Str => (nearS ms us (goalsN gs s) s).map fun k => s :: grZ us (nearS ms us (goalsN gs s)) k s) = g at hQ
  have gat : ∀ s, g s = (nearS ms us (goalsN gs s) s).map fun k => s :: grZ us (nearS ms us (goalsN gs s)) k s := fun s => by rw [← hg]
  refine ⟨Nat.zero_le _, _, rfl, fun pre ρ s' => s' = s ∧ ∃ c5 c6 c7 c8 c9, ρ = [.sh (.lst (ms.map .str)), .sh (.lst (us.map ptD)), .sh (.lst (ss.map .str)), .sh (.lst (gs.map .str)), .ow (.lst (((ss.take pre.length).filterMap g).map lwD)), c5, c6, c7, c8, c9, .no, .no, .no],
    ⟨rfl, .no, .no, .no, .no, .no, rfl⟩, ?_, ?_⟩
  · rintro pre y post ρ s' e ⟨rfl, c5, c6, c7, c8, c9, rfl⟩
    obtain ⟨x, hx0, rfl, -⟩ := mid_map e
    have hxs := List.mem_of_getElem? hx0
    have hx := hss x hxs
    have ht : ss.take (pre ++ [D.str x]).length = ss.take pre.length ++ [x] := by rw [List.length_append, List.length_singleton, List.take_add_one, hx0]; rfl
    have fm : ((ss.take (pre ++ [D.str x]).length).filterMap g).map lwD = ((ss.take pre.length).filterMap g).map lwD ++ (match g x with | none => [] | some w => [lwD w]) := by
      rw [ht, List.filterMap_append, List.map_append]
      congr 1
      rw [List.filterMap_cons]
      cases g x <;> rfl
    refine ⟨_, rfl, lcF (f := D.str) (p := fun z => !decide (z = x)) (h := D.str) gs (by omega) (fun z hz T U t f => ?_) ?_⟩
    · refine ⟨rfl, rfl, ?_⟩
      rw [eqs]
      cases c : decide (z = x) with
      | true => exact ⟨rfl, f (by rw [c]; rfl)⟩
      | false => exact ⟨rfl, rfl, t (by rw [c]; rfl)⟩
    have eG : (gs.filter fun z => !decide (z = x)).map D.str = (goalsN gs x).map D.str := rfl
    rw [eG]
    have N := near_ok hm hu (goalsN gs x)
    refine ⟨ms, us, goalsN gs x, rfl, hm.nd, inU, by omega, l2, ?_⟩
    have gx := gat x
    generalize nearS ms us (goalsN gs x) = L at N gx ⊢
    have got : ∀ z ∈ ms, dicGet (keyI ms) (ms.map fun m => optN (L m)) (.inr z) = some (optN (L z)) := fun z hz => got_at (f := fun m => optN (L m)) hm.nd hz
    have g2 := got x hx
    refine ⟨_, _, _, _, rfl, rfl, g2, ?_⟩
    cases h2 : L x with
    | none =>
      refine ⟨(by intro w z; cases z), rfl, .sh (.str x), .sh (leftD ms L), c7, c8, c9, ?_⟩
      rw [fm, gx, h2]
      show _ = [Sl.sh (.lst (ms.map .str)), _, _, _, Sl.ow (.lst (((ss.take pre.length).filterMap g).map lwD ++ [])), _, _, _, _, _, _, _, _]
      rw [List.append_nil]; rfl
    | some k =>
      rw [h2] at g2 gx
      have gx : g x = some (x :: grZ us L k x) := gx
      have small : k ≤ 25 := by
        cases k with
        | zero => omega
        | succ k => have := near_small hm hu N hx h2; omega
      have gl := gz_len (us := us) (L := L) k x
      refine ⟨(by intro w z; cases z), lz rfl, _, _, _, _, rfl, rfl, g2, ?_⟩
      refine ⟨(k : Int), rfl, by omega, by omega, ?_⟩
      refine ⟨fun pre4 ρ s4 => s4 = s' ∧ ∃ (c8 c9 : Sl) (w : List Str) (z : Str) (i : Nat), i + pre4.length = k ∧ ρ = [.sh (.lst (ms.map .str)), .sh (.lst (us.map ptD)), .sh (.lst (ss.map .str)), .sh (.lst (gs.map .str)), .ow (.lst (((ss.take pre.length).filterMap g).map lwD)), .sh (.str x), .sh (leftD ms L), .ow (.lst ((w ++ [z]).map .str)), c8, c9, .no, .no, .no] ∧ L z = some i ∧ z ∈ ms ∧ w ++ [z] ++ grZ us L i z = x :: grZ us L k x,
        ⟨rfl, c8, c9, [], x, k, rfl, rfl, h2, hx, rfl⟩, ?_, ?_⟩
      · rintro pre4 y4 post4 ρ s4 e4 ⟨rfl, c8, c9, w, z, i, hi, rfl, hL, hz, hw⟩
        obtain ⟨hlt, rfl⟩ := rng_pre e4
        have hlt : pre4.length < k := hlt
        obtain ⟨j, rfl⟩ : ∃ j, i = j + 1 := ⟨i - 1, by omega⟩
        have gz := got z hz
        rw [hL] at gz
        obtain ⟨n1, n2, n3⟩ := gr_step N in2 hz hL
        have hz2 := in2 _ n1
        have at1 : atI ((w ++ [z]).map D.str) (-1) = some (.str z) := by
          rw [List.map_append]
          exact L2.atI_last (xs := w.map D.str) (v := .str z)
        have e3 : ((j + 1 : Nat) : Int) - 1 = (j : Int) := by omega
        have wl : (w ++ [z]).length ≤ 1000 := by
          have := congrArg List.length hw
          rw [List.length_append, List.length_cons, gl] at this
          omega
        refine ⟨⟨_, rfl⟩, _, _, _, rfl, rfl, at1, _, _, _, _, rfl, rfl, gz, ?_⟩
        refine ⟨⟨_, rfl⟩, _, rfl, lcF (f := ptD) (p := fun v => decide (v.1 = z) && decide (L v.2 = some j)) (h := fun v => .str v.2) us (by omega) (fun v hv T V t f => ?_) ?_⟩
        · refine ⟨_, rfl, rfl, _, _, rfl, _, _, rfl, rfl, ⟨_, rfl⟩, _, _, _, rfl, rfl, at1, rfl, rfl, ?_⟩
          rw [eqs]
          refine ifB2 (fun h => ?_) fun h => ?_
          · refine ⟨_, _, _, _, rfl, rfl, got v.2 (in2 v hv), (by cases L v.2 <;> rfl), rfl, ?_⟩
            rw [e3, eqD_optN]
            exact ⟨rfl, ifB2 (fun h' => ⟨rfl, t (by rw [h, h']; rfl)⟩) fun h' => f (by rw [h, h']; rfl)⟩
          · exact ⟨rfl, f (by rw [h]; rfl)⟩
        have ec : (us.filter fun v => decide (v.1 = z) && decide (L v.2 = some j)).map (fun v => D.str v.2) = (candS us L z j).map D.str := by
          unfold candS
          rw [List.map_map]; rfl
        rw [ec]
        cases hc : candS us L z j with
        | nil =>
          have := cand_mem.mpr ⟨n1, n2⟩
          rw [hc] at this; cases this
        | cons a0 as =>
          have em : minO (candS us L z j) = minB lessS a0 as := by rw [hc]; rfl
          refine ⟨.str a0, as.map .str, rfl, repDs_strs 60 (a0 :: as), alike_texts (a0 :: as), ?_⟩
          rw [pick_map2 less_str, ← em]
          refine ⟨_, rfl, Nat.lt_of_le_of_lt (by rw [List.length_map]; exact wl) (show 1000 < sizeLine by rw [sizeLine_eq]; decide), rfl, .sh (.int (0 + (pre4.length : Int))), .sh (.int (((j + 1 : Nat) : Int) - 1)), w ++ [z], minO (candS us L z j), j, by rw [List.length_append, List.length_singleton]; omega, by rw [List.map_append (l₁ := w ++ [z])]; rfl, n2, hz2, ?_⟩
          rw [← hw]
          show w ++ [z] ++ [minO (candS us L z j)] ++ grZ us L j (minO (candS us L z j)) = w ++ [z] ++ (minO (candS us L z j) :: grZ us L j (minO (candS us L z j)))
          rw [List.append_assoc]; rfl
      · rintro ρ s4 ⟨rfl, c8, c9, w, z, i, hi, rfl, hL, hz, hw⟩
        rw [rngD_length] at hi
        have hi : i + k = k := hi
        have : i = 0 := by omega
        subst this
        have hw : w ++ [z] = x :: grZ us L k x := by
          have := hw
          rw [show grZ us L 0 z = [] from rfl, List.append_nil] at this
          exact this
        have few : (((ss.take pre.length).filterMap g).map lwD).length < sizeLine := by
          rw [List.length_map]
          refine Nat.lt_of_le_of_lt (List.length_filterMap_le _ _) ?_
          rw [List.length_take]
          exact Nat.lt_of_le_of_lt (show min pre.length ss.length ≤ 100 by omega) (by rw [sizeLine_eq]; decide)
        refine ⟨⟨_, rfl⟩, _, rfl, _, _, rfl, rfl, lz rfl, _, rfl, few, rfl, .sh (.str x), .sh (leftD ms L), .sh (.lst ((w ++ [z]).map .str)), c8, c9, ?_⟩
        rw [fm, gx, ← hw, List.length_map]; rfl
  · rintro ρ s' ⟨rfl, c5, c6, c7, c8, c9, rfl⟩
    rw [List.length_map, List.take_length]
    generalize ss.filterMap g = C at hQ
    refine ⟨Nat.zero_le _, _, rfl, rfl, ?_⟩
    cases C with
    | nil => exact hQ
    | cons w ws =>
      refine ⟨lwD w, ws.map lwD, rfl, repDs_ways 58 (w :: ws), alike_ways (w :: ws), ?_⟩
      rw [pick_map2 less_way]
      exact ⟨_, atI_nat (j := 1) rfl, hQ⟩
def T_law12_r2_2 (tb : List (Addr × Str)) (a : Nat → Addr) : DTS (Mem.tab tb Mem.deck) :=
  (dSeq (dSet 4 (dMake (a 26) spProgI (daCons (dB tupD (daCons (dVar 6) daNil)) (daCons (dB tupD (daCons (dVar 7) daNil)) daNil))))
      (dFor (diR1 (daCons (dC (D.int 3)) daNil)) (gN 5)
        (dSeq (dPar 9 10 (daCons (dCall (tabSp tb spSome11) (daCons (dVar 1) (daCons (dVar 6) (daCons (dC (D.int 8)) daNil)))) (daCons (dCall (tabSp tb spSome11) (daCons (dVar 1) (daCons (dVar 6) (daCons (dC (D.int 8)) daNil)))) daNil)))
        (dFor (diSeq (dLst (daCons (dTup (daCons (dVar 9) (daCons (dVar 10) daNil))) (daCons (dTup (daCons (dVar 10) (daCons (dVar 9) daNil))) (daCons (dTup (daCons (dVar 9) (daCons (dVar 9) daNil))) daNil))))) (gN 8)
          (dSeq (dPar 12 13 (daCons (dCall spLUnder (daCons (dOp ixD (dVar 8) (dC (D.int 0))) (daCons (dVar 6) daNil))) (daCons (dCall spLUnder (daCons (dOp ixD (dVar 8) (dC (D.int 1))) (daCons (dVar 6) daNil))) daNil)))
          (dSeq (dSet 11 (dCall spFirst12 (daCons (dVar 6) (daCons (dVar 7) (daCons (dVar 12) (daCons (dVar 13) daNil))))))
          (dSeq (dIf (dNotT (dTr (dCall (spS 5) (daCons (dCall (spChainB (a 26)) (daCons (dVar 4) (daCons (dOp ixD (dVar 8) (dC (D.int 0))) (daCons (dOp ixD (dVar 8) (dC (D.int 1))) daNil)))) (daCons (dVar 11) daNil))))) (dRet (dC (D.bl false))) dNext)
          (dIf (dAndT (dCmT isntD' (dVar 11) (dC D.non)) (dCmT isntBl (dCall (spHolds (a 26)) (daCons (dVar 4) (daCons (dOp ixD (dVar 8) (dC (D.int 0))) (daCons (dOp ixD (dVar 8) (dC (D.int 1))) (daCons (dVar 11) daNil))))) (dC (D.bl true)))) (dRet (dC (D.bl false))) dNext))))))))
def T_law12 (tb : List (Addr × Str)) (a : Nat → Addr) : DTS (Mem.tab tb Mem.deck) :=
  (dSeq (dSet 1 (dCall (tabSp tb spDeck) (daCons (dVar 0) daNil)))
      (dSeq (dSet 2 (dCall (tabSp tb spNext) (daCons (dVar 1) (daCons (dC (D.int 4)) daNil))))
      (dSeq (dFor (diR1 (daCons (dC (D.int 3)) daNil)) (gN 3)
        (dSeq (dAsg (dCall (tabSp tb spData) (daCons (dVar 1) (daCons (dC (D.int 10)) (daCons (dC (D.int 20)) daNil)))) (gTup' 2 (gCons' (gN 6) (gCons' (gN 7) gNil'))))
        (dSeq (dIf (dAndT (dCmT eqC (dVar 3) (dC (D.int 0))) (dCmT eqC (dVar 2) (dC (D.int 0)))) (dAsg (dCall (tabSp tb spWide13) (daCons (dVar 1) (daCons (dC (D.int 70)) daNil))) (gTup' 2 (gCons' (gN 6) (gCons' (gN 7) gNil')))) dNext)
        (dSeq (dSet 4 (dMake (a 26) spProgI (daCons (dB tupD (daCons (dVar 6) daNil)) (daCons (dB tupD (daCons (dVar 7) daNil)) daNil))))
        (dFor (diR1 (daCons (dC (D.int 3)) daNil)) (gN 5)
          (dSeq (dPar 9 10 (daCons (dCall (tabSp tb spSome11) (daCons (dVar 1) (daCons (dVar 6) (daCons (dC (D.int 8)) daNil)))) (daCons (dCall (tabSp tb spSome11) (daCons (dVar 1) (daCons (dVar 6) (daCons (dC (D.int 8)) daNil)))) daNil)))
          (dFor (diSeq (dLst (daCons (dTup (daCons (dVar 9) (daCons (dVar 10) daNil))) (daCons (dTup (daCons (dVar 10) (daCons (dVar 9) daNil))) (daCons (dTup (daCons (dVar 9) (daCons (dVar 9) daNil))) daNil))))) (gN 8)
            (dSeq (dPar 12 13 (daCons (dCall spLUnder (daCons (dOp ixD (dVar 8) (dC (D.int 0))) (daCons (dVar 6) daNil))) (daCons (dCall spLUnder (daCons (dOp ixD (dVar 8) (dC (D.int 1))) (daCons (dVar 6) daNil))) daNil)))
            (dSeq (dSet 11 (dCall spFirst12 (daCons (dVar 6) (daCons (dVar 7) (daCons (dVar 12) (daCons (dVar 13) daNil))))))
            (dSeq (dIf (dNotT (dTr (dCall (spS 5) (daCons (dCall (spChainB (a 26)) (daCons (dVar 4) (daCons (dOp ixD (dVar 8) (dC (D.int 0))) (daCons (dOp ixD (dVar 8) (dC (D.int 1))) daNil)))) (daCons (dVar 11) daNil))))) (dRet (dC (D.bl false))) dNext)
            (dIf (dAndT (dCmT isntD' (dVar 11) (dC D.non)) (dCmT isntBl (dCall (spHolds (a 26)) (daCons (dVar 4) (daCons (dOp ixD (dVar 8) (dC (D.int 0))) (daCons (dOp ixD (dVar 8) (dC (D.int 1))) (daCons (dVar 11) daNil))))) (dC (D.bl true)))) (dRet (dC (D.bl false))) dNext)))))))))))
      (dRet (dC (D.bl true))))))
theorem read_law12 {tb : List (Addr × Str)} {a : Nat → Addr} : ∀ ds s Qd, (spLawT tb : DSp (Mem.tab tb Mem.deck)) ds s Qd → (T_law12 tb a : DTS (Mem.tab tb Mem.deck)) (endsOf Qd) (startD ["_law_script", "_law_deck_here", "_law_wide_here", "_law_turn", "_law_program", "_law_k", "_law_modules_here", "_law_uses_here", "_law_ends", "_law_sources", "_law_targets", "_law_due", "_law_starts", "_law_goals"] ds) s := by
  intro ds s Qd h
  obtain ⟨ns0, rfl, hl, hs, hn, hQ⟩ := h
  have hlim : drawLim = 1152921504606846976 := rfl
  refine ⟨ns0, rfl, hl, hs, fun A B C => ?_⟩
  refine ⟨A, B, C, 4, rfl, rfl, by decide, by decide, by show s.1.n < _; omega, fun wd k0 g0 g1 hk0 => ?_⟩
  have hk0 : k0 = s.1.n + 1 := hk0
  refine ⟨3, rfl, by decide, by decide, fun pre ρ s' => s'.1.adr = some (A, B, C) ∧ s'.1.n ≤ k0 + 4000 * pre.length ∧ ∃ c3 c4 c5 c6 c7 c8 c9 c10 c11 c12 c13, ρ = [.sh (.fz (ns0.map .int)), .sh (.any (.ref A)), .sh (.int wd), c3, c4, c5, c6, c7, c8, c9, c10, c11, c12, c13],
    ⟨rfl, Nat.le_refl _, .no, .no, .no, .no, .no, .no, .no, .no, .no, .no, .no, rfl⟩, fun pre0 x post ρ s' heq hI => ?_, fun ρ s' hI => ?_⟩
  · obtain ⟨h1, h2, c3, c4, c5, c6, c7, c8, c9, c10, c11, c12, c13, rfl⟩ := hI
    obtain ⟨hp, rfl⟩ := rng_pre heq
    have hp : pre0.length < 3 := hp
    have main : ∀ (ms : List Str) (us : List (Str × Str)) (k2 : Nat) (g : Addr → Array Value), Mods ms → Uses ms us → ms.length ≤ 24 → us.length ≤ 70 → k2 ≤ s'.1.n + 2700 → T_law12_r2_2 tb a { (endsOf Qd) with nx := fun ρ s2 => s2.1.adr = some (A, B, C) ∧ s2.1.n ≤ k0 + 4000 * (pre0 ++ [D.int (0 + (pre0.length : Int))]).length ∧ ∃ c3 c4 c5 c6 c7 c8 c9 c10 c11 c12 c13, ρ = [.sh (.fz (ns0.map .int)), .sh (.any (.ref A)), .sh (.int wd), c3, c4, c5, c6, c7, c8, c9, c10, c11, c12, c13] }
        [.sh (.fz (ns0.map .int)), .sh (.any (.ref A)), .sh (.int wd), .sh (.int (0 + (pre0.length : Int))), c4, c5, .sh (.lst (ms.map .str)), .sh (.lst (us.map ptD)), c8, c9, c10, c11, c12, c13] (⟨s'.1.adr, k2⟩, g) := by
      intro ms us k2 g hm hu hml hul hk2
      refine ⟨_, _, rfl, rfl, _, _, rfl, rfl, ms, us, rfl, hm, hu, hml, by omega, ?_⟩
      refine ⟨3, rfl, by decide, by decide, fun pre1 ρ s2 => s2.1.adr = some (A, B, C) ∧ s2.1.n ≤ k2 + 200 * pre1.length ∧ ∃ c5 c8 c9 c10 c11 c12 c13, ρ = [.sh (.fz (ns0.map .int)), .sh (.any (.ref A)), .sh (.int wd), .sh (.int (0 + (pre0.length : Int))), .sh (progD (a 26) ms us), c5, .sh (.lst (ms.map .str)), .sh (.lst (us.map ptD)), c8, c9, c10, c11, c12, c13],
        ⟨h1, Nat.le_refl _, c5, c8, c9, c10, c11, c12, c13, rfl⟩, fun pre1 x post1 ρ s2 heq1 hI1 => ?_, fun ρ s2 hI1 => ?_⟩
      · obtain ⟨q1, q2, c5, c8, c9, c10, c11, c12, c13, rfl⟩ := hI1
        obtain ⟨hp1, rfl⟩ := rng_pre heq1
        have hp1 : pre1.length < 3 := hp1
        refine ⟨A, B, C, ms, 8, rfl, q1, by decide, by decide, by omega, hm.path, by omega, fun xs k3 hxl hxp hk3 => ?_⟩
        refine ⟨A, B, C, ms, 8, rfl, q1, by decide, by decide, by omega, hm.path, by show k3 + _ < _; omega, fun ys k4 hyl hyp hk4 => ?_⟩
        have hk4 : k4 ≤ k3 + 100 := hk4
        refine ⟨_, _, rfl, lz rfl, lz rfl, lz rfl, lz rfl, _, rfl, fun pre2 ρ s3 => s3.1 = ⟨s2.1.adr, k4⟩ ∧ ∃ c8 c11 c12 c13, ρ = [.sh (.fz (ns0.map .int)), .sh (.any (.ref A)), .sh (.int wd), .sh (.int (0 + (pre0.length : Int))), .sh (progD (a 26) ms us), .sh (.int (0 + (pre1.length : Int))), .sh (.lst (ms.map .str)), .sh (.lst (us.map ptD)), c8, .sh (.tup (xs.map .str)), .sh (.tup (ys.map .str)), c11, c12, c13],
          ⟨rfl, c8, c11, c12, c13, rfl⟩, ?_, ?_⟩
        · rintro pre2 v post2 ρ s3 e2 ⟨r1, c8, c11, c12, c13, rfl⟩
          obtain ⟨ss, ts, rfl, has, hbs, las, lbs⟩ : ∃ ss ts : List Str, v = .tup [.tup (ss.map .str), .tup (ts.map .str)] ∧ (∀ p ∈ ss, p.length ≤ 1000) ∧ (∀ p ∈ ts, p.length ≤ 1000) ∧ ss.length ≤ 8 ∧ ts.length ≤ 8 := by
            have hv : v ∈ [D.tup [.tup (xs.map .str), .tup (ys.map .str)], .tup [.tup (ys.map .str), .tup (xs.map .str)], .tup [.tup (xs.map .str), .tup (xs.map .str)]] := by
              rw [show [D.tup [.tup (xs.map .str), .tup (ys.map .str)], .tup [.tup (ys.map .str), .tup (xs.map .str)], .tup [.tup (xs.map .str), .tup (xs.map .str)]] = pre2 ++ v :: post2 from e2]; simp
            rcases List.mem_cons.mp hv with z | hv
            · exact ⟨xs, ys, z, hxp, hyp, by omega, by omega⟩
            rcases List.mem_cons.mp hv with z | hv
            · exact ⟨ys, xs, z, hyp, hxp, by omega, by omega⟩
            · exact ⟨xs, xs, List.mem_singleton.mp hv, hxp, hxp, by omega, by omega⟩
          have lS : ∀ qs : List Str, (srt lessS (ms.filter (anyCov qs))).length ≤ 24 := fun qs => by
            rw [srt_len]; exact Nat.le_trans (List.length_filter_le _ _) hml
          refine ⟨_, atI_nat (j := 0) rfl, ss, ms, rfl, by omega, by omega, _, atI_nat (j := 1) rfl, ts, ms, rfl, by omega, by omega, _, _, rfl, ?_⟩
          refine ⟨ms, us, srt lessS (ms.filter (anyCov ss)), srt lessS (ms.filter (anyCov ts)), rfl, hm, hu, hml, by omega, fun s hs => (List.mem_filter.mp (mem_srt.mp hs)).1, lS ss, lS ts, ?_⟩
          rw [chain_due12 hm hu ss ts]
          have hold := fun w => chain_hold12 hm hu (ss := ss) (ts := ts) (w := w)
          have sm : smD 4 (optW (minWO (chainA ms.length (nextsS false (srt lessP us)) (underS ms ss) (underS ms ts)))) := by
            cases e : minWO (chainA ms.length (nextsS false (srt lessP us)) (underS ms ss) (underS ms ts)) with
            | none => trivial
            | some w => exact sm_tup 3 (Nat.le_trans (hold w e).2.1 (by omega))
          refine ⟨_, atI_nat (j := 0) rfl, _, atI_nat (j := 1) rfl, ms, us, ss, ts, rfl, hm, hu, hml, by omega, has, hbs, fun g' => ?_⟩
          refine ⟨_, rfl, sm, _, rfl, ?_⟩
          cases e : minWO (chainA ms.length (nextsS false (srt lessP us)) (underS ms ss) (underS ms ts)) with
          | none => exact ⟨(by intro w z; cases z), r1, _, _, _, _, rfl⟩
          | some w =>
            obtain ⟨hr, hwl, hwm⟩ := hold w e
            have gw := gs_paths w fun x hx => hm.path x (hwm x hx)
            have gd : Gd 150 (101 * w.length) 6 (wayD w) := gw.tup (by rw [List.length_map]; omega)
            refine ⟨(by intro w z; cases z), _, atI_nat (j := 0) rfl, _, atI_nat (j := 1) rfl, ms, us, ss, ts, wayD w, _, _, _, rfl, has, hbs, gd, by decide, _, true, rfl, rfl, ?_⟩
            rw [hr]
            exact ⟨r1, _, _, _, _, rfl⟩
        · rintro ρ s3 ⟨r1, c8, c11, c12, c13, rfl⟩
          refine ⟨by rw [r1]; exact q1, ?_, _, _, _, _, _, _, _, rfl⟩
          rw [r1, List.length_append, List.length_singleton]
          show k4 ≤ _
          omega
      · obtain ⟨q1, q2, c5, c8, c9, c10, c11, c12, c13, rfl⟩ := hI1
        have q2 : s2.1.n ≤ k2 + 200 * 3 := q2
        exact ⟨q1, by rw [List.length_append, List.length_singleton]; omega, _, _, _, _, _, _, _, _, _, _, _, rfl⟩
    refine ⟨A, B, C, 10, 20, rfl, h1, by decide, by decide, by decide, by decide, by omega, fun ms us k2 hm hu hml hul hk2 => ?_⟩
    refine ⟨_, rfl, rfl, _, _, rfl, _, _, rfl, rfl, ?_⟩
    refine ⟨rfl, rfl, ifB2 (fun _ => ⟨rfl, rfl, ifB2 (fun _ => ?_) fun _ => ?_⟩) fun _ => ?_⟩
    · refine ⟨A, B, C, 70, rfl, h1, by decide, by decide, by show k2 + _ < _; omega, fun ns vs k3 hm2 hu2 hml2 hul2 hk3 => ?_⟩
      have hk3 : k3 ≤ k2 + 1300 := hk3
      exact ⟨_, rfl, rfl, _, _, rfl, _, _, rfl, rfl, main ns vs k3 _ hm2 hu2 (by omega) (by omega) (by omega)⟩
    · exact main ms us k2 _ hm hu (by omega) (by omega) (by omega)
    · exact main ms us k2 _ hm hu (by omega) (by omega) (by omega)
  · exact hQ _
end RP

set_option Elab.async false
set_option linter.all false
set_option maxRecDepth 100000
set_option maxHeartbeats 4000000
namespace K12
open PySem PySem.Spec PyProof.Rows L2 TL DL RP RG
def topS (i : Nat) : Stmt := PySem.Challenge.pw_mayrest_k12_first_chains.main.body.getD i (.Pass ⟨0, 0, 0, 0⟩)
abbrev s_covers : Stmt := topS 8
abbrev s_covered : Stmt := topS 11
abbrev s_Program_modules : Stmt := inClass (topS 26) 2
abbrev s_modules_under : Stmt := topS 24
abbrev s_Program_uses : Stmt := inClass (topS 26) 3
abbrev s_next_table : Stmt := topS 28
abbrev s_chains_from : Stmt := topS 29
abbrev s_chain : Stmt := topS 31
abbrev s_is_chain : Stmt := topS 30
abbrev s_chain_holds : Stmt := topS 32
abbrev s__law_deck : Stmt := topS 34
abbrev s__law_next : Stmt := topS 35
abbrev s__law_name : Stmt := topS 36
abbrev s__law_pool : Stmt := topS 37
abbrev s__law_path : Stmt := topS 38
abbrev s__law_covers : Stmt := topS 39
abbrev s__law_overlap : Stmt := topS 40
abbrev s__law_modules : Stmt := topS 41
abbrev s__law_uses : Stmt := topS 42
abbrev s__law_data : Stmt := topS 43
abbrev s__law_same : Stmt := topS 44
abbrev s__law_under : Stmt := topS 45
abbrev s__law_near : Stmt := topS 46
abbrev s__law_first : Stmt := topS 47
abbrev s__law_some : Stmt := topS 48
abbrev s__law_wide : Stmt := topS 49
abbrev s__is_name : Stmt := topS 6
abbrev s_is_path : Stmt := topS 7
abbrev s_overlap : Stmt := topS 9
abbrev s__modules_error : Stmt := topS 21
abbrev s__is_pair_of : Stmt := topS 19
abbrev s__uses_error : Stmt := topS 22
abbrev s_program_error : Stmt := topS 23
abbrev s_parent : Stmt := topS 10
abbrev s__parts : Stmt := topS 25
abbrev s_Program___init__ : Stmt := inClass (topS 26) 0
abbrev s_law : Stmt := topS 50
structure Tx (w : World) (K : PySem.W.Frag) (mg : Str → Option Value) (base : Heap) (a : Nat → Addr) (d : Nat → FuncData) (e : Nat → Addr) (ed : Nat → FuncData) : Prop where
  f8 : Fun K "covers" "covers" (topS 8) (a 8) (d 8)
  g8 : mg "covers" = some (.ref (a 8))
  b8 : Binds K (d 8) ["path", "other"] []
  f11 : Fun K "covered" "covered" (topS 11) (a 11) (d 11)
  g11 : mg "covered" = some (.ref (a 11))
  b11 : Binds K (d 11) ["paths", "path"] []
  f2302 : Fun K "modules" "Program.modules" s_Program_modules (a 2302) (d 2302)
  b2302 : Binds K (d 2302) ["self"] []
  f24 : Fun K "modules_under" "modules_under" (topS 24) (a 24) (d 24)
  g24 : mg "modules_under" = some (.ref (a 24))
  b24 : Binds K (d 24) ["program", "paths"] []
  f2303 : Fun K "uses" "Program.uses" s_Program_uses (a 2303) (d 2303)
  b2303 : Binds K (d 2303) ["self"] []
  f28 : FunE K "next_table" "next_table" (topS 28) (a 28) (d 28)
  g28 : mg "next_table" = some (.ref (a 28))
  b28 : Binds K (d 28) ["program", "backward"] []
  bd28 : Binds K (d 28) ["program", "backward"] [.bool false]
  f29 : Fun K "chains_from" "chains_from" (topS 29) (a 29) (d 29)
  g29 : mg "chains_from" = some (.ref (a 29))
  b29 : Binds K (d 29) ["nexts", "start"] []
  f31 : Fun K "chain" "chain" (topS 31) (a 31) (d 31)
  g31 : mg "chain" = some (.ref (a 31))
  b31 : Binds K (d 31) ["program", "sources", "targets"] []
  f30 : Fun K "is_chain" "is_chain" (topS 30) (a 30) (d 30)
  g30 : mg "is_chain" = some (.ref (a 30))
  b30 : Binds K (d 30) ["program", "value"] []
  f32 : Fun K "chain_holds" "chain_holds" (topS 32) (a 32) (d 32)
  g32 : mg "chain_holds" = some (.ref (a 32))
  b32 : Binds K (d 32) ["program", "sources", "targets", "value"] []
  f34 : Fun K "_law_deck" "_law_deck" (topS 34) (a 34) (d 34)
  g34 : mg "_law_deck" = some (.ref (a 34))
  b34 : Binds K (d 34) ["_law_script"] []
  f35 : Fun K "_law_next" "_law_next" (topS 35) (a 35) (d 35)
  g35 : mg "_law_next" = some (.ref (a 35))
  b35 : Binds K (d 35) ["_law_deck_here", "_law_many"] []
  f36 : Fun K "_law_name" "_law_name" (topS 36) (a 36) (d 36)
  g36 : mg "_law_name" = some (.ref (a 36))
  b36 : Binds K (d 36) ["_law_deck_here"] []
  f37 : Fun K "_law_pool" "_law_pool" (topS 37) (a 37) (d 37)
  g37 : mg "_law_pool" = some (.ref (a 37))
  b37 : Binds K (d 37) ["_law_deck_here", "_law_many"] []
  f38 : Fun K "_law_path" "_law_path" (topS 38) (a 38) (d 38)
  g38 : mg "_law_path" = some (.ref (a 38))
  b38 : Binds K (d 38) ["_law_deck_here", "_law_pool_here", "_law_most"] []
  f39 : Fun K "_law_covers" "_law_covers" (topS 39) (a 39) (d 39)
  g39 : mg "_law_covers" = some (.ref (a 39))
  b39 : Binds K (d 39) ["_law_path_here", "_law_other"] []
  f40 : Fun K "_law_overlap" "_law_overlap" (topS 40) (a 40) (d 40)
  g40 : mg "_law_overlap" = some (.ref (a 40))
  b40 : Binds K (d 40) ["_law_path_here", "_law_other"] []
  f41 : Fun K "_law_modules" "_law_modules" (topS 41) (a 41) (d 41)
  g41 : mg "_law_modules" = some (.ref (a 41))
  b41 : Binds K (d 41) ["_law_deck_here", "_law_pool_here", "_law_most"] []
  f42 : Fun K "_law_uses" "_law_uses" (topS 42) (a 42) (d 42)
  g42 : mg "_law_uses" = some (.ref (a 42))
  b42 : Binds K (d 42) ["_law_deck_here", "_law_modules_here", "_law_most"] []
  f43 : Fun K "_law_data" "_law_data" (topS 43) (a 43) (d 43)
  g43 : mg "_law_data" = some (.ref (a 43))
  b43 : Binds K (d 43) ["_law_deck_here", "_law_most", "_law_uses_here"] []
  f44 : Fun K "_law_same" "_law_same" (topS 44) (a 44) (d 44)
  g44 : mg "_law_same" = some (.ref (a 44))
  b44 : Binds K (d 44) ["_law_found", "_law_due"] []
  f45 : Fun K "_law_under" "_law_under" (topS 45) (a 45) (d 45)
  g45 : mg "_law_under" = some (.ref (a 45))
  b45 : Binds K (d 45) ["_law_paths", "_law_modules_here"] []
  f46 : Fun K "_law_near" "_law_near" (topS 46) (a 46) (d 46)
  g46 : mg "_law_near" = some (.ref (a 46))
  b46 : Binds K (d 46) ["_law_modules_here", "_law_uses_here", "_law_goals"] []
  f47 : Fun K "_law_first" "_law_first" (topS 47) (a 47) (d 47)
  g47 : mg "_law_first" = some (.ref (a 47))
  b47 : Binds K (d 47) ["_law_modules_here", "_law_uses_here", "_law_starts", "_law_goals"] []
  f48 : Fun K "_law_some" "_law_some" (topS 48) (a 48) (d 48)
  g48 : mg "_law_some" = some (.ref (a 48))
  b48 : Binds K (d 48) ["_law_deck_here", "_law_modules_here", "_law_most"] []
  f49 : Fun K "_law_wide" "_law_wide" (topS 49) (a 49) (d 49)
  g49 : mg "_law_wide" = some (.ref (a 49))
  b49 : Binds K (d 49) ["_law_deck_here", "_law_uses_here"] []
  f6 : Fun K "_is_name" "_is_name" (topS 6) (a 6) (d 6)
  g6 : mg "_is_name" = some (.ref (a 6))
  b6 : Binds K (d 6) ["text"] []
  f7 : Fun K "is_path" "is_path" (topS 7) (a 7) (d 7)
  g7 : mg "is_path" = some (.ref (a 7))
  b7 : Binds K (d 7) ["value"] []
  f9 : Fun K "overlap" "overlap" (topS 9) (a 9) (d 9)
  g9 : mg "overlap" = some (.ref (a 9))
  b9 : Binds K (d 9) ["path", "other"] []
  f21 : Fun K "_modules_error" "_modules_error" (topS 21) (a 21) (d 21)
  g21 : mg "_modules_error" = some (.ref (a 21))
  b21 : Binds K (d 21) ["modules"] []
  f19 : Fun K "_is_pair_of" "_is_pair_of" (topS 19) (a 19) (d 19)
  g19 : mg "_is_pair_of" = some (.ref (a 19))
  b19 : Binds K (d 19) ["value", "modules"] []
  f22 : Fun K "_uses_error" "_uses_error" (topS 22) (a 22) (d 22)
  g22 : mg "_uses_error" = some (.ref (a 22))
  b22 : Binds K (d 22) ["modules", "uses"] []
  f23 : Fun K "program_error" "program_error" (topS 23) (a 23) (d 23)
  g23 : mg "program_error" = some (.ref (a 23))
  b23 : Binds K (d 23) ["modules", "uses"] []
  f10 : Fun K "parent" "parent" (topS 10) (a 10) (d 10)
  g10 : mg "parent" = some (.ref (a 10))
  b10 : Binds K (d 10) ["path"] []
  f25 : Fun K "_parts" "_parts" (topS 25) (a 25) (d 25)
  g25 : mg "_parts" = some (.ref (a 25))
  b25 : Binds K (d 25) ["modules"] []
  f2300 : Fun K "__init__" "Program.__init__" s_Program___init__ (a 2300) (d 2300)
  b2300 : Binds K (d 2300) ["self", "modules", "uses"] []
  f50 : Fun K "law" "law" (topS 50) (a 50) (d 50)
  g50 : mg "law" = some (.ref (a 50))
  b50 : Binds K (d 50) ["_law_script"] []
  g26 : mg "Program" = some (.ref (a 26))
  M26 : Mk K (a 26) (a 2300)
  cl26 : InsK K (a 26)
  ow26 : OwnC K (a 26)
  p2302 : PropOf K (a 26) "modules" (e 2302) (a 2302)
  p2303 : PropOf K (a 26) "uses" (e 2303) (a 2303)
  na26_modules : NoAttr K (a 26) "_modules"
  na26_parts : NoAttr K (a 26) "_parts"
  na26_uses : NoAttr K (a 26) "_uses"
  tc31 : (d 31).code = .ref (codeAt K (a 31))
  tB31 : LamX.TabB base mg (codeAt K (a 31)) (tabOf K (codeAt K (a 31)))
  sys : ∃ o, base.get? sysModules = some o
  z_abs : mg "abs" = none
  z_all : mg "all" = none
  z_any : mg "any" = none
  z_bool : mg "bool" = none
  z_dict : mg "dict" = none
  z_enumerate : mg "enumerate" = none
  z_int : mg "int" = none
  z_isinstance : mg "isinstance" = none
  z_len : mg "len" = none
  z_list : mg "list" = none
  z_min : mg "min" = none
  z_range : mg "range" = none
  z_repr : mg "repr" = none
  z_set : mg "set" = none
  z_sorted : mg "sorted" = none
  z_str : mg "str" = none
  z_tuple : mg "tuple" = none
  z_zip : mg "zip" = none
  c_MAX_MODULES : ∃ t, mg "MAX_MODULES" = some (.int 24 t)
  c_MAX_NAMES : ∃ t, mg "MAX_NAMES" = some (.int 6 t)
  c_MAX_USES : ∃ t, mg "MAX_USES" = some (.int 200 t)
  c__MAX_LETTERS : ∃ t, mg "_MAX_LETTERS" = some (.int 8 t)
section
variable {P : Program} {w : World} {K : PySem.W.Frag} {mg : Str → Option Value} {base : Heap} {a : Nat → Addr} {d : Nat → FuncData} {e : Nat → Addr} {ed : Nat → FuncData}

abbrev names_covers : List Str := ["path", "other"]
theorem sc_covers : FnScope names_covers ["path", "other"] (defScope s_covers) := ⟨rfl, rfl, rfl, by decide +kernel, rfl, by decide +kernel, by decide +kernel⟩
theorem len_covers {m : Mem} : ∀ ds s Qd, (spCovers : DSp m) ds s Qd → ds.length = 2 := spCovers_len
theorem ok_covers {m : Mem} (T : Tx w K mg base a d e ed) : FnG P w K mg base CX0 1 (a 8) (d 8) ["path", "other"] (lift K m 2 spCovers) := by
  refine dfn T.f8 sc_covers rfl (fun cdv A outer s0 H E En hr => ⟨_, (dss_one (ds_ret (de_or (de_cmp (op_eqD (u64 hr)) o_eq (dv 1) (dv 0)) (de_one (de_m PySem.F.plainAttrs_str PySem.F.slot_str_startswith PySem.F.type_str_startswith mt_startswith o_sw (dv 1) (da_cons (de_op op_addA o_add (dv 0) de_str) da_nil)))))), fun ds s Qd h => ?_⟩)
  exact read_covers ds s Qd h
abbrev names_covered : List Str := ["paths", "path", "candidate"]
theorem sc_covered : FnScope names_covered ["paths", "path"] (defScope s_covered) := ⟨rfl, rfl, rfl, by decide +kernel, rfl, by decide +kernel, by decide +kernel⟩
theorem len_covered {m : Mem} : ∀ ds s Qd, (spCovered : DSp m) ds s Qd → ds.length = 2 := spCovered_len
theorem ok_covered {m : Mem} (T : Tx w K mg base a d e ed) : FnG P w K mg base CX0 2 (a 11) (d 11) ["paths", "path"] (lift K m 2 spCovered) := by
  have G_covers := ok_covers (P := P) (w := w) (base := base) (m := m) T
  refine dfn T.f11 sc_covered rfl (fun cdv A outer s0 H E En hr => ⟨_, (dss_cons (ds_for rfl (di_seq (dv 0)) (dg_name 2 sc_covered.nd)
        (dss_one (ds_if (dt_truth (de_call G_covers len_covers (hr.mono (by decide)) (by rfl) T.g8 T.f8.kp T.b8 (da_cons (dv 2) (da_cons (dv 1) da_nil))))
          (dss_one (ds_ret (dv 2)))
          dss_nil)))
      (dss_one (ds_ret de_non))), fun ds s Qd h => ?_⟩)
  exact read_covered ds s Qd h
abbrev names_Program_modules : List Str := ["self"]
theorem sc_Program_modules : FnScope names_Program_modules ["self"] (defScope s_Program_modules) := ⟨rfl, rfl, rfl, by decide +kernel, rfl, by decide +kernel, by decide +kernel⟩
theorem len_Program_modules {m : Mem} : ∀ ds s Qd, ((spGetM (a 26)) : DSp m) ds s Qd → ds.length = 1 := spGetM_len
theorem ok_Program_modules {m : Mem} (T : Tx w K mg base a d e ed) : FnG P w K mg base CX0 1 (a 2302) (d 2302) ["self"] (lift K m 1 (spGetM (a 26))) := by
  refine dfn T.f2302 sc_Program_modules rfl (fun cdv A outer s0 H E En hr => ⟨_, (dss_one (ds_ret (de_fld T.cl26.cl T.na26_modules (dv 0)))), fun ds s Qd h => ?_⟩)
  exact read_getm05 (a := fun _ => a 26) ds s Qd h
abbrev names_modules_under : List Str := ["program", "paths", "module"]
theorem sc_modules_under : FnScope names_modules_under ["program", "paths"] (defScope s_modules_under) := ⟨rfl, rfl, rfl, by decide +kernel, rfl, by decide +kernel, by decide +kernel⟩
theorem len_modules_under {m : Mem} : ∀ ds s Qd, ((spUnder (a 26)) : DSp m) ds s Qd → ds.length = 2 := spUnder_len
theorem ok_modules_under {m : Mem} (T : Tx w K mg base a d e ed) : FnG P w K mg base CX0 4 (a 24) (d 24) ["program", "paths"] (lift K m 2 (spUnder (a 26))) := by
  have G_covered := ok_covered (P := P) (w := w) (base := base) (m := m) T
  have G_Program_modules := ok_Program_modules (P := P) (w := w) (base := base) (m := m) T
  refine dfn T.f24 sc_modules_under rfl (fun cdv A outer s0 H E En hr => ⟨_, (dss_one (ds_ret (de_lc (own := [("module", 2)]) sc_modules_under.nd (di_seq (de_prop T.cl26.cl T.p2302 G_Program_modules (hr.mono (by decide)) T.b2302 (dv 0))) (blkOk_by (N := names_modules_under) (sc := defScope s_modules_under) (by decide +kernel)) (fun _ _ _ _ _ => (dg_name 2 sc_modules_under.nd)) (fun _ _ _ _ _ => (dts_one (dt_cmp op_notN o_notN (de_call G_covered len_covered (hr.mono (by decide)) (by rfl) T.g11 T.f11.kp T.b11 (da_cons (dv 1) (da_cons (dv 2) da_nil))) de_non))) (fun _ _ _ _ _ => (dv 2))))), fun ds s Qd h => ?_⟩)
  exact read_under13 (a := fun _ => a 26) ds s Qd h
abbrev names_Program_uses : List Str := ["self"]
theorem sc_Program_uses : FnScope names_Program_uses ["self"] (defScope s_Program_uses) := ⟨rfl, rfl, rfl, by decide +kernel, rfl, by decide +kernel, by decide +kernel⟩
theorem len_Program_uses {m : Mem} : ∀ ds s Qd, ((spGetU (a 26)) : DSp m) ds s Qd → ds.length = 1 := spGetU_len
theorem ok_Program_uses {m : Mem} (T : Tx w K mg base a d e ed) : FnG P w K mg base CX0 1 (a 2303) (d 2303) ["self"] (lift K m 1 (spGetU (a 26))) := by
  refine dfn T.f2303 sc_Program_uses rfl (fun cdv A outer s0 H E En hr => ⟨_, (dss_one (ds_ret (de_fld T.cl26.cl T.na26_uses (dv 0)))), fun ds s Qd h => ?_⟩)
  exact read_getu05 (a := fun _ => a 26) ds s Qd h
abbrev names_next_table : List Str := ["program", "backward", "table", "module", "user", "used"]
theorem sc_next_table : FnScope names_next_table ["program", "backward"] (defScope s_next_table) := ⟨rfl, rfl, rfl, by decide +kernel, rfl, by decide +kernel, by decide +kernel⟩
theorem len_next_table {m : Mem} : ∀ ds s Qd, ((spTable (a 26)) : DSp m) ds s Qd → ds.length = 2 := spTable_len
theorem ok_next_table {m : Mem} (T : Tx w K mg base a d e ed) : FnG P w K mg base CX0 4 (a 28) (d 28) ["program", "backward"] (lift K m 2 (spTable (a 26))) := by
  have G_Program_modules := FnG.imp (ok_Program_modules (P := P) (w := w) (base := base) (m := Mem.nil) T) fun _ _ _ _ => lift_hot
  have len_Program_modules : ∀ ds s Qd, (hotSp (spGetM (a 26) : DSp Mem.nil) : DSp (Mem.hot Mem.nil)) ds s Qd → ds.length = 1 := fun ds s Qd h => len_Program_modules ds s.1 _ h
  have G_Program_uses := FnG.imp (ok_Program_uses (P := P) (w := w) (base := base) (m := Mem.nil) T) fun _ _ _ _ => lift_hot
  have len_Program_uses : ∀ ds s Qd, (hotSp (spGetU (a 26) : DSp Mem.nil) : DSp (Mem.hot Mem.nil)) ds s Qd → ds.length = 1 := fun ds s Qd h => len_Program_uses ds s.1 _ h
  refine FnG.imp (sp := lift K (Mem.hot Mem.nil) 2 (purH (pTable (a 26)))) ?_ fun _ _ _ _ => lift_tab
  refine dfnED (fun s => s.2 = []) (fun ds s Qd h => h.1) T.f28 sc_next_table rfl (fun cdv A outer s0 H E En hE hr => ⟨_, (dss_cons (ds_setD0 2 sc_next_table.nd)
      (dss_cons (ds_for rfl (di_seq (de_prop T.cl26.cl T.p2302 G_Program_modules (hr.mono (by decide)) T.b2302 (dv 0))) (dg_name 3 sc_next_table.nd)
        (dss_one (ds_tabNew 2 (u1 hr) (dv 3))))
      (dss_cons (ds_for rfl (di_seq (de_prop T.cl26.cl T.p2303 G_Program_uses (hr.mono (by decide)) T.b2303 (dv 0))) (dg_tup (n := 2) rfl (dgs_cons (dg_name 4 sc_next_table.nd) (dgs_cons (dg_name 5 sc_next_table.nd) dgs_nil)))
        (dss_one (ds_if (dt_truth (dv 1))
          (dss_one (ds_tabApp 2 (u1 hr) (dv 5) (dv 4)))
          (dss_one (ds_tabApp 2 (u1 hr) (dv 4) (dv 5))))))
      (dss_one (ds_retTab hE 2))))), fun ds s Qd h => ?_⟩)
  exact read_table19 (a := fun _ => a 26) ds s Qd h
abbrev names_chains_from : List Str := ["nexts", "start", "ways", "queue", "at", "way", "other"]
theorem sc_chains_from : FnScope names_chains_from ["nexts", "start"] (defScope s_chains_from) := ⟨rfl, rfl, rfl, by decide +kernel, rfl, by decide +kernel, by decide +kernel⟩
theorem len_chains_from {m : Mem} : ∀ ds s Qd, (spChains : DSp m) ds s Qd → ds.length = 2 := spChains_len
theorem ok_chains_from {m : Mem} (T : Tx w K mg base a d e ed) : FnG P w K mg base CX0 1 (a 29) (d 29) ["nexts", "start"] (lift K m 2 spChains) := by
  refine dfn T.f29 sc_chains_from rfl (fun cdv A outer s0 H E En hr => ⟨_, (dss_cons (ds_setD0 2 sc_chains_from.nd)
      (dss_cons (ds_setL 3 sc_chains_from.nd (da_cons (de_tup (da_cons (dv 1) da_nil)) da_nil))
      (dss_cons (ds_set 4 sc_chains_from.nd de_int)
      (dss_cons (ds_while (dt_cmp op_ltA o_lt (dv 4) (de_lenO 3 (by rfl) T.z_len))
        (dss_cons (ds_set 5 sc_chains_from.nd (de_ixO 3 (dv 4)))
        (dss_cons (ds_for rfl (di_seq (de_get (u1 hr) (dv 0) (de_ix ix_seq o_ix (dv 5) (de_un un_neg o_neg de_int)))) (dg_name 6 sc_chains_from.nd)
          (dss_one (ds_if (PW.pt (dw_and (dt_cmp (op_neD (u64 hr)) o_ne (dv 6) (dv 1)) (dw_and1 (dt_notInO 2 (u1 hr) (dv 6)))))
            (dss_cons (ds_dicPut 2 (u1 hr) (de_tup (da_star (dv 5) (da_cons (dv 6) da_nil))) (dv 6))
            (dss_one (ds_app 3 (de_tup (da_star (dv 5) (da_cons (dv 6) da_nil))))))
            dss_nil)))
        (dss_one (ds_aug 4 sc_chains_from.nd iop_add o_iadd de_int)))))
      (dss_one (ds_ret (dv 2))))))), fun ds s Qd h => ?_⟩)
  exact read_chains19 ds s Qd h
abbrev names_chain : List Str := ["program", "sources", "targets", "nexts", "ends", "found", "start", "end", "way"]
theorem sc_chain : FnScope names_chain ["program", "sources", "targets"] (defScope s_chain) := ⟨rfl, rfl, rfl, by decide +kernel, rfl, by decide +kernel, by decide +kernel⟩
theorem len_chain {m : Mem} : ∀ ds s Qd, ((spChainB (a 26)) : DSp (Mem.tab (tabNames K [(a 31, Str.ofString "chain.<locals>.<lambda>")]) m)) ds s Qd → ds.length = 3 := spChainB_len
theorem ok_chain {m : Mem} (T : Tx w K mg base a d e ed) : FnG P w K mg base CX0 5 (a 31) (d 31) ["program", "sources", "targets"] (lift K (Mem.tab (tabNames K [(a 31, Str.ofString "chain.<locals>.<lambda>")]) m) 3 (spChainB (a 26))) := by
  have G_modules_under := ok_modules_under (P := P) (w := w) (base := base) (m := Mem.tab (tabNames K [(a 31, Str.ofString "chain.<locals>.<lambda>")]) m) T
  have G_next_table := ok_next_table (P := P) (w := w) (base := base) (m := Mem.tab (tabNames K [(a 31, Str.ofString "chain.<locals>.<lambda>")]) m) T
  have G_chains_from := ok_chains_from (P := P) (w := w) (base := base) (m := Mem.tab (tabNames K [(a 31, Str.ofString "chain.<locals>.<lambda>")]) m) T
  refine dfnC T.f31 T.tc31 sc_chain rfl (fun A outer s0 H E En hr => ⟨_, (dss_cons (ds_set 3 sc_chain.nd (de_callD false G_next_table len_next_table (hr.mono (by decide)) (by rfl) T.g28 T.f28.kp T.bd28 (da_cons (dv 0) da_nil)))
      (dss_cons (ds_set 4 sc_chain.nd (de_call G_modules_under len_modules_under (hr.mono (by decide)) (by rfl) T.g24 T.f24.kp T.b24 (da_cons (dv 0) (da_cons (dv 2) da_nil))))
      (dss_cons (ds_setL 5 sc_chain.nd da_nil)
      (dss_cons (ds_for rfl (di_seq (de_call G_modules_under len_modules_under (hr.mono (by decide)) (by rfl) T.g24 T.f24.kp T.b24 (da_cons (dv 0) (da_cons (dv 1) da_nil)))) (dg_name 6 sc_chain.nd)
        (dss_one (ds_ext 5 (de_lc (own := [("end", 7), ("way", 8)]) sc_chain.nd (di_itemsF G_chains_from len_chains_from (hr.mono (by decide)) (by rfl) T.g29 T.f29.kp T.b29 (da_cons (dv 3) (da_cons (dv 6) da_nil))) (blkOk_by (N := names_chain) (sc := defScope s_chain) (by decide +kernel)) (fun _ _ _ _ _ => (dg_tup (n := 2) rfl (dgs_cons (dg_name 7 sc_chain.nd) (dgs_cons (dg_name 8 sc_chain.nd) dgs_nil)))) (fun _ _ _ _ _ => (dts_one (dt_cmp (op_inA (u65 hr)) o_in (dv 7) (dv 4)))) (fun _ _ _ _ _ => (dv 8))))))
      (dss_one (ds_ret (de_minKey (x := "way") (by rfl) T.sys (u65 hr) (hr.mono (by decide)) (by rfl) T.z_min (dv 5) (List.mem_singleton.mpr rfl) (fun p hp _ => by rw [List.mem_singleton.mp hp]; rfl) T.tB31 rfl rfl ⟨rfl, rfl, rfl, by decide +kernel, rfl, by decide +kernel, by decide +kernel⟩ (fun _ _ _ _ _ _ => rfl) (by decide +kernel) T.z_len (by decide +kernel) (by decide +kernel) (by decide +kernel)))))))), fun ds s Qd h => ?_⟩)
  exact read_chain12 ds s Qd h
abbrev names_is_chain : List Str := ["program", "value", "module", "use"]
theorem sc_is_chain : FnScope names_is_chain ["program", "value"] (defScope s_is_chain) := ⟨rfl, rfl, rfl, by decide +kernel, rfl, by decide +kernel, by decide +kernel⟩
theorem len_is_chain {m : Mem} : ∀ ds s Qd, ((spChain (a 26)) : DSp m) ds s Qd → ds.length = 2 := spChain_len
theorem ok_is_chain {m : Mem} (T : Tx w K mg base a d e ed) : FnG P w K mg base CX0 4 (a 30) (d 30) ["program", "value"] (lift K m 2 (spChain (a 26))) := by
  have G_Program_modules := ok_Program_modules (P := P) (w := w) (base := base) (m := m) T
  have G_Program_uses := ok_Program_uses (P := P) (w := w) (base := base) (m := m) T
  refine dfn T.f30 sc_is_chain rfl (fun cdv A outer s0 H E En hr => ⟨_, (dss_cons (ds_if (PW.pt (dw_or (dt_not (dt_truth (de_callB call_isi o_isi (by rfl) T.z_isinstance (by decide +kernel) (da_cons (dv 1) (da_cons (de_bltn (v := .ty "tuple") (by rfl) T.z_tuple (by decide +kernel) rfl) da_nil))))) (dw_or1 (dt_cmp op_ltA o_lt (de_callB (DL.CallR.or call_len call_lenD) o_len (by rfl) T.z_len (by decide +kernel) (da_cons (dv 1) da_nil)) de_int))))
        (dss_one (ds_ret de_bl))
        dss_nil)
      (dss_cons (ds_if (dt_not (dt_truth (de_callB (cr_all rfl) o_all (by rfl) T.z_all (by decide +kernel) (da_cons (de_lc (own := [("module", 2)]) sc_is_chain.nd (di_seq (dv 1)) (blkOk_by (N := names_is_chain) (sc := defScope s_is_chain) (by decide +kernel)) (fun _ _ _ _ _ => (dg_name 2 sc_is_chain.nd)) (fun _ _ _ _ _ => dts_nil) (fun _ _ _ _ _ => (de_cmp (op_inTx (u1 hr)) o_inTx (dv 2) (de_prop T.cl26.cl T.p2302 G_Program_modules (hr.mono (by decide)) T.b2302 (dv 0))))) da_nil))))
        (dss_one (ds_ret de_bl))
        dss_nil)
      (dss_one (ds_ret (de_and (de_cmp (op_eqD (u64 hr)) o_eq (de_lenSet (by rfl) (by rfl) T.z_len (by rfl) T.z_set (dv 1)) (de_callB (DL.CallR.or call_len call_lenD) o_len (by rfl) T.z_len (by decide +kernel) (da_cons (dv 1) da_nil))) (de_one (de_callB (cr_all rfl) o_all (by rfl) T.z_all (by decide +kernel) (da_cons (de_lc (own := [("use", 3)]) sc_is_chain.nd (di_zipN (by rfl) T.z_zip (da_cons (dv 1) (da_cons (de_slice sl_all o_sl (dv 1) (do_some de_int) do_none) da_nil))) (blkOk_by (N := names_is_chain) (sc := defScope s_is_chain) (by decide +kernel)) (fun _ _ _ _ _ => (dg_name 3 sc_is_chain.nd)) (fun _ _ _ _ _ => dts_nil) (fun _ _ _ _ _ => (de_cmp (op_inTP (u65 hr)) (o_inTP (neg := false)) (dv 3) (de_prop T.cl26.cl T.p2303 G_Program_uses (hr.mono (by decide)) T.b2303 (dv 0))))) da_nil)))))))), fun ds s Qd h => ?_⟩)
  exact read_chain11 (a := fun _ => a 26) ds s Qd h
abbrev names_chain_holds : List Str := ["program", "sources", "targets", "value"]
theorem sc_chain_holds : FnScope names_chain_holds ["program", "sources", "targets", "value"] (defScope s_chain_holds) := ⟨rfl, rfl, rfl, by decide +kernel, rfl, by decide +kernel, by decide +kernel⟩
theorem len_chain_holds {m : Mem} : ∀ ds s Qd, ((spHolds (a 26)) : DSp m) ds s Qd → ds.length = 4 := spHolds_len
theorem ok_chain_holds {m : Mem} (T : Tx w K mg base a d e ed) : FnG P w K mg base CX0 5 (a 32) (d 32) ["program", "sources", "targets", "value"] (lift K m 4 (spHolds (a 26))) := by
  have G_covered := ok_covered (P := P) (w := w) (base := base) (m := m) T
  have G_is_chain := ok_is_chain (P := P) (w := w) (base := base) (m := m) T
  refine dfn T.f32 sc_chain_holds rfl (fun cdv A outer s0 H E En hr => ⟨_, (dss_one (ds_ret (de_and (de_call G_is_chain len_is_chain (hr.mono (by decide)) (by rfl) T.g30 T.f30.kp T.b30 (da_cons (dv 0) (da_cons (dv 3) da_nil))) (de_and (de_cmp op_notN o_notN (de_call G_covered len_covered (hr.mono (by decide)) (by rfl) T.g11 T.f11.kp T.b11 (da_cons (dv 1) (da_cons (de_ix ix_seq o_ix (dv 3) de_int) da_nil))) de_non) (de_one (de_cmp op_notN o_notN (de_call G_covered len_covered (hr.mono (by decide)) (by rfl) T.g11 T.f11.kp T.b11 (da_cons (dv 2) (da_cons (de_ix ix_seq o_ix (dv 3) (de_un un_neg o_neg de_int)) da_nil))) de_non)))))), fun ds s Qd h => ?_⟩)
  exact read_holds11 (a := fun _ => a 26) ds s Qd h
abbrev names__law_deck : List Str := ["_law_script", "_law_cells", "_law_number"]
theorem sc__law_deck : FnScope names__law_deck ["_law_script"] (defScope s__law_deck) := ⟨rfl, rfl, rfl, by decide +kernel, rfl, by decide +kernel, by decide +kernel⟩
theorem ok0__law_deck (T : Tx w K mg base a d e ed) : FnOk P w K mg base CX0 1 (a 34) (d 34) ["_law_script"] (lift K Mem.deck 1 spDeck) := by
  refine T.f34.ok sc__law_deck (fun vs H Q E h => h.1) (fun cdv A outer s H vs Q E hr h => ?_)
  obtain ⟨hl, F, ds, sd, Qd, sub, hm, hreg, rs, ⟨ns, e2, hns, e0, hQd⟩, hQ⟩ := h
  subst e2
  obtain ⟨v, _, rfl, ⟨sc, vs, rfl, hsc, _, rv⟩, rn⟩ := rs
  cases rn
  have ev := reps_ints rv
  subst ev
  have hS : SqL K H sc (ns.map V.int) := Same.seq sub hsc
  refine ⟨_, pss_cons (ps_setLc (i := 1) (own := [("_law_number", 2)]) (g := gName 2) (tt := tYes) rfl sc__law_deck.nd rfl rfl (sw_true rfl rfl rfl (by decide +kernel)) (pi_list (pv 0)) (blkOk_by (N := names__law_deck) (sc := defScope s__law_deck) (by decide +kernel)) (fun _ _ _ _ _ => pg_name (i := 2) sc__law_deck.nd rfl (Or.inl rfl)) (fun _ _ _ _ _ => pts_nil) (fun _ _ _ _ _ => pe_callB call_abs (by rfl) T.z_abs (by decide +kernel) (pa_cons (pv 2) pa_nil)))
    (pss_one (ps_ret (pe_lst (pa_cons (pe_lc (own := [("_law_number", 2)]) (g := gName 2) rfl sc__law_deck.nd (pi_list (pv 1)) (blkOk_by (N := names__law_deck) (sc := defScope s__law_deck) (by decide +kernel)) (fun _ _ _ _ _ => pg_name (i := 2) sc__law_deck.nd rfl (Or.inl rfl)) (fun _ _ _ _ _ => pts_one (pt_cmpR op_ge (pv 2) (pe_op op_pow pe_int pe_int) (nomark _))) (fun _ _ _ _ _ => pv 2))
      (pa_cons (pe_op op_cat (pv 1) (pe_lst (pa_cons (pe_op op_add (pe_callB call_len_seq (by rfl) T.z_len PySem.boot_len (pa_cons (pv 1) pa_nil)) pe_int) pa_nil))) (pa_cons pe_int pa_nil)))))), ?_⟩
  refine ⟨_, rfl, sc, rfl, ⟨_, hS⟩, fun D hD => lc_list (K := K) (a := sc) (xs := ns.map V.int) (fun i H' => H' D = some (.lst ((ns.take i).map fun x => V.int (absI x))) ∧ Same H H') ⟨upd_same, DL.same_upd hD⟩ (fun i H' _ q => Same.seq q.2 hS) (fun i x H' hx q => ?_) (fun H' q => ?_)⟩
  · obtain ⟨q1, q2⟩ := q
    obtain ⟨z, hz, rfl⟩ : ∃ z, ns[i]? = some z ∧ V.int z = x := by
      rw [List.getElem?_map] at hx
      cases e : ns[i]? with
      | none => rw [e] at hx; cases hx
      | some z => rw [e] at hx; exact ⟨z, rfl, Option.some.inj hx⟩
    have hi : i < ns.length := (List.getElem?_eq_some_iff.mp hz).1
    refine ⟨rfl, _, rfl, z, rfl, _, q1, by rw [List.length_map, List.length_take]; exact small1000 (by omega), ?_, fun b o e => ?_⟩
    · rw [upd_same, List.take_add_one, hz, List.map_append]
      rfl
    · rw [upd_ne (ne_of_none e hD)]; exact q2 _ _ e
  · obtain ⟨q1, q2⟩ := q
    have q1' : H' D = some (.lst (ns.map fun x => V.int (absI x))) := by rw [q1]; simp
    obtain ⟨cs, hcs, ecs⟩ : ∃ cs : List Int, cs.length = ns.length ∧ (ns.map fun x => V.int (absI x)) = cs.map V.int := ⟨ns.map absI, List.length_map _, by rw [List.map_map]; rfl⟩
    rw [ecs] at q1'
    have hC : SqL K H' D (cs.map V.int) := .inl (.inl q1')
    refine ⟨_, rfl, D, rfl, ⟨_, hC⟩, fun B hB => lc_list (K := K) (a := D) (xs := cs.map V.int) (fun i H2 => (∃ bg : List Int, bg.length ≤ i ∧ H2 B = some (.lst (bg.map V.int))) ∧ Same H' H2) ⟨⟨[], Nat.le_refl _, upd_same⟩, DL.same_upd hB⟩ (fun i H2 _ q => Same.seq q.2 hC) (fun i x H2 hx q => ?_) (fun H2 q => ?_)⟩
    · obtain ⟨⟨bg, g1, g2⟩, g3⟩ := q
      obtain ⟨z, hz, rfl⟩ : ∃ z, cs[i]? = some z ∧ V.int z = x := by
        rw [List.getElem?_map] at hx
        cases e : cs[i]? with
        | none => rw [e] at hx; cases hx
        | some z => rw [e] at hx; exact ⟨z, rfl, Option.some.inj hx⟩
      have hi : i < cs.length := (List.getElem?_eq_some_iff.mp hz).1
      refine ⟨rfl, _, rfl, 10, 18, rfl, rfl, ⟨by decide, by decide, by decide⟩, z, _, rfl, rfl, _, rfl, ?_⟩
      refine ite2 (fun _ => ?_) fun _ => ?_
      · refine ⟨_, rfl, _, g2, by rw [List.length_map]; exact small1000 (by omega), ⟨bg ++ [z], by rw [List.length_append]; simp; omega, by rw [upd_same, List.map_append]; rfl⟩, fun b o e => ?_⟩
        rw [upd_ne (ne_of_none e hB)]; exact g3 _ _ e
      · exact ⟨⟨bg, by omega, g2⟩, g3⟩
    · obtain ⟨⟨bg, g1, g2⟩, g3⟩ := q
      have hD2 : H2 D = some (.lst (cs.map V.int)) := g3 _ _ q1'
      refine ⟨_, rfl, _, rfl, D, cs.map V.int, rfl, .inl (.inl (.inl hD2)), _, 3, rfl, rfl, by show 1 ≤ sizeLine; decide, fun U hU => ?_⟩
      have nDU : D ≠ U := ne_of_none hD2 hU
      refine ⟨D, U, _, _, rfl, rfl, by rw [upd_ne nDU]; exact hD2, upd_same, ?_, fun C hC2 => ⟨by show 3 ≤ sizeLine; decide, fun a0 ha0 => ?_⟩⟩
      · rw [List.length_map]
        exact Nat.le_of_lt (small1000 (by show cs.length + 1 ≤ 1000; omega))
      · have nUC : U ≠ C := fun e => by rw [← e, upd_same] at hC2; cases hC2
        have hC3 : H2 C = none := by rw [upd_ne nUC.symm] at hC2; exact hC2
        have nBC : B ≠ C := ne_of_none g2 hC3
        have nBU : B ≠ U := ne_of_none g2 hU
        have na0C : a0 ≠ C := fun e => by rw [e, upd_same] at ha0; cases ha0
        have ha1 : (upd H2 U (.lst [V.int (((cs.map V.int).length : Nat) + 3)])) a0 = none := by rw [upd_ne na0C] at ha0; exact ha0
        have na0U : a0 ≠ U := fun e => by rw [e, upd_same] at ha1; cases ha1
        have ha2 : H2 a0 = none := by rw [upd_ne na0U] at ha1; exact ha1
        have na0B : a0 ≠ B := fun e => by rw [e, g2] at ha2; cases ha2
        have s2 : Same H H2 := q2.trans g3
        have fin : ∀ x o, H x = some o → (upd (upd (upd H2 U (.lst [V.int (((cs.map V.int).length : Nat) + 3)])) C (.lst (cs.map V.int ++ [V.int (((cs.map V.int).length : Nat) + 3)]))) a0 (.lst [.ref B, .ref C, .int 0])) x = some o := fun x o e => by
          have e2 := s2 _ _ e
          rw [upd_ne (ne_of_none e2 ha2), upd_ne (ne_of_none e2 hC3), upd_ne (ne_of_none e2 hU)]
          exact e2
        have hBn : H B = none := q2.free hB
        refine hQ (.any (.ref a0)) ⟨some (a0, B, C), sd.n⟩ (.ref a0) F _ (hQd a0 B C) ⟨Same.refl F, fun x o e _ => fin x o e, fun x e => ?_, fun x o e => .inl e, fun x ⟨a', b', c', e, hx⟩ => ?_, sub.trans fin, fun a' b' c' e => ?_, fun x ⟨a', b', c', e, hx⟩ => ?_⟩ rfl
        · cases o : H x with
          | none => exact absurd o e
          | some u => rw [fin x u o]; simp
        · have e' : (some (a0, B, C) : Option (Addr × Addr × Addr)) = some (a', b', c') := e
          cases e'
          rcases hx with rfl | rfl | rfl
          · exact .inr (s2.free ha2)
          · exact .inr hBn
          · exact .inr (s2.free hC3)
        · have e' : (some (a0, B, C) : Option (Addr × Addr × Addr)) = some (a', b', c') := e
          cases e'
          refine ⟨na0B, na0C, nBC, bg, cs ++ [((cs.length : Nat) : Int) + 3], 0, upd_same, by rw [upd_ne na0B.symm, upd_ne nBC, upd_ne nBU]; exact g2, ?_, by simp, ?_, ?_, Int.le_refl _, Int.natCast_nonneg _⟩
          · rw [upd_ne na0C.symm, upd_same, List.map_append, List.length_map]
            rfl
          · rw [List.length_append]; simp; omega
          · rw [List.length_map] at g1; omega
        · have e' : (some (a0, B, C) : Option (Addr × Addr × Addr)) = some (a', b', c') := e
          cases e'
          rcases hx with rfl | rfl | rfl
          · exact sub.free (s2.free ha2)
          · exact sub.free hBn
          · exact sub.free (s2.free hC3)
theorem len__law_deck : ∀ ds s Qd, spDeck ds s Qd → ds.length = 1 := spDeck_len
theorem ok__law_deck (T : Tx w K mg base a d e ed) : FnG P w K mg base CX0 1 (a 34) (d 34) ["_law_script"] (lift K Mem.deck 1 spDeck) := fnG_of (ok0__law_deck T)
abbrev names__law_next : List Str := ["_law_deck_here", "_law_many", "_law_rest", "_law_turn", "_law_number", "_law_mixed"]
theorem sc__law_next : FnScope names__law_next ["_law_deck_here", "_law_many"] (defScope s__law_next) := ⟨rfl, rfl, rfl, by decide +kernel, rfl, by decide +kernel, by decide +kernel⟩
theorem ok0__law_next (T : Tx w K mg base a d e ed) : FnOk P w K mg base CX0 1 (a 35) (d 35) ["_law_deck_here", "_law_many"] (lift K Mem.deck 2 spNext) := by
  refine T.f35.ok sc__law_next (fun vs H Q E h => h.1) (fun cdv A outer s H vs Q E hr h => ?_)
  obtain ⟨hl, F, ds, sd, Qd, sub, hm, hreg, rs, ⟨p, q, r, n, e1, e2, h0, h1, hlim, hQd⟩, hQ⟩ := h
  subst e2
  obtain ⟨v, _, rfl, rv, v2, _, rfl, rv2, rn⟩ := rs
  cases rn
  cases rv
  cases rv2
  refine ⟨_, pss_cons (ps_while PassesOwn.never (pt_cmpR (op_neD (u64R hr)) (pe_ix ix_list (pv 0) pe_int (fun _ _ => rfl)) (pe_lst pa_nil) (nomark _))
      (pss_cons (ps_set (i := 2) sc__law_next.nd rfl (.inl rfl) (pe_ix ix_list (pe_ix ix_list (pv 0) pe_int (fun _ _ => rfl)) pe_int (fun _ _ => rfl)))
      (pss_cons (ps_if (pt_cmpR op_gt (pv 2) pe_int (nomark _))
        (pss_cons (ps_asg (pe_op op_fdiv (pv 2) (pv 1)) (pg_sub (pe_ix ix_list (pv 0) pe_int (fun _ _ => rfl)) pe_int set_list))
        (pss_one (ps_ret (pe_op op_mod (pe_callTy call_int1 (by rfl) T.z_int (by decide +kernel) (pa_cons (pv 2) pa_nil)) (pv 1)))))
        pss_nil)
      (pss_one (ps_expr (pe_bm PySem.F.plainAttrs_list PySem.F.slot_list_pop PySem.F.type_list_pop mt_popAt (pe_ix ix_list (pv 0) pe_int (fun _ _ => rfl)) (pa_cons pe_int pa_nil)))))))
    (pss_cons (ps_asg (pe_op op_add (pe_ix ix_list (pv 0) pe_int (fun _ _ => rfl)) pe_int) (pg_sub (pv 0) pe_int set_list))
    (pss_cons (ps_set (i := 3) sc__law_next.nd rfl (.inl rfl) (pe_ix ix_list (pv 0) pe_int (fun _ _ => rfl)))
    (pss_cons (ps_set (i := 4) sc__law_next.nd rfl (.inl rfl) (pe_op op_mod (pe_callTy call_int1 (by rfl) T.z_int (by decide +kernel) (pa_cons (pe_ix ix_list (pe_ix ix_list (pv 0) pe_int (fun _ _ => rfl)) (pe_op op_mod (pe_callTy call_int1 (by rfl) T.z_int (by decide +kernel) (pa_cons (pv 3) pa_nil)) (pe_callB call_len_seq (by rfl) T.z_len PySem.boot_len (pa_cons (pe_ix ix_list (pv 0) pe_int (fun _ _ => rfl)) pa_nil))) (fun _ _ => rfl)) pa_nil)) pe_int))
    (pss_cons (ps_set (i := 5) sc__law_next.nd rfl (.inl rfl) (pe_op op_mod (pe_callTy call_int1 (by rfl) T.z_int (by decide +kernel) (pa_cons (pe_op op_add (pe_op op_add (pe_op op_mul (pv 4) (pe_op op_add pe_int (pe_op op_mul pe_int (pv 3)))) (pe_op op_mul (pe_op op_mul pe_int (pv 3)) (pv 3))) pe_int) pa_nil)) pe_int))
    (pss_one (ps_ret (pe_op op_mod (pe_op op_fdiv (pe_op op_mod (pe_callTy call_int1 (by rfl) T.z_int (by decide +kernel) (pa_cons (pe_op op_mul (pv 5) (pv 5)) pa_nil)) pe_int) pe_int) (pv 1)))))))), ?_⟩
  obtain ⟨n1, n2, n3, big, all, t, ha, hb, hc, hall, hl1, hl2, ht0, ht1⟩ := hm p q r e1
  have regs : ∀ x, Mem.deck.R sd x → x = p ∨ x = q ∨ x = r := fun x ⟨a', b', c', e, hx⟩ => by
    rw [e1] at e; cases e; exact hx
  have Fp : F p = none := hreg p ⟨p, q, r, e1, .inl rfl⟩
  have Fq : F q = none := hreg q ⟨p, q, r, e1, .inr (.inl rfl)⟩
  have Fr : F r = none := hreg r ⟨p, q, r, e1, .inr (.inr rfl)⟩
  -- the way out: a number below n, the deck as it is then
  have out : ∀ (z : Int) (H' : Hp) (big' : List Int) (t' : Int), 0 ≤ z → z < n → H' p = some (.lst [.ref q, .ref r, .int t']) → H' q = some (.lst (big'.map V.int)) → H' r = some (.lst (all.map V.int)) → big'.length ≤ 1000 → 0 ≤ t' → t' ≤ (sd.n + 1 : Nat) →
      (∀ x o, H x = some o → x ≠ p → x ≠ q → H' x = some o) → Q (.int z) H' := fun z H' big' t' z0 z1 a1 a2 a3 a4 a5 a6 k => by
    have Hp' : H p ≠ none := by rw [ha]; simp
    refine hQ (.int z) ⟨sd.adr, sd.n + 1⟩ (.int z) F H' (hQd z (sd.n + 1) z0 z1 rfl) ⟨Same.refl F, fun x o h nr => k x o h (fun e => nr ⟨p, q, r, e1, .inl e⟩) (fun e => nr ⟨p, q, r, e1, .inr (.inl e)⟩), fun x h => ?_, fun x o h => .inl h, fun x h => ?_, fun x o h => ?_, fun a' b' c' e => ?_, fun x h => hreg x h⟩ rfl
    · by_cases e : x = p
      · rw [e, a1]; simp
      · by_cases e' : x = q
        · rw [e', a2]; simp
        · cases o : H x with
          | none => exact absurd o h
          | some u => rw [k x u o e e']; simp
    · exact .inl h
    · have h' := sub x o h
      exact k x o h' (fun e => by rw [e, Fp] at h; cases h) (fun e => by rw [e, Fq] at h; cases h)
    · have e' : sd.adr = some (a', b', c') := e
      rw [e1] at e'; cases e'
      exact ⟨n1, n2, n3, big', all, t', a1, a2, a3, hall, hl1, a4, a5, a6⟩
  -- the while
  refine ⟨fun m σ H2 => ∃ (bg : List Int) (y2 : Option V), m = bg.length ∧ bg.length ≤ big.length ∧ σ = [some (.ref p), some (.int n), y2, none, none, none] ∧ H2 p = some (.lst [.ref q, .ref r, .int t]) ∧ H2 q = some (.lst (bg.map V.int)) ∧ (∀ x o, H x = some o → x ≠ q → H2 x = some o),
    ⟨big.length, big, none, rfl, Nat.le_refl _, rfl, ha, hb, fun _ _ h _ => h⟩, ?_⟩
  rintro m σ H2 ⟨bg, y2, rfl, hbg, rfl, g1, g2, gk⟩
  have dpI : ∀ (l : List Int), DpAll K H2 (l.map V.int) (l.map PyData.int) := fun l => by
    induction l with
    | nil => exact .nil
    | cons x l ih => exact .cons (.int x) ih
  have layI : ∀ (l : List Int), PyData.canLayAll0 (l.map PyData.int) = true ∧ PyData.depthAll (l.map PyData.int) ≤ 0 := fun l => by
    induction l with
    | nil => exact ⟨rfl, Nat.le_refl _⟩
    | cons x l ih =>
      obtain ⟨i1, i2⟩ := ih
      rw [List.map_cons]
      exact ⟨by simp only [PyData.canLayAll0, PyData.canLay0, i1, Bool.and_self], by simp only [PyData.depthAll, PyData.depth]; omega⟩
  refine ⟨_, rfl, p, _, 0, .ref q, rfl, rfl, .inl (.inl g1), rfl, Nat.zero_le _, fun o no => ?_⟩
  have nop : p ≠ o := ne_of_none g1 no
  have noq : q ≠ o := ne_of_none g2 no
  have g1' : (upd H2 o (.lst [])) p = some (.lst [.ref q, .ref r, .int t]) := by rw [upd_ne nop]; exact g1
  have g2' : (upd H2 o (.lst [])) q = some (.lst (bg.map V.int)) := by rw [upd_ne noq]; exact g2
  have sm : Same H2 (upd H2 o (.lst [])) := DL.same_upd no
  have dp1 : Dp K (upd H2 o (.lst [])) (.ref q) (.list (bg.map PyData.int)) := by
    refine .lst (.inl (.inl g2')) ?_
    clear layI dpI g2 g2' hbg
    induction bg with
    | nil => exact .nil
    | cons x l ih => exact .cons (.int x) ih
  have sh1 : SeqAt.shaped (.list (bg.map PyData.int)) = true := by
    obtain ⟨i1, i2⟩ := layI bg
    unfold SeqAt.shaped
    have d1 : (PyData.list (bg.map PyData.int)).depth ≤ 64 := by simp only [PyData.depth]; omega
    rw [decide_eq_true d1, show (PyData.list (bg.map PyData.int)).canLay0 = true by simp only [PyData.canLay0]; exact i1]
    rfl
  refine ⟨_, _, dp1, .lst (.inl (.inl upd_same)) .nil, sh1, by decide, _, rfl, ?_⟩
  cases bg with
  | nil =>
    refine iteF ?_
    -- behind the while
    refine ⟨_, rfl, p, _, 2, .int t, rfl, rfl, .inl (.inl g1'), rfl, t, 1, rfl, rfl, _, rfl, p, _, 2, 2, rfl, rfl, g1', rfl, ?_⟩
    have hr' : H2 r = some (.lst (all.map V.int)) := gk r _ hc n3.symm
    have nrp : r ≠ p := n2.symm
    have nro : r ≠ o := ne_of_none hr' no
    refine ⟨_, rfl, p, _, 2, .int (t + 1), rfl, rfl, .inl (.inl upd_same), rfl, ?_⟩
    have hrr : (upd (upd H2 o (.lst [])) p (.lst ([V.ref q, .ref r, .int t].set 2 (.int (t + 1))))) r = some (.lst (all.map V.int)) := by rw [upd_ne nrp, upd_ne nro]; exact hr'
    have lpos : (0 : Int) < ((all.map V.int).length : Nat) := by
      cases all with
      | nil => exact absurd rfl hall
      | cons x l => rw [List.length_map, List.length_cons]; omega
    obtain ⟨k, hk, hk2⟩ : ∃ k : Nat, (t + 1) % (((all.map V.int).length : Nat) : Int) = (k : Int) ∧ k < all.length := by
      have m0 := Int.emod_nonneg (t + 1) (Int.ne_of_gt lpos)
      have m1 := Int.emod_lt_of_pos (t + 1) lpos
      rw [List.length_map] at m0 m1 lpos ⊢
      exact ⟨((t + 1) % (all.length : Int)).toNat, by omega, by omega⟩
    have hat : atI (all.map V.int) ((t + 1) % (((all.map V.int).length : Nat) : Int)) = some (.int all[k]) := by
      rw [hk]
      exact atI_nat (by rw [List.getElem?_map, List.getElem?_eq_getElem hk2]; rfl)
    refine ⟨_, rfl, p, _, 1, .ref r, rfl, rfl, .inl (.inl upd_same), rfl, _, rfl, .inl ⟨t + 1, rfl, _, rfl, p, _, 1, .ref r, rfl, rfl, .inl (.inl upd_same), rfl, r, _, rfl, .inl (.inl (.inl hrr)), _, _, rfl, rfl, lpos, r, _, _, .int all[k], rfl, rfl, .inl (.inl hrr), hat, .inl ⟨all[k], rfl, all[k], 2147483647, rfl, rfl, (by show (0 : Int) < 2147483647; decide), ?_⟩⟩⟩
    have u1 : t + 1 ≤ 2 ^ 60 := by
      have : sd.n < 2 ^ 60 := hlim
      omega
    have m0 : 0 ≤ all[k] % 2147483647 := Int.emod_nonneg _ (by decide)
    have m1 : all[k] % 2147483647 < 2147483647 := Int.emod_lt_of_pos _ (by decide)
    refine ⟨_, rfl, _, rfl, 69621, t + 1, rfl, rfl, .inl ⟨by decide, by decide⟩, 48271, _, rfl, rfl, all[k] % 2147483647, _, rfl, rfl, .inl ⟨by omega, by omega⟩, _, rfl, 40692, t + 1, rfl, rfl, .inl ⟨by decide, by decide⟩, _, rfl, 40692 * (t + 1), t + 1, rfl, rfl, .inr ⟨by omega, by omega⟩, _, _, rfl, rfl, _, 11, rfl, rfl, .inl ⟨_, rfl, _, 2147483629, rfl, rfl, (by show (0 : Int) < 2147483629; decide), ?_⟩⟩
    obtain ⟨M, hM⟩ : ∃ M, M = (all[k] % 2147483647 * (48271 + 69621 * (t + 1)) + 40692 * (t + 1) * (t + 1) + 11) % 2147483629 := ⟨_, rfl⟩
    have q0 : 0 ≤ M := by rw [hM]; exact Int.emod_nonneg _ (by decide)
    have q1 : M < 2147483629 := by rw [hM]; exact Int.emod_lt_of_pos _ (by decide)
    refine ⟨_, rfl, _, rfl, M, M, by rw [hM], by rw [hM], .inl ⟨by omega, by omega⟩, .inl ⟨_, rfl, _, 2147483587, rfl, rfl, (by show (0 : Int) < 2147483587; decide), _, 16, rfl, rfl, ⟨by decide, by decide⟩, _, rfl, _, n, rfl, rfl, h0, ?_⟩⟩
    refine out _ _ [] (t + 1) (Int.emod_nonneg _ (Int.ne_of_gt h0)) (Int.emod_lt_of_pos _ h0) upd_same (by rw [upd_ne n1.symm]; exact g2') hrr (Nat.zero_le _) (by omega) (by omega) fun x u e n4 n5 => ?_
    rw [upd_ne n4, upd_ne (ne_of_none (gk x u e n5) no)]
    exact gk x u e n5
  | cons x bg =>
    refine iteT ⟨fun σ' H' => ∃ y2 : Option V, σ' = [some (.ref p), some (.int n), y2, none, none, none] ∧ H' p = some (.lst [.ref q, .ref r, .int t]) ∧ H' q = some (.lst (bg.map V.int)) ∧ (∀ x o, H x = some o → x ≠ q → H' x = some o), fun σ' H' ⟨y, a1, a2, a3, a4⟩ => ⟨bg.length, Nat.lt_succ_self _, bg, y, rfl, by rw [List.length_cons] at hbg; omega, a1, a2, a3, a4⟩, ?_⟩
    refine ⟨_, rfl, p, _, 0, .ref q, rfl, rfl, .inl (.inl g1'), rfl, q, _, 0, .int x, rfl, rfl, .inl (.inl g2'), atI_nat (j := 0) rfl, ?_⟩
    refine ⟨_, rfl, x, 0, rfl, rfl, _, rfl, ?_⟩
    refine ite2 (fun hx => ?_) fun hx => ?_
    · refine ⟨_, rfl, _, rfl, x, n, rfl, rfl, ⟨h0, h1⟩, _, rfl, p, _, 0, .ref q, rfl, rfl, .inl (.inl g1'), rfl, q, _, 0, 0, rfl, rfl, g2', ix0 x bg, ?_⟩
      refine ⟨_, rfl, .inl ⟨x, rfl, _, rfl, x, n, rfl, rfl, h0, ?_⟩⟩
      refine out _ _ (x / n :: bg) t (Int.emod_nonneg _ (Int.ne_of_gt h0)) (Int.emod_lt_of_pos _ h0) (by rw [upd_ne n1]; exact g1') upd_same ?_ (by rw [List.length_cons] at hbg ⊢; omega) ht0 (by omega) fun y u e n4 n5 => ?_
      · have hr' : H2 r = some (.lst (all.map V.int)) := gk r _ hc n3.symm
        rw [upd_ne n3.symm, upd_ne (ne_of_none hr' no)]
        exact hr'
      · rw [upd_ne n5, upd_ne (ne_of_none (gk y u e n5) no)]
        exact gk y u e n5
    · refine ⟨_, rfl, p, _, 0, .ref q, rfl, rfl, .inl (.inl g1'), rfl, .inl ⟨rfl, _, .inl (.inl g2')⟩, q, _, 0, 0, .int x, rfl, rfl, g2', by decide, by decide, ?_, rfl, ?_⟩
      · show seqIndex? 0 (((x :: bg).map V.int).length) = some 0
        rw [List.length_map, List.length_cons]
        exact seqIndex_of (by decide) (by omega)
      · refine ⟨_, rfl, by rw [upd_ne n1]; exact g1', by rw [upd_same]; rfl, fun y u e n5 => ?_⟩
        rw [upd_ne n5, upd_ne (ne_of_none (gk y u e n5) no)]
        exact gk y u e n5
theorem len__law_next : ∀ ds s Qd, spNext ds s Qd → ds.length = 2 := spNext_len
theorem ok__law_next (T : Tx w K mg base a d e ed) : FnG P w K mg base CX0 1 (a 35) (d 35) ["_law_deck_here", "_law_many"] (lift K Mem.deck 2 spNext) := fnG_of (ok0__law_next T)
abbrev names__law_name : List Str := ["_law_deck_here", "_law_letters", "_law_many", "_law_k"]
theorem sc__law_name : FnScope names__law_name ["_law_deck_here"] (defScope s__law_name) := ⟨rfl, rfl, rfl, by decide +kernel, rfl, by decide +kernel, by decide +kernel⟩
theorem len__law_name : ∀ ds s Qd, (spName : DSp Mem.deck) ds s Qd → ds.length = 1 := spName_len
theorem ok__law_name (T : Tx w K mg base a d e ed) : FnG P w K mg base CX0 2 (a 36) (d 36) ["_law_deck_here"] (lift K Mem.deck 1 spName) := by
  have G__law_next := ok__law_next (P := P) (w := w) (base := base) T
  refine dfn T.f36 sc__law_name rfl (fun cdv A outer s0 H E En hr => ⟨_, (dss_cons (ds_set 1 sc__law_name.nd de_str)
      (dss_cons (ds_set 2 sc__law_name.nd (de_ix ix_seq o_ix (de_lst (da_cons de_int (da_cons de_int (da_cons de_int (da_cons de_int (da_cons de_int (da_cons de_int (da_cons de_int (da_cons de_int da_nil))))))))) (de_call G__law_next len__law_next (hr.mono (by decide)) (by rfl) T.g35 T.f35.kp T.b35 (da_cons (dv 0) (da_cons de_int da_nil)))))
      (dss_one (ds_ret (de_m PySem.F.plainAttrs_str PySem.F.slot_str_join PySem.F.type_str_join mt_join o_join de_str (da_cons (de_lc (own := [("_law_k", 3)]) sc__law_name.nd (di_range1 (by rfl) T.z_range (da_cons (dv 2) da_nil)) (blkOk_by (N := names__law_name) (sc := defScope s__law_name) (by decide +kernel)) (fun _ _ _ _ _ => (dg_name 3 sc__law_name.nd)) (fun _ _ _ _ _ => dts_nil) (fun _ _ _ _ _ => (de_ix ix_seq o_ix (dv 1) (de_call G__law_next len__law_next (hr.mono (by decide)) (by rfl) T.g35 T.f35.kp T.b35 (da_cons (dv 0) (da_cons de_int da_nil)))))) da_nil)))))), fun ds s Qd h => ?_⟩)
  exact read__law_name ds s Qd h
abbrev names__law_pool : List Str := ["_law_deck_here", "_law_many", "_law_found", "_law_k"]
theorem sc__law_pool : FnScope names__law_pool ["_law_deck_here", "_law_many"] (defScope s__law_pool) := ⟨rfl, rfl, rfl, by decide +kernel, rfl, by decide +kernel, by decide +kernel⟩
theorem len__law_pool : ∀ ds s Qd, (spPool : DSp Mem.deck) ds s Qd → ds.length = 2 := spPool_len
theorem ok__law_pool (T : Tx w K mg base a d e ed) : FnG P w K mg base CX0 3 (a 37) (d 37) ["_law_deck_here", "_law_many"] (lift K Mem.deck 2 spPool) := by
  have G__law_next := ok__law_next (P := P) (w := w) (base := base) T
  have G__law_name := ok__law_name (P := P) (w := w) (base := base) T
  refine dfn T.f37 sc__law_pool rfl (fun cdv A outer s0 H E En hr => ⟨_, (dss_cons (ds_setLcO 2 (own := [("_law_k", 3)]) sc__law_pool.nd (di_range1 (by rfl) T.z_range (da_cons (dv 1) da_nil)) (blkOk_by (N := names__law_pool) (sc := defScope s__law_pool) (by decide +kernel)) (fun _ _ _ _ _ => (dg_name 3 sc__law_pool.nd)) (fun _ _ _ _ _ => dts_nil) (fun _ _ _ _ _ => (de_call G__law_name len__law_name (hr.mono (by decide)) (by rfl) T.g36 T.f36.kp T.b36 (da_cons (dv 0) da_nil))))
      (dss_cons (ds_if (dt_cmp op_ltA o_lt (de_callB (DL.CallR.or call_len call_lenD) o_len (by rfl) T.z_len (by decide +kernel) (da_cons (de_ixO 2 de_int) da_nil)) de_int)
        (dss_one (ds_stO 2 (de_op op_addA o_add (de_ixO 2 de_int) (de_ix ix_seq o_ix de_str (de_call G__law_next len__law_next (hr.mono (by decide)) (by rfl) T.g35 T.f35.kp T.b35 (da_cons (dv 0) (da_cons de_int da_nil))))) de_int))
        (dss_one (ds_stO 2 (de_slice sl_all o_sl (de_ixO 2 de_int) do_none (do_some de_int)) de_int)))
      (dss_one (ds_ret (dv 2))))), fun ds s Qd h => ?_⟩)
  exact read__law_pool ds s Qd h
abbrev names__law_path : List Str := ["_law_deck_here", "_law_pool_here", "_law_most", "_law_many", "_law_k"]
theorem sc__law_path : FnScope names__law_path ["_law_deck_here", "_law_pool_here", "_law_most"] (defScope s__law_path) := ⟨rfl, rfl, rfl, by decide +kernel, rfl, by decide +kernel, by decide +kernel⟩
theorem len__law_path : ∀ ds s Qd, (spPath : DSp Mem.deck) ds s Qd → ds.length = 3 := spPath_len
theorem ok__law_path (T : Tx w K mg base a d e ed) : FnG P w K mg base CX0 2 (a 38) (d 38) ["_law_deck_here", "_law_pool_here", "_law_most"] (lift K Mem.deck 3 spPath) := by
  have G__law_next := ok__law_next (P := P) (w := w) (base := base) T
  refine dfn T.f38 sc__law_path rfl (fun cdv A outer s0 H E En hr => ⟨_, (dss_cons (ds_set 3 sc__law_path.nd (de_op op_addA o_add de_int (de_callB (call_min2 rfl) o_min (by rfl) T.z_min (by decide +kernel) (da_cons (de_op op_sub o_sub (dv 2) de_int) (da_cons (de_ix ix_seq o_ix (de_lst (da_cons de_int (da_cons de_int (da_cons de_int (da_cons de_int (da_cons de_int (da_cons de_int (da_cons de_int (da_cons de_int da_nil))))))))) (de_call G__law_next len__law_next (hr.mono (by decide)) (by rfl) T.g35 T.f35.kp T.b35 (da_cons (dv 0) (da_cons de_int da_nil)))) da_nil)))))
      (dss_one (ds_ret (de_m PySem.F.plainAttrs_str PySem.F.slot_str_join PySem.F.type_str_join mt_join o_join de_str (da_cons (de_lc (own := [("_law_k", 4)]) sc__law_path.nd (di_range1 (by rfl) T.z_range (da_cons (dv 3) da_nil)) (blkOk_by (N := names__law_path) (sc := defScope s__law_path) (by decide +kernel)) (fun _ _ _ _ _ => (dg_name 4 sc__law_path.nd)) (fun _ _ _ _ _ => dts_nil) (fun _ _ _ _ _ => (de_ix ix_seq o_ix (dv 1) (de_call G__law_next len__law_next (hr.mono (by decide)) (by rfl) T.g35 T.f35.kp T.b35 (da_cons (dv 0) (da_cons (de_callB (DL.CallR.or call_len call_lenD) o_len (by rfl) T.z_len (by decide +kernel) (da_cons (dv 1) da_nil)) da_nil)))))) da_nil))))), fun ds s Qd h => ?_⟩)
  exact read__law_path ds s Qd h
abbrev names__law_covers : List Str := ["_law_path_here", "_law_other", "_law_names"]
theorem sc__law_covers : FnScope names__law_covers ["_law_path_here", "_law_other"] (defScope s__law_covers) := ⟨rfl, rfl, rfl, by decide +kernel, rfl, by decide +kernel, by decide +kernel⟩
theorem len__law_covers {m : Mem} : ∀ ds s Qd, (spLcov : DSp m) ds s Qd → ds.length = 2 := spLcov_len
theorem ok__law_covers {m : Mem} (T : Tx w K mg base a d e ed) : FnG P w K mg base CX0 1 (a 39) (d 39) ["_law_path_here", "_law_other"] (lift K m 2 spLcov) := by
  refine dfn T.f39 sc__law_covers rfl (fun cdv A outer s0 H E En hr => ⟨_, (dss_cons (ds_set 2 sc__law_covers.nd (de_m PySem.F.plainAttrs_str PySem.F.slot_str_split PySem.F.type_str_split mt_split o_split (dv 0) (da_cons de_str da_nil)))
      (dss_one (ds_ret (de_cmp (op_eqD (u64 hr)) o_eq (de_slice sl_all o_sl (de_m PySem.F.plainAttrs_str PySem.F.slot_str_split PySem.F.type_str_split mt_split o_split (dv 1) (da_cons de_str da_nil)) do_none (do_some (de_callB (DL.CallR.or call_len call_lenD) o_len (by rfl) T.z_len (by decide +kernel) (da_cons (dv 2) da_nil)))) (dv 2))))), fun ds s Qd h => ?_⟩)
  exact read__law_covers ds s Qd h
abbrev names__law_overlap : List Str := ["_law_path_here", "_law_other"]
theorem sc__law_overlap : FnScope names__law_overlap ["_law_path_here", "_law_other"] (defScope s__law_overlap) := ⟨rfl, rfl, rfl, by decide +kernel, rfl, by decide +kernel, by decide +kernel⟩
theorem len__law_overlap {m : Mem} : ∀ ds s Qd, (spLover : DSp m) ds s Qd → ds.length = 2 := spLover_len
theorem ok__law_overlap {m : Mem} (T : Tx w K mg base a d e ed) : FnG P w K mg base CX0 2 (a 40) (d 40) ["_law_path_here", "_law_other"] (lift K m 2 spLover) := by
  have G__law_covers := ok__law_covers (P := P) (w := w) (base := base) (m := m) T
  refine dfn T.f40 sc__law_overlap rfl (fun cdv A outer s0 H E En hr => ⟨_, (dss_one (ds_ret (de_or (de_call G__law_covers len__law_covers (hr.mono (by decide)) (by rfl) T.g39 T.f39.kp T.b39 (da_cons (dv 0) (da_cons (dv 1) da_nil))) (de_one (de_call G__law_covers len__law_covers (hr.mono (by decide)) (by rfl) T.g39 T.f39.kp T.b39 (da_cons (dv 1) (da_cons (dv 0) da_nil))))))), fun ds s Qd h => ?_⟩)
  exact read__law_overlap ds s Qd h
abbrev names__law_modules : List Str := ["_law_deck_here", "_law_pool_here", "_law_most", "_law_found", "_law_k", "_law_path_here", "_law_module"]
theorem sc__law_modules : FnScope names__law_modules ["_law_deck_here", "_law_pool_here", "_law_most"] (defScope s__law_modules) := ⟨rfl, rfl, rfl, by decide +kernel, rfl, by decide +kernel, by decide +kernel⟩
theorem len__law_modules : ∀ ds s Qd, (spModules : DSp Mem.deck) ds s Qd → ds.length = 3 := spModules_len
theorem ok__law_modules (T : Tx w K mg base a d e ed) : FnG P w K mg base CX0 3 (a 41) (d 41) ["_law_deck_here", "_law_pool_here", "_law_most"] (lift K Mem.deck 3 spModules) := by
  have G__law_next := ok__law_next (P := P) (w := w) (base := base) T
  have G__law_path := ok__law_path (P := P) (w := w) (base := base) T
  have G__law_overlap := ok__law_overlap (P := P) (w := w) (base := base) (m := Mem.deck) T
  refine dfn T.f41 sc__law_modules rfl (fun cdv A outer s0 H E En hr => ⟨_, (dss_cons (ds_setL 3 sc__law_modules.nd da_nil)
      (dss_cons (ds_for rfl (di_range1 (by rfl) T.z_range (da_cons (de_ix ix_seq o_ix (de_lst (da_cons (dv 2) (da_cons (de_call G__law_next len__law_next (hr.mono (by decide)) (by rfl) T.g35 T.f35.kp T.b35 (da_cons (dv 0) (da_cons (de_op op_addA o_add (dv 2) de_int) da_nil))) da_nil))) (de_call G__law_next len__law_next (hr.mono (by decide)) (by rfl) T.g35 T.f35.kp T.b35 (da_cons (dv 0) (da_cons de_int da_nil)))) da_nil)) (dg_name 4 sc__law_modules.nd)
        (dss_cons (ds_set 5 sc__law_modules.nd (de_call G__law_path len__law_path (hr.mono (by decide)) (by rfl) T.g38 T.f38.kp T.b38 (da_cons (dv 0) (da_cons (dv 1) (da_cons de_int da_nil)))))
        (dss_one (ds_if (dt_back (dt_cmp (op_eqE (u1 hr)) o_eqE (de_lc (own := [("_law_module", 6)]) sc__law_modules.nd (di_seq (dv 3)) (blkOk_by (N := names__law_modules) (sc := defScope s__law_modules) (by decide +kernel)) (fun _ _ _ _ _ => (dg_name 6 sc__law_modules.nd)) (fun _ _ _ _ _ => (dts_one (dt_truth (de_call G__law_overlap len__law_overlap (hr.mono (by decide)) (by rfl) T.g40 T.f40.kp T.b40 (da_cons (dv 6) (da_cons (dv 5) da_nil)))))) (fun _ _ _ _ _ => (dv 6))) (de_lst da_nil)))
          (dss_one (ds_app 3 (dv 5)))
          dss_nil))))
      (dss_one (ds_ret (dv 3))))), fun ds s Qd h => ?_⟩)
  exact read_lmodules05 ds s Qd h
abbrev names__law_uses : List Str := ["_law_deck_here", "_law_modules_here", "_law_most", "_law_found", "_law_k", "_law_user", "_law_used"]
theorem sc__law_uses : FnScope names__law_uses ["_law_deck_here", "_law_modules_here", "_law_most"] (defScope s__law_uses) := ⟨rfl, rfl, rfl, by decide +kernel, rfl, by decide +kernel, by decide +kernel⟩
theorem len__law_uses : ∀ ds s Qd, (spUses : DSp Mem.deck) ds s Qd → ds.length = 3 := spUses_len
theorem ok__law_uses (T : Tx w K mg base a d e ed) : FnG P w K mg base CX0 2 (a 42) (d 42) ["_law_deck_here", "_law_modules_here", "_law_most"] (lift K Mem.deck 3 spUses) := by
  have G__law_next := ok__law_next (P := P) (w := w) (base := base) T
  refine dfn T.f42 sc__law_uses rfl (fun cdv A outer s0 H E En hr => ⟨_, (dss_cons (ds_setL 3 sc__law_uses.nd da_nil)
      (dss_cons (ds_for rfl (di_range1 (by rfl) T.z_range (da_cons (de_op op_mulA o_mul (de_ix ix_seq o_ix (de_lst (da_cons (dv 2) (da_cons (de_call G__law_next len__law_next (hr.mono (by decide)) (by rfl) T.g35 T.f35.kp T.b35 (da_cons (dv 0) (da_cons (de_op op_addA o_add (dv 2) de_int) da_nil))) da_nil))) (de_call G__law_next len__law_next (hr.mono (by decide)) (by rfl) T.g35 T.f35.kp T.b35 (da_cons (dv 0) (da_cons de_int da_nil)))) (de_callTy call_int1 o_intB (by rfl) T.z_int (by decide +kernel) (da_cons (de_cmp op_gtA o_gt (de_callB (DL.CallR.or call_len call_lenD) o_len (by rfl) T.z_len (by decide +kernel) (da_cons (dv 1) da_nil)) de_int) da_nil))) da_nil)) (dg_name 4 sc__law_uses.nd)
        (dss_cons (ds_set 5 sc__law_uses.nd (de_ix ix_seq o_ix (dv 1) (de_call G__law_next len__law_next (hr.mono (by decide)) (by rfl) T.g35 T.f35.kp T.b35 (da_cons (dv 0) (da_cons (de_callB (DL.CallR.or call_len call_lenD) o_len (by rfl) T.z_len (by decide +kernel) (da_cons (dv 1) da_nil)) da_nil)))))
        (dss_cons (ds_set 6 sc__law_uses.nd (de_ix ix_seq o_ix (dv 1) (de_call G__law_next len__law_next (hr.mono (by decide)) (by rfl) T.g35 T.f35.kp T.b35 (da_cons (dv 0) (da_cons (de_callB (DL.CallR.or call_len call_lenD) o_len (by rfl) T.z_len (by decide +kernel) (da_cons (dv 1) da_nil)) da_nil)))))
        (dss_one (ds_if (dt_back (PW.pt (dw_and (dt_cmp (op_neD (u64 hr)) o_ne (dv 5) (dv 6)) (dw_and1 (dt_cmp (op_notInA (u65 hr)) o_notIn (de_tup (da_cons (dv 5) (da_cons (dv 6) da_nil))) (dv 3))))))
          (dss_one (ds_app 3 (de_tup (da_cons (dv 5) (da_cons (dv 6) da_nil)))))
          dss_nil)))))
      (dss_one (ds_ret (dv 3))))), fun ds s Qd h => ?_⟩)
  exact read_luses05 ds s Qd h
abbrev names__law_data : List Str := ["_law_deck_here", "_law_most", "_law_uses_here", "_law_modules_here"]
theorem sc__law_data : FnScope names__law_data ["_law_deck_here", "_law_most", "_law_uses_here"] (defScope s__law_data) := ⟨rfl, rfl, rfl, by decide +kernel, rfl, by decide +kernel, by decide +kernel⟩
theorem len__law_data : ∀ ds s Qd, (spData : DSp Mem.deck) ds s Qd → ds.length = 3 := spData_len
theorem ok__law_data (T : Tx w K mg base a d e ed) : FnG P w K mg base CX0 4 (a 43) (d 43) ["_law_deck_here", "_law_most", "_law_uses_here"] (lift K Mem.deck 3 spData) := by
  have G__law_pool := ok__law_pool (P := P) (w := w) (base := base) T
  have G__law_modules := ok__law_modules (P := P) (w := w) (base := base) T
  have G__law_uses := ok__law_uses (P := P) (w := w) (base := base) T
  refine dfn T.f43 sc__law_data rfl (fun cdv A outer s0 H E En hr => ⟨_, (dss_cons (ds_set 3 sc__law_data.nd (de_call G__law_modules len__law_modules (hr.mono (by decide)) (by rfl) T.g41 T.f41.kp T.b41 (da_cons (dv 0) (da_cons (de_call G__law_pool len__law_pool (hr.mono (by decide)) (by rfl) T.g37 T.f37.kp T.b37 (da_cons (dv 0) (da_cons de_int da_nil))) (da_cons (dv 1) da_nil)))))
      (dss_one (ds_ret (de_tup (da_cons (dv 3) (da_cons (de_call G__law_uses len__law_uses (hr.mono (by decide)) (by rfl) T.g42 T.f42.kp T.b42 (da_cons (dv 0) (da_cons (dv 3) (da_cons (dv 2) da_nil)))) da_nil)))))), fun ds s Qd h => ?_⟩)
  exact read_data11 ds s Qd h
abbrev names__law_same : List Str := ["_law_found", "_law_due", "_law_one", "_law_other"]
theorem sc__law_same : FnScope names__law_same ["_law_found", "_law_due"] (defScope s__law_same) := ⟨rfl, rfl, rfl, by decide +kernel, rfl, by decide +kernel, by decide +kernel⟩
theorem len__law_same {m : Mem} (n : Nat) : ∀ ds s Qd, (spS n : DSp m) ds s Qd → ds.length = 2 := spS_len n
theorem ok__law_same {m : Mem} (T : Tx w K mg base a d e ed) : ∀ n, FnG P w K mg base CX0 (n) (a 44) (d 44) ["_law_found", "_law_due"] (lift K m 2 (spS n))
  | 0 => fnG_never rfl
  | n + 1 => by
    have G__law_same := ok__law_same (m := m) T n
    have len__law_same := len__law_same (m := m) n
    refine dfn T.f44 sc__law_same rfl (fun cdv A outer s0 H E En hr => ⟨_, (dss_cons (ds_if (dt_truth (de_isT (t1 := Tg.tup) (t2 := Tg.lst) (by rfl) T.z_isinstance (dv 1) (by rfl) T.z_tuple (by decide +kernel) (by rfl) T.z_list (by decide +kernel)))
        (dss_cons (ds_if (PW.pt (dw_or (dt_cmp (op_neD (u64 hr)) o_ne (de_callB call_isi o_isi (by rfl) T.z_isinstance (by decide +kernel) (da_cons (dv 1) (da_cons (de_bltn (v := .ty "tuple") (by rfl) T.z_tuple (by decide +kernel) rfl) da_nil))) (de_callB call_isi o_isi (by rfl) T.z_isinstance (by decide +kernel) (da_cons (dv 0) (da_cons (de_bltn (v := .ty "tuple") (by rfl) T.z_tuple (by decide +kernel) rfl) da_nil)))) (dw_or1 (dt_cmp (op_neD (u64 hr)) o_ne (de_callB call_isi o_isi (by rfl) T.z_isinstance (by decide +kernel) (da_cons (dv 1) (da_cons (de_bltn (v := .ty "list") (by rfl) T.z_list (by decide +kernel) rfl) da_nil))) (de_callB call_isi o_isi (by rfl) T.z_isinstance (by decide +kernel) (da_cons (dv 0) (da_cons (de_bltn (v := .ty "list") (by rfl) T.z_list (by decide +kernel) rfl) da_nil)))))))
          (dss_one (ds_ret de_bl))
          dss_nil)
        (dss_one (ds_ret (de_and (de_cmp (op_eqD (u64 hr)) o_eq (de_callB (DL.CallR.or call_len call_lenD) o_len (by rfl) T.z_len (by decide +kernel) (da_cons (dv 0) da_nil)) (de_callB (DL.CallR.or call_len call_lenD) o_len (by rfl) T.z_len (by decide +kernel) (da_cons (dv 1) da_nil))) (de_one (de_callB (cr_all rfl) o_all (by rfl) T.z_all (by decide +kernel) (da_cons (de_lc (own := [("_law_one", 2), ("_law_other", 3)]) sc__law_same.nd (di_zip (by rfl) T.z_zip (da_cons (dv 0) (da_cons (dv 1) da_nil))) (blkOk_by (N := names__law_same) (sc := defScope s__law_same) (by decide +kernel)) (fun _ _ _ _ _ => (dg_tup (n := 2) rfl (dgs_cons (dg_name 2 sc__law_same.nd) (dgs_cons (dg_name 3 sc__law_same.nd) dgs_nil)))) (fun _ _ _ _ _ => dts_nil) (fun _ _ _ _ _ => (de_call G__law_same len__law_same hr (by rfl) T.g44 T.f44.kp T.b44 (da_cons (dv 2) (da_cons (dv 3) da_nil))))) da_nil)))))))
        dss_nil)
      (dss_cons (ds_if (dt_cmp op_isN o_isN (dv 1) de_non)
        (dss_one (ds_ret (de_cmp op_isN o_isN (dv 0) de_non)))
        dss_nil)
      (dss_cons (ds_if (dt_truth (de_callB call_isi o_isi (by rfl) T.z_isinstance (by decide +kernel) (da_cons (dv 1) (da_cons (de_bltn (v := .ty "str") (by rfl) T.z_str (by decide +kernel) rfl) da_nil))))
        (dss_one (ds_ret (de_and (de_callB call_isi o_isi (by rfl) T.z_isinstance (by decide +kernel) (da_cons (dv 0) (da_cons (de_bltn (v := .ty "str") (by rfl) T.z_str (by decide +kernel) rfl) da_nil))) (de_one (de_cmp (op_eqD (u64 hr)) o_eq (dv 0) (dv 1))))))
        dss_nil)
      (dss_cons (ds_if (PW.pt (dw_or (dt_truth (de_callB call_isi o_isi (by rfl) T.z_isinstance (by decide +kernel) (da_cons (dv 1) (da_cons (de_bltn (v := .ty "bool") (by rfl) T.z_bool (by decide +kernel) rfl) da_nil)))) (dw_or1 (dt_truth (de_callB call_isi o_isi (by rfl) T.z_isinstance (by decide +kernel) (da_cons (dv 0) (da_cons (de_bltn (v := .ty "bool") (by rfl) T.z_bool (by decide +kernel) rfl) da_nil)))))))
        (dss_one (ds_ret (de_and (de_callB call_isi o_isi (by rfl) T.z_isinstance (by decide +kernel) (da_cons (dv 0) (da_cons (de_bltn (v := .ty "bool") (by rfl) T.z_bool (by decide +kernel) rfl) da_nil))) (de_and (de_callB call_isi o_isi (by rfl) T.z_isinstance (by decide +kernel) (da_cons (dv 1) (da_cons (de_bltn (v := .ty "bool") (by rfl) T.z_bool (by decide +kernel) rfl) da_nil))) (de_one (de_cmp (op_eqD (u64 hr)) o_eq (dv 0) (dv 1)))))))
        dss_nil)
      (dss_cons (ds_if (dt_truth (de_callB call_isi o_isi (by rfl) T.z_isinstance (by decide +kernel) (da_cons (dv 1) (da_cons (de_bltn (v := .ty "int") (by rfl) T.z_int (by decide +kernel) rfl) da_nil))))
        (dss_one (ds_ret (de_and (de_callB call_isi o_isi (by rfl) T.z_isinstance (by decide +kernel) (da_cons (dv 0) (da_cons (de_bltn (v := .ty "int") (by rfl) T.z_int (by decide +kernel) rfl) da_nil))) (de_one (de_cmp (op_eqD (u64 hr)) o_eq (dv 0) (dv 1))))))
        dss_nil)
      (dss_one (ds_ret (de_and (de_callB call_isi o_isi (by rfl) T.z_isinstance (by decide +kernel) (da_cons (dv 1) (da_cons (de_bltn (v := .ty "dict") (by rfl) T.z_dict (by decide +kernel) rfl) da_nil))) (de_and (de_callB call_isi o_isi (by rfl) T.z_isinstance (by decide +kernel) (da_cons (dv 0) (da_cons (de_bltn (v := .ty "dict") (by rfl) T.z_dict (by decide +kernel) rfl) da_nil))) (de_one (de_cmp op_eq o_eqT (de_callB (call_reprD T.sys hr.g (u65 hr)) o_repr (by rfl) T.z_repr (by decide +kernel) (da_cons (dv 0) da_nil)) (de_callB (call_reprD T.sys hr.g (u65 hr)) o_repr (by rfl) T.z_repr (by decide +kernel) (da_cons (dv 1) da_nil))))))))))))), fun ds s Qd h => ?_⟩)
    exact read_same98 n ds s Qd h
abbrev names__law_under : List Str := ["_law_paths", "_law_modules_here", "_law_one", "_law_path_here"]
theorem sc__law_under : FnScope names__law_under ["_law_paths", "_law_modules_here"] (defScope s__law_under) := ⟨rfl, rfl, rfl, by decide +kernel, rfl, by decide +kernel, by decide +kernel⟩
theorem len__law_under {m : Mem} : ∀ ds s Qd, (spLUnder : DSp m) ds s Qd → ds.length = 2 := spLUnder_len
theorem ok__law_under {m : Mem} (T : Tx w K mg base a d e ed) : FnG P w K mg base CX0 2 (a 45) (d 45) ["_law_paths", "_law_modules_here"] (lift K m 2 spLUnder) := by
  have G__law_covers := ok__law_covers (P := P) (w := w) (base := base) (m := m) T
  refine dfn T.f45 sc__law_under rfl (fun cdv A outer s0 H E En hr => ⟨_, (dss_one (ds_ret (de_callB cr_sortT2 o_sortT (by rfl) T.z_sorted (by decide +kernel) (da_cons (de_lc (own := [("_law_one", 2)]) sc__law_under.nd (di_seq (dv 1)) (blkOk_by (N := names__law_under) (sc := defScope s__law_under) (by decide +kernel)) (fun _ _ _ _ _ => (dg_name 2 sc__law_under.nd)) (fun _ _ _ _ _ => (dts_one (dt_cmp (op_neE (u1 hr)) o_eqE (de_lc (own := [("_law_path_here", 3)]) sc__law_under.nd (di_seq (dv 0)) (blkOk_by (N := names__law_under) (by kernel_rfl)) (fun _ _ _ _ _ => (dg_name 3 sc__law_under.nd)) (fun _ _ _ _ _ => (dts_one (dt_truth (de_call G__law_covers len__law_covers (hr.mono (by decide)) (by rfl) T.g39 T.f39.kp T.b39 (da_cons (dv 3) (da_cons (dv 2) da_nil)))))) (fun _ _ _ _ _ => (dv 3))) (de_lst da_nil)))) (fun _ _ _ _ _ => (dv 2))) da_nil)))), fun ds s Qd h => ?_⟩)
  exact read_lunder13 ds s Qd h
abbrev names__law_near : List Str := ["_law_modules_here", "_law_uses_here", "_law_goals", "_law_left", "_law_module", "_law_turn", "_law_user", "_law_used"]
theorem sc__law_near : FnScope names__law_near ["_law_modules_here", "_law_uses_here", "_law_goals"] (defScope s__law_near) := ⟨rfl, rfl, rfl, by decide +kernel, rfl, by decide +kernel, by decide +kernel⟩
theorem len__law_near {m : Mem} : ∀ ds s Qd, (spNear15 : DSp m) ds s Qd → ds.length = 3 := spNear15_len
theorem ok__law_near {m : Mem} (T : Tx w K mg base a d e ed) : FnG P w K mg base CX0 1 (a 46) (d 46) ["_law_modules_here", "_law_uses_here", "_law_goals"] (lift K m 3 spNear15) := by
  refine dfn T.f46 sc__law_near rfl (fun cdv A outer s0 H E En hr => ⟨_, (dss_cons (ds_setD0 3 sc__law_near.nd)
      (dss_cons (ds_for rfl (di_seq (dv 0)) (dg_name 4 sc__law_near.nd)
        (dss_cons (ds_dicSet 3 (u1 hr) de_non (dv 4))
        (dss_one (ds_if (dt_cmp (op_inA (u65 hr)) o_in (dv 4) (dv 2))
          (dss_one (ds_dicSet 3 (u1 hr) de_int (dv 4)))
          dss_nil))))
      (dss_cons (ds_for rfl (di_range1 (by rfl) T.z_range (da_cons (de_callB (DL.CallR.or call_len call_lenD) o_len (by rfl) T.z_len (by decide +kernel) (da_cons (dv 0) da_nil)) da_nil)) (dg_name 5 sc__law_near.nd)
        (dss_one (ds_for rfl (di_seq (dv 1)) (dg_tup (n := 2) rfl (dgs_cons (dg_name 6 sc__law_near.nd) (dgs_cons (dg_name 7 sc__law_near.nd) dgs_nil)))
          (dss_one (ds_if (PW.pt (dw_and (dt_cmp op_notN o_notN (de_getO 3 (u1 hr) (dv 7)) de_non) (dw_and1 (PW.pt (dw_or (dt_cmp op_isN o_isN (de_getO 3 (u1 hr) (dv 6)) de_non) (dw_or1 (dt_cmp op_gtA o_gt (de_getO 3 (u1 hr) (dv 6)) (de_op op_addA o_add (de_getO 3 (u1 hr) (dv 7)) de_int))))))))
            (dss_one (ds_dicSet 3 (u1 hr) (de_op op_addA o_add (de_getO 3 (u1 hr) (dv 7)) de_int) (dv 6)))
            dss_nil)))))
      (dss_one (ds_ret (dv 3)))))), fun ds s Qd h => ?_⟩)
  exact read_near15 ds s Qd h
abbrev names__law_first : List Str := ["_law_modules_here", "_law_uses_here", "_law_starts", "_law_goals", "_law_best", "_law_start", "_law_left", "_law_way", "_law_turn", "_law_here", "_law_goal", "_law_user", "_law_used"]
theorem sc__law_first : FnScope names__law_first ["_law_modules_here", "_law_uses_here", "_law_starts", "_law_goals"] (defScope s__law_first) := ⟨rfl, rfl, rfl, by decide +kernel, rfl, by decide +kernel, by decide +kernel⟩
theorem len__law_first {m : Mem} : ∀ ds s Qd, (spFirst12 : DSp m) ds s Qd → ds.length = 4 := spFirst12_len
theorem ok__law_first {m : Mem} (T : Tx w K mg base a d e ed) : FnG P w K mg base CX0 2 (a 47) (d 47) ["_law_modules_here", "_law_uses_here", "_law_starts", "_law_goals"] (lift K m 4 spFirst12) := by
  have G__law_near := ok__law_near (P := P) (w := w) (base := base) (m := m) T
  refine dfn T.f47 sc__law_first rfl (fun cdv A outer s0 H E En hr => ⟨_, (dss_cons (ds_setL 4 sc__law_first.nd da_nil)
      (dss_cons (ds_for rfl (di_seq (dv 2)) (dg_name 5 sc__law_first.nd)
        (dss_cons (ds_set 6 sc__law_first.nd (de_call G__law_near len__law_near (hr.mono (by decide)) (by rfl) T.g46 T.f46.kp T.b46 (da_cons (dv 0) (da_cons (dv 1) (da_cons (de_lc (own := [("_law_goal", 10)]) sc__law_first.nd (di_seq (dv 3)) (blkOk_by (N := names__law_first) (sc := defScope s__law_first) (by decide +kernel)) (fun _ _ _ _ _ => (dg_name 10 sc__law_first.nd)) (fun _ _ _ _ _ => (dts_one (dt_cmp (op_neD (u64 hr)) o_ne (dv 10) (dv 5)))) (fun _ _ _ _ _ => (dv 10))) da_nil)))))
        (dss_one (ds_if (dt_cmp op_notN o_notN (de_get (u1 hr) (dv 6) (dv 5)) de_non)
          (dss_cons (ds_setL 7 sc__law_first.nd (da_cons (dv 5) da_nil))
          (dss_cons (ds_for rfl (di_range1 (by rfl) T.z_range (da_cons (de_get (u1 hr) (dv 6) (dv 5)) da_nil)) (dg_name 8 sc__law_first.nd)
            (dss_cons (ds_set 9 sc__law_first.nd (de_op op_sub o_sub (de_get (u1 hr) (dv 6) (de_ixO 7 (de_un un_neg o_neg de_int))) de_int))
            (dss_one (ds_app 7 (de_callB (cr_minD rfl T.sys (u65 hr)) o_minD (by rfl) T.z_min (by decide +kernel) (da_cons (de_lc (own := [("_law_user", 11), ("_law_used", 12)]) sc__law_first.nd (di_seq (dv 1)) (blkOk_by (N := names__law_first) (sc := defScope s__law_first) (by decide +kernel)) (fun _ _ _ _ _ => (dg_tup (n := 2) rfl (dgs_cons (dg_name 11 sc__law_first.nd) (dgs_cons (dg_name 12 sc__law_first.nd) dgs_nil)))) (fun _ _ _ _ _ => (dts_one (PW.pt (dw_and (dt_cmp (op_eqD (u64 hr)) o_eq (dv 11) (de_ixO 7 (de_un un_neg o_neg de_int))) (dw_and1 (dt_cmp (op_eqD (u64 hr)) o_eq (de_get (u1 hr) (dv 6) (dv 12)) (dv 9))))))) (fun _ _ _ _ _ => (dv 12))) da_nil))))))
          (dss_one (ds_app 4 (de_tup (da_cons (de_lenO 7 (by rfl) T.z_len) (da_cons (de_callTy call_tuple_of o_tuple (by rfl) T.z_tuple (by decide +kernel) (da_cons (dv 7) da_nil)) da_nil)))))))
          dss_nil))))
      (dss_cons (ds_if (dt_cmp (op_eqE (u1 hr)) o_eqE (dv 4) (de_lst da_nil))
        (dss_one (ds_ret de_non))
        dss_nil)
      (dss_one (ds_ret (de_ix ix_seq o_ix (de_callB (cr_minD rfl T.sys (u65 hr)) o_minD (by rfl) T.z_min (by decide +kernel) (da_cons (dv 4) da_nil)) de_int)))))), fun ds s Qd h => ?_⟩)
  exact read_first12 ds s Qd h
abbrev names__law_some : List Str := ["_law_deck_here", "_law_modules_here", "_law_most", "_law_found", "_law_k", "_law_names", "_law_many"]
theorem sc__law_some : FnScope names__law_some ["_law_deck_here", "_law_modules_here", "_law_most"] (defScope s__law_some) := ⟨rfl, rfl, rfl, by decide +kernel, rfl, by decide +kernel, by decide +kernel⟩
theorem len__law_some : ∀ ds s Qd, (spSome11 : DSp Mem.deck) ds s Qd → ds.length = 3 := spSome11_len
theorem ok__law_some (T : Tx w K mg base a d e ed) : FnG P w K mg base CX0 2 (a 48) (d 48) ["_law_deck_here", "_law_modules_here", "_law_most"] (lift K Mem.deck 3 spSome11) := by
  have G__law_next := ok__law_next (P := P) (w := w) (base := base) T
  refine dfn T.f48 sc__law_some rfl (fun cdv A outer s0 H E En hr => ⟨_, (dss_cons (ds_setL 3 sc__law_some.nd da_nil)
      (dss_cons (ds_for rfl (di_range1 (by rfl) T.z_range (da_cons (de_call G__law_next len__law_next (hr.mono (by decide)) (by rfl) T.g35 T.f35.kp T.b35 (da_cons (dv 0) (da_cons (de_op op_addA o_add (dv 2) de_int) da_nil))) da_nil)) (dg_name 4 sc__law_some.nd)
        (dss_cons (ds_set 5 sc__law_some.nd (de_m PySem.F.plainAttrs_str PySem.F.slot_str_split PySem.F.type_str_split mt_split o_split (de_ix ix_seq o_ix (de_op op_addA o_add (dv 1) (de_lst (da_cons de_str da_nil))) (de_call G__law_next len__law_next (hr.mono (by decide)) (by rfl) T.g35 T.f35.kp T.b35 (da_cons (dv 0) (da_cons (de_op op_addA o_add (de_callB (DL.CallR.or call_len call_lenD) o_len (by rfl) T.z_len (by decide +kernel) (da_cons (dv 1) da_nil)) de_int) da_nil)))) (da_cons de_str da_nil)))
        (dss_cons (ds_set 6 sc__law_some.nd (de_op op_addA o_add de_int (de_call G__law_next len__law_next (hr.mono (by decide)) (by rfl) T.g35 T.f35.kp T.b35 (da_cons (dv 0) (da_cons (de_callB (DL.CallR.or call_len call_lenD) o_len (by rfl) T.z_len (by decide +kernel) (da_cons (dv 5) da_nil)) da_nil)))))
        (dss_one (ds_app 3 (de_m PySem.F.plainAttrs_str PySem.F.slot_str_join PySem.F.type_str_join mt_join o_join de_str (da_cons (de_op op_addA o_add (de_slice sl_all o_sl (dv 5) do_none (do_some (dv 6))) (de_op op_mulA o_mul (de_ix ix_seq o_ix (de_lst (da_cons (de_lst da_nil) (da_cons (de_lst (da_cons de_str da_nil)) (da_cons (de_lst da_nil) (da_cons (de_lst da_nil) da_nil))))) (de_call G__law_next len__law_next (hr.mono (by decide)) (by rfl) T.g35 T.f35.kp T.b35 (da_cons (dv 0) (da_cons de_int da_nil)))) (de_callTy call_int1 o_intB (by rfl) T.z_int (by decide +kernel) (da_cons (de_cmp op_ltA o_lt (dv 6) de_int) da_nil)))) da_nil)))))))
      (dss_one (ds_ret (de_callTy call_tuple_of o_tuple (by rfl) T.z_tuple (by decide +kernel) (da_cons (dv 3) da_nil)))))), fun ds s Qd h => ?_⟩)
  exact read_some11 ds s Qd h
abbrev names__law_wide : List Str := ["_law_deck_here", "_law_uses_here", "_law_k", "_law_found", "_law_stem", "_law_along", "_law_modules_here", "_law_rest", "_law_letter", "_law_use"]
theorem sc__law_wide : FnScope names__law_wide ["_law_deck_here", "_law_uses_here"] (defScope s__law_wide) := ⟨rfl, rfl, rfl, by decide +kernel, rfl, by decide +kernel, by decide +kernel⟩
theorem len__law_wide : ∀ ds s Qd, (spWide13 : DSp Mem.deck) ds s Qd → ds.length = 2 := spWide13_len
theorem ok__law_wide (T : Tx w K mg base a d e ed) : FnG P w K mg base CX0 3 (a 49) (d 49) ["_law_deck_here", "_law_uses_here"] (lift K Mem.deck 2 spWide13) := by
  have G__law_next := ok__law_next (P := P) (w := w) (base := base) T
  have G__law_name := ok__law_name (P := P) (w := w) (base := base) T
  have G__law_uses := ok__law_uses (P := P) (w := w) (base := base) T
  refine dfn T.f49 sc__law_wide rfl (fun cdv A outer s0 H E En hr => ⟨_, (dss_cons (ds_asg (de_tup (da_cons (de_op op_addA o_add (de_ix ix_seq o_ix (de_lst (da_cons de_str (da_cons (de_op op_addA o_add (de_call G__law_name len__law_name (hr.mono (by decide)) (by rfl) T.g36 T.f36.kp T.b36 (da_cons (dv 0) da_nil)) de_str) da_nil))) (de_call G__law_next len__law_next (hr.mono (by decide)) (by rfl) T.g35 T.f35.kp T.b35 (da_cons (dv 0) (da_cons de_int da_nil)))) (de_slice sl_all o_sl (de_call G__law_name len__law_name (hr.mono (by decide)) (by rfl) T.g36 T.f36.kp T.b36 (da_cons (dv 0) da_nil)) do_none (do_some de_int))) (da_cons (de_call G__law_next len__law_next (hr.mono (by decide)) (by rfl) T.g35 T.f35.kp T.b35 (da_cons (dv 0) (da_cons de_int da_nil))) da_nil))) (dg_tup (n := 2) rfl (dgs_cons (dg_name 4 sc__law_wide.nd) (dgs_cons (dg_name 5 sc__law_wide.nd) dgs_nil))))
      (dss_cons (ds_parOLcC 6 7 (own := [("_law_letter", 8)]) sc__law_wide.nd (di_str de_str) (blkOk_by (N := names__law_wide) (sc := defScope s__law_wide) (by decide +kernel)) (fun _ _ _ _ _ => (dg_name 8 sc__law_wide.nd)) (fun _ _ _ _ _ => dts_nil) (fun _ _ _ _ _ => (de_op op_addA o_add (dv 4) (dv 8))))
      (dss_cons (ds_for rfl (di_range1 (by rfl) T.z_range (da_cons de_int da_nil)) (dg_name 2 sc__law_wide.nd)
        (dss_one (ds_appPop 6 7 (de_call G__law_next len__law_next (hr.mono (by decide)) (by rfl) T.g35 T.f35.kp T.b35 (da_cons (dv 0) (da_cons (de_lenO 7 (by rfl) T.z_len) da_nil))))))
      (dss_cons (ds_if (dt_cmp (op_eqD (u64 hr)) o_eq (dv 5) de_int)
        (dss_one (ds_ret (de_tup (da_cons (dv 6) (da_cons (de_call G__law_uses len__law_uses (hr.mono (by decide)) (by rfl) T.g42 T.f42.kp T.b42 (da_cons (dv 0) (da_cons (dv 6) (da_cons (dv 1) da_nil)))) da_nil)))))
        dss_nil)
      (dss_cons (ds_set 3 sc__law_wide.nd (de_op op_addA o_add (de_lc (own := [("_law_k", 2)]) sc__law_wide.nd (di_range1 (by rfl) T.z_range (da_cons de_int da_nil)) (blkOk_by (N := names__law_wide) (sc := defScope s__law_wide) (by decide +kernel)) (fun _ _ _ _ _ => (dg_name 2 sc__law_wide.nd)) (fun _ _ _ _ _ => dts_nil) (fun _ _ _ _ _ => (de_tup (da_cons (de_ixO 6 (dv 2)) (da_cons (de_ixO 6 (de_op op_addA o_add (dv 2) de_int)) da_nil))))) (de_op op_mulA o_mul (de_lst (da_cons (de_tup (da_cons (de_ixO 6 de_int) (da_cons (de_ixO 6 de_int) da_nil))) da_nil)) (de_callTy call_int1 o_intB (by rfl) T.z_int (by decide +kernel) (da_cons (de_cmp (op_eqD (u64 hr)) o_eq (dv 5) de_int) da_nil)))))
      (dss_one (ds_ret (de_tup (da_cons (dv 6) (da_cons (de_op op_addA o_add (dv 3) (de_lc (own := [("_law_use", 9)]) sc__law_wide.nd (di_seq (de_call G__law_uses len__law_uses (hr.mono (by decide)) (by rfl) T.g42 T.f42.kp T.b42 (da_cons (dv 0) (da_cons (dv 6) (da_cons de_int da_nil))))) (blkOk_by (N := names__law_wide) (sc := defScope s__law_wide) (by decide +kernel)) (fun _ _ _ _ _ => (dg_name 9 sc__law_wide.nd)) (fun _ _ _ _ _ => (dts_one (dt_cmp (op_notInA (u65 hr)) o_notIn (dv 9) (dv 3)))) (fun _ _ _ _ _ => (dv 9)))) da_nil)))))))))), fun ds s Qd h => ?_⟩)
  exact read_wide13 ds s Qd h
abbrev names__is_name : List Str := ["text", "letter"]
theorem sc__is_name : FnScope names__is_name ["text"] (defScope s__is_name) := ⟨rfl, rfl, rfl, by decide +kernel, rfl, by decide +kernel, by decide +kernel⟩
theorem len__is_name {m : Mem} : ∀ ds s Qd, (spIsName : DSp m) ds s Qd → ds.length = 1 := spIsName_len
theorem ok__is_name {m : Mem} (T : Tx w K mg base a d e ed) : FnG P w K mg base CX0 1 (a 6) (d 6) ["text"] (lift K m 1 spIsName) := by
  refine dfn T.f6 sc__is_name rfl (fun cdv A outer s0 H E En hr => ⟨_, (dss_one (ds_ret (de_and (de_chain op_leA op_leA o_le o_le de_int (de_callB (DL.CallR.or call_len call_lenD) o_len (by rfl) T.z_len (by decide +kernel) (da_cons (dv 0) da_nil)) (de_globI (by rfl) T.c__MAX_LETTERS)) (de_one (de_callB (cr_all rfl) o_all (by rfl) T.z_all (by decide +kernel) (da_cons (de_lc (own := [("letter", 1)]) sc__is_name.nd (di_str (dv 0)) (blkOk_by (N := names__is_name) (sc := defScope s__is_name) (by decide +kernel)) (fun _ _ _ _ _ => (dg_name 1 sc__is_name.nd)) (fun _ _ _ _ _ => dts_nil) (fun _ _ _ _ _ => (de_chain op_leA op_leA o_le o_le de_str (dv 1) de_str))) da_nil)))))), fun ds s Qd h => ?_⟩)
  exact read__is_name ds s Qd h
abbrev names_is_path : List Str := ["value", "names", "name"]
theorem sc_is_path : FnScope names_is_path ["value"] (defScope s_is_path) := ⟨rfl, rfl, rfl, by decide +kernel, rfl, by decide +kernel, by decide +kernel⟩
theorem len_is_path {m : Mem} : ∀ ds s Qd, (spIsPath : DSp m) ds s Qd → ds.length = 1 := spIsPath_len
theorem ok_is_path {m : Mem} (T : Tx w K mg base a d e ed) : FnG P w K mg base CX0 2 (a 7) (d 7) ["value"] (lift K m 1 spIsPath) := by
  have G__is_name := ok__is_name (P := P) (w := w) (base := base) (m := m) T
  refine dfn T.f7 sc_is_path rfl (fun cdv A outer s0 H E En hr => ⟨_, (dss_cons (ds_if (dt_not (dt_truth (de_callB call_isi o_isi (by rfl) T.z_isinstance (by decide +kernel) (da_cons (dv 0) (da_cons (de_bltn (v := .ty "str") (by rfl) T.z_str (by decide +kernel) rfl) da_nil)))))
        (dss_one (ds_ret de_bl))
        dss_nil)
      (dss_cons (ds_set 1 sc_is_path.nd (de_m PySem.F.plainAttrs_str PySem.F.slot_str_split PySem.F.type_str_split mt_split o_split (dv 0) (da_cons de_str da_nil)))
      (dss_one (ds_ret (de_and (de_cmp op_leA o_le (de_callB (DL.CallR.or call_len call_lenD) o_len (by rfl) T.z_len (by decide +kernel) (da_cons (dv 1) da_nil)) (de_globI (by rfl) T.c_MAX_NAMES)) (de_one (de_callB (cr_all rfl) o_all (by rfl) T.z_all (by decide +kernel) (da_cons (de_lc (own := [("name", 2)]) sc_is_path.nd (di_seq (dv 1)) (blkOk_by (N := names_is_path) (sc := defScope s_is_path) (by decide +kernel)) (fun _ _ _ _ _ => (dg_name 2 sc_is_path.nd)) (fun _ _ _ _ _ => dts_nil) (fun _ _ _ _ _ => (de_call G__is_name len__is_name (hr.mono (by decide)) (by rfl) T.g6 T.f6.kp T.b6 (da_cons (dv 2) da_nil)))) da_nil)))))))), fun ds s Qd h => ?_⟩)
  exact read_is_path ds s Qd h
abbrev names_overlap : List Str := ["path", "other"]
theorem sc_overlap : FnScope names_overlap ["path", "other"] (defScope s_overlap) := ⟨rfl, rfl, rfl, by decide +kernel, rfl, by decide +kernel, by decide +kernel⟩
theorem len_overlap {m : Mem} : ∀ ds s Qd, (spOverlap : DSp m) ds s Qd → ds.length = 2 := spOverlap_len
theorem ok_overlap {m : Mem} (T : Tx w K mg base a d e ed) : FnG P w K mg base CX0 2 (a 9) (d 9) ["path", "other"] (lift K m 2 spOverlap) := by
  have G_covers := ok_covers (P := P) (w := w) (base := base) (m := m) T
  refine dfn T.f9 sc_overlap rfl (fun cdv A outer s0 H E En hr => ⟨_, (dss_one (ds_ret (de_or (de_call G_covers len_covers (hr.mono (by decide)) (by rfl) T.g8 T.f8.kp T.b8 (da_cons (dv 0) (da_cons (dv 1) da_nil))) (de_one (de_call G_covers len_covers (hr.mono (by decide)) (by rfl) T.g8 T.f8.kp T.b8 (da_cons (dv 1) (da_cons (dv 0) da_nil))))))), fun ds s Qd h => ?_⟩)
  exact read_overlap ds s Qd h
abbrev names__modules_error : List Str := ["modules", "index", "module", "earlier"]
theorem sc__modules_error : FnScope names__modules_error ["modules"] (defScope s__modules_error) := ⟨rfl, rfl, rfl, by decide +kernel, rfl, by decide +kernel, by decide +kernel⟩
theorem len__modules_error {m : Mem} : ∀ ds s Qd, (spModErr : DSp m) ds s Qd → ds.length = 1 := spModErr_len
theorem ok__modules_error {m : Mem} (T : Tx w K mg base a d e ed) : FnG P w K mg base CX0 3 (a 21) (d 21) ["modules"] (lift K m 1 spModErr) := by
  have G_is_path := ok_is_path (P := P) (w := w) (base := base) (m := m) T
  have G_overlap := ok_overlap (P := P) (w := w) (base := base) (m := m) T
  refine dfn T.f21 sc__modules_error rfl (fun cdv A outer s0 H E En hr => ⟨_, (dss_cons (ds_if (PW.pt (dw_or (dt_not (dt_truth (de_callB call_isi o_isi (by rfl) T.z_isinstance (by decide +kernel) (da_cons (dv 0) (da_cons (de_bltn (v := .ty "tuple") (by rfl) T.z_tuple (by decide +kernel) rfl) da_nil))))) (dw_or1 (dt_cmp op_gtA o_gt (de_callB (DL.CallR.or call_len call_lenD) o_len (by rfl) T.z_len (by decide +kernel) (da_cons (dv 0) da_nil)) (de_globI (by rfl) T.c_MAX_MODULES)))))
        (dss_one (ds_ret (de_tup (da_cons de_non (da_cons de_str da_nil)))))
        dss_nil)
      (dss_cons (ds_for rfl (di_enumA (by rfl) T.z_enumerate (da_cons (dv 0) da_nil)) (dg_tup (n := 2) rfl (dgs_cons (dg_name 1 sc__modules_error.nd) (dgs_cons (dg_name 2 sc__modules_error.nd) dgs_nil)))
        (dss_cons (ds_if (dt_not (dt_truth (de_call G_is_path len_is_path (hr.mono (by decide)) (by rfl) T.g7 T.f7.kp T.b7 (da_cons (dv 2) da_nil))))
          (dss_one (ds_ret (de_tup (da_cons (dv 1) (da_cons de_str da_nil)))))
          dss_nil)
        (dss_one (ds_if (dt_truth (de_callB (cr_any rfl) o_any (by rfl) T.z_any (by decide +kernel) (da_cons (de_lc (own := [("earlier", 3)]) sc__modules_error.nd (di_seq (de_slice sl_all o_sl (dv 0) do_none (do_some (dv 1)))) (blkOk_by (N := names__modules_error) (sc := defScope s__modules_error) (by decide +kernel)) (fun _ _ _ _ _ => (dg_name 3 sc__modules_error.nd)) (fun _ _ _ _ _ => dts_nil) (fun _ _ _ _ _ => (de_call G_overlap len_overlap (hr.mono (by decide)) (by rfl) T.g9 T.f9.kp T.b9 (da_cons (dv 3) (da_cons (dv 2) da_nil))))) da_nil)))
          (dss_one (ds_ret (de_tup (da_cons (dv 1) (da_cons de_str da_nil)))))
          dss_nil))))
      (dss_one (ds_ret de_non)))), fun ds s Qd h => ?_⟩)
  exact read_mod_error05 ds s Qd h
abbrev names__is_pair_of : List Str := ["value", "modules"]
theorem sc__is_pair_of : FnScope names__is_pair_of ["value", "modules"] (defScope s__is_pair_of) := ⟨rfl, rfl, rfl, by decide +kernel, rfl, by decide +kernel, by decide +kernel⟩
theorem len__is_pair_of {m : Mem} : ∀ ds s Qd, (spIsPair : DSp m) ds s Qd → ds.length = 2 := spIsPair_len
theorem ok__is_pair_of {m : Mem} (T : Tx w K mg base a d e ed) : FnG P w K mg base CX0 1 (a 19) (d 19) ["value", "modules"] (lift K m 2 spIsPair) := by
  refine dfn T.f19 sc__is_pair_of rfl (fun cdv A outer s0 H E En hr => ⟨_, (dss_one (ds_ret (de_and (de_callB call_isi o_isi (by rfl) T.z_isinstance (by decide +kernel) (da_cons (dv 0) (da_cons (de_bltn (v := .ty "tuple") (by rfl) T.z_tuple (by decide +kernel) rfl) da_nil))) (de_and (de_cmp (op_eqD (u64 hr)) o_eq (de_callB (DL.CallR.or call_len call_lenD) o_len (by rfl) T.z_len (by decide +kernel) (da_cons (dv 0) da_nil)) de_int) (de_and (de_cmp (op_neD (u64 hr)) o_ne (de_ix ix_seq o_ix (dv 0) de_int) (de_ix ix_seq o_ix (dv 0) de_int)) (de_and (de_cmp (op_inTP (u65 hr)) (o_inTP (neg := false)) (de_ix ix_seq o_ix (dv 0) de_int) (dv 1)) (de_one (de_cmp (op_inTP (u65 hr)) (o_inTP (neg := false)) (de_ix ix_seq o_ix (dv 0) de_int) (dv 1))))))))), fun ds s Qd h => ?_⟩)
  exact read_is_pair05 ds s Qd h
abbrev names__uses_error : List Str := ["modules", "uses", "seen", "index", "use"]
theorem sc__uses_error : FnScope names__uses_error ["modules", "uses"] (defScope s__uses_error) := ⟨rfl, rfl, rfl, by decide +kernel, rfl, by decide +kernel, by decide +kernel⟩
theorem len__uses_error {m : Mem} : ∀ ds s Qd, (spUseErr : DSp m) ds s Qd → ds.length = 2 := spUseErr_len
theorem ok__uses_error {m : Mem} (T : Tx w K mg base a d e ed) : FnG P w K mg base CX0 2 (a 22) (d 22) ["modules", "uses"] (lift K m 2 spUseErr) := by
  have G__is_pair_of := ok__is_pair_of (P := P) (w := w) (base := base) (m := m) T
  refine dfn T.f22 sc__uses_error rfl (fun cdv A outer s0 H E En hr => ⟨_, (dss_cons (ds_if (PW.pt (dw_or (dt_not (dt_truth (de_callB call_isi o_isi (by rfl) T.z_isinstance (by decide +kernel) (da_cons (dv 1) (da_cons (de_bltn (v := .ty "tuple") (by rfl) T.z_tuple (by decide +kernel) rfl) da_nil))))) (dw_or1 (dt_cmp op_gtA o_gt (de_callB (DL.CallR.or call_len call_lenD) o_len (by rfl) T.z_len (by decide +kernel) (da_cons (dv 1) da_nil)) (de_globI (by rfl) T.c_MAX_USES)))))
        (dss_one (ds_ret (de_tup (da_cons de_non (da_cons de_str da_nil)))))
        dss_nil)
      (dss_cons (ds_setP 2 sc__uses_error.nd (by rfl) T.z_set)
      (dss_cons (ds_for rfl (di_enumA (by rfl) T.z_enumerate (da_cons (dv 1) da_nil)) (dg_tup (n := 2) rfl (dgs_cons (dg_name 3 sc__uses_error.nd) (dgs_cons (dg_name 4 sc__uses_error.nd) dgs_nil)))
        (dss_cons (ds_if (dt_not (dt_truth (de_call G__is_pair_of len__is_pair_of (hr.mono (by decide)) (by rfl) T.g19 T.f19.kp T.b19 (da_cons (dv 4) (da_cons (dv 0) da_nil)))))
          (dss_one (ds_ret (de_tup (da_cons (dv 3) (da_cons de_str da_nil)))))
          dss_nil)
        (dss_cons (ds_if (dt_inP 2 (u64 hr) (dv 4))
          (dss_one (ds_ret (de_tup (da_cons (dv 3) (da_cons de_str da_nil)))))
          dss_nil)
        (dss_one (ds_addP 2 (u64 hr) (dv 4))))))
      (dss_one (ds_ret de_non))))), fun ds s Qd h => ?_⟩)
  exact read_use_error05 ds s Qd h
abbrev names_program_error : List Str := ["modules", "uses", "error"]
theorem sc_program_error : FnScope names_program_error ["modules", "uses"] (defScope s_program_error) := ⟨rfl, rfl, rfl, by decide +kernel, rfl, by decide +kernel, by decide +kernel⟩
theorem len_program_error {m : Mem} : ∀ ds s Qd, (spProgErr : DSp m) ds s Qd → ds.length = 2 := spProgErr_len
theorem ok_program_error {m : Mem} (T : Tx w K mg base a d e ed) : FnG P w K mg base CX0 4 (a 23) (d 23) ["modules", "uses"] (lift K m 2 spProgErr) := by
  have G__modules_error := ok__modules_error (P := P) (w := w) (base := base) (m := m) T
  have G__uses_error := ok__uses_error (P := P) (w := w) (base := base) (m := m) T
  refine dfn T.f23 sc_program_error rfl (fun cdv A outer s0 H E En hr => ⟨_, (dss_cons (ds_set 2 sc_program_error.nd (de_call G__modules_error len__modules_error (hr.mono (by decide)) (by rfl) T.g21 T.f21.kp T.b21 (da_cons (dv 0) da_nil)))
      (dss_cons (ds_if (dt_cmp op_isN o_isN (dv 2) de_non)
        (dss_one (ds_set 2 sc_program_error.nd (de_call G__uses_error len__uses_error (hr.mono (by decide)) (by rfl) T.g22 T.f22.kp T.b22 (da_cons (dv 0) (da_cons (dv 1) da_nil)))))
        dss_nil)
      (dss_one (ds_ret (dv 2))))), fun ds s Qd h => ?_⟩)
  exact read_prog_error05 ds s Qd h
abbrev names_parent : List Str := ["path", "above", "dot", "_"]
theorem sc_parent : FnScope names_parent ["path"] (defScope s_parent) := ⟨rfl, rfl, rfl, by decide +kernel, rfl, by decide +kernel, by decide +kernel⟩
theorem len_parent {m : Mem} : ∀ ds s Qd, (spParent : DSp m) ds s Qd → ds.length = 1 := spParent_len
theorem ok_parent {m : Mem} (T : Tx w K mg base a d e ed) : FnG P w K mg base CX0 1 (a 10) (d 10) ["path"] (lift K m 1 spParent) := by
  refine dfn T.f10 sc_parent rfl (fun cdv A outer s0 H E En hr => ⟨_, (dss_cons (ds_asg (de_m PySem.F.plainAttrs_str PySem.F.slot_str_rpartition PySem.F.type_str_rpartition mt_rpartition o_rpart (dv 0) (da_cons de_str da_nil)) (dg_tup (n := 3) rfl (dgs_cons (dg_name 1 sc_parent.nd) (dgs_cons (dg_name 2 sc_parent.nd) (dgs_cons (dg_name 3 sc_parent.nd) dgs_nil)))))
      (dss_one (ds_ret (de_ifExp (dt_truth (dv 2)) (dv 1) de_non)))), fun ds s Qd h => ?_⟩)
  exact read_parent ds s Qd h
abbrev names__parts : List Str := ["modules", "found", "module", "path"]
theorem sc__parts : FnScope names__parts ["modules"] (defScope s__parts) := ⟨rfl, rfl, rfl, by decide +kernel, rfl, by decide +kernel, by decide +kernel⟩
theorem len__parts {m : Mem} : ∀ ds s Qd, (spParts : DSp m) ds s Qd → ds.length = 1 := spParts_len
theorem ok__parts {m : Mem} (T : Tx w K mg base a d e ed) : FnG P w K mg base CX0 2 (a 25) (d 25) ["modules"] (lift K m 1 spParts) := by
  have G_parent := ok_parent (P := P) (w := w) (base := base) (m := m) T
  refine dfn T.f25 sc__parts rfl (fun cdv A outer s0 H E En hr => ⟨_, (dss_cons (ds_setT 1 sc__parts.nd (by rfl) T.z_set)
      (dss_cons (ds_for rfl (di_seq (dv 0)) (dg_name 2 sc__parts.nd)
        (dss_cons (ds_set 3 sc__parts.nd (dv 2))
        (dss_one (ds_while (dt_cmp op_notN o_notN (dv 3) de_non)
          (dss_cons (ds_addT 1 (dv 3))
          (dss_one (ds_set 3 sc__parts.nd (de_call G_parent len_parent (hr.mono (by decide)) (by rfl) T.g10 T.f10.kp T.b10 (da_cons (dv 3) da_nil)))))))))
      (dss_one (ds_ret (de_callTy call_tuple_of o_tuple (by rfl) T.z_tuple (by decide +kernel) (da_cons (de_sortT 1 (by rfl) (by rfl) T.z_sorted) da_nil)))))), fun ds s Qd h => ?_⟩)
  exact read_parts05 ds s Qd h
abbrev names_Program___init__ : List Str := ["self", "modules", "uses", "error"]
theorem sc_Program___init__ : FnScope names_Program___init__ ["self", "modules", "uses"] (defScope s_Program___init__) := ⟨rfl, rfl, rfl, by decide +kernel, rfl, by decide +kernel, by decide +kernel⟩
theorem len_Program___init__ {m : Mem} : ∀ ds s Qd, (spProgI : ISp m) ds s Qd → ds.length = 2 := spProgI_len
theorem ok_Program___init__ {m : Mem} (T : Tx w K mg base a d e ed) : FnG P w K mg base CX0 5 (a 2300) (d 2300) ["self", "modules", "uses"] (liftI K m (a 26) 2 spProgI) := by
  have G_program_error := ok_program_error (P := P) (w := w) (base := base) (m := m) T
  have G__parts := ok__parts (P := P) (w := w) (base := base) (m := m) T
  refine dfnI T.f2300 sc_Program___init__ rfl (fun cdv A outer s0 H E En hr => ⟨_, (dss_cons (ds_set 3 sc_Program___init__.nd (de_call G_program_error len_program_error (hr.mono (by decide)) (by rfl) T.g23 T.f23.kp T.b23 (da_cons (dv 1) (da_cons (dv 2) da_nil))))
      (dss_cons (ds_if (dt_cmp op_notN o_notN (dv 3) de_non)
        (dss_one ds_never)
        dss_nil)
      (dss_cons (ds_fst 0 T.cl26.cl T.na26_modules (de_callTy call_tuple_of o_tuple (by rfl) T.z_tuple (by decide +kernel) (da_cons (de_callB cr_sortT2 o_sortT (by rfl) T.z_sorted (by decide +kernel) (da_cons (dv 1) da_nil)) da_nil)))
      (dss_cons (ds_fst 0 T.cl26.cl T.na26_uses (de_callTy call_tuple_of o_tuple (by rfl) T.z_tuple (by decide +kernel) (da_cons (de_callB cr_sortT2 o_sortT (by rfl) T.z_sorted (by decide +kernel) (da_cons (dv 2) da_nil)) da_nil)))
      (dss_one (ds_fst 0 T.cl26.cl T.na26_parts (de_call G__parts len__parts (hr.mono (by decide)) (by rfl) T.g25 T.f25.kp T.b25 (da_cons (dv 1) da_nil)))))))), fun ds s Qd x dx h => ?_⟩)
  exact read_prog_init05 (w := w) (a := fun _ => a 26) ds s Qd x dx h
abbrev names_law : List Str := ["_law_script", "_law_deck_here", "_law_wide_here", "_law_turn", "_law_program", "_law_k", "_law_modules_here", "_law_uses_here", "_law_ends", "_law_sources", "_law_targets", "_law_due", "_law_starts", "_law_goals"]
theorem sc_law : FnScope names_law ["_law_script"] (defScope s_law) := ⟨rfl, rfl, rfl, by decide +kernel, rfl, by decide +kernel, by decide +kernel⟩
theorem ok_law (T : Tx w K mg base a d e ed) : FnG P w K mg base CX0 7 (a 50) (d 50) ["_law_script"] (lift K (Mem.tab (tabNames K [(a 31, Str.ofString "chain.<locals>.<lambda>")]) Mem.deck) 1 (spLawT (tabNames K [(a 31, Str.ofString "chain.<locals>.<lambda>")]))) := by
  have G_chain := ok_chain (P := P) (w := w) (base := base) (m := Mem.deck) T
  have G_chain_holds := ok_chain_holds (P := P) (w := w) (base := base) (m := Mem.tab (tabNames K [(a 31, Str.ofString "chain.<locals>.<lambda>")]) Mem.deck) T
  have G__law_deck := FnG.imp (ok__law_deck (P := P) (w := w) (base := base) T) fun _ _ _ _ => lift_tabSp (T := (tabNames K [(a 31, Str.ofString "chain.<locals>.<lambda>")]))
  have len__law_deck : ∀ ds s Qd, (tabSp (tabNames K [(a 31, Str.ofString "chain.<locals>.<lambda>")]) (spDeck : DSp Mem.deck) : DSp (Mem.tab (tabNames K [(a 31, Str.ofString "chain.<locals>.<lambda>")]) Mem.deck)) ds s Qd → ds.length = 1 := fun ds s Qd h => len__law_deck ds s.1 _ h
  have G__law_next := FnG.imp (ok__law_next (P := P) (w := w) (base := base) T) fun _ _ _ _ => lift_tabSp (T := (tabNames K [(a 31, Str.ofString "chain.<locals>.<lambda>")]))
  have len__law_next : ∀ ds s Qd, (tabSp (tabNames K [(a 31, Str.ofString "chain.<locals>.<lambda>")]) (spNext : DSp Mem.deck) : DSp (Mem.tab (tabNames K [(a 31, Str.ofString "chain.<locals>.<lambda>")]) Mem.deck)) ds s Qd → ds.length = 2 := fun ds s Qd h => len__law_next ds s.1 _ h
  have G__law_data := FnG.imp (ok__law_data (P := P) (w := w) (base := base) T) fun _ _ _ _ => lift_tabSp (T := (tabNames K [(a 31, Str.ofString "chain.<locals>.<lambda>")]))
  have len__law_data : ∀ ds s Qd, (tabSp (tabNames K [(a 31, Str.ofString "chain.<locals>.<lambda>")]) (spData : DSp Mem.deck) : DSp (Mem.tab (tabNames K [(a 31, Str.ofString "chain.<locals>.<lambda>")]) Mem.deck)) ds s Qd → ds.length = 3 := fun ds s Qd h => len__law_data ds s.1 _ h
  have G__law_same := ok__law_same (P := P) (w := w) (base := base) (m := Mem.tab (tabNames K [(a 31, Str.ofString "chain.<locals>.<lambda>")]) Mem.deck) T 5
  have len__law_same := len__law_same (m := Mem.tab (tabNames K [(a 31, Str.ofString "chain.<locals>.<lambda>")]) Mem.deck) 5
  have G__law_under := ok__law_under (P := P) (w := w) (base := base) (m := Mem.tab (tabNames K [(a 31, Str.ofString "chain.<locals>.<lambda>")]) Mem.deck) T
  have G__law_first := ok__law_first (P := P) (w := w) (base := base) (m := Mem.tab (tabNames K [(a 31, Str.ofString "chain.<locals>.<lambda>")]) Mem.deck) T
  have G__law_some := FnG.imp (ok__law_some (P := P) (w := w) (base := base) T) fun _ _ _ _ => lift_tabSp (T := (tabNames K [(a 31, Str.ofString "chain.<locals>.<lambda>")]))
  have len__law_some : ∀ ds s Qd, (tabSp (tabNames K [(a 31, Str.ofString "chain.<locals>.<lambda>")]) (spSome11 : DSp Mem.deck) : DSp (Mem.tab (tabNames K [(a 31, Str.ofString "chain.<locals>.<lambda>")]) Mem.deck)) ds s Qd → ds.length = 3 := fun ds s Qd h => len__law_some ds s.1 _ h
  have G__law_wide := FnG.imp (ok__law_wide (P := P) (w := w) (base := base) T) fun _ _ _ _ => lift_tabSp (T := (tabNames K [(a 31, Str.ofString "chain.<locals>.<lambda>")]))
  have len__law_wide : ∀ ds s Qd, (tabSp (tabNames K [(a 31, Str.ofString "chain.<locals>.<lambda>")]) (spWide13 : DSp Mem.deck) : DSp (Mem.tab (tabNames K [(a 31, Str.ofString "chain.<locals>.<lambda>")]) Mem.deck)) ds s Qd → ds.length = 2 := fun ds s Qd h => len__law_wide ds s.1 _ h
  have G_Program___init__ := ok_Program___init__ (P := P) (w := w) (base := base) (m := Mem.tab (tabNames K [(a 31, Str.ofString "chain.<locals>.<lambda>")]) Mem.deck) T
  refine dfn T.f50 sc_law rfl (fun cdv A outer s0 H E En hr => ⟨_, (dss_cons (ds_set 1 sc_law.nd (de_call G__law_deck len__law_deck (hr.mono (by decide)) (by rfl) T.g34 T.f34.kp T.b34 (da_cons (dv 0) da_nil)))
      (dss_cons (ds_set 2 sc_law.nd (de_call G__law_next len__law_next (hr.mono (by decide)) (by rfl) T.g35 T.f35.kp T.b35 (da_cons (dv 1) (da_cons de_int da_nil))))
      (dss_cons (ds_for rfl (di_range1 (by rfl) T.z_range (da_cons de_int da_nil)) (dg_name 3 sc_law.nd)
        (dss_cons (ds_asg (de_call G__law_data len__law_data (hr.mono (by decide)) (by rfl) T.g43 T.f43.kp T.b43 (da_cons (dv 1) (da_cons de_int (da_cons de_int da_nil)))) (dg_tup (n := 2) rfl (dgs_cons (dg_name 6 sc_law.nd) (dgs_cons (dg_name 7 sc_law.nd) dgs_nil))))
        (dss_cons (ds_if (PW.pt (dw_and (dt_cmp (op_eqD (u64 hr)) o_eq (dv 3) de_int) (dw_and1 (dt_cmp (op_eqD (u64 hr)) o_eq (dv 2) de_int))))
          (dss_one (ds_asg (de_call G__law_wide len__law_wide (hr.mono (by decide)) (by rfl) T.g49 T.f49.kp T.b49 (da_cons (dv 1) (da_cons de_int da_nil))) (dg_tup (n := 2) rfl (dgs_cons (dg_name 6 sc_law.nd) (dgs_cons (dg_name 7 sc_law.nd) dgs_nil)))))
          dss_nil)
        (dss_cons (ds_set 4 sc_law.nd (de_make T.M26 G_Program___init__ len_Program___init__ (hr.mono (by decide)) (by rfl) T.g26 T.b2300 (da_cons (de_callTy call_tuple_of o_tuple (by rfl) T.z_tuple (by decide +kernel) (da_cons (dv 6) da_nil)) (da_cons (de_callTy call_tuple_of o_tuple (by rfl) T.z_tuple (by decide +kernel) (da_cons (dv 7) da_nil)) da_nil))))
        (dss_one (ds_for rfl (di_range1 (by rfl) T.z_range (da_cons de_int da_nil)) (dg_name 5 sc_law.nd)
          (dss_cons (ds_par 9 10 sc_law.nd (da_cons (de_call G__law_some len__law_some (hr.mono (by decide)) (by rfl) T.g48 T.f48.kp T.b48 (da_cons (dv 1) (da_cons (dv 6) (da_cons de_int da_nil)))) (da_cons (de_call G__law_some len__law_some (hr.mono (by decide)) (by rfl) T.g48 T.f48.kp T.b48 (da_cons (dv 1) (da_cons (dv 6) (da_cons de_int da_nil)))) da_nil)))
          (dss_one (ds_for rfl (di_seq (de_lst (da_cons (de_tup (da_cons (dv 9) (da_cons (dv 10) da_nil))) (da_cons (de_tup (da_cons (dv 10) (da_cons (dv 9) da_nil))) (da_cons (de_tup (da_cons (dv 9) (da_cons (dv 9) da_nil))) da_nil))))) (dg_name 8 sc_law.nd)
            (dss_cons (ds_par 12 13 sc_law.nd (da_cons (de_call G__law_under len__law_under (hr.mono (by decide)) (by rfl) T.g45 T.f45.kp T.b45 (da_cons (de_ix ix_seq o_ix (dv 8) de_int) (da_cons (dv 6) da_nil))) (da_cons (de_call G__law_under len__law_under (hr.mono (by decide)) (by rfl) T.g45 T.f45.kp T.b45 (da_cons (de_ix ix_seq o_ix (dv 8) de_int) (da_cons (dv 6) da_nil))) da_nil)))
            (dss_cons (ds_set 11 sc_law.nd (de_call G__law_first len__law_first (hr.mono (by decide)) (by rfl) T.g47 T.f47.kp T.b47 (da_cons (dv 6) (da_cons (dv 7) (da_cons (dv 12) (da_cons (dv 13) da_nil))))))
            (dss_cons (ds_if (dt_not (dt_truth (de_call G__law_same len__law_same (hr.mono (by decide)) (by rfl) T.g44 T.f44.kp T.b44 (da_cons (de_call G_chain len_chain (hr.mono (by decide)) (by rfl) T.g31 T.f31.kp T.b31 (da_cons (dv 4) (da_cons (de_ix ix_seq o_ix (dv 8) de_int) (da_cons (de_ix ix_seq o_ix (dv 8) de_int) da_nil)))) (da_cons (dv 11) da_nil)))))
              (dss_one (ds_ret de_bl))
              dss_nil)
            (dss_one (ds_if (PW.pt (dw_and (dt_cmp op_notN o_notN (dv 11) de_non) (dw_and1 (dt_cmp op_isnot_bl o_isntBl (de_call G_chain_holds len_chain_holds (hr.mono (by decide)) (by rfl) T.g32 T.f32.kp T.b32 (da_cons (dv 4) (da_cons (de_ix ix_seq o_ix (dv 8) de_int) (da_cons (de_ix ix_seq o_ix (dv 8) de_int) (da_cons (dv 11) da_nil))))) de_bl))))
              (dss_one (ds_ret de_bl))
              dss_nil))))))))))))))
      (dss_one (ds_ret de_bl))))), fun ds s Qd h => ?_⟩)
  exact read_law12 ds s Qd h
end
theorem all_mk {l : PySem.W.OpenLaw} {w : World} {K : PySem.W.Frag} {h : Heap} {mg : Str → Option Value} {fa : Addr} (X : K.In h) (G : h.Ns mainGlobals mg) (hfa : mg "law" = some (.ref fa))
    {f8 : Addr} {od8 an8 : Option Addr} {sl8 : Array (Option Value)} {oc8 kV8 dc8 pm8 cd8 ct8 : Value}
    (a8 : PySem.W.nsIn K mainGlobals "covers" = some (some (.ref f8))) (l8 : K.lookup f8 = some ⟨oc8, od8, .func (PySem.W.fnOf "covers" "covers" (defArgs s_covers) (defBody s_covers) (defScope s_covers) .none kV8 dc8 pm8 an8 cd8 ct8), sl8⟩) (c8 : PySem.W.codeIn K cd8 "covers" = true) (k8 : PySem.W.keepIn K (.ref f8) = true)
    {f11 : Addr} {od11 an11 : Option Addr} {sl11 : Array (Option Value)} {oc11 kV11 dc11 pm11 cd11 ct11 : Value}
    (a11 : PySem.W.nsIn K mainGlobals "covered" = some (some (.ref f11))) (l11 : K.lookup f11 = some ⟨oc11, od11, .func (PySem.W.fnOf "covered" "covered" (defArgs s_covered) (defBody s_covered) (defScope s_covered) .none kV11 dc11 pm11 an11 cd11 ct11), sl11⟩) (c11 : PySem.W.codeIn K cd11 "covered" = true) (k11 : PySem.W.keepIn K (.ref f11) = true)
    {f2302 : Addr} {od2302 an2302 : Option Addr} {sl2302 : Array (Option Value)} {oc2302 kV2302 dc2302 pm2302 cd2302 ct2302 : Value}
    (l2302 : K.lookup f2302 = some ⟨oc2302, od2302, .func (PySem.W.fnOf "modules" "Program.modules" (defArgs s_Program_modules) (defBody s_Program_modules) (defScope s_Program_modules) .none kV2302 dc2302 pm2302 an2302 cd2302 ct2302), sl2302⟩) (c2302 : PySem.W.codeIn K cd2302 "Program.modules" = true) (k2302 : PySem.W.keepIn K (.ref f2302) = true)
    {f24 : Addr} {od24 an24 : Option Addr} {sl24 : Array (Option Value)} {oc24 kV24 dc24 pm24 cd24 ct24 : Value}
    (a24 : PySem.W.nsIn K mainGlobals "modules_under" = some (some (.ref f24))) (l24 : K.lookup f24 = some ⟨oc24, od24, .func (PySem.W.fnOf "modules_under" "modules_under" (defArgs s_modules_under) (defBody s_modules_under) (defScope s_modules_under) .none kV24 dc24 pm24 an24 cd24 ct24), sl24⟩) (c24 : PySem.W.codeIn K cd24 "modules_under" = true) (k24 : PySem.W.keepIn K (.ref f24) = true)
    {f2303 : Addr} {od2303 an2303 : Option Addr} {sl2303 : Array (Option Value)} {oc2303 kV2303 dc2303 pm2303 cd2303 ct2303 : Value}
    (l2303 : K.lookup f2303 = some ⟨oc2303, od2303, .func (PySem.W.fnOf "uses" "Program.uses" (defArgs s_Program_uses) (defBody s_Program_uses) (defScope s_Program_uses) .none kV2303 dc2303 pm2303 an2303 cd2303 ct2303), sl2303⟩) (c2303 : PySem.W.codeIn K cd2303 "Program.uses" = true) (k2303 : PySem.W.keepIn K (.ref f2303) = true)
    {f28 : Addr} {od28 an28 : Option Addr} {sl28 : Array (Option Value)} {oc28 kV28 dc28 pm28 cd28 ct28 : Value}
    {T28 : Addr} {odt28 : Option Addr} {nnt28 : Nat} {slt28 : Array (Option Value)} (ldt28 : K.lookup T28 = some ⟨.type "tuple", odt28, .seq #[.bool false] nnt28, slt28⟩)
    (a28 : PySem.W.nsIn K mainGlobals "next_table" = some (some (.ref f28))) (l28 : K.lookup f28 = some ⟨oc28, od28, .func (PySem.W.fnOf "next_table" "next_table" (defArgs s_next_table) (defBody s_next_table) (defScope s_next_table) (.ref T28) kV28 dc28 pm28 an28 cd28 ct28), sl28⟩) (c28 : PySem.W.codeIn K cd28 "next_table" = true) (k28 : PySem.W.keepIn K (.ref f28) = true)
    {f29 : Addr} {od29 an29 : Option Addr} {sl29 : Array (Option Value)} {oc29 kV29 dc29 pm29 cd29 ct29 : Value}
    (a29 : PySem.W.nsIn K mainGlobals "chains_from" = some (some (.ref f29))) (l29 : K.lookup f29 = some ⟨oc29, od29, .func (PySem.W.fnOf "chains_from" "chains_from" (defArgs s_chains_from) (defBody s_chains_from) (defScope s_chains_from) .none kV29 dc29 pm29 an29 cd29 ct29), sl29⟩) (c29 : PySem.W.codeIn K cd29 "chains_from" = true) (k29 : PySem.W.keepIn K (.ref f29) = true)
    {f31 : Addr} {od31 an31 : Option Addr} {sl31 : Array (Option Value)} {oc31 kV31 dc31 pm31 cd31 ct31 : Value}
    (a31 : PySem.W.nsIn K mainGlobals "chain" = some (some (.ref f31))) (l31 : K.lookup f31 = some ⟨oc31, od31, .func (PySem.W.fnOf "chain" "chain" (defArgs s_chain) (defBody s_chain) (defScope s_chain) .none kV31 dc31 pm31 an31 cd31 ct31), sl31⟩) (c31 : PySem.W.codeIn K cd31 "chain" = true) (k31 : PySem.W.keepIn K (.ref f31) = true)
    {f30 : Addr} {od30 an30 : Option Addr} {sl30 : Array (Option Value)} {oc30 kV30 dc30 pm30 cd30 ct30 : Value}
    (a30 : PySem.W.nsIn K mainGlobals "is_chain" = some (some (.ref f30))) (l30 : K.lookup f30 = some ⟨oc30, od30, .func (PySem.W.fnOf "is_chain" "is_chain" (defArgs s_is_chain) (defBody s_is_chain) (defScope s_is_chain) .none kV30 dc30 pm30 an30 cd30 ct30), sl30⟩) (c30 : PySem.W.codeIn K cd30 "is_chain" = true) (k30 : PySem.W.keepIn K (.ref f30) = true)
    {f32 : Addr} {od32 an32 : Option Addr} {sl32 : Array (Option Value)} {oc32 kV32 dc32 pm32 cd32 ct32 : Value}
    (a32 : PySem.W.nsIn K mainGlobals "chain_holds" = some (some (.ref f32))) (l32 : K.lookup f32 = some ⟨oc32, od32, .func (PySem.W.fnOf "chain_holds" "chain_holds" (defArgs s_chain_holds) (defBody s_chain_holds) (defScope s_chain_holds) .none kV32 dc32 pm32 an32 cd32 ct32), sl32⟩) (c32 : PySem.W.codeIn K cd32 "chain_holds" = true) (k32 : PySem.W.keepIn K (.ref f32) = true)
    {f34 : Addr} {od34 an34 : Option Addr} {sl34 : Array (Option Value)} {oc34 kV34 dc34 pm34 cd34 ct34 : Value}
    (a34 : PySem.W.nsIn K mainGlobals "_law_deck" = some (some (.ref f34))) (l34 : K.lookup f34 = some ⟨oc34, od34, .func (PySem.W.fnOf "_law_deck" "_law_deck" (defArgs s__law_deck) (defBody s__law_deck) (defScope s__law_deck) .none kV34 dc34 pm34 an34 cd34 ct34), sl34⟩) (c34 : PySem.W.codeIn K cd34 "_law_deck" = true) (k34 : PySem.W.keepIn K (.ref f34) = true)
    {f35 : Addr} {od35 an35 : Option Addr} {sl35 : Array (Option Value)} {oc35 kV35 dc35 pm35 cd35 ct35 : Value}
    (a35 : PySem.W.nsIn K mainGlobals "_law_next" = some (some (.ref f35))) (l35 : K.lookup f35 = some ⟨oc35, od35, .func (PySem.W.fnOf "_law_next" "_law_next" (defArgs s__law_next) (defBody s__law_next) (defScope s__law_next) .none kV35 dc35 pm35 an35 cd35 ct35), sl35⟩) (c35 : PySem.W.codeIn K cd35 "_law_next" = true) (k35 : PySem.W.keepIn K (.ref f35) = true)
    {f36 : Addr} {od36 an36 : Option Addr} {sl36 : Array (Option Value)} {oc36 kV36 dc36 pm36 cd36 ct36 : Value}
    (a36 : PySem.W.nsIn K mainGlobals "_law_name" = some (some (.ref f36))) (l36 : K.lookup f36 = some ⟨oc36, od36, .func (PySem.W.fnOf "_law_name" "_law_name" (defArgs s__law_name) (defBody s__law_name) (defScope s__law_name) .none kV36 dc36 pm36 an36 cd36 ct36), sl36⟩) (c36 : PySem.W.codeIn K cd36 "_law_name" = true) (k36 : PySem.W.keepIn K (.ref f36) = true)
    {f37 : Addr} {od37 an37 : Option Addr} {sl37 : Array (Option Value)} {oc37 kV37 dc37 pm37 cd37 ct37 : Value}
    (a37 : PySem.W.nsIn K mainGlobals "_law_pool" = some (some (.ref f37))) (l37 : K.lookup f37 = some ⟨oc37, od37, .func (PySem.W.fnOf "_law_pool" "_law_pool" (defArgs s__law_pool) (defBody s__law_pool) (defScope s__law_pool) .none kV37 dc37 pm37 an37 cd37 ct37), sl37⟩) (c37 : PySem.W.codeIn K cd37 "_law_pool" = true) (k37 : PySem.W.keepIn K (.ref f37) = true)
    {f38 : Addr} {od38 an38 : Option Addr} {sl38 : Array (Option Value)} {oc38 kV38 dc38 pm38 cd38 ct38 : Value}
    (a38 : PySem.W.nsIn K mainGlobals "_law_path" = some (some (.ref f38))) (l38 : K.lookup f38 = some ⟨oc38, od38, .func (PySem.W.fnOf "_law_path" "_law_path" (defArgs s__law_path) (defBody s__law_path) (defScope s__law_path) .none kV38 dc38 pm38 an38 cd38 ct38), sl38⟩) (c38 : PySem.W.codeIn K cd38 "_law_path" = true) (k38 : PySem.W.keepIn K (.ref f38) = true)
    {f39 : Addr} {od39 an39 : Option Addr} {sl39 : Array (Option Value)} {oc39 kV39 dc39 pm39 cd39 ct39 : Value}
    (a39 : PySem.W.nsIn K mainGlobals "_law_covers" = some (some (.ref f39))) (l39 : K.lookup f39 = some ⟨oc39, od39, .func (PySem.W.fnOf "_law_covers" "_law_covers" (defArgs s__law_covers) (defBody s__law_covers) (defScope s__law_covers) .none kV39 dc39 pm39 an39 cd39 ct39), sl39⟩) (c39 : PySem.W.codeIn K cd39 "_law_covers" = true) (k39 : PySem.W.keepIn K (.ref f39) = true)
    {f40 : Addr} {od40 an40 : Option Addr} {sl40 : Array (Option Value)} {oc40 kV40 dc40 pm40 cd40 ct40 : Value}
    (a40 : PySem.W.nsIn K mainGlobals "_law_overlap" = some (some (.ref f40))) (l40 : K.lookup f40 = some ⟨oc40, od40, .func (PySem.W.fnOf "_law_overlap" "_law_overlap" (defArgs s__law_overlap) (defBody s__law_overlap) (defScope s__law_overlap) .none kV40 dc40 pm40 an40 cd40 ct40), sl40⟩) (c40 : PySem.W.codeIn K cd40 "_law_overlap" = true) (k40 : PySem.W.keepIn K (.ref f40) = true)
    {f41 : Addr} {od41 an41 : Option Addr} {sl41 : Array (Option Value)} {oc41 kV41 dc41 pm41 cd41 ct41 : Value}
    (a41 : PySem.W.nsIn K mainGlobals "_law_modules" = some (some (.ref f41))) (l41 : K.lookup f41 = some ⟨oc41, od41, .func (PySem.W.fnOf "_law_modules" "_law_modules" (defArgs s__law_modules) (defBody s__law_modules) (defScope s__law_modules) .none kV41 dc41 pm41 an41 cd41 ct41), sl41⟩) (c41 : PySem.W.codeIn K cd41 "_law_modules" = true) (k41 : PySem.W.keepIn K (.ref f41) = true)
    {f42 : Addr} {od42 an42 : Option Addr} {sl42 : Array (Option Value)} {oc42 kV42 dc42 pm42 cd42 ct42 : Value}
    (a42 : PySem.W.nsIn K mainGlobals "_law_uses" = some (some (.ref f42))) (l42 : K.lookup f42 = some ⟨oc42, od42, .func (PySem.W.fnOf "_law_uses" "_law_uses" (defArgs s__law_uses) (defBody s__law_uses) (defScope s__law_uses) .none kV42 dc42 pm42 an42 cd42 ct42), sl42⟩) (c42 : PySem.W.codeIn K cd42 "_law_uses" = true) (k42 : PySem.W.keepIn K (.ref f42) = true)
    {f43 : Addr} {od43 an43 : Option Addr} {sl43 : Array (Option Value)} {oc43 kV43 dc43 pm43 cd43 ct43 : Value}
    (a43 : PySem.W.nsIn K mainGlobals "_law_data" = some (some (.ref f43))) (l43 : K.lookup f43 = some ⟨oc43, od43, .func (PySem.W.fnOf "_law_data" "_law_data" (defArgs s__law_data) (defBody s__law_data) (defScope s__law_data) .none kV43 dc43 pm43 an43 cd43 ct43), sl43⟩) (c43 : PySem.W.codeIn K cd43 "_law_data" = true) (k43 : PySem.W.keepIn K (.ref f43) = true)
    {f44 : Addr} {od44 an44 : Option Addr} {sl44 : Array (Option Value)} {oc44 kV44 dc44 pm44 cd44 ct44 : Value}
    (a44 : PySem.W.nsIn K mainGlobals "_law_same" = some (some (.ref f44))) (l44 : K.lookup f44 = some ⟨oc44, od44, .func (PySem.W.fnOf "_law_same" "_law_same" (defArgs s__law_same) (defBody s__law_same) (defScope s__law_same) .none kV44 dc44 pm44 an44 cd44 ct44), sl44⟩) (c44 : PySem.W.codeIn K cd44 "_law_same" = true) (k44 : PySem.W.keepIn K (.ref f44) = true)
    {f45 : Addr} {od45 an45 : Option Addr} {sl45 : Array (Option Value)} {oc45 kV45 dc45 pm45 cd45 ct45 : Value}
    (a45 : PySem.W.nsIn K mainGlobals "_law_under" = some (some (.ref f45))) (l45 : K.lookup f45 = some ⟨oc45, od45, .func (PySem.W.fnOf "_law_under" "_law_under" (defArgs s__law_under) (defBody s__law_under) (defScope s__law_under) .none kV45 dc45 pm45 an45 cd45 ct45), sl45⟩) (c45 : PySem.W.codeIn K cd45 "_law_under" = true) (k45 : PySem.W.keepIn K (.ref f45) = true)
    {f46 : Addr} {od46 an46 : Option Addr} {sl46 : Array (Option Value)} {oc46 kV46 dc46 pm46 cd46 ct46 : Value}
    (a46 : PySem.W.nsIn K mainGlobals "_law_near" = some (some (.ref f46))) (l46 : K.lookup f46 = some ⟨oc46, od46, .func (PySem.W.fnOf "_law_near" "_law_near" (defArgs s__law_near) (defBody s__law_near) (defScope s__law_near) .none kV46 dc46 pm46 an46 cd46 ct46), sl46⟩) (c46 : PySem.W.codeIn K cd46 "_law_near" = true) (k46 : PySem.W.keepIn K (.ref f46) = true)
    {f47 : Addr} {od47 an47 : Option Addr} {sl47 : Array (Option Value)} {oc47 kV47 dc47 pm47 cd47 ct47 : Value}
    (a47 : PySem.W.nsIn K mainGlobals "_law_first" = some (some (.ref f47))) (l47 : K.lookup f47 = some ⟨oc47, od47, .func (PySem.W.fnOf "_law_first" "_law_first" (defArgs s__law_first) (defBody s__law_first) (defScope s__law_first) .none kV47 dc47 pm47 an47 cd47 ct47), sl47⟩) (c47 : PySem.W.codeIn K cd47 "_law_first" = true) (k47 : PySem.W.keepIn K (.ref f47) = true)
    {f48 : Addr} {od48 an48 : Option Addr} {sl48 : Array (Option Value)} {oc48 kV48 dc48 pm48 cd48 ct48 : Value}
    (a48 : PySem.W.nsIn K mainGlobals "_law_some" = some (some (.ref f48))) (l48 : K.lookup f48 = some ⟨oc48, od48, .func (PySem.W.fnOf "_law_some" "_law_some" (defArgs s__law_some) (defBody s__law_some) (defScope s__law_some) .none kV48 dc48 pm48 an48 cd48 ct48), sl48⟩) (c48 : PySem.W.codeIn K cd48 "_law_some" = true) (k48 : PySem.W.keepIn K (.ref f48) = true)
    {f49 : Addr} {od49 an49 : Option Addr} {sl49 : Array (Option Value)} {oc49 kV49 dc49 pm49 cd49 ct49 : Value}
    (a49 : PySem.W.nsIn K mainGlobals "_law_wide" = some (some (.ref f49))) (l49 : K.lookup f49 = some ⟨oc49, od49, .func (PySem.W.fnOf "_law_wide" "_law_wide" (defArgs s__law_wide) (defBody s__law_wide) (defScope s__law_wide) .none kV49 dc49 pm49 an49 cd49 ct49), sl49⟩) (c49 : PySem.W.codeIn K cd49 "_law_wide" = true) (k49 : PySem.W.keepIn K (.ref f49) = true)
    {f6 : Addr} {od6 an6 : Option Addr} {sl6 : Array (Option Value)} {oc6 kV6 dc6 pm6 cd6 ct6 : Value}
    (a6 : PySem.W.nsIn K mainGlobals "_is_name" = some (some (.ref f6))) (l6 : K.lookup f6 = some ⟨oc6, od6, .func (PySem.W.fnOf "_is_name" "_is_name" (defArgs s__is_name) (defBody s__is_name) (defScope s__is_name) .none kV6 dc6 pm6 an6 cd6 ct6), sl6⟩) (c6 : PySem.W.codeIn K cd6 "_is_name" = true) (k6 : PySem.W.keepIn K (.ref f6) = true)
    {f7 : Addr} {od7 an7 : Option Addr} {sl7 : Array (Option Value)} {oc7 kV7 dc7 pm7 cd7 ct7 : Value}
    (a7 : PySem.W.nsIn K mainGlobals "is_path" = some (some (.ref f7))) (l7 : K.lookup f7 = some ⟨oc7, od7, .func (PySem.W.fnOf "is_path" "is_path" (defArgs s_is_path) (defBody s_is_path) (defScope s_is_path) .none kV7 dc7 pm7 an7 cd7 ct7), sl7⟩) (c7 : PySem.W.codeIn K cd7 "is_path" = true) (k7 : PySem.W.keepIn K (.ref f7) = true)
    {f9 : Addr} {od9 an9 : Option Addr} {sl9 : Array (Option Value)} {oc9 kV9 dc9 pm9 cd9 ct9 : Value}
    (a9 : PySem.W.nsIn K mainGlobals "overlap" = some (some (.ref f9))) (l9 : K.lookup f9 = some ⟨oc9, od9, .func (PySem.W.fnOf "overlap" "overlap" (defArgs s_overlap) (defBody s_overlap) (defScope s_overlap) .none kV9 dc9 pm9 an9 cd9 ct9), sl9⟩) (c9 : PySem.W.codeIn K cd9 "overlap" = true) (k9 : PySem.W.keepIn K (.ref f9) = true)
    {f21 : Addr} {od21 an21 : Option Addr} {sl21 : Array (Option Value)} {oc21 kV21 dc21 pm21 cd21 ct21 : Value}
    (a21 : PySem.W.nsIn K mainGlobals "_modules_error" = some (some (.ref f21))) (l21 : K.lookup f21 = some ⟨oc21, od21, .func (PySem.W.fnOf "_modules_error" "_modules_error" (defArgs s__modules_error) (defBody s__modules_error) (defScope s__modules_error) .none kV21 dc21 pm21 an21 cd21 ct21), sl21⟩) (c21 : PySem.W.codeIn K cd21 "_modules_error" = true) (k21 : PySem.W.keepIn K (.ref f21) = true)
    {f19 : Addr} {od19 an19 : Option Addr} {sl19 : Array (Option Value)} {oc19 kV19 dc19 pm19 cd19 ct19 : Value}
    (a19 : PySem.W.nsIn K mainGlobals "_is_pair_of" = some (some (.ref f19))) (l19 : K.lookup f19 = some ⟨oc19, od19, .func (PySem.W.fnOf "_is_pair_of" "_is_pair_of" (defArgs s__is_pair_of) (defBody s__is_pair_of) (defScope s__is_pair_of) .none kV19 dc19 pm19 an19 cd19 ct19), sl19⟩) (c19 : PySem.W.codeIn K cd19 "_is_pair_of" = true) (k19 : PySem.W.keepIn K (.ref f19) = true)
    {f22 : Addr} {od22 an22 : Option Addr} {sl22 : Array (Option Value)} {oc22 kV22 dc22 pm22 cd22 ct22 : Value}
    (a22 : PySem.W.nsIn K mainGlobals "_uses_error" = some (some (.ref f22))) (l22 : K.lookup f22 = some ⟨oc22, od22, .func (PySem.W.fnOf "_uses_error" "_uses_error" (defArgs s__uses_error) (defBody s__uses_error) (defScope s__uses_error) .none kV22 dc22 pm22 an22 cd22 ct22), sl22⟩) (c22 : PySem.W.codeIn K cd22 "_uses_error" = true) (k22 : PySem.W.keepIn K (.ref f22) = true)
    {f23 : Addr} {od23 an23 : Option Addr} {sl23 : Array (Option Value)} {oc23 kV23 dc23 pm23 cd23 ct23 : Value}
    (a23 : PySem.W.nsIn K mainGlobals "program_error" = some (some (.ref f23))) (l23 : K.lookup f23 = some ⟨oc23, od23, .func (PySem.W.fnOf "program_error" "program_error" (defArgs s_program_error) (defBody s_program_error) (defScope s_program_error) .none kV23 dc23 pm23 an23 cd23 ct23), sl23⟩) (c23 : PySem.W.codeIn K cd23 "program_error" = true) (k23 : PySem.W.keepIn K (.ref f23) = true)
    {f10 : Addr} {od10 an10 : Option Addr} {sl10 : Array (Option Value)} {oc10 kV10 dc10 pm10 cd10 ct10 : Value}
    (a10 : PySem.W.nsIn K mainGlobals "parent" = some (some (.ref f10))) (l10 : K.lookup f10 = some ⟨oc10, od10, .func (PySem.W.fnOf "parent" "parent" (defArgs s_parent) (defBody s_parent) (defScope s_parent) .none kV10 dc10 pm10 an10 cd10 ct10), sl10⟩) (c10 : PySem.W.codeIn K cd10 "parent" = true) (k10 : PySem.W.keepIn K (.ref f10) = true)
    {f25 : Addr} {od25 an25 : Option Addr} {sl25 : Array (Option Value)} {oc25 kV25 dc25 pm25 cd25 ct25 : Value}
    (a25 : PySem.W.nsIn K mainGlobals "_parts" = some (some (.ref f25))) (l25 : K.lookup f25 = some ⟨oc25, od25, .func (PySem.W.fnOf "_parts" "_parts" (defArgs s__parts) (defBody s__parts) (defScope s__parts) .none kV25 dc25 pm25 an25 cd25 ct25), sl25⟩) (c25 : PySem.W.codeIn K cd25 "_parts" = true) (k25 : PySem.W.keepIn K (.ref f25) = true)
    {f2300 : Addr} {od2300 an2300 : Option Addr} {sl2300 : Array (Option Value)} {oc2300 kV2300 dc2300 pm2300 cd2300 ct2300 : Value}
    (l2300 : K.lookup f2300 = some ⟨oc2300, od2300, .func (PySem.W.fnOf "__init__" "Program.__init__" (defArgs s_Program___init__) (defBody s_Program___init__) (defScope s_Program___init__) .none kV2300 dc2300 pm2300 an2300 cd2300 ct2300), sl2300⟩) (c2300 : PySem.W.codeIn K cd2300 "Program.__init__" = true) (k2300 : PySem.W.keepIn K (.ref f2300) = true)
    {f50 : Addr} {od50 an50 : Option Addr} {sl50 : Array (Option Value)} {oc50 kV50 dc50 pm50 cd50 ct50 : Value}
    (a50 : PySem.W.nsIn K mainGlobals "law" = some (some (.ref f50))) (l50 : K.lookup f50 = some ⟨oc50, od50, .func (PySem.W.fnOf "law" "law" (defArgs s_law) (defBody s_law) (defScope s_law) .none kV50 dc50 pm50 an50 cd50 ct50), sl50⟩) (c50 : PySem.W.codeIn K cd50 "law" = true) (k50 : PySem.W.keepIn K (.ref f50) = true)
    {f26 : Addr} (a26 : PySem.W.nsIn K mainGlobals "Program" = some (some (.ref f26))) (kow26 : ownB K f26 = true)
    (kmk26 : PySem.W.makesIn K f26 = true) (i26 : PySem.W.findIn K (.ref f26) "__init__" = some (some (.ref f2300))) (kfn26 : PySem.W.isFn K (.ref f2300) = true) (kkp26 : PySem.W.keepIn K (.ref f26) = true)
    (kpg26 : PySem.W.plainGet K f26 Str.empty = true) (khd26 : PySem.W.hasDictIn K f26 = true) (kpo26 : PySem.W.plainOver K f26 = true) (ksa26 : PySem.W.findIn K (.ref f26) "__setattr__" = some (some (.builtin "object.__setattr__")))
    (kha26 : PySem.W.findIn K (.ref f26) "__class__" = some (some (.builtin "object.__class__"))) (khn26 : PySem.W.specialIn K (.builtin "object.__class__") "__get__" = some (some (.builtin "getset_descriptor.__get__"))) (kht26 : PySem.W.takesIn K (.builtin "object.__class__") = some true) (khm26 : PySem.W.mroIn K f26 (.type "object") = some true) (kno26 : PySem.W.kitOne K (.ref f26) (.type "tuple") = some false)
    {q2302 : Addr} {re2302 : List Value} (kpa2302 : PySem.W.findIn K (.ref f26) "modules" = some (some (.ref q2302))) (kpb2302 : PySem.W.specialIn K (.ref q2302) "__get__" = some (some (.builtin "property.__get__"))) (kpc2302 : PySem.W.takesIn K (.ref q2302) = some true) (kpd2302 : PySem.W.recIn K q2302 "property" = some (.ref f2302 :: re2302))
    {q2303 : Addr} {re2303 : List Value} (kpa2303 : PySem.W.findIn K (.ref f26) "uses" = some (some (.ref q2303))) (kpb2303 : PySem.W.specialIn K (.ref q2303) "__get__" = some (some (.builtin "property.__get__"))) (kpc2303 : PySem.W.takesIn K (.ref q2303) = some true) (kpd2303 : PySem.W.recIn K q2303 "property" = some (.ref f2303 :: re2303))
    (kna26_modules : PySem.W.findIn K (.ref f26) "_modules" = some none)
    (kna26_parts : PySem.W.findIn K (.ref f26) "_parts" = some none)
    (kna26_uses : PySem.W.findIn K (.ref f26) "_uses" = some none)
    (z_abs : PySem.W.nsIn K mainGlobals "abs" = some none)
    (z_all : PySem.W.nsIn K mainGlobals "all" = some none)
    (z_any : PySem.W.nsIn K mainGlobals "any" = some none)
    (z_bool : PySem.W.nsIn K mainGlobals "bool" = some none)
    (z_dict : PySem.W.nsIn K mainGlobals "dict" = some none)
    (z_enumerate : PySem.W.nsIn K mainGlobals "enumerate" = some none)
    (z_int : PySem.W.nsIn K mainGlobals "int" = some none)
    (z_isinstance : PySem.W.nsIn K mainGlobals "isinstance" = some none)
    (z_len : PySem.W.nsIn K mainGlobals "len" = some none)
    (z_list : PySem.W.nsIn K mainGlobals "list" = some none)
    (z_min : PySem.W.nsIn K mainGlobals "min" = some none)
    (z_range : PySem.W.nsIn K mainGlobals "range" = some none)
    (z_repr : PySem.W.nsIn K mainGlobals "repr" = some none)
    (z_set : PySem.W.nsIn K mainGlobals "set" = some none)
    (z_sorted : PySem.W.nsIn K mainGlobals "sorted" = some none)
    (z_str : PySem.W.nsIn K mainGlobals "str" = some none)
    (z_tuple : PySem.W.nsIn K mainGlobals "tuple" = some none)
    (z_zip : PySem.W.nsIn K mainGlobals "zip" = some none)
    {t_MAX_MODULES : Tok} (c_MAX_MODULES : PySem.W.nsIn K mainGlobals "MAX_MODULES" = some (some (.int 24 t_MAX_MODULES)))
    {t_MAX_NAMES : Tok} (c_MAX_NAMES : PySem.W.nsIn K mainGlobals "MAX_NAMES" = some (some (.int 6 t_MAX_NAMES)))
    {t_MAX_USES : Tok} (c_MAX_USES : PySem.W.nsIn K mainGlobals "MAX_USES" = some (some (.int 200 t_MAX_USES)))
    {t__MAX_LETTERS : Tok} (c__MAX_LETTERS : PySem.W.nsIn K mainGlobals "_MAX_LETTERS" = some (some (.int 8 t__MAX_LETTERS)))
    (kc31 : isRefV cd31 = true)
    : ∃ fd : FuncData, (∀ (s : Shared) (v : Value), BindsTo s fd ⟨[v], []⟩ [("_law_script", v)]) ∧ ∀ base : Heap, K.In base → base.Ns mainGlobals mg → (∃ o, base.get? sysModules = some o) → (∀ p ∈ [(f31, Str.ofString "chain.<locals>.<lambda>")], LamX.TabB base mg (codeAt K p.1) (tabOf K (codeAt K p.1))) → FnG l.prog w K mg base CX0 7 fa fd ["_law_script"] (lift K (Mem.tab (tabNames K [(f31, Str.ofString "chain.<locals>.<lambda>")]) Mem.deck) 1 (spLawT (tabNames K [(f31, Str.ofString "chain.<locals>.<lambda>")]))) := by
  have eL := hfa.symm.trans (PySem.W.mg_of X G a50)
  cases eL
  have F8 := fun_mk (st := s_covers) l8 c8 k8
  have b8 := F8.binds (ps := ["path", "other"]) fun _ _ _ _ _ _ us hl => match us, hl with | [_, _], _ => rfl
  have F11 := fun_mk (st := s_covered) l11 c11 k11
  have b11 := F11.binds (ps := ["paths", "path"]) fun _ _ _ _ _ _ us hl => match us, hl with | [_, _], _ => rfl
  have F2302 := fun_mk (st := s_Program_modules) l2302 c2302 k2302
  have b2302 := F2302.binds (ps := ["self"]) fun _ _ _ _ _ _ us hl => match us, hl with | [_], _ => rfl
  have F24 := fun_mk (st := s_modules_under) l24 c24 k24
  have b24 := F24.binds (ps := ["program", "paths"]) fun _ _ _ _ _ _ us hl => match us, hl with | [_, _], _ => rfl
  have F2303 := fun_mk (st := s_Program_uses) l2303 c2303 k2303
  have b2303 := F2303.binds (ps := ["self"]) fun _ _ _ _ _ _ us hl => match us, hl with | [_], _ => rfl
  have F28 := funE_mk (st := s_next_table) l28 c28 k28
  have FD28 := funD_mk (st := s_next_table) (b := false) l28 c28 k28 ldt28 rfl
  have b28 := bindE (ps := ["program", "backward"]) FD28 2 rfl fun _ _ _ _ _ _ _ us its h1 h2 => match us, its, h1, h2 with | [_, _], [_], _, _ => ⟨_, rfl, rfl⟩
  have bd28 := bindD (ps := ["program", "backward"]) FD28 1 rfl fun _ _ _ _ _ _ _ us its h1 h2 => match us, its, h1, h2 with | [_], [_], _, _ => ⟨_, rfl, rfl⟩
  have F29 := fun_mk (st := s_chains_from) l29 c29 k29
  have b29 := F29.binds (ps := ["nexts", "start"]) fun _ _ _ _ _ _ us hl => match us, hl with | [_, _], _ => rfl
  have F31 := fun_mk (st := s_chain) l31 c31 k31
  have b31 := F31.binds (ps := ["program", "sources", "targets"]) fun _ _ _ _ _ _ us hl => match us, hl with | [_, _, _], _ => rfl
  have F30 := fun_mk (st := s_is_chain) l30 c30 k30
  have b30 := F30.binds (ps := ["program", "value"]) fun _ _ _ _ _ _ us hl => match us, hl with | [_, _], _ => rfl
  have F32 := fun_mk (st := s_chain_holds) l32 c32 k32
  have b32 := F32.binds (ps := ["program", "sources", "targets", "value"]) fun _ _ _ _ _ _ us hl => match us, hl with | [_, _, _, _], _ => rfl
  have F34 := fun_mk (st := s__law_deck) l34 c34 k34
  have b34 := F34.binds (ps := ["_law_script"]) fun _ _ _ _ _ _ us hl => match us, hl with | [_], _ => rfl
  have F35 := fun_mk (st := s__law_next) l35 c35 k35
  have b35 := F35.binds (ps := ["_law_deck_here", "_law_many"]) fun _ _ _ _ _ _ us hl => match us, hl with | [_, _], _ => rfl
  have F36 := fun_mk (st := s__law_name) l36 c36 k36
  have b36 := F36.binds (ps := ["_law_deck_here"]) fun _ _ _ _ _ _ us hl => match us, hl with | [_], _ => rfl
  have F37 := fun_mk (st := s__law_pool) l37 c37 k37
  have b37 := F37.binds (ps := ["_law_deck_here", "_law_many"]) fun _ _ _ _ _ _ us hl => match us, hl with | [_, _], _ => rfl
  have F38 := fun_mk (st := s__law_path) l38 c38 k38
  have b38 := F38.binds (ps := ["_law_deck_here", "_law_pool_here", "_law_most"]) fun _ _ _ _ _ _ us hl => match us, hl with | [_, _, _], _ => rfl
  have F39 := fun_mk (st := s__law_covers) l39 c39 k39
  have b39 := F39.binds (ps := ["_law_path_here", "_law_other"]) fun _ _ _ _ _ _ us hl => match us, hl with | [_, _], _ => rfl
  have F40 := fun_mk (st := s__law_overlap) l40 c40 k40
  have b40 := F40.binds (ps := ["_law_path_here", "_law_other"]) fun _ _ _ _ _ _ us hl => match us, hl with | [_, _], _ => rfl
  have F41 := fun_mk (st := s__law_modules) l41 c41 k41
  have b41 := F41.binds (ps := ["_law_deck_here", "_law_pool_here", "_law_most"]) fun _ _ _ _ _ _ us hl => match us, hl with | [_, _, _], _ => rfl
  have F42 := fun_mk (st := s__law_uses) l42 c42 k42
  have b42 := F42.binds (ps := ["_law_deck_here", "_law_modules_here", "_law_most"]) fun _ _ _ _ _ _ us hl => match us, hl with | [_, _, _], _ => rfl
  have F43 := fun_mk (st := s__law_data) l43 c43 k43
  have b43 := F43.binds (ps := ["_law_deck_here", "_law_most", "_law_uses_here"]) fun _ _ _ _ _ _ us hl => match us, hl with | [_, _, _], _ => rfl
  have F44 := fun_mk (st := s__law_same) l44 c44 k44
  have b44 := F44.binds (ps := ["_law_found", "_law_due"]) fun _ _ _ _ _ _ us hl => match us, hl with | [_, _], _ => rfl
  have F45 := fun_mk (st := s__law_under) l45 c45 k45
  have b45 := F45.binds (ps := ["_law_paths", "_law_modules_here"]) fun _ _ _ _ _ _ us hl => match us, hl with | [_, _], _ => rfl
  have F46 := fun_mk (st := s__law_near) l46 c46 k46
  have b46 := F46.binds (ps := ["_law_modules_here", "_law_uses_here", "_law_goals"]) fun _ _ _ _ _ _ us hl => match us, hl with | [_, _, _], _ => rfl
  have F47 := fun_mk (st := s__law_first) l47 c47 k47
  have b47 := F47.binds (ps := ["_law_modules_here", "_law_uses_here", "_law_starts", "_law_goals"]) fun _ _ _ _ _ _ us hl => match us, hl with | [_, _, _, _], _ => rfl
  have F48 := fun_mk (st := s__law_some) l48 c48 k48
  have b48 := F48.binds (ps := ["_law_deck_here", "_law_modules_here", "_law_most"]) fun _ _ _ _ _ _ us hl => match us, hl with | [_, _, _], _ => rfl
  have F49 := fun_mk (st := s__law_wide) l49 c49 k49
  have b49 := F49.binds (ps := ["_law_deck_here", "_law_uses_here"]) fun _ _ _ _ _ _ us hl => match us, hl with | [_, _], _ => rfl
  have F6 := fun_mk (st := s__is_name) l6 c6 k6
  have b6 := F6.binds (ps := ["text"]) fun _ _ _ _ _ _ us hl => match us, hl with | [_], _ => rfl
  have F7 := fun_mk (st := s_is_path) l7 c7 k7
  have b7 := F7.binds (ps := ["value"]) fun _ _ _ _ _ _ us hl => match us, hl with | [_], _ => rfl
  have F9 := fun_mk (st := s_overlap) l9 c9 k9
  have b9 := F9.binds (ps := ["path", "other"]) fun _ _ _ _ _ _ us hl => match us, hl with | [_, _], _ => rfl
  have F21 := fun_mk (st := s__modules_error) l21 c21 k21
  have b21 := F21.binds (ps := ["modules"]) fun _ _ _ _ _ _ us hl => match us, hl with | [_], _ => rfl
  have F19 := fun_mk (st := s__is_pair_of) l19 c19 k19
  have b19 := F19.binds (ps := ["value", "modules"]) fun _ _ _ _ _ _ us hl => match us, hl with | [_, _], _ => rfl
  have F22 := fun_mk (st := s__uses_error) l22 c22 k22
  have b22 := F22.binds (ps := ["modules", "uses"]) fun _ _ _ _ _ _ us hl => match us, hl with | [_, _], _ => rfl
  have F23 := fun_mk (st := s_program_error) l23 c23 k23
  have b23 := F23.binds (ps := ["modules", "uses"]) fun _ _ _ _ _ _ us hl => match us, hl with | [_, _], _ => rfl
  have F10 := fun_mk (st := s_parent) l10 c10 k10
  have b10 := F10.binds (ps := ["path"]) fun _ _ _ _ _ _ us hl => match us, hl with | [_], _ => rfl
  have F25 := fun_mk (st := s__parts) l25 c25 k25
  have b25 := F25.binds (ps := ["modules"]) fun _ _ _ _ _ _ us hl => match us, hl with | [_], _ => rfl
  have F2300 := fun_mk (st := s_Program___init__) l2300 c2300 k2300
  have b2300 := F2300.binds (ps := ["self", "modules", "uses"]) fun _ _ _ _ _ _ us hl => match us, hl with | [_, _, _], _ => rfl
  have F50 := fun_mk (st := s_law) l50 c50 k50
  have b50 := F50.binds (ps := ["_law_script"]) fun _ _ _ _ _ _ us hl => match us, hl with | [_], _ => rfl
  have T : ∀ base : Heap, (∃ o, base.get? sysModules = some o) → (∀ p ∈ [(f31, Str.ofString "chain.<locals>.<lambda>")], LamX.TabB base mg (codeAt K p.1) (tabOf K (codeAt K p.1))) → Tx w K mg base (fun i => if i = 8 then f8 else if i = 11 then f11 else if i = 2302 then f2302 else if i = 24 then f24 else if i = 2303 then f2303 else if i = 28 then f28 else if i = 29 then f29 else if i = 31 then f31 else if i = 30 then f30 else if i = 32 then f32 else if i = 34 then f34 else if i = 35 then f35 else if i = 36 then f36 else if i = 37 then f37 else if i = 38 then f38 else if i = 39 then f39 else if i = 40 then f40 else if i = 41 then f41 else if i = 42 then f42 else if i = 43 then f43 else if i = 44 then f44 else if i = 45 then f45 else if i = 46 then f46 else if i = 47 then f47 else if i = 48 then f48 else if i = 49 then f49 else if i = 6 then f6 else if i = 7 then f7 else if i = 9 then f9 else if i = 21 then f21 else if i = 19 then f19 else if i = 22 then f22 else if i = 23 then f23 else if i = 10 then f10 else if i = 25 then f25 else if i = 2300 then f2300 else if i = 50 then fa else if i = 26 then f26 else 0) (fun i => if i = 8 then PySem.W.fnOf "covers" "covers" (defArgs s_covers) (defBody s_covers) (defScope s_covers) .none kV8 dc8 pm8 an8 cd8 ct8 else if i = 11 then PySem.W.fnOf "covered" "covered" (defArgs s_covered) (defBody s_covered) (defScope s_covered) .none kV11 dc11 pm11 an11 cd11 ct11 else if i = 2302 then PySem.W.fnOf "modules" "Program.modules" (defArgs s_Program_modules) (defBody s_Program_modules) (defScope s_Program_modules) .none kV2302 dc2302 pm2302 an2302 cd2302 ct2302 else if i = 24 then PySem.W.fnOf "modules_under" "modules_under" (defArgs s_modules_under) (defBody s_modules_under) (defScope s_modules_under) .none kV24 dc24 pm24 an24 cd24 ct24 else if i = 2303 then PySem.W.fnOf "uses" "Program.uses" (defArgs s_Program_uses) (defBody s_Program_uses) (defScope s_Program_uses) .none kV2303 dc2303 pm2303 an2303 cd2303 ct2303 else if i = 28 then PySem.W.fnOf "next_table" "next_table" (defArgs s_next_table) (defBody s_next_table) (defScope s_next_table) (.ref T28) kV28 dc28 pm28 an28 cd28 ct28 else if i = 29 then PySem.W.fnOf "chains_from" "chains_from" (defArgs s_chains_from) (defBody s_chains_from) (defScope s_chains_from) .none kV29 dc29 pm29 an29 cd29 ct29 else if i = 31 then PySem.W.fnOf "chain" "chain" (defArgs s_chain) (defBody s_chain) (defScope s_chain) .none kV31 dc31 pm31 an31 cd31 ct31 else if i = 30 then PySem.W.fnOf "is_chain" "is_chain" (defArgs s_is_chain) (defBody s_is_chain) (defScope s_is_chain) .none kV30 dc30 pm30 an30 cd30 ct30 else if i = 32 then PySem.W.fnOf "chain_holds" "chain_holds" (defArgs s_chain_holds) (defBody s_chain_holds) (defScope s_chain_holds) .none kV32 dc32 pm32 an32 cd32 ct32 else if i = 34 then PySem.W.fnOf "_law_deck" "_law_deck" (defArgs s__law_deck) (defBody s__law_deck) (defScope s__law_deck) .none kV34 dc34 pm34 an34 cd34 ct34 else if i = 35 then PySem.W.fnOf "_law_next" "_law_next" (defArgs s__law_next) (defBody s__law_next) (defScope s__law_next) .none kV35 dc35 pm35 an35 cd35 ct35 else if i = 36 then PySem.W.fnOf "_law_name" "_law_name" (defArgs s__law_name) (defBody s__law_name) (defScope s__law_name) .none kV36 dc36 pm36 an36 cd36 ct36 else if i = 37 then PySem.W.fnOf "_law_pool" "_law_pool" (defArgs s__law_pool) (defBody s__law_pool) (defScope s__law_pool) .none kV37 dc37 pm37 an37 cd37 ct37 else if i = 38 then PySem.W.fnOf "_law_path" "_law_path" (defArgs s__law_path) (defBody s__law_path) (defScope s__law_path) .none kV38 dc38 pm38 an38 cd38 ct38 else if i = 39 then PySem.W.fnOf "_law_covers" "_law_covers" (defArgs s__law_covers) (defBody s__law_covers) (defScope s__law_covers) .none kV39 dc39 pm39 an39 cd39 ct39 else if i = 40 then PySem.W.fnOf "_law_overlap" "_law_overlap" (defArgs s__law_overlap) (defBody s__law_overlap) (defScope s__law_overlap) .none kV40 dc40 pm40 an40 cd40 ct40 else if i = 41 then PySem.W.fnOf "_law_modules" "_law_modules" (defArgs s__law_modules) (defBody s__law_modules) (defScope s__law_modules) .none kV41 dc41 pm41 an41 cd41 ct41 else if i = 42 then PySem.W.fnOf "_law_uses" "_law_uses" (defArgs s__law_uses) (defBody s__law_uses) (defScope s__law_uses) .none kV42 dc42 pm42 an42 cd42 ct42 else if i = 43 then PySem.W.fnOf "_law_data" "_law_data" (defArgs s__law_data) (defBody s__law_data) (defScope s__law_data) .none kV43 dc43 pm43 an43 cd43 ct43 else if i = 44 then PySem.W.fnOf "_law_same" "_law_same" (defArgs s__law_same) (defBody s__law_same) (defScope s__law_same) .none kV44 dc44 pm44 an44 cd44 ct44 else if i = 45 then PySem.W.fnOf "_law_under" "_law_under" (defArgs s__law_under) (defBody s__law_under) (defScope s__law_under) .none kV45 dc45 pm45 an45 cd45 ct45 else if i = 46 then PySem.W.fnOf "_law_near" "_law_near" (defArgs s__law_near) (defBody s__law_near) (defScope s__law_near) .none kV46 dc46 pm46 an46 cd46 ct46 else if i = 47 then PySem.W.fnOf "_law_first" "_law_first" (defArgs s__law_first) (defBody s__law_first) (defScope s__law_first) .none kV47 dc47 pm47 an47 cd47 ct47 else if i = 48 then PySem.W.fnOf "_law_some" "_law_some" (defArgs s__law_some) (defBody s__law_some) (defScope s__law_some) .none kV48 dc48 pm48 an48 cd48 ct48 else if i = 49 then PySem.W.fnOf "_law_wide" "_law_wide" (defArgs s__law_wide) (defBody s__law_wide) (defScope s__law_wide) .none kV49 dc49 pm49 an49 cd49 ct49 else if i = 6 then PySem.W.fnOf "_is_name" "_is_name" (defArgs s__is_name) (defBody s__is_name) (defScope s__is_name) .none kV6 dc6 pm6 an6 cd6 ct6 else if i = 7 then PySem.W.fnOf "is_path" "is_path" (defArgs s_is_path) (defBody s_is_path) (defScope s_is_path) .none kV7 dc7 pm7 an7 cd7 ct7 else if i = 9 then PySem.W.fnOf "overlap" "overlap" (defArgs s_overlap) (defBody s_overlap) (defScope s_overlap) .none kV9 dc9 pm9 an9 cd9 ct9 else if i = 21 then PySem.W.fnOf "_modules_error" "_modules_error" (defArgs s__modules_error) (defBody s__modules_error) (defScope s__modules_error) .none kV21 dc21 pm21 an21 cd21 ct21 else if i = 19 then PySem.W.fnOf "_is_pair_of" "_is_pair_of" (defArgs s__is_pair_of) (defBody s__is_pair_of) (defScope s__is_pair_of) .none kV19 dc19 pm19 an19 cd19 ct19 else if i = 22 then PySem.W.fnOf "_uses_error" "_uses_error" (defArgs s__uses_error) (defBody s__uses_error) (defScope s__uses_error) .none kV22 dc22 pm22 an22 cd22 ct22 else if i = 23 then PySem.W.fnOf "program_error" "program_error" (defArgs s_program_error) (defBody s_program_error) (defScope s_program_error) .none kV23 dc23 pm23 an23 cd23 ct23 else if i = 10 then PySem.W.fnOf "parent" "parent" (defArgs s_parent) (defBody s_parent) (defScope s_parent) .none kV10 dc10 pm10 an10 cd10 ct10 else if i = 25 then PySem.W.fnOf "_parts" "_parts" (defArgs s__parts) (defBody s__parts) (defScope s__parts) .none kV25 dc25 pm25 an25 cd25 ct25 else if i = 2300 then PySem.W.fnOf "__init__" "Program.__init__" (defArgs s_Program___init__) (defBody s_Program___init__) (defScope s_Program___init__) .none kV2300 dc2300 pm2300 an2300 cd2300 ct2300 else if i = 50 then PySem.W.fnOf "law" "law" (defArgs s_law) (defBody s_law) (defScope s_law) .none kV50 dc50 pm50 an50 cd50 ct50 else PySem.W.fnOf "" "" (defArgs (topS 0)) [] (defScope (topS 0)) .none .none .none .none none .none .none) (fun i => if i = 2302 then q2302 else if i = 2303 then q2303 else 0) (fun i => PySem.W.fnOf "" "" (defArgs (topS 0)) [] (defScope (topS 0)) .none .none .none .none none .none .none) := fun base hsys htb => ⟨F8, PySem.W.mg_of X G a8, b8, F11, PySem.W.mg_of X G a11, b11, F2302, b2302, F24, PySem.W.mg_of X G a24, b24, F2303, b2303, F28, PySem.W.mg_of X G a28, b28, bd28, F29, PySem.W.mg_of X G a29, b29, F31, PySem.W.mg_of X G a31, b31, F30, PySem.W.mg_of X G a30, b30, F32, PySem.W.mg_of X G a32, b32, F34, PySem.W.mg_of X G a34, b34, F35, PySem.W.mg_of X G a35, b35, F36, PySem.W.mg_of X G a36, b36, F37, PySem.W.mg_of X G a37, b37, F38, PySem.W.mg_of X G a38, b38, F39, PySem.W.mg_of X G a39, b39, F40, PySem.W.mg_of X G a40, b40, F41, PySem.W.mg_of X G a41, b41, F42, PySem.W.mg_of X G a42, b42, F43, PySem.W.mg_of X G a43, b43, F44, PySem.W.mg_of X G a44, b44, F45, PySem.W.mg_of X G a45, b45, F46, PySem.W.mg_of X G a46, b46, F47, PySem.W.mg_of X G a47, b47, F48, PySem.W.mg_of X G a48, b48, F49, PySem.W.mg_of X G a49, b49, F6, PySem.W.mg_of X G a6, b6, F7, PySem.W.mg_of X G a7, b7, F9, PySem.W.mg_of X G a9, b9, F21, PySem.W.mg_of X G a21, b21, F19, PySem.W.mg_of X G a19, b19, F22, PySem.W.mg_of X G a22, b22, F23, PySem.W.mg_of X G a23, b23, F10, PySem.W.mg_of X G a10, b10, F25, PySem.W.mg_of X G a25, b25, F2300, b2300, F50, PySem.W.mg_of X G a50, b50, PySem.W.mg_of X G a26, ⟨kmk26, i26, kfn26, kkp26⟩, ⟨⟨kpg26, khd26, kpo26, ksa26⟩, kha26, khn26, kht26, khm26, kno26⟩, ownC_of kow26, propOf_mk kpa2302 kpb2302 kpc2302 kpd2302, propOf_mk kpa2303 kpb2303 kpc2303 kpd2303, kna26_modules, kna26_parts, kna26_uses, code_at l31 kc31, htb (f31, Str.ofString "chain.<locals>.<lambda>") (List.mem_cons_self), hsys, PySem.W.mg_none_of X G z_abs, PySem.W.mg_none_of X G z_all, PySem.W.mg_none_of X G z_any, PySem.W.mg_none_of X G z_bool, PySem.W.mg_none_of X G z_dict, PySem.W.mg_none_of X G z_enumerate, PySem.W.mg_none_of X G z_int, PySem.W.mg_none_of X G z_isinstance, PySem.W.mg_none_of X G z_len, PySem.W.mg_none_of X G z_list, PySem.W.mg_none_of X G z_min, PySem.W.mg_none_of X G z_range, PySem.W.mg_none_of X G z_repr, PySem.W.mg_none_of X G z_set, PySem.W.mg_none_of X G z_sorted, PySem.W.mg_none_of X G z_str, PySem.W.mg_none_of X G z_tuple, PySem.W.mg_none_of X G z_zip, ⟨t_MAX_MODULES, PySem.W.mg_of X G c_MAX_MODULES⟩, ⟨t_MAX_NAMES, PySem.W.mg_of X G c_MAX_NAMES⟩, ⟨t_MAX_USES, PySem.W.mg_of X G c_MAX_USES⟩, ⟨t__MAX_LETTERS, PySem.W.mg_of X G c__MAX_LETTERS⟩⟩
  exact ⟨PySem.W.fnOf "law" "law" (defArgs s_law) (defBody s_law) (defScope s_law) .none kV50 dc50 pm50 an50 cd50 ct50, fun s v => .of_eq rfl, fun base _ _ hsys htb => ok_law (P := l.prog) (w := w) (base := base) (T base hsys htb)⟩
end K12
open PySem PySem.W PyProof.Rows
set_option maxRecDepth 100000 in
set_option maxHeartbeats 0 in
theorem PySem.Challenge.cw_mayrest_k12_first_chains_holds : PySem.Challenge.rw_mayrest_k12_first_chains.Holds := by
  w_on; o_law; k_head; (case hw => w_witness2)
  k_fill
  refine DL.walkT2 (l := PySem.Challenge.rw_mayrest_k12_first_chains) (n := 63) (k := 7) (x := "_law_script") (fs := [(?AF31, Str.ofString "chain.<locals>.<lambda>")]) rfl (by decide) rfl ⟨rfl, by decide, by decide⟩ (by decide +kernel) (fun w h Y => by first | exact PySem.W.kIn_of Y | exact PySem.W.km_in_of Y) ?HT ?NT ?HC ?F
  case F =>
    intro w mg fa h KX G hmg
    refine' K12.all_mk KX G hmg ?a8 ?l8 ?c8 ?k8 ?a11 ?l11 ?c11 ?k11 ?l2302 ?c2302 ?k2302 ?a24 ?l24 ?c24 ?k24 ?l2303 ?c2303 ?k2303 ?ldt28 ?a28 ?l28 ?c28 ?k28 ?a29 ?l29 ?c29 ?k29 ?a31 ?l31 ?c31 ?k31 ?a30 ?l30 ?c30 ?k30 ?a32 ?l32 ?c32 ?k32 ?a34 ?l34 ?c34 ?k34 ?a35 ?l35 ?c35 ?k35 ?a36 ?l36 ?c36 ?k36 ?a37 ?l37 ?c37 ?k37 ?a38 ?l38 ?c38 ?k38 ?a39 ?l39 ?c39 ?k39 ?a40 ?l40 ?c40 ?k40 ?a41 ?l41 ?c41 ?k41 ?a42 ?l42 ?c42 ?k42 ?a43 ?l43 ?c43 ?k43 ?a44 ?l44 ?c44 ?k44 ?a45 ?l45 ?c45 ?k45 ?a46 ?l46 ?c46 ?k46 ?a47 ?l47 ?c47 ?k47 ?a48 ?l48 ?c48 ?k48 ?a49 ?l49 ?c49 ?k49 ?a6 ?l6 ?c6 ?k6 ?a7 ?l7 ?c7 ?k7 ?a9 ?l9 ?c9 ?k9 ?a21 ?l21 ?c21 ?k21 ?a19 ?l19 ?c19 ?k19 ?a22 ?l22 ?c22 ?k22 ?a23 ?l23 ?c23 ?k23 ?a10 ?l10 ?c10 ?k10 ?a25 ?l25 ?c25 ?k25 ?l2300 ?c2300 ?k2300 ?a50 ?l50 ?c50 ?k50 ?a26 ?kow26 ?kmk26 ?i26 ?kfn26 ?kkp26 ?kpg26 ?khd26 ?kpo26 ?ksa26 ?kha26 ?khn26 ?kht26 ?khm26 ?kno26 ?kpa2302 ?kpb2302 ?kpc2302 ?kpd2302 ?kpa2303 ?kpb2303 ?kpc2303 ?kpd2303 ?kna26_modules ?kna26_parts ?kna26_uses ?z_abs ?z_all ?z_any ?z_bool ?z_dict ?z_enumerate ?z_int ?z_isinstance ?z_len ?z_list ?z_min ?z_range ?z_repr ?z_set ?z_sorted ?z_str ?z_tuple ?z_zip ?c_MAX_MODULES ?c_MAX_NAMES ?c_MAX_USES ?c__MAX_LETTERS ?kc31
    (case a26 => first | k_is | kernel_rfl | rfl); (case i26 => first | k_is | kernel_rfl | rfl); (case kpa2302 => first | k_is | kernel_rfl | rfl); (case kpd2302 => first | k_is | kernel_rfl | rfl); (case kpa2303 => first | k_is | kernel_rfl | rfl); (case kpd2303 => first | k_is | kernel_rfl | rfl); (case a8 => k_is); (case l8 => k_is); (case c8 => k_is); (case k8 => k_is); (case a11 => k_is); (case l11 => k_is); (case c11 => k_is); (case k11 => k_is); (case l2302 => k_is); (case c2302 => k_is); (case k2302 => k_is); (case a24 => k_is); (case l24 => k_is); (case c24 => k_is); (case k24 => k_is); (case l2303 => k_is); (case c2303 => k_is); (case k2303 => k_is); (case a28 => k_is); (case l28 => k_is); (case c28 => k_is); (case k28 => k_is); (case a29 => k_is); (case l29 => k_is); (case c29 => k_is); (case k29 => k_is); (case a31 => k_is); (case l31 => k_is); (case c31 => k_is); (case k31 => k_is); (case a30 => k_is); (case l30 => k_is); (case c30 => k_is); (case k30 => k_is); (case a32 => k_is); (case l32 => k_is); (case c32 => k_is); (case k32 => k_is); (case a34 => k_is); (case l34 => k_is); (case c34 => k_is); (case k34 => k_is); (case a35 => k_is); (case l35 => k_is); (case c35 => k_is); (case k35 => k_is); (case a36 => k_is); (case l36 => k_is); (case c36 => k_is); (case k36 => k_is); (case a37 => k_is); (case l37 => k_is); (case c37 => k_is); (case k37 => k_is); (case a38 => k_is); (case l38 => k_is); (case c38 => k_is); (case k38 => k_is); (case a39 => k_is); (case l39 => k_is); (case c39 => k_is); (case k39 => k_is); (case a40 => k_is); (case l40 => k_is); (case c40 => k_is); (case k40 => k_is); (case a41 => k_is); (case l41 => k_is); (case c41 => k_is); (case k41 => k_is); (case a42 => k_is); (case l42 => k_is); (case c42 => k_is); (case k42 => k_is); (case a43 => k_is); (case l43 => k_is); (case c43 => k_is); (case k43 => k_is); (case a44 => k_is); (case l44 => k_is); (case c44 => k_is); (case k44 => k_is); (case a45 => k_is); (case l45 => k_is); (case c45 => k_is); (case k45 => k_is); (case a46 => k_is); (case l46 => k_is); (case c46 => k_is); (case k46 => k_is); (case a47 => k_is); (case l47 => k_is); (case c47 => k_is); (case k47 => k_is); (case a48 => k_is); (case l48 => k_is); (case c48 => k_is); (case k48 => k_is); (case a49 => k_is); (case l49 => k_is); (case c49 => k_is); (case k49 => k_is); (case a6 => k_is); (case l6 => k_is); (case c6 => k_is); (case k6 => k_is); (case a7 => k_is); (case l7 => k_is); (case c7 => k_is); (case k7 => k_is); (case a9 => k_is); (case l9 => k_is); (case c9 => k_is); (case k9 => k_is); (case a21 => k_is); (case l21 => k_is); (case c21 => k_is); (case k21 => k_is); (case a19 => k_is); (case l19 => k_is); (case c19 => k_is); (case k19 => k_is); (case a22 => k_is); (case l22 => k_is); (case c22 => k_is); (case k22 => k_is); (case a23 => k_is); (case l23 => k_is); (case c23 => k_is); (case k23 => k_is); (case a10 => k_is); (case l10 => k_is); (case c10 => k_is); (case k10 => k_is); (case a25 => k_is); (case l25 => k_is); (case c25 => k_is); (case k25 => k_is); (case l2300 => k_is); (case c2300 => k_is); (case k2300 => k_is); (case a50 => k_is); (case l50 => k_is); (case c50 => k_is); (case k50 => k_is); (case z_abs => k_is); (case z_all => k_is); (case z_any => k_is); (case z_bool => k_is); (case z_dict => k_is); (case z_enumerate => k_is); (case z_int => k_is); (case z_isinstance => k_is); (case z_len => k_is); (case z_list => k_is); (case z_min => k_is); (case z_range => k_is); (case z_repr => k_is); (case z_set => k_is); (case z_sorted => k_is); (case z_str => k_is); (case z_tuple => k_is); (case z_zip => k_is); (case c_MAX_MODULES => k_is); (case c_MAX_NAMES => k_is); (case c_MAX_USES => k_is); (case c__MAX_LETTERS => k_is); (case ldt28 => k_is)
    (case kow26 => first | k_is | kernel_rfl | rfl | decide +kernel); (case kmk26 => first | k_is | kernel_rfl | rfl | decide +kernel); (case kfn26 => first | k_is | kernel_rfl | rfl | decide +kernel); (case kkp26 => first | k_is | kernel_rfl | rfl | decide +kernel); (case kpg26 => first | k_is | kernel_rfl | rfl | decide +kernel); (case khd26 => first | k_is | kernel_rfl | rfl | decide +kernel); (case kpo26 => first | k_is | kernel_rfl | rfl | decide +kernel); (case ksa26 => first | k_is | kernel_rfl | rfl | decide +kernel); (case kha26 => first | k_is | kernel_rfl | rfl | decide +kernel); (case khn26 => first | k_is | kernel_rfl | rfl | decide +kernel); (case kht26 => first | k_is | kernel_rfl | rfl | decide +kernel); (case khm26 => first | k_is | kernel_rfl | rfl | decide +kernel); (case kno26 => first | k_is | kernel_rfl | rfl | decide +kernel); (case kpb2302 => first | k_is | kernel_rfl | rfl | decide +kernel); (case kpc2302 => first | k_is | kernel_rfl | rfl | decide +kernel); (case kpb2303 => first | k_is | kernel_rfl | rfl | decide +kernel); (case kpc2303 => first | k_is | kernel_rfl | rfl | decide +kernel); (case kna26_modules => first | k_is | kernel_rfl | rfl | decide +kernel); (case kna26_parts => first | k_is | kernel_rfl | rfl | decide +kernel); (case kna26_uses => first | k_is | kernel_rfl | rfl | decide +kernel); (case kc31 => first | k_is | kernel_rfl | rfl | decide +kernel)
  case HT => intro w h Y p hp; cases List.mem_singleton.mp hp; exact PySem.W.km_tabs_of Y _ (List.contains_iff_mem.mp (by kernel_rfl))
  case NT => intro P p hp; cases List.mem_singleton.mp hp; kernel_rfl
  case HC => intro P p hp; cases List.mem_singleton.mp hp; kernel_rfl


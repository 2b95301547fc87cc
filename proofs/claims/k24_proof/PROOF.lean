import PyProof.Rows.All
import Wide.All
import OpenK.AllK
import Wide.FinOn
import HandS.Base
import HandS.Call
import HandS.List
import HandS.Comp
import HandS.Words
import HandS.ExcInit
import HandS.Ends
import HandS.Flow
import HandS.Iter
import HandS.WordsList
import HandS.Text
import HandS.TupAny
import HandS.TupLe
import HandS.Wide
import HandS.IsInst
import HandS.Deep
import HandS.Style
import HandS.StrMore
import HandS.WordsDict
import PyProof.StrBlock2
import PyProof.Rows.RegStrFacts
import HandS.Dict
import PyProof.StrLawsIn
import PyProof.StrLawsLast
import HandS.ExcIs
import HandS.ExcValue
import KE.KExcInit
import KE.KExcIs
import HandS.Zip
import PyProof.StrLawsRepr
import HandS.Small
import PyProof.Rows.StrCut
import HandS.More
import KE.GoesMore
import PyProof.Draws
import PyProof.EnumMake
import PyProof.NeKinds
import HandS.SortOrd
import HandS.Strs
import HandS.Property
import HandS.OwnEq
import HandS.FStr
import HandS.Star
import KE.KCallOwn
import HandS.TupSets
import HandS.SetTxt0
import HandS.SortInts
import HandS.SetFor
import PyProof.ReprLen
import HandS.NoneIn
import PyProof.SetRoads
import HandS.Defaults
import HandS.MakeKwOnly
import PyProof.DictUpdate
import PyProof.DictDisplay
import KE.DataMinMax
import KE.SortData
import HandS.SetBool
import KE.DataMinKey
import HandS.SortKw
import PyProof.ListStr
import HandS.ClsMeth
import HandS.DictComp
import HandS.DictTup
import PyProof.TupleCall
import PyProof.CollectWalk
import HandS.Lambda
import HandS.EndTab
import HandS.ExcOwn
import HandS.ExcField
import HandS.TryOnly
import HandS.WordsExc
import PySem.Challenge.RW_mayrest_k24_whole_rings_cut_open
set_option Elab.async false
set_option linter.all false
set_option maxRecDepth 100000
/-! DL: a layer of data over HandS: values as trees, one state of what may change, and readings that speak of data alone. -/
namespace DL
open PySem PySem.Spec PyProof.Rows L2

/-- data: what a value is, all the way down -/
inductive D where
  | non | bl (b : Bool) | int (i : Int) | str (x : Str) | lst (xs : List D) | tup (xs : List D)
  | dic (ks : List Key) (vs : List D) | ins (C : Addr) (ns : List Str) (vs : List D) | any (v : V) | fz (xs : List D) | exc (C : Addr) (ns : List Str) (vs : List D) | cau (a x : Addr) (ns : List Str) (vs : List D)

/-- the texts that are spoken of -/
abbrev strLim : Nat := 1000000
def sOk (x : Str) : Bool := decide (x.length ≤ strLim) && x.cps.toList.all (fun c => decide (c < 0x110000))
theorem sOk_len {x : Str} (h : sOk x = true) : x.length ≤ strLim := by
  unfold sOk at h
  rw [Bool.and_eq_true] at h
  exact of_decide_eq_true h.1
theorem sOk_cps {x : Str} (h : sOk x = true) : ∀ c ∈ x.cps.toList, c < 0x110000 := fun c hc => by
  unfold sOk at h
  rw [Bool.and_eq_true] at h
  exact of_decide_eq_true (List.all_eq_true.mp h.2 c hc)
theorem sOk_of {x : Str} (h : x.length ≤ strLim) (k : ∀ c ∈ x.cps.toList, c < 0x110000) : sOk x = true := by
  unfold sOk
  rw [Bool.and_eq_true]
  exact ⟨decide_eq_true h, List.all_eq_true.mpr fun c hc => decide_eq_true (k c hc)⟩
theorem strLim_line : strLim + 2 ≤ sizeLine := by decide
mutual
/-- the value v is the data d, by what stands in F (which never changes) -/
def Rep (K : PySem.W.Frag) (F : Hp) : D → V → Prop
  | .non, v => v = .non
  | .bl b, v => v = .bl b
  | .int i, v => v = .int i
  | .str x, v => v = .str x ∧ sOk x = true
  | .lst ds, v => ∃ a vs, v = .ref a ∧ F a = some (.lst vs) ∧ vs.length ≤ sizeLine ∧ Reps K F ds vs
  | .tup ds, v => ∃ a vs, v = .ref a ∧ SqT K F a vs ∧ vs.length ≤ sizeLine ∧ Reps K F ds vs
  | .dic ks ds, v => ∃ a kvs, v = .ref a ∧ F a = some (.dK kvs) ∧ kvs.length ≤ sizeLine ∧ kvs.map (·.1) = ks ∧ Reps K F ds (kvs.map (·.2))
  | .ins C ns ds, v => ∃ a dx fs, v = .ref a ∧ F a = some (.ins C dx fs) ∧ fs.map (·.1) = ns ∧ Reps K F ds (fs.map (·.2))
  | .any w, v => v = w
  | .fz ds, v => ∃ a vs, v = .ref a ∧ SqL K F a vs ∧ vs.length ≤ sizeLine ∧ Reps K F ds vs
  | .exc C ns ds, v => ∃ a d fs, v = .ref a ∧ F a = some (exo a C d) ∧ (∀ x, d = some x → F x = some (exd x fs)) ∧ (d = none → fs = []) ∧ fs.map (·.1) = ns ∧ Reps K F ds (fs.map (·.2))
  | .cau a x ns ds, v => v = .ref a ∧ ∃ fs, F x = some (.xd fs) ∧ fs.map (·.1) = ns ∧ Reps K F ds (fs.map (·.2))
def Reps (K : PySem.W.Frag) (F : Hp) : List D → List V → Prop
  | [], vs => vs = []
  | d :: ds, vs => ∃ v r, vs = v :: r ∧ Rep K F d v ∧ Reps K F ds r
end

theorem Same.seqT {K : PySem.W.Frag} {H H' : Hp} {a : Addr} {xs : List V} (e : Same H H') (h : SqT K H a xs) : SqT K H' a xs := by
  rcases h with (h | ⟨o, h⟩) | h
  · exact .inl (.inl (e _ _ h))
  · exact .inl (.inr ⟨o, e _ _ h⟩)
  · exact .inr h
mutual
theorem Rep.mono {K : PySem.W.Frag} {F F' : Hp} (s : Same F F') : ∀ (d : D) (v : V), Rep K F d v → Rep K F' d v
  | .non, _, h => h
  | .bl _, _, h => h
  | .int _, _, h => h
  | .str _, _, h => h
  | .lst ds, _, ⟨a, vs, e, h, l, r⟩ => ⟨a, vs, e, s _ _ h, l, Reps.mono s ds _ r⟩
  | .tup ds, _, ⟨a, vs, e, h, l, r⟩ => ⟨a, vs, e, Same.seqT s h, l, Reps.mono s ds _ r⟩
  | .dic _ ds, _, ⟨a, kvs, e, h, l, k, r⟩ => ⟨a, kvs, e, s _ _ h, l, k, Reps.mono s ds _ r⟩
  | .ins _ _ ds, _, ⟨a, dx, fs, e, h, k, r⟩ => ⟨a, dx, fs, e, s _ _ h, k, Reps.mono s ds _ r⟩
  | .any _, _, h => h
  | .fz ds, _, ⟨a, vs, e, h, l, r⟩ => ⟨a, vs, e, Same.seq s h, l, Reps.mono s ds _ r⟩
  | .exc _ _ ds, _, ⟨a, d, fs, e, h, h2, h3, k, r⟩ => ⟨a, d, fs, e, s _ _ h, fun x ex => s _ _ (h2 x ex), h3, k, Reps.mono s ds _ r⟩
  | .cau _ _ _ ds, _, ⟨e, fs, h, k, r⟩ => ⟨e, fs, s _ _ h, k, Reps.mono s ds _ r⟩
theorem Reps.mono {K : PySem.W.Frag} {F F' : Hp} (s : Same F F') : ∀ (ds : List D) (vs : List V), Reps K F ds vs → Reps K F' ds vs
  | [], _, h => h
  | d :: ds, _, ⟨v, r, e, h, t⟩ => ⟨v, r, e, Rep.mono s d v h, Reps.mono s ds r t⟩
end
theorem Reps.length {K : PySem.W.Frag} {F : Hp} : ∀ {ds : List D} {vs : List V}, Reps K F ds vs → vs.length = ds.length
  | [], _, h => by cases h; rfl
  | d :: ds, _, ⟨v, r, e, _, t⟩ => by subst e; rw [List.length_cons, List.length_cons, Reps.length t]
theorem Reps.nil {K : PySem.W.Frag} {F : Hp} : Reps K F [] [] := rfl
theorem Reps.cons {K : PySem.W.Frag} {F : Hp} {d : D} {ds : List D} {v : V} {vs : List V} (h : Rep K F d v) (t : Reps K F ds vs) : Reps K F (d :: ds) (v :: vs) := ⟨v, vs, rfl, h, t⟩
theorem Reps.get {K : PySem.W.Frag} {F : Hp} : ∀ {ds : List D} {vs : List V} {i : Nat} {d : D}, Reps K F ds vs → ds[i]? = some d → ∃ v, vs[i]? = some v ∧ Rep K F d v
  | [], _, _, _, _, e => by simp at e
  | x :: ds, _, 0, d, ⟨v, r, e, h, _⟩, q => by
    subst e
    have q' : x = d := by simpa using q
    subst q'
    exact ⟨v, rfl, h⟩
  | x :: ds, _, i + 1, d, ⟨v, r, e, _, t⟩, q => by
    subst e
    have q' : ds[i]? = some d := by simpa using q
    obtain ⟨w, h1, h2⟩ := Reps.get t q'
    exact ⟨w, by simpa using h1, h2⟩
theorem Reps.append {K : PySem.W.Frag} {F : Hp} : ∀ {ds es : List D} {vs ws : List V}, Reps K F ds vs → Reps K F es ws → Reps K F (ds ++ es) (vs ++ ws)
  | [], _, _, _, h, t => by cases h; exact t
  | d :: ds, _, _, _, ⟨v, r, e, h, t⟩, u => by subst e; exact ⟨v, _, rfl, h, Reps.append t u⟩
theorem Reps.one {K : PySem.W.Frag} {F : Hp} {d : D} {v : V} (h : Rep K F d v) : Reps K F [d] [v] := .cons h .nil
theorem Reps.take {K : PySem.W.Frag} {F : Hp} : ∀ {ds : List D} {vs : List V} (n : Nat), Reps K F ds vs → Reps K F (ds.take n) (vs.take n)
  | _, _, 0, _ => by simp; exact .nil
  | [], _, _ + 1, h => by cases h; simp; exact .nil
  | d :: ds, _, n + 1, ⟨v, r, e, h, t⟩ => by subst e; exact .cons h (Reps.take n t)
theorem Reps.drop {K : PySem.W.Frag} {F : Hp} : ∀ {ds : List D} {vs : List V} (n : Nat), Reps K F ds vs → Reps K F (ds.drop n) (vs.drop n)
  | _, _, 0, h => h
  | [], _, _ + 1, h => by cases h; simp; exact .nil
  | d :: ds, _, n + 1, ⟨v, r, e, h, t⟩ => by subst e; exact Reps.drop n t
theorem Reps.set {K : PySem.W.Frag} {F : Hp} {d : D} {v : V} (h : Rep K F d v) : ∀ {ds : List D} {vs : List V} (i : Nat), Reps K F ds vs → Reps K F (ds.set i d) (vs.set i v)
  | [], _, _, t => by cases t; exact .nil
  | _ :: _, _, 0, ⟨w, r, e, _, t⟩ => by subst e; exact .cons h t
  | _ :: _, _, i + 1, ⟨w, r, e, h', t⟩ => by subst e; exact .cons h' (Reps.set h i t)
theorem Reps.reverse {K : PySem.W.Frag} {F : Hp} : ∀ {ds : List D} {vs : List V}, Reps K F ds vs → Reps K F ds.reverse vs.reverse
  | [], _, h => by cases h; exact .nil
  | d :: ds, _, ⟨v, r, e, h, t⟩ => by
    subst e
    rw [List.reverse_cons, List.reverse_cons]
    exact (Reps.reverse t).append (.one h)
theorem Reps.split {K : PySem.W.Frag} {F : Hp} {x : D} : ∀ {pre post : List D} {vs : List V}, Reps K F (pre ++ x :: post) vs → ∃ v, vs[pre.length]? = some v ∧ Rep K F x v := fun h => h.get (by simp)
theorem reps_ints {K : PySem.W.Frag} {F : Hp} : ∀ {ns : List Int} {vs : List V}, Reps K F (ns.map D.int) vs → vs = ns.map V.int
  | [], _, h => by cases h; rfl
  | n :: ns, _, ⟨v, r, e, h, t⟩ => by subst e; cases h; rw [reps_ints t]; rfl
theorem reps_of_ints {K : PySem.W.Frag} {F : Hp} : ∀ (ns : List Int), Reps K F (ns.map D.int) (ns.map V.int)
  | [] => .nil
  | n :: ns => .cons rfl (reps_of_ints ns)
theorem reps_strs {K : PySem.W.Frag} {F : Hp} : ∀ {ns : List Str} {vs : List V}, Reps K F (ns.map D.str) vs → vs = ns.map V.str ∧ ∀ x ∈ ns, sOk x = true
  | [], _, h => by cases h; exact ⟨rfl, by simp⟩
  | n :: ns, _, ⟨v, r, e, h, t⟩ => by
    subst e
    obtain ⟨h1, h2⟩ := h
    obtain ⟨h3, h4⟩ := reps_strs t
    subst h1 h3
    exact ⟨rfl, fun x hx => by rcases List.mem_cons.mp hx with e | hx; · subst e; exact h2
                               · exact h4 x hx⟩
theorem reps_of_strs {K : PySem.W.Frag} {F : Hp} : ∀ (ns : List Str), (∀ x ∈ ns, sOk x = true) → Reps K F (ns.map D.str) (ns.map V.str)
  | [], _ => .nil
  | n :: ns, h => .cons ⟨rfl, h n List.mem_cons_self⟩ (reps_of_strs ns fun x hx => h x (List.mem_cons_of_mem _ hx))
theorem reps_bls {K : PySem.W.Frag} {F : Hp} : ∀ {ns : List Bool} {vs : List V}, Reps K F (ns.map D.bl) vs → vs = ns.map V.bl
  | [], _, h => by cases h; rfl
  | n :: ns, _, ⟨v, r, e, h, t⟩ => by subst e; cases h; rw [reps_bls t]; rfl

/-! ### what may change -/
/-- what a law's defs change: its state, how the heap bears it, where it lies -/
structure Mem where
  S : Type
  M : S → Hp → Prop
  R : S → Addr → Prop
  loc : ∀ s H H', M s H → (∀ a, R s a → H' a = H a) → M s H'
  there : ∀ s H a, M s H → R s a → H a ≠ none
/-- nothing -/
def Mem.nil : Mem := ⟨Unit, fun _ _ => True, fun _ _ => False, fun _ _ _ _ _ => trivial, fun _ _ _ _ h => h.elim⟩

/-- an object that a def has made and alone knows: it may be changed -/
inductive Ob where
  | lst (ds : List D)
  | dic (ks : List Key) (ds : List D)
  | ins (x dx C : Addr) (ns : List Str) (ds : List D)
  | box (g : Addr → HO)
  | bag (g : List (Addr × List Str) → Addr → HO) (ks : List (List Str))
inductive Sl where
  | no
  | sh (d : D)
  | ow (o : Ob)
def ObAt (K : PySem.W.Frag) (F : Hp) : Ob → Addr → HO → Prop
  | .ins x dx C ns ds, p, o => p = x ∧ ∃ fs : List (Str × V), o = .ins C dx fs ∧ fs.map (·.1) = ns ∧ Reps K F ds (fs.map (·.2))
  | .box g, p, o => o = g p
  | .bag g ks, p, o => ∃ L : List (Addr × List Str), o = g L p ∧ (L.map (·.2)).Perm ks ∧ ∀ q ∈ L, SqT K F q.1 (q.2.map V.str)
  | .lst ds, _, o => ∃ vs, o = .lst vs ∧ vs.length ≤ sizeLine ∧ Reps K F ds vs
  | .dic ks ds, _, o => ∃ kvs : List (Key × V), o = .dK kvs ∧ kvs.length ≤ sizeLine ∧ kvs.map (·.1) = ks ∧ Reps K F ds (kvs.map (·.2))
theorem ObAt.mono {K : PySem.W.Frag} {F F' : Hp} (s : Same F F') {o : Ob} {p : Addr} {ho : HO} (h : ObAt K F o p ho) : ObAt K F' o p ho := by
  cases o with
  | lst ds => obtain ⟨vs, e, l, r⟩ := h; exact ⟨vs, e, l, Reps.mono s _ _ r⟩
  | dic ks ds => obtain ⟨kvs, e, l, k, r⟩ := h; exact ⟨kvs, e, l, k, Reps.mono s _ _ r⟩
  | ins x dx C ns ds => obtain ⟨e0, fs, e, k, r⟩ := h; exact ⟨e0, fs, e, k, Reps.mono s _ _ r⟩
  | box g => exact h
  | bag g ks => obtain ⟨L, e, p, a⟩ := h; exact ⟨L, e, p, fun q hq => Same.seqT s (a q hq)⟩
/-- .. as data that does not change any more -/
def Ob.d : Ob → Option D
  | .lst ds => some (.lst ds)
  | .dic ks ds => some (.dic ks ds)
  | .ins _ _ C ns ds => some (.ins C ns ds)
  | .box _ => none
  | .bag _ _ => none
theorem ObAt.rep {K : PySem.W.Frag} {F F' : Hp} {o : Ob} {ho : HO} {a : Addr} {d : D} (h : ObAt K F o a ho) (s : Same F F') (e : F' a = some ho) (hd : o.d = some d) : Rep K F' d (.ref a) := by
  cases o with
  | lst ds => cases hd; obtain ⟨vs, rfl, l, r⟩ := h; exact ⟨a, vs, rfl, e, l, Reps.mono s _ _ r⟩
  | dic ks ds => cases hd; obtain ⟨kvs, rfl, l, k, r⟩ := h; exact ⟨a, kvs, rfl, e, l, k, Reps.mono s _ _ r⟩
  | ins x dx C ns ds => cases hd; obtain ⟨e0, fs, rfl, k, r⟩ := h; exact ⟨a, dx, fs, rfl, e, k, Reps.mono s _ _ r⟩
  | box g => cases hd
  | bag g ks => cases hd

/-- the slot i owns the object at p -/
def Owns (σ : L2.St) (ρ : List Sl) (i : Nat) (p : Addr) : Prop := (∃ o, ρ[i]? = some (Sl.ow o)) ∧ σ[i]? = some (some (V.ref p))

structure Rel (K : PySem.W.Frag) (m : Mem) (F H : Hp) (σ : L2.St) (ρ : List Sl) (s : m.S) : Prop where
  sub : Same F H
  mem : m.M s H
  reg : ∀ a, m.R s a → F a = none
  len : σ.length = ρ.length
  sh : ∀ (i : Nat) d, ρ[i]? = some (Sl.sh d) → ∃ v, σ[i]? = some (some v) ∧ Rep K F d v
  ow : ∀ (i : Nat) o, ρ[i]? = some (Sl.ow o) → ∃ p ho, σ[i]? = some (some (V.ref p)) ∧ H p = some ho ∧ ObAt K F o p ho
  owF : ∀ (i : Nat) p, Owns σ ρ i p → F p = none ∧ ¬ m.R s p
  uq : ∀ (i j : Nat) p, Owns σ ρ i p → Owns σ ρ j p → i = j

/-- from one state to a later one, the slots' values σ the same -/
structure Stp (m : Mem) (F H : Hp) (σ : L2.St) (ρ : List Sl) (s : m.S) (F' H' : Hp) (ρ' : List Sl) (s' : m.S) : Prop where
  ext : Same F F'
  keep : ∀ a o, H a = some o → ¬ m.R s a → H' a = some o
  alive : ∀ a, H a ≠ none → H' a ≠ none
  fresh : ∀ a o, F' a = some o → F a = some o ∨ H a = none ∨ ∃ i, Owns σ ρ i a
  regf : ∀ a, m.R s' a → m.R s a ∨ H a = none
  shr : ∀ (i : Nat) o, ρ'[i]? = some (Sl.ow o) → ρ[i]? = some (Sl.ow o)
theorem Stp.refl {m : Mem} {F H : Hp} {σ : L2.St} {ρ : List Sl} {s : m.S} : Stp m F H σ ρ s F H ρ s :=
  ⟨Same.refl F, fun _ _ h _ => h, fun _ h => h, fun _ _ h => .inl h, fun _ h => .inl h, fun _ _ h => h⟩
theorem Stp.owns {m : Mem} {F H F' H' : Hp} {σ : L2.St} {ρ ρ' : List Sl} {s s' : m.S} (a : Stp m F H σ ρ s F' H' ρ' s') {i : Nat} {p : Addr} (h : Owns σ ρ' i p) : Owns σ ρ i p := by
  obtain ⟨⟨o, e⟩, q⟩ := h
  exact ⟨⟨o, a.shr i o e⟩, q⟩
theorem Stp.trans {m : Mem} {F H F1 H1 F2 H2 : Hp} {σ : L2.St} {ρ ρ1 ρ2 : List Sl} {s s1 s2 : m.S} (a : Stp m F H σ ρ s F1 H1 ρ1 s1) (b : Stp m F1 H1 σ ρ1 s1 F2 H2 ρ2 s2) : Stp m F H σ ρ s F2 H2 ρ2 s2 where
  ext := a.ext.trans b.ext
  keep := fun p o h n => b.keep p o (a.keep p o h n) fun r => by
    rcases a.regf p r with r | r
    · exact n r
    · rw [r] at h; cases h
  alive := fun p h => b.alive p (a.alive p h)
  fresh := fun p o h => by
    rcases b.fresh p o h with h | h | ⟨i, h⟩
    · exact a.fresh p o h
    · refine .inr (.inl ?_)
      cases q : H p with
      | none => rfl
      | some u => exact absurd h (a.alive p (by rw [q]; simp))
    · exact .inr (.inr ⟨i, a.owns h⟩)
  regf := fun p h => by
    rcases b.regf p h with h | h
    · exact a.regf p h
    · refine .inr ?_
      cases q : H p with
      | none => rfl
      | some u => exact absurd h (a.alive p (by rw [q]; simp))
  shr := fun i o h => a.shr i o (b.shr i o h)

/-- new objects alone -/
structure Grow (F H F' H' : Hp) : Prop where
  fF : Same F F'
  hH : Same H H'
  fH : Same F' H'
  fresh : ∀ a o, F' a = some o → F a = some o ∨ H a = none
theorem Grow.refl {F H : Hp} (h : Same F H) : Grow F H F H := ⟨Same.refl _, Same.refl _, h, fun _ _ h => .inl h⟩
theorem same_upd {H : Hp} {p : Addr} {o : HO} (h : H p = none) : Same H (upd H p o) := fun b x e => by
  rw [upd_ne (ne_of_none e h)]
  exact e
theorem Grow.new {F H : Hp} {p : Addr} {o : HO} (h : Same F H) (n : H p = none) : Grow F H (upd F p o) (upd H p o) := by
  have nF : F p = none := h.free n
  refine ⟨same_upd nF, same_upd n, fun b x e => ?_, fun b x e => ?_⟩
  · by_cases hb : b = p
    · subst hb; rw [upd_same] at e ⊢; exact e
    · rw [upd_ne hb] at e ⊢; exact h _ _ e
  · by_cases hb : b = p
    · subst hb; exact .inr n
    · rw [upd_ne hb] at e; exact .inl e
theorem Grow.trans {F H F1 H1 F2 H2 : Hp} (a : Grow F H F1 H1) (b : Grow F1 H1 F2 H2) : Grow F H F2 H2 :=
  ⟨a.fF.trans b.fF, a.hH.trans b.hH, b.fH, fun p o h => by
    rcases b.fresh p o h with h | h
    · exact a.fresh p o h
    · exact .inr (a.hH.free h)⟩
section
variable {K : PySem.W.Frag} {m : Mem} {F H F' H' : Hp} {σ : L2.St} {ρ : List Sl} {s : m.S}
theorem Grow.stp (g : Grow F H F' H') : Stp m F H σ ρ s F' H' ρ s :=
  ⟨g.fF, fun a o h _ => g.hH a o h, fun a h => by
    cases q : H a with
    | none => exact absurd q h
    | some u => rw [g.hH a u q]; simp, fun a o h => (g.fresh a o h).elim .inl fun z => .inr (.inl z), fun _ h => .inl h, fun _ _ h => h⟩
theorem Rel.grow (r : Rel K m F H σ ρ s) (g : Grow F H F' H') : Rel K m F' H' σ ρ s where
  sub := g.fH
  mem := m.loc s H H' r.mem fun a ha => by
    have q := m.there s H a r.mem ha
    cases e : H a with
    | none => exact absurd e q
    | some u => exact g.hH a u e
  reg := fun a ha => by
    cases e : F' a with
    | none => rfl
    | some u =>
      rcases g.fresh a u e with z | z
      · rw [r.reg a ha] at z; cases z
      · exact absurd z (m.there s H a r.mem ha)
  len := r.len
  sh := fun i d e => by
    obtain ⟨v, h1, h2⟩ := r.sh i d e
    exact ⟨v, h1, Rep.mono g.fF _ _ h2⟩
  ow := fun i o e => by
    obtain ⟨p, ho, h1, h2, h3⟩ := r.ow i o e
    exact ⟨p, ho, h1, g.hH _ _ h2, h3.mono g.fF⟩
  owF := fun i p h => by
    obtain ⟨h1, h2⟩ := r.owF i p h
    refine ⟨?_, h2⟩
    cases e : F' p with
    | none => rfl
    | some u =>
      rcases g.fresh p u e with z | z
      · rw [h1] at z; cases z
      · obtain ⟨⟨o, q1⟩, q2⟩ := h
        obtain ⟨p', ho, e1, e2, _⟩ := r.ow i o q1
        rw [q2] at e1; cases e1
        rw [z] at e2; cases e2
  uq := r.uq
/-- an owned object is known, and changes no more -/
theorem Rel.own_at (r : Rel K m F H σ ρ s) {i : Nat} {o : Ob} (e : ρ[i]? = some (Sl.ow o)) : ∃ p ho, σ[i]? = some (some (V.ref p)) ∧ H p = some ho ∧ ObAt K F o p ho ∧ F p = none ∧ ¬ m.R s p := by
  obtain ⟨p, ho, h1, h2, h3⟩ := r.ow i o e
  obtain ⟨h4, h5⟩ := r.owF i p ⟨⟨o, e⟩, h1⟩
  exact ⟨p, ho, h1, h2, h3, h4, h5⟩
/-- an object that no slot owns becomes known -/
theorem Rel.adopt (r : Rel K m F H σ ρ s) {p : Addr} {ho : HO} (h : H p = some ho) (n : F p = none) (nr : ¬ m.R s p) (no : ∀ i, ¬ Owns σ ρ i p) : Rel K m (upd F p ho) H σ ρ s where
  sub := fun b x e => by
    by_cases hb : b = p
    · subst hb; rw [upd_same] at e; cases e; exact h
    · rw [upd_ne hb] at e; exact r.sub _ _ e
  mem := r.mem
  reg := fun a ha => by
    have hb : a ≠ p := fun z => nr (z ▸ ha)
    rw [upd_ne hb]; exact r.reg a ha
  len := r.len
  sh := fun i d e => by
    obtain ⟨v, h1, h2⟩ := r.sh i d e
    exact ⟨v, h1, Rep.mono (same_upd n) _ _ h2⟩
  ow := fun i o e => by
    obtain ⟨q, ho', h1, h2, h3⟩ := r.ow i o e
    exact ⟨q, ho', h1, h2, h3.mono (same_upd n)⟩
  owF := fun i q hq => by
    obtain ⟨h1, h2⟩ := r.owF i q hq
    have hb : q ≠ p := fun z => no i (z ▸ hq)
    exact ⟨by rw [upd_ne hb]; exact h1, h2⟩
  uq := r.uq
/-- a slot forgotten, or one that was owned now shared -/
theorem Rel.share (r : Rel K m F H σ ρ s) {i : Nat} {o : Ob} {p : Addr} {ho : HO} {d : D} (hd : o.d = some d) (e : ρ[i]? = some (Sl.ow o)) (eσ : σ[i]? = some (some (V.ref p))) (h : H p = some ho) (ob : ObAt K F o p ho) :
    Rel K m (upd F p ho) H σ (ρ.set i (.sh d)) s ∧ Stp m F H σ ρ s (upd F p ho) H (ρ.set i (.sh d)) s ∧ Rep K (upd F p ho) d (.ref p) := by
  obtain ⟨n, nr⟩ := r.owF i p ⟨⟨o, e⟩, eσ⟩
  have hi : i < ρ.length := (List.getElem?_eq_some_iff.mp e).1
  have sm : Same F (upd F p ho) := same_upd n
  have rp : Rep K (upd F p ho) d (.ref p) := ob.rep sm upd_same hd
  have back : ∀ j q, Owns σ (ρ.set i (.sh d)) j q → j ≠ i ∧ Owns σ ρ j q := fun j q ⟨⟨o', h1⟩, h2⟩ => by
    by_cases hj : i = j
    · subst hj; rw [List.getElem?_set_self hi] at h1; cases h1
    · rw [List.getElem?_set_ne hj] at h1; exact ⟨Ne.symm hj, ⟨o', h1⟩, h2⟩
  refine ⟨⟨fun b x z => ?_, r.mem, fun a ha => ?_, by rw [List.length_set]; exact r.len, fun j d' z => ?_, fun j o' z => ?_, fun j q z => ?_, fun j k q h1 h2 => r.uq j k q (back j q h1).2 (back k q h2).2⟩, ?_, rp⟩
  · by_cases hb : b = p
    · subst hb; rw [upd_same] at z; cases z; exact h
    · rw [upd_ne hb] at z; exact r.sub _ _ z
  · have hb : a ≠ p := fun z => nr (z ▸ ha)
    rw [upd_ne hb]; exact r.reg a ha
  · by_cases hj : i = j
    · subst hj
      rw [List.getElem?_set_self hi] at z
      cases z
      exact ⟨_, eσ, rp⟩
    · rw [List.getElem?_set_ne hj] at z
      obtain ⟨v, h1, h2⟩ := r.sh j d' z
      exact ⟨v, h1, Rep.mono sm _ _ h2⟩
  · by_cases hj : i = j
    · subst hj
      rw [List.getElem?_set_self hi] at z
      cases z
    · rw [List.getElem?_set_ne hj] at z
      obtain ⟨q, ho', h1, h2, h3⟩ := r.ow j o' z
      exact ⟨q, ho', h1, h2, h3.mono sm⟩
  · obtain ⟨hj, hq⟩ := back j q z
    obtain ⟨h1, h2⟩ := r.owF j q hq
    have hb : q ≠ p := fun w => hj (r.uq j i q hq (by rw [w]; exact ⟨⟨o, e⟩, eσ⟩))
    exact ⟨by rw [upd_ne hb]; exact h1, h2⟩
  · refine ⟨sm, fun _ _ z _ => z, fun _ z => z, fun a x z => ?_, fun _ z => .inl z, fun j o' z => ?_⟩
    · by_cases hb : a = p
      · subst hb; exact .inr (.inr ⟨i, ⟨o, e⟩, eσ⟩)
      · rw [upd_ne hb] at z; exact .inl z
    · by_cases hj : i = j
      · subst hj; rw [List.getElem?_set_self hi] at z; cases z
      · rw [List.getElem?_set_ne hj] at z; exact z
/-- a slot is set to known data -/
theorem Rel.put (r : Rel K m F H σ ρ s) {i : Nat} {d : D} {v : V} (h : Rep K F d v) : Rel K m F H (σ.set i (some v)) (ρ.set i (.sh d)) s := by
  have back : ∀ j q, Owns (σ.set i (some v)) (ρ.set i (.sh d)) j q → Owns σ ρ j q := fun j q ⟨⟨o', h1⟩, h2⟩ => by
    by_cases hj : i = j
    · subst hj
      by_cases hi : i < ρ.length
      · rw [List.getElem?_set_self hi] at h1; cases h1
      · rw [List.getElem?_eq_none (by simpa using hi)] at h1; cases h1
    · rw [List.getElem?_set_ne hj] at h1 h2; exact ⟨⟨o', h1⟩, h2⟩
  refine ⟨r.sub, r.mem, r.reg, by rw [List.length_set, List.length_set]; exact r.len, fun j d' z => ?_, fun j o' z => ?_, fun j q z => r.owF j q (back j q z), fun j k q h1 h2 => r.uq j k q (back j q h1) (back k q h2)⟩
  · by_cases hj : i = j
    · subst hj
      have hi : i < ρ.length := by
        have := (List.getElem?_eq_some_iff.mp z).1
        rw [List.length_set] at this; exact this
      rw [List.getElem?_set_self hi] at z
      cases z
      exact ⟨v, List.getElem?_set_self (by rw [r.len]; exact hi), h⟩
    · rw [List.getElem?_set_ne hj] at z
      obtain ⟨w, h1, h2⟩ := r.sh j d' z
      exact ⟨w, by rw [List.getElem?_set_ne hj]; exact h1, h2⟩
  · by_cases hj : i = j
    · subst hj
      have hi : i < ρ.length := by
        have := (List.getElem?_eq_some_iff.mp z).1
        rw [List.length_set] at this; exact this
      rw [List.getElem?_set_self hi] at z
      cases z
    · rw [List.getElem?_set_ne hj] at z
      obtain ⟨q, ho', h1, h2, h3⟩ := r.ow j o' z
      exact ⟨q, ho', by rw [List.getElem?_set_ne hj]; exact h1, h2, h3⟩
/-- a slot is set to a new object of its own -/
theorem Rel.putO (r : Rel K m F H σ ρ s) {i : Nat} {o : Ob} {p : Addr} {ho : HO} (n : H p = none) (ob : ObAt K F o p ho) : Rel K m F (upd H p ho) (σ.set i (some (.ref p))) (ρ.set i (.ow o)) s := by
  have nF : F p = none := r.sub.free n
  have nr : ¬ m.R s p := fun z => m.there s H p r.mem z n
  have other : ∀ j q, i ≠ j → Owns (σ.set i (some (.ref p))) (ρ.set i (.ow o)) j q → Owns σ ρ j q := fun j q hj ⟨⟨o', h1⟩, h2⟩ => by
    rw [List.getElem?_set_ne hj] at h1 h2; exact ⟨⟨o', h1⟩, h2⟩
  have old : ∀ j q, Owns σ ρ j q → q ≠ p := fun j q ⟨⟨o', h1⟩, h2⟩ z => by
    obtain ⟨q', ho', e1, e2, _⟩ := r.ow j o' h1
    rw [h2] at e1; cases e1
    rw [z, n] at e2; cases e2
  have self : ∀ q, Owns (σ.set i (some (.ref p))) (ρ.set i (.ow o)) i q → q = p := fun q ⟨⟨o', h1⟩, h2⟩ => by
    have hi : i < σ.length := by
      have := (List.getElem?_eq_some_iff.mp h2).1
      rw [List.length_set] at this; exact this
    rw [List.getElem?_set_self hi] at h2
    cases h2; rfl
  refine ⟨fun b x e => ?_, m.loc s H _ r.mem fun a ha => upd_ne fun z => nr (z ▸ ha), r.reg, by rw [List.length_set, List.length_set]; exact r.len, fun j d' z => ?_, fun j o' z => ?_, fun j q z => ?_, fun j k q h1 h2 => ?_⟩
  · have hb : b ≠ p := fun z => by subst z; rw [nF] at e; cases e
    rw [upd_ne hb]; exact r.sub _ _ e
  · by_cases hj : i = j
    · subst hj
      have hi : i < ρ.length := by
        have := (List.getElem?_eq_some_iff.mp z).1
        rw [List.length_set] at this; exact this
      rw [List.getElem?_set_self hi] at z
      cases z
    · rw [List.getElem?_set_ne hj] at z
      obtain ⟨w, h1, h2⟩ := r.sh j d' z
      exact ⟨w, by rw [List.getElem?_set_ne hj]; exact h1, h2⟩
  · by_cases hj : i = j
    · subst hj
      have hi : i < ρ.length := by
        have := (List.getElem?_eq_some_iff.mp z).1
        rw [List.length_set] at this; exact this
      rw [List.getElem?_set_self hi] at z
      cases z
      exact ⟨p, ho, List.getElem?_set_self (by rw [r.len]; exact hi), upd_same, ob⟩
    · rw [List.getElem?_set_ne hj] at z
      obtain ⟨q, ho', h1, h2, h3⟩ := r.ow j o' z
      have hq : q ≠ p := old j q ⟨⟨o', z⟩, h1⟩
      exact ⟨q, ho', by rw [List.getElem?_set_ne hj]; exact h1, by rw [upd_ne hq]; exact h2, h3⟩
  · by_cases hj : i = j
    · subst hj
      rw [self q z]; exact ⟨nF, nr⟩
    · exact r.owF j q (other j q hj z)
  · by_cases hj : i = j
    · subst hj
      by_cases hk : i = k
      · exact hk
      · exact absurd (self q h1) (old k q (other k q hk h2))
    · by_cases hk : i = k
      · subst hk
        exact absurd (self q h2) (old j q (other j q hj h1))
      · exact r.uq j k q (other j q hj h1) (other k q hk h2)
/-- an owned object is written -/
theorem Rel.write (r : Rel K m F H σ ρ s) {i : Nat} {o o' : Ob} {p : Addr} {ho : HO} (e : ρ[i]? = some (Sl.ow o)) (eσ : σ[i]? = some (some (V.ref p))) (ob : ObAt K F o' p ho) : Rel K m F (upd H p ho) σ (ρ.set i (.ow o')) s := by
  obtain ⟨nF, nr⟩ := r.owF i p ⟨⟨o, e⟩, eσ⟩
  have hi : i < ρ.length := (List.getElem?_eq_some_iff.mp e).1
  have back : ∀ j q, Owns σ (ρ.set i (.ow o')) j q → Owns σ ρ j q := fun j q ⟨⟨u, h1⟩, h2⟩ => by
    by_cases hj : i = j
    · subst hj; exact ⟨⟨o, e⟩, h2⟩
    · rw [List.getElem?_set_ne hj] at h1; exact ⟨⟨u, h1⟩, h2⟩
  refine ⟨fun b x z => ?_, m.loc s H _ r.mem fun a ha => upd_ne fun z => nr (z ▸ ha), r.reg, by rw [List.length_set]; exact r.len, fun j d' z => ?_, fun j u z => ?_, fun j q z => r.owF j q (back j q z), fun j k q h1 h2 => r.uq j k q (back j q h1) (back k q h2)⟩
  · have hb : b ≠ p := fun w => by subst w; rw [nF] at z; cases z
    rw [upd_ne hb]; exact r.sub _ _ z
  · by_cases hj : i = j
    · subst hj; rw [List.getElem?_set_self hi] at z; cases z
    · rw [List.getElem?_set_ne hj] at z; exact r.sh j d' z
  · by_cases hj : i = j
    · subst hj
      rw [List.getElem?_set_self hi] at z
      cases z
      exact ⟨p, ho, eσ, upd_same, ob⟩
    · rw [List.getElem?_set_ne hj] at z
      obtain ⟨q, ho', h1, h2, h3⟩ := r.ow j u z
      have hq : q ≠ p := fun w => hj (r.uq i j p ⟨⟨o, e⟩, eσ⟩ ⟨⟨u, z⟩, by rw [← w]; exact h1⟩)
      exact ⟨q, ho', h1, by rw [upd_ne hq]; exact h2, h3⟩
end
end DL

set_option Elab.async false
set_option linter.all false
set_option maxRecDepth 100000
/-! DG: calls that also know that no repr is under way (FnG, RoomG), from the law's call down. -/
namespace DL
open PySem PySem.Spec PyProof.Rows L2
/-- room for so many calls, and no repr around -/
structure RoomG (k : Nat) (A : Around) : Prop where
  r : Room k A
  g : A.guards = some []
theorem RoomG.mono {j k : Nat} {A : Around} (h : RoomG k A) (l : j ≤ k) : RoomG j A := ⟨h.r.mono l, h.g⟩
theorem RoomG.deeper {k : Nat} {A : Around} (h : RoomG (k + 1) A) (env : Env) : RoomG k (A.deeper env) := ⟨h.r.deeper env, h.g⟩
theorem RoomG.in1 {k : Nat} {A : Around} (h : RoomG (k + 1) A) : RoomG k A.in1 := ⟨h.r.in1, h.g⟩
theorem RoomG.make {k : Nat} {A : Around} (h : RoomG (k + 1) A) (C : Addr) (us : List Value) (kw : List (Str × Value)) : RoomG k (A.under (.builtin "type.__call__" ⟨.ref C :: us, kw⟩)) :=
  ⟨h.r.make C us kw, by
    have e : (A.under (.builtin "type.__call__" ⟨.ref C :: us, kw⟩)).guards = A.guards := by
      first | rfl | (simp [Around.under, Code.guards, Code.isGuard, pushGuards, guardIds])
    rw [e]; exact h.g⟩
/-- a def keeps its promise wherever it is called with no repr around -/
structure FnG (P : Program) (w : World) (K : PySem.W.Frag) (mg : Str → Option Value) (base : Heap) (CX : CXT) (k : Nat) (f : Addr) (fd : FuncData) (ps : List Str) (sp : Sp) : Prop where
  len : ∀ vs H Q E, sp vs H Q E → vs.length = ps.length
  run : ∀ (A : Around) (outer : List Env) (s : Shared) (H : Hp) (args : Args) (us : List Value) (vs : List V) (Q : VK) (E : XK),
    RoomG k A → Env0 P w K mg base A outer s H → BindsTo s fd args (ps.zip us) → Vals vs us → sp vs H Q E → codeAny (model P w) A (.call (.ref f) args) (CR CX outer P w H s Q E) s
section
variable {P : Program} {w : World} {K : PySem.W.Frag} {mg : Str → Option Value} {base : Heap} {CX : CXT} {k : Nat} {f : Addr} {fd : FuncData} {ps : List Str} {sp : Sp}
theorem fnG_of (F : FnOk P w K mg base CX k f fd ps sp) : FnG P w K mg base CX k f fd ps sp := ⟨F.len, fun A o s H a us vs Q E hr => F.run A o s H a us vs Q E hr.r⟩
theorem FnG.mono {j : Nat} (F : FnG P w K mg base CX j f fd ps sp) (h : j ≤ k) : FnG P w K mg base CX k f fd ps sp := ⟨F.len, fun A o s H a us vs Q E hr => F.run A o s H a us vs Q E (hr.mono h)⟩
theorem FnG.imp {sp' : Sp} (F : FnG P w K mg base CX k f fd ps sp) (h : ∀ vs H Q E, sp' vs H Q E → sp vs H Q E) : FnG P w K mg base CX k f fd ps sp' :=
  ⟨fun vs H Q E q => F.len _ _ _ _ (h vs H Q E q), fun A o s H a us vs Q E hr e b r q => F.run A o s H a us vs Q E hr e b r (h vs H Q E q)⟩
end
section
variable {X : Cx} {CX : CXT} {k : Nat} {f : Addr} {fd : FuncData} {ps : List Str} {sp : Sp} {dvs : List V} {ds : List Value} {E : XK} {x : Str} {p pos : Pos} {e : Expr} {es : List Expr} {t : TA}
theorem go_fn {pins : List (Addr × Obj)} {σ : L2.St} {H : Hp} {s : Shared} {Q : VK} {us : List Value} {vs : List V} (G : FnG X.prog X.w X.K X.mg X.base CX k f fd ps sp) (hr : RoomG k X.A) (hb : Binds X.K fd ps ds) (hd : Vals dvs ds) (hx : Passes CX X E)
    (I : Inv X pins σ H s) (rv : Vals vs us) (q : sp (vs ++ dvs) H Q E) : wpAny (model X.prog X.w) X.A (call (.ref f) us) (EP X pins σ Q) X.xe s := by
  have rr : Vals (vs ++ dvs) (us ++ ds) := rv.append hd
  have many : (us ++ ds).length = ps.length := rr.length.symm.trans (G.len _ _ _ _ q)
  refine wpAny_call (codeAny_mono (G.run X.A X.stack s H ⟨us, []⟩ (us ++ ds) (vs ++ dvs) Q E hr I.env0 (hb s us I.kIn many) rr q) fun r s' z => ?_)
  rcases r with er | (_ | _ | _ | u)
  · exact hx pins σ H s er s' I z
  · exact z.elim
  · exact z.elim
  · exact z.elim
  · exact I.after z
theorem pg_call (G : FnG X.prog X.w X.K X.mg X.base CX k f fd ps sp) (hr : RoomG k X.A) (hg : Gl X x) (hm : X.mg x = some (.ref f)) (hk : PySem.W.keepIn X.K (.ref f) = true) (hb : Binds X.K fd ps ds) (hd : Vals dvs ds) (hx : Passes CX X E) (ha : PA X (e :: es) t)
    (hdb : (x == ("__debug__" : Str)) = false := by decide) (he : starEach (e :: es) X.env = (false, eval e X.env) :: starEach es X.env := by rfl) (hpl : (backTo pos (starEach es X.env)).any (·.1) = false := by rfl) : PE X (.Call (.Name x p) (e :: es) [] pos) (tCall sp dvs E t) :=
  ⟨fun pins s σ H Q I h => wpAny_Call_Name_kw (ld_glob I hg hm (PySem.W.callWith_K (h₀ := X.base) I.ok.mod.kin hk (thn (ha.run pos pins s σ H _ I h) fun us s1 ⟨vs, H1, I1, rv, q⟩ => ⟨I1.kIn, go_fn G hr hb hd hx I1 rv q⟩) he hpl) hdb)⟩
end
section
variable {P : Program} {w : World} {K : PySem.W.Frag} {mg : Str → Option Value} {base : Heap}
/-- a def by its body -/
theorem Fun.okG {CX : CXT} {x qual : Str} {st : Stmt} {f : Addr} {fd : FuncData} {N ps : List Str} {k : Nat} {sp : Sp} (F : Fun K x qual st f fd) (S : FnScope N ps (defScope st)) (len : ∀ vs H Q E, sp vs H Q E → vs.length = ps.length)
    (body : ∀ (cdv : Value) (A : Around) (outer : List Env) (s : Shared) (H : Hp) (vs : List V) (Q : VK) (E : XK), RoomG k (A.deeper (envOfC qual (defScope st) s.heap.objs.size f cdv)) → sp vs H Q E →
      ∃ t, PSs (cxOf CX P w K mg base N qual (defScope st) f cdv A outer s H E) (defBody st) t ∧ t { nx := fun _ H' => Q .non H', rt := Q } (start N vs) H) : FnG P w K mg base CX (k + 1) f fd ps sp := by
  obtain ⟨oc, od, kV, doc, pm, an, cdv, ct, osl, rfl, lk, code⟩ := F.ex
  refine ⟨len, fun A outer s H args us vs Q E hr e0 hb rv hsp => ?_⟩
  have Kin : K.In s.heap := e0.mod.kin.keeps fun b o z => (e0.bs b o z).1
  have nl : s.heap.NoLimit := e0.mod.nolimit.keeps fun b o z => (e0.bs b o z).1
  have places : ∀ y ∈ ps.zip us, (defScope st).names.lookup y.1 = some .local ∨ ((defScope st).names.lookup y.1 = some .cell ∧ ((cellsFrom (s.heap.objs.size + 1) (defScope st).names []).lookup y.1).isSome = true) := fun y hy =>
    (S.par y.1 (List.of_mem_zip (show (y.1, y.2) ∈ ps.zip us from hy)).1).elim .inl fun q => .inr ⟨q, PySem.W.cellsFrom_some _ _ _ (.inl q)⟩
  refine codeAny_call_function hr.r.depth (Kin _ _ lk) rfl S.co S.gen rfl (PySem.W.codeRec_of Kin code) (hb _ _ _ _ (wpAny_newFunctionEnv_cells S.kind places fun env he s1 new => ?_))
  subst he
  obtain ⟨t, ht, hq⟩ := body cdv A outer s H vs Q E (hr.deeper _) hsp
  have J : Inv (cxOf CX P w K mg base N qual (defScope st) f cdv A outer s H E) [] (start N vs) H s1 := inv_start S hr.r.hd e0 (len _ _ _ _ hsp) rv new
  refine ⟨nl.keeps new.toInCall.keep, codeAny_func (wpAny_mono (ht.run [] s1 (start N vs) H _ J hq) (fun fl s' z => ?_) fun _ _ z => z)⟩
  rcases fl with _ | _ | _ | u
  · obtain ⟨σ', H', J', q⟩ := z
    exact ⟨V.non, H', J'.os, J'.bare, J'.base, J'.hok, rfl, q⟩
  · obtain ⟨_, _, _, q⟩ := z
    exact q.elim
  · obtain ⟨_, _, _, q⟩ := z
    exact q.elim
  · obtain ⟨v, σ', H', J', r', q⟩ := z
    exact ⟨v, H', J'.os, J'.bare, J'.base, J'.hok, r', q⟩
end
/-! ### the law's call -/
section
/-- the script as it is handed over: known, unless it is one of the module's own objects -/
def scrO (vs : List Value) : Obj := { cls := .type "list", data := .seq vs.toArray }
def scrH (K : PySem.W.Frag) (a : Addr) (vs : List Value) (ns : List Int) : Hp := fun b => if b = a ∧ K.lookup a = none then some (.frz (scrO vs) (.lst (ns.map V.int))) else none
theorem scrH_some {K : PySem.W.Frag} {a b : Addr} {vs : List Value} {ns : List Int} {u : HO} (h : scrH K a vs ns b = some u) : b = a ∧ K.lookup a = none ∧ u = .frz (scrO vs) (.lst (ns.map V.int)) := by
  unfold scrH at h
  split at h
  · rename_i c
    exact ⟨c.1, c.2, (Option.some.inj h).symm⟩
  · cases h
theorem scrH_ne {K : PySem.W.Frag} {a b : Addr} {vs : List Value} {ns : List Int} (h : b ≠ a) : scrH K a vs ns b = none := if_neg fun z => h z.1
theorem scrH_only {K : PySem.W.Frag} {a : Addr} {vs : List Value} {ns : List Int} : Only (scrH K a vs ns) := fun b => by
  cases e : scrH K a vs ns b with
  | none => exact .inl rfl
  | some u => exact .inr ⟨_, _, congrArg some (scrH_some e).2.2⟩
variable {P : Program} {w : World} {K : PySem.W.Frag} {mg mb : Str → Option Value} {k : Nat} {fa a : Addr} {fd : FuncData} {x : Str} {sp : Sp} {s : Shared} {vs : List Value} {ns : List Int}
theorem scr_ok (ha : s.heap.get? a = some (scrO vs)) (hi : IntsAre vs ns) (hl : ns.length ≤ sizeLine) : HOk P w (scrH K a vs ns) s.heap := fun b u e => by
  obtain ⟨rfl, _, rfl⟩ := scrH_some e
  exact ⟨ha, by rw [List.length_map]; exact hl, vs, _, vals_ints hi, ha⟩
theorem scr_seq (KX : K.In s.heap) (ha : s.heap.get? a = some (scrO vs)) (hi : IntsAre vs ns) (hl : ns.length ≤ sizeLine) : SqL K (scrH K a vs ns) a (ns.map V.int) := by
  cases hk : K.lookup a with
  | none => exact .inl (.inr ⟨scrO vs, if_pos ⟨rfl, hk⟩⟩)
  | some o =>
    have q : o = scrO vs := Option.some.inj ((KX a o hk).symm.trans ha)
    subst q
    exact .inr ⟨_, vs.toArray, _, hk, rfl, rfl, rfl, by rw [List.size_toArray, hi.length]; exact hl, by simpa using vals_ints hi⟩
theorem scr_end {H' : Hp} {s' : Shared} (ha : s.heap.get? a = some (scrO vs)) (un : Un (frs []) [] (scrH K a vs ns) H' s.heap s'.heap) (ok' : HOk P w H' s'.heap) : OldK s.heap s'.heap := OldK.of_keep fun b o e => by
  by_cases hb : b = a
  · subst hb
    cases q : scrH K b vs ns b with
    | none => exact un.keep b o e q (fun z => nomatch z) (fun z => nomatch z)
    | some u =>
      obtain ⟨_, _, rfl⟩ := scrH_some q
      have z := (ok' b _ (un.frzs b _ _ q)).1
      have e' : o = scrO vs := Option.some.inj (e.symm.trans ha)
      rw [e']
      exact z
  · exact un.keep b o e (scrH_ne hb) (fun z => nomatch z) (fun z => nomatch z)
/-- the law's def is called by the row, with no repr around -/
theorem law_goG (KX : K.In s.heap) (hns : s.heap.Ns mainGlobals mg) (hbn : s.heap.Ns builtinsNs mb) (hbb : ∀ x : Str, x ≠ "__name__" → mb x = bootBuiltins x) (nl : s.heap.NoLimit) (hg : s.gens = #[]) (ha : s.heap.get? a = some (scrO vs)) (hi : IntsAre vs ns) (hl : ns.length ≤ sizeLine) (hr : Room k callerA) (hsm : ∃ mm, s.heap.Ns sysModules mm)
    (G : ∀ base : Heap, K.In base → base.Ns mainGlobals mg → (∃ o, base.get? sysModules = some o) → FnG P w K mg base CX0 k fa fd [x] sp) (bind : ∀ (s : Shared) (u : Value), BindsTo s fd ⟨[u], []⟩ [(x, u)]) (hsp : ∀ H : Hp, Only H → SqL K H a (ns.map V.int) → sp [.ref a] H (fun v _ => v = .bl true) E0) :
    codeAny (model P w) callerA (.call (.ref fa) ⟨[.ref a], []⟩) (fun r s' => r = .ok (.ret (.bool true)) ∧ OldK s.heap s'.heap ∧ s'.os = s.os ∧ AllBare s'.gens) s := by
  have low : ∀ {b : Addr} {o : Obj}, s.heap.get? b = some o → scrH K a vs ns b = none → (hidT s.heap (scrH K a vs ns)).get? b = some o := fun e n => hidT_get e n
  have dictNe : ∀ {b : Addr} {o : Obj} {es : Array DictEntry} {ep : Nat}, s.heap.get? b = some o → o.data = .dict es ep → b ≠ a := fun {b o es ep} e q z => by
    rw [z, ha] at e
    have r := (congrArg Obj.data (Option.some.inj e)).trans q
    cases (show Data.seq vs.toArray _ = Data.dict es ep from r)
  have keepNs : ∀ {b : Addr} {m : Str → Option Value}, s.heap.Ns b m → (hidT s.heap (scrH K a vs ns)).Ns b m := fun {b m} ⟨o, es, ep, e, q, r⟩ => ⟨o, es, ep, low e (scrH_ne (dictNe e q)), q, r⟩
  have KB : K.In (hidT s.heap (scrH K a vs ns)) := fun b o e => low (KX b o e) (by
    cases q : scrH K a vs ns b with
    | none => rfl
    | some u =>
      obtain ⟨rfl, n, _⟩ := scrH_some q
      rw [n] at e
      cases e)
  have md : Mod K mg (hidT s.heap (scrH K a vs ns)) := by
    obtain ⟨mc, l1, l2⟩ := nl
    exact ⟨KB, keepNs hns, ⟨mb, keepNs hbn, hbb⟩, ⟨mc, keepNs l1, l2⟩⟩
  have sysL : ∃ o, (hidT s.heap (scrH K a vs ns)).get? sysModules = some o := by
    obtain ⟨mm, q⟩ := hsm
    obtain ⟨o, _, _, z, _⟩ := keepNs q
    exact ⟨o, z⟩
  have start : Env0 P w K mg (hidT s.heap (scrH K a vs ns)) callerA [] s (scrH K a vs ns) :=
    { frames := rfl, mod := md, bs := fun b o e => of_hidT e, bsz := Nat.le_of_eq (hidT_size _ _), funs := trivial, frf := (fun b z => nomatch z), hok := scr_ok ha hi hl, bare := .of_eq hg }
  refine codeAny_mono ((G _ KB (keepNs hns) sysL).run callerA [] s _ ⟨[.ref a], []⟩ [.ref a] [.ref a] _ _ ⟨hr, rfl⟩ start (bind s (.ref a)) (.cons rfl .nil) (hsp _ scrH_only (scr_seq KX ha hi hl))) fun r s' z => ?_
  rcases r with er | (_ | _ | _ | u)
  · exact z.elim
  · exact z.elim
  · exact z.elim
  · exact z.elim
  · obtain ⟨v, H', os, bare, un, ok', rv, q⟩ := z
    have q' : v = .bl true := q
    subst q'
    have e : u = Value.bool true := rv
    subst e
    exact ⟨rfl, scr_end ha un ok', os, bare⟩
end
/-- from the law's promise to the row's walk, with no repr around -/
theorem walkG {l : PySem.W.OpenLaw} {n k : Nat} {q : Program} {loose : List Str} {XP : (Str → Option Value) → Heap → Prop} {YP : World → Heap → Prop} {d : DefRec} {K : Params → PySem.W.Frag} {sp : PySem.W.Frag → Sp} {x : Str}
    (hn : l.most = some n) (hn2 : n ≤ sizeLine) (hdf : d.params.defaults = []) (hr : Room k callerA) (hno : importsNone q = true) (hY : ∀ (w : World) (h : Heap), YP w h → (K w.params).In h)
    (G : ∀ (w : World) (mg : Str → Option Value) (fa : Addr) (h : Heap), (K w.params).In h → h.Ns mainGlobals mg → mg d.name = some (.ref fa) →
      ∃ fd : FuncData, (∀ (s : Shared) (u : Value), BindsTo s fd ⟨[u], []⟩ [(x, u)]) ∧ ∀ base : Heap, (K w.params).In base → base.Ns mainGlobals mg → (∃ o, base.get? sysModules = some o) → FnG l.prog w (K w.params) mg base CX0 k fa fd [x] (sp (K w.params)))
    (hsp : ∀ (K : PySem.W.Frag) (H : Hp) (a : Addr) (ns : List Int), ns.length ≤ n → Only H → SqL K H a (ns.map V.int) → sp K [.ref a] H (fun v _ => v = .bl true) E0) : PySem.W.WalkO q loose XP YP l.row.toRowW d [] (fun f vs => PySem.call f vs) :=
  Att.attach_call hn hdf fun w _ s₁ mg mb fa o pm cd doc a vs ns Gr Y _ _ _ hmg hobj hints hlen hg => by
    have KX := hY w _ Y
    obtain ⟨fd, hb, hF⟩ := G w mg fa _ KX Gr.T.g hmg
    exact law_goG KX Gr.T.g Gr.T.b Gr.T.builtins Gr.T.nolimit hg hobj hints (Nat.le_trans hlen hn2) hr (by obtain ⟨mm, z, _⟩ := (Gr.T.seer hno).mods; exact ⟨mm, z⟩) hF hb fun H hO hS => hsp _ H a ns hlen hO hS
end DL

set_option Elab.async false
set_option linter.all false
set_option maxRecDepth 100000
namespace DL
open PySem PySem.Spec PyProof.Rows L2

/-! ### readings over data -/
abbrev DK (m : Mem) := D → List Sl → m.S → Prop
abbrev DT (m : Mem) := List Sl → m.S → DK m → Prop
abbrev DTT (m : Mem) := List Sl → m.S → (Bool → List Sl → m.S → Prop) → Prop
abbrev DTA (m : Mem) := List Sl → m.S → (List D → List Sl → m.S → Prop) → Prop
def up (K : PySem.W.Frag) (m : Mem) (t : DT m) : TE := fun σ H Q => ∃ F ρ s Qd, Rel K m F H σ ρ s ∧ t ρ s Qd ∧ ∀ d ρ' s' v F' H', Qd d ρ' s' → Rel K m F' H' σ ρ' s' → Stp m F H σ ρ s F' H' ρ' s' → Rep K F' d v → Q v H'
def upT (K : PySem.W.Frag) (m : Mem) (t : DTT m) : TT := fun σ H Q => ∃ F ρ s Qd, Rel K m F H σ ρ s ∧ t ρ s Qd ∧ ∀ b ρ' s' F' H', Qd b ρ' s' → Rel K m F' H' σ ρ' s' → Stp m F H σ ρ s F' H' ρ' s' → Q b H'
def upA (K : PySem.W.Frag) (m : Mem) (t : DTA m) : TA := fun σ H Q => ∃ F ρ s Qd, Rel K m F H σ ρ s ∧ t ρ s Qd ∧ ∀ ds ρ' s' vs F' H', Qd ds ρ' s' → Rel K m F' H' σ ρ' s' → Stp m F H σ ρ s F' H' ρ' s' → Reps K F' ds vs → Q vs H'

section
variable {X : Cx} {e a b c : Expr} {es : List Expr} {pos : Pos}
theorem PE.imp {t t' : TE} (h : PE X e t) (w : ∀ σ H Q, t' σ H Q → t σ H Q) : PE X e t' := ⟨fun pins s σ H Q I q => h.run pins s σ H Q I (w σ H Q q)⟩
theorem PT.imp {t t' : TT} (h : PT X e t) (w : ∀ σ H Q, t' σ H Q → t σ H Q) : PT X e t' := ⟨fun pins s σ H Q I q => h.run pins s σ H Q I (w σ H Q q)⟩
theorem PW.imp {t t' : TT} (h : PW X e t) (w : ∀ σ H Q, t' σ H Q → t σ H Q) : PW X e t' := ⟨fun wh pins s σ H Q I q => h.run wh pins s σ H Q I (w σ H Q q)⟩
theorem PA.imp {t t' : TA} (h : PA X es t) (w : ∀ σ H Q, t' σ H Q → t σ H Q) : PA X es t' := ⟨fun p pins s σ H Q I q => h.run p pins s σ H Q I (w σ H Q q)⟩
theorem PS.imp {st : Stmt} {t t' : TS} (h : PS X st t) (w : ∀ D σ H, t' D σ H → t D σ H) : PS X st t' := ⟨fun pins s σ H D I q => h.run pins s σ H D I (w D σ H q)⟩
theorem PSs.imp {st : List Stmt} {t t' : TS} (h : PSs X st t) (w : ∀ D σ H, t' D σ H → t D σ H) : PSs X st t' := ⟨fun pins s σ H D I q => h.run pins s σ H D I (w D σ H q)⟩
end

/-- a way by a bool -/
def ifB (b : Bool) (x y : Prop) : Prop := match b with
  | true => x
  | false => y
theorem ifB_t {x y : Prop} (h : ifB true x y) : x := h
theorem ifB_f {x y : Prop} (h : ifB false x y) : y := h
theorem ifB2 {b : Bool} {x y : Prop} (h1 : b = true → x) (h2 : b = false → y) : ifB b x y := by
  cases b with
  | true => exact h1 rfl
  | false => exact h2 rfl
theorem ifBd {c : Prop} [Decidable c] {x y : Prop} (h1 : c → x) (h2 : ¬ c → y) : ifB (decide c) x y := ifB2 (fun h => h1 (of_decide_eq_true h)) fun h => h2 (of_decide_eq_false h)
/-! ### names and constants -/
def dVar {m : Mem} (i : Nat) : DT m := fun ρ s Q => match ρ[i]? with
  | some (.sh d) => Q d ρ s
  | some (.ow o) => match o.d with
    | some d => Q d (ρ.set i (.sh d)) s
    | none => False
  | _ => False
def dC {m : Mem} (d : D) : DT m := fun ρ s Q => Q d ρ s
section
variable {X : Cx} {m : Mem} {e a b c : Expr} {es : List Expr} {pos : Pos}
theorem up_var {K : PySem.W.Frag} {i : Nat} {σ : L2.St} {H : Hp} {Q : VK} (h : up K m (dVar i) σ H Q) : tVar i σ H Q := by
  obtain ⟨F, ρ, s, Qd, r, ht, hQ⟩ := h
  unfold dVar at ht
  cases e : ρ[i]? with
  | none => rw [e] at ht; exact ht.elim
  | some sl =>
    rw [e] at ht
    cases sl with
    | no => exact ht.elim
    | sh d =>
      obtain ⟨v, h1, h2⟩ := r.sh i d e
      exact ⟨v, h1, hQ d ρ s v F H ht r Stp.refl h2⟩
    | ow o =>
      obtain ⟨p, ho, h1, h2, h3, h4, h5⟩ := r.own_at e
      cases hd : o.d with
      | none =>
        dsimp only at ht
        rw [hd] at ht
        exact ht.elim
      | some d =>
        dsimp only at ht
        rw [hd] at ht
        obtain ⟨r', st, rp⟩ := r.share hd e h1 h2 h3
        exact ⟨_, h1, hQ _ _ _ _ _ _ ht r' st rp⟩
theorem dv (i : Nat) {x : Str} (hN : X.N[i]? = some x := by rfl) (hv : Vis X.env.scope x := by first | exact Or.inl rfl | exact Or.inr (Or.inl rfl) | exact Or.inr (Or.inr rfl)) (hd : (x == ("__debug__" : Str)) = false := by decide)
    (hcd : (x == ("__classdict__" : Str)) = false := by decide) : PE X (.Name x pos) (up X.K m (dVar i)) := PE.imp (pv i hN hv hd hcd) fun _ _ _ h => up_var h
theorem up_const {K : PySem.W.Frag} {d : D} {v : V} {σ : L2.St} {H : Hp} {Q : VK} (hr : ∀ F, Rep K F d v) (h : up K m (dC d) σ H Q) : tC v σ H Q := by
  obtain ⟨F, ρ, s, Qd, r, ht, hQ⟩ := h
  exact hQ d ρ s v F H ht r Stp.refl (hr F)
theorem de_int {i : Int} {j pos} : PE X (.Constant (.int i) j pos) (up X.K m (dC (.int i))) := PE.imp pe_int fun _ _ _ h => up_const (d := .int i) (fun _ => rfl) h
theorem de_bl {b : Bool} {j pos} : PE X (.Constant (.bool b) j pos) (up X.K m (dC (.bl b))) := PE.imp pe_bl fun _ _ _ h => up_const (d := .bl b) (fun _ => rfl) h
theorem de_non {j pos} : PE X (.Constant .none j pos) (up X.K m (dC .non)) := PE.imp pe_non fun _ _ _ h => up_const (d := .non) (fun _ => rfl) h
theorem de_str {x : Str} {j pos} (hl : sOk x = true := by decide +kernel) : PE X (.Constant (.str x) j pos) (up X.K m (dC (.str x))) := PE.imp pe_str fun _ _ _ h => up_const (d := .str x) (fun _ => ⟨rfl, hl⟩) h
/-- a module's constant -/
theorem de_glob {x : Str} {d : D} {v : V} {u : Value} (hg : Gl X x) (hm : X.mg x = some u) (r : RelV v u) (hr : ∀ F, Rep X.K F d v) (hd : (x == ("__debug__" : Str)) = false := by decide) : PE X (.Name x pos) (up X.K m (dC d)) :=
  PE.imp (pe_glob hg hm r hd) fun _ _ _ h => up_const hr h
/-- a builtin's name as a value -/
theorem de_bltn {x : Str} {v : V} {u : Value} (hg : Gl X x) (hm : X.mg x = none) (hv : bootBuiltins x = some u) (r : RelV v u) (hn : x ≠ "__name__" := by decide) (hd : (x == ("__debug__" : Str)) = false := by decide) : PE X (.Name x pos) (up X.K m (dC (.any v))) :=
  PE.imp (pe_bltn hg hm hv r hn hd) fun _ _ _ h => up_const (d := .any v) (fun _ => rfl) h

/-! ### operations by data -/
def Op2 (K : PySem.W.Frag) (r : R2) (f : D → D → (D → Prop) → Prop) : Prop := ∀ F H dx dy x y Qd Q, Same F H → Rep K F dx x → Rep K F dy y → f dx dy Qd → (∀ d v F' H', Qd d → Grow F H F' H' → Rep K F' d v → Q v H') → r x y H Q
def Op1 (K : PySem.W.Frag) (r : V → Hp → VK → Prop) (f : D → (D → Prop) → Prop) : Prop := ∀ F H dx x Qd Q, Same F H → Rep K F dx x → f dx Qd → (∀ d v F' H', Qd d → Grow F H F' H' → Rep K F' d v → Q v H') → r x H Q
def OpN (K : PySem.W.Frag) (r : List V → Hp → VK → Prop) (f : List D → (D → Prop) → Prop) : Prop := ∀ F H ds vs Qd Q, Same F H → Reps K F ds vs → f ds Qd → (∀ d v F' H', Qd d → Grow F H F' H' → Rep K F' d v → Q v H') → r vs H Q
def OpM (K : PySem.W.Frag) (r : V → List V → Hp → VK → Prop) (f : D → List D → (D → Prop) → Prop) : Prop := ∀ F H dx x ds vs Qd Q, Same F H → Rep K F dx x → Reps K F ds vs → f dx ds Qd → (∀ d v F' H', Qd d → Grow F H F' H' → Rep K F' d v → Q v H') → r x vs H Q
/-- a comparison: its answer is a bool -/
def Cm2 (K : PySem.W.Frag) (r : R2) (f : D → D → (Bool → Prop) → Prop) : Prop := ∀ F H dx dy x y Qd Q, Same F H → Rep K F dx x → Rep K F dy y → f dx dy Qd → (∀ b F' H', Qd b → Grow F H F' H' → Q (.bl b) H') → r x y H Q
def dOp {m : Mem} (f : D → D → (D → Prop) → Prop) (ta tb : DT m) : DT m := fun ρ s Q => ta ρ s fun x ρ1 s1 => tb ρ1 s1 fun y ρ2 s2 => f x y fun d => Q d ρ2 s2
def dUn {m : Mem} (f : D → (D → Prop) → Prop) (ta : DT m) : DT m := fun ρ s Q => ta ρ s fun x ρ1 s1 => f x fun d => Q d ρ1 s1
def dCm {m : Mem} (f : D → D → (Bool → Prop) → Prop) (ta tb : DT m) : DT m := fun ρ s Q => ta ρ s fun x ρ1 s1 => tb ρ1 s1 fun y ρ2 s2 => f x y fun k => Q (.bl k) ρ2 s2
def dCmT {m : Mem} (f : D → D → (Bool → Prop) → Prop) (ta tb : DT m) : DTT m := fun ρ s Q => ta ρ s fun x ρ1 s1 => tb ρ1 s1 fun y ρ2 s2 => f x y fun k => Q k ρ2 s2
/-- two expressions in a row -/
theorem up2 {K : PySem.W.Frag} {ta tb : DT m} {F H : Hp} {σ : L2.St} {ρ : List Sl} {s : m.S} {R : V → V → Hp → Prop} {Qd : D → D → List Sl → m.S → Prop} (r : Rel K m F H σ ρ s) (h : ta ρ s fun x ρ1 s1 => tb ρ1 s1 fun y ρ2 s2 => Qd x y ρ2 s2)
    (hR : ∀ dx dy x y F2 H2 ρ2 s2, Qd dx dy ρ2 s2 → Rel K m F2 H2 σ ρ2 s2 → Stp m F H σ ρ s F2 H2 ρ2 s2 → Rep K F2 dx x → Rep K F2 dy y → R x y H2) : up K m ta σ H fun x H1 => up K m tb σ H1 fun y H2 => R x y H2 :=
  ⟨F, ρ, s, _, r, h, fun dx ρ1 s1 x F1 H1 q1 r1 st1 rx => ⟨F1, ρ1, s1, _, r1, q1, fun dy ρ2 s2 y F2 H2 q2 r2 st2 ry => hR dx dy x y F2 H2 ρ2 s2 q2 r2 (st1.trans st2) (Rep.mono st2.ext _ _ rx) ry⟩⟩
theorem up_op {K : PySem.W.Frag} {r : R2} {f : D → D → (D → Prop) → Prop} {ta tb : DT m} {σ : L2.St} {H : Hp} {Q : VK} (ho : Op2 K r f) (h : up K m (dOp f ta tb) σ H Q) : tOp r (up K m ta) (up K m tb) σ H Q := by
  obtain ⟨F, ρ, s, Qd, rl, ht, hQ⟩ := h
  refine up2 (R := fun x y H2 => r x y H2 Q) rl ht fun dx dy x y F2 H2 ρ2 s2 q r2 st rx ry => ?_
  exact ho F2 H2 dx dy x y _ Q r2.sub rx ry q fun d v F' H' qd g rv => hQ d ρ2 s2 v F' H' qd (r2.grow g) (st.trans g.stp) rv
theorem up_cm {K : PySem.W.Frag} {r : R2} {f : D → D → (Bool → Prop) → Prop} {ta tb : DT m} {σ : L2.St} {H : Hp} {Q : VK} (ho : Cm2 K r f) (h : up K m (dCm f ta tb) σ H Q) : tOp r (up K m ta) (up K m tb) σ H Q := by
  obtain ⟨F, ρ, s, Qd, rl, ht, hQ⟩ := h
  refine up2 (R := fun x y H2 => r x y H2 Q) rl ht fun dx dy x y F2 H2 ρ2 s2 q r2 st rx ry => ?_
  exact ho F2 H2 dx dy x y _ Q r2.sub rx ry q fun b F' H' qd g => hQ (.bl b) ρ2 s2 _ F' H' qd (r2.grow g) (st.trans g.stp) rfl
variable {ta tb tc : DT m}
theorem de_op {op : Operator} {r : R2} {f : D → D → (D → Prop) → Prop} (ho : OpR X (binaryOp op) r) (hf : Op2 X.K r f) (ha : PE X a (up X.K m ta)) (hb : PE X b (up X.K m tb)) : PE X (.BinOp a op b pos) (up X.K m (dOp f ta tb)) :=
  PE.imp (pe_op ho ha hb) fun _ _ _ h => up_op hf h
theorem de_un {op : UnaryOp} {r : V → Hp → VK → Prop} {f : D → (D → Prop) → Prop} (ho : UnR X (unaryOp op) r) (hf : Op1 X.K r f) (ha : PE X a (up X.K m ta)) : PE X (.UnaryOp op a pos) (up X.K m (dUn f ta)) :=
  PE.imp (pe_un ho ha) fun σ H Q h => by
    obtain ⟨F, ρ, s, Qd, rl, ht, hQ⟩ := h
    exact ⟨F, ρ, s, _, rl, ht, fun dx ρ1 s1 x F1 H1 q1 r1 st1 rx => hf F1 H1 dx x _ Q r1.sub rx q1 fun d v F' H' qd g rv => hQ d ρ1 s1 v F' H' qd (r1.grow g) (st1.trans g.stp) rv⟩
theorem de_cmp {op : CmpOp} {r : R2} {f : D → D → (Bool → Prop) → Prop} (ho : OpR X (compareOp op) r) (hf : Cm2 X.K r f) (ha : PE X a (up X.K m ta)) (hb : PE X b (up X.K m tb)) (hm : behindInMarks op b = false := by first | exact nomark _ | rfl) :
    PE X (.Compare a [op] [b] pos) (up X.K m (dCm f ta tb)) := PE.imp (pe_cmpR ho ha hb hm) fun _ _ _ h => up_cm hf h
theorem dt_cmp {op : CmpOp} {r : R2} {f : D → D → (Bool → Prop) → Prop} (ho : OpR X (compareOp op) r) (hf : Cm2 X.K r f) (ha : PE X a (up X.K m ta)) (hb : PE X b (up X.K m tb)) (hm : behindInMarks op b = false := by first | exact nomark _ | rfl) :
    PT X (.Compare a [op] [b] pos) (upT X.K m (dCmT f ta tb)) := PT.imp (pt_cmpR ho ha hb hm) fun σ H Q h => by
  obtain ⟨F, ρ, s, Qd, rl, ht, hQ⟩ := h
  refine up2 (R := fun x y H2 => r x y H2 _) rl ht fun dx dy x y F2 H2 ρ2 s2 q r2 st rx ry => ?_
  exact hf F2 H2 dx dy x y _ _ r2.sub rx ry q fun b F' H' qd g => ⟨b, rfl, hQ b ρ2 s2 F' H' qd (r2.grow g) (st.trans g.stp)⟩
/-- a op1 b op2 c -/
def dCh {m : Mem} (f g : D → D → (Bool → Prop) → Prop) (ta tb tc : DT m) : DT m := fun ρ s Q => ta ρ s fun x ρ1 s1 => tb ρ1 s1 fun y ρ2 s2 => f x y fun k => ifB k (tc ρ2 s2 fun z ρ3 s3 => g y z fun k' => Q (.bl k') ρ3 s3) (Q (.bl false) ρ2 s2)
theorem de_chain {op op' : CmpOp} {r r' : R2} {f g : D → D → (Bool → Prop) → Prop} (ho : OpR X (compareOp op) r) (ho' : OpR X (compareOp op') r') (hf : Cm2 X.K r f) (hg : Cm2 X.K r' g)
    (ha : PE X a (up X.K m ta)) (hb : PE X b (up X.K m tb)) (hc : PE X c (up X.K m tc)) (hm : lastMarks [op, op'] [b, c] = false := by with_unfolding_all rfl) : PE X (.Compare a [op, op'] [b, c] pos) (up X.K m (dCh f g ta tb tc)) :=
  PE.imp (pe_chain ho ho' ha hb hc hm) fun σ H Q h => by
    obtain ⟨F, ρ, s, Qd, rl, ht, hQ⟩ := h
    refine up2 (R := fun x y H2 => r x y H2 _) rl ht fun dx dy x y F2 H2 ρ2 s2 q r2 st rx ry => ?_
    refine hf F2 H2 dx dy x y _ _ r2.sub rx ry q fun b F' H' qd gr => ⟨b, rfl, ?_⟩
    cases b with
    | false => exact iteF (hQ (.bl false) ρ2 s2 _ F' H' (ifB_f qd) (r2.grow gr) (st.trans gr.stp) rfl)
    | true =>
      have qd := ifB_t qd
      refine iteT ⟨F', ρ2, s2, _, r2.grow gr, qd, fun dz ρ3 s3 z F3 H3 q3 r3 st3 rz => ?_⟩
      exact hg F3 H3 dy dz y z _ _ r3.sub (Rep.mono (gr.fF.trans st3.ext) _ _ ry) rz q3 fun b' F4 H4 q4 g4 => hQ (.bl b') ρ3 s3 _ F4 H4 q4 (r3.grow g4) ((st.trans gr.stp).trans (st3.trans g4.stp)) rfl
/-! ### tests -/
/-- a value's truth -/
def tru : D → Option Bool
  | .non => some false
  | .bl b => some b
  | .int i => some (i != 0)
  | .str x => some ((x.length : Int) != 0)
  | .lst xs => some (!xs.isEmpty)
  | .tup xs => some (!xs.isEmpty)
  | .dic ks _ => some (!ks.isEmpty)
  | _ => none
theorem reps_empty {K : PySem.W.Frag} {F : Hp} {ds : List D} {vs : List V} (h : Reps K F ds vs) : vs.isEmpty = ds.isEmpty := by
  have := h.length
  cases ds <;> cases vs <;> simp_all
theorem tru_rep {K : PySem.W.Frag} {F H : Hp} {d : D} {v : V} {k : Bool} (h : Rep K F d v) (sub : Same F H) (e : tru d = some k) : TruV K v H k := by
  cases d with
  | non => cases h; exact (Option.some.inj e).symm
  | bl b => cases h; exact (Option.some.inj e).symm
  | int i => cases h; exact (Option.some.inj e).symm
  | str x => obtain ⟨rfl, hl⟩ := h; exact ⟨Nat.le_trans (sOk_len hl) (Nat.le_trans (Nat.le_add_right _ 2) strLim_line), (Option.some.inj e).symm⟩
  | lst xs =>
    obtain ⟨a, vs, rfl, h1, _, r⟩ := h
    exact .inl ⟨vs, .inl (.inl (sub _ _ h1)), by rw [reps_empty r]; exact (Option.some.inj e).symm⟩
  | tup xs =>
    obtain ⟨a, vs, rfl, h1, _, r⟩ := h
    exact .inr (.inl ⟨vs, Same.seqT sub h1, by rw [reps_empty r]; exact (Option.some.inj e).symm⟩)
  | dic ks ds =>
    obtain ⟨a, kvs, rfl, h1, _, r, _⟩ := h
    refine .inr (.inr ⟨kvs, sub _ _ h1, ?_⟩)
    have e' := (Option.some.inj e).symm
    rw [e', ← r]
    cases kvs <;> rfl
  | ins _ _ _ => cases e
  | any _ => cases e
  | fz _ => cases e
  | exc _ _ _ => cases e
  | cau _ _ _ _ => cases e
def dTr {m : Mem} (ta : DT m) : DTT m := fun ρ s Q => ta ρ s fun x ρ1 s1 => ∃ k, tru x = some k ∧ Q k ρ1 s1
theorem dt_truth (ha : PE X a (up X.K m ta)) (he : ∀ whole, isTrue a X.env whole = (do let v ← whole; standAt a.pos; holding [v] (truthy v)) := by intro _; rfl) : PT X a (upT X.K m (dTr ta)) :=
  PT.imp (pt_truth ha he) fun σ H Q h => by
    obtain ⟨F, ρ, s, Qd, rl, ht, hQ⟩ := h
    exact ⟨F, ρ, s, _, rl, ht, fun dx ρ1 s1 x F1 H1 ⟨k, e, q1⟩ r1 st1 rx => ⟨k, tru_rep rx r1.sub e, hQ k ρ1 s1 F1 H1 q1 r1 st1⟩⟩
variable {tA tB : DTT m} {rest : List Expr}
def dAndT {m : Mem} (t u : DTT m) : DTT m := fun ρ s Q => t ρ s fun k ρ1 s1 => ifB k (u ρ1 s1 Q) (Q false ρ1 s1)
def dOrT {m : Mem} (t u : DTT m) : DTT m := fun ρ s Q => t ρ s fun k ρ1 s1 => ifB k (Q true ρ1 s1) (u ρ1 s1 Q)
def dNotT {m : Mem} (t : DTT m) : DTT m := fun ρ s Q => t ρ s fun k ρ1 s1 => Q (!k) ρ1 s1
theorem dw_and1 (ha : PT X a (upT X.K m tA)) : PW X (.BoolOp .And [a] pos) (upT X.K m tA) := pw_and1 ha
theorem dw_or1 (ha : PT X a (upT X.K m tA)) : PW X (.BoolOp .Or [a] pos) (upT X.K m tA) := pw_or1 ha
theorem dw_and (ha : PT X a (upT X.K m tA)) (hb : PW X (.BoolOp .And (b :: rest) pos) (upT X.K m tB)) : PW X (.BoolOp .And (a :: b :: rest) pos) (upT X.K m (dAndT tA tB)) :=
  PW.imp (pw_and ha hb) fun σ H Q h => by
    obtain ⟨F, ρ, s, Qd, rl, ht, hQ⟩ := h
    refine ⟨F, ρ, s, _, rl, ht, fun k ρ1 s1 F1 H1 q1 r1 st1 => ?_⟩
    cases k with
    | true =>
      have q1 := ifB_t q1
      exact iteT ⟨F1, ρ1, s1, _, r1, q1, fun k ρ2 s2 F2 H2 q2 r2 st2 => hQ k ρ2 s2 F2 H2 q2 r2 (st1.trans st2)⟩
    | false => exact iteF (hQ false ρ1 s1 F1 H1 (ifB_f q1) r1 st1)
theorem dw_or (ha : PT X a (upT X.K m tA)) (hb : PW X (.BoolOp .Or (b :: rest) pos) (upT X.K m tB)) : PW X (.BoolOp .Or (a :: b :: rest) pos) (upT X.K m (dOrT tA tB)) :=
  PW.imp (pw_or ha hb) fun σ H Q h => by
    obtain ⟨F, ρ, s, Qd, rl, ht, hQ⟩ := h
    refine ⟨F, ρ, s, _, rl, ht, fun k ρ1 s1 F1 H1 q1 r1 st1 => ?_⟩
    cases k with
    | false =>
      exact iteF ⟨F1, ρ1, s1, _, r1, ifB_f q1, fun k ρ2 s2 F2 H2 q2 r2 st2 => hQ k ρ2 s2 F2 H2 q2 r2 (st1.trans st2)⟩
    | true => exact iteT (hQ true ρ1 s1 F1 H1 (ifB_t q1) r1 st1)
theorem dt_not (ha : PT X a (upT X.K m tA)) : PT X (.UnaryOp .Not a pos) (upT X.K m (dNotT tA)) :=
  PT.imp (pt_not ha) fun σ H Q h => by
    obtain ⟨F, ρ, s, Qd, rl, ht, hQ⟩ := h
    exact ⟨F, ρ, s, _, rl, ht, fun k ρ1 s1 F1 H1 q1 r1 st1 => hQ (!k) ρ1 s1 F1 H1 q1 r1 st1⟩
/-- a if t else b -/
def dIfE {m : Mem} (t : DTT m) (ta tb : DT m) : DT m := fun ρ s Q => t ρ s fun k ρ1 s1 => ifB k (ta ρ1 s1 Q) (tb ρ1 s1 Q)
theorem de_ifExp (hc : PT X c (upT X.K m tA)) (ha : PE X a (up X.K m ta)) (hb : PE X b (up X.K m tb)) : PE X (.IfExp c a b pos) (up X.K m (dIfE tA ta tb)) :=
  PE.imp (pe_ifExp hc ha hb) fun σ H Q h => by
    obtain ⟨F, ρ, s, Qd, rl, ht, hQ⟩ := h
    refine ⟨F, ρ, s, _, rl, ht, fun k ρ1 s1 F1 H1 q1 r1 st1 => ?_⟩
    cases k with
    | true =>
      have q1 := ifB_t q1
      exact iteT ⟨F1, ρ1, s1, _, r1, q1, fun d ρ2 s2 v F2 H2 q2 r2 st2 rv => hQ d ρ2 s2 v F2 H2 q2 r2 (st1.trans st2) rv⟩
    | false => exact iteF ⟨F1, ρ1, s1, _, r1, ifB_f q1, fun d ρ2 s2 v F2 H2 q2 r2 st2 rv => hQ d ρ2 s2 v F2 H2 q2 r2 (st1.trans st2) rv⟩

/-! ### argument lists, displays, calls -/
def daNil {m : Mem} : DTA m := fun ρ s Q => Q [] ρ s
def daCons {m : Mem} (t : DT m) (u : DTA m) : DTA m := fun ρ s Q => t ρ s fun d ρ1 s1 => u ρ1 s1 fun ds ρ2 s2 => Q (d :: ds) ρ2 s2
theorem da_nil : PA X [] (upA X.K m daNil) := PA.imp pa_nil fun σ H Q h => by
  obtain ⟨F, ρ, s, Qd, rl, ht, hQ⟩ := h
  exact hQ [] ρ s [] F H ht rl Stp.refl .nil
theorem up_cons {K : PySem.W.Frag} {t : DT m} {u : DTA m} {σ : L2.St} {H : Hp} {Q : List V → Hp → Prop} (h : upA K m (daCons t u) σ H Q) : tCons (up K m t) (upA K m u) σ H Q := by
  obtain ⟨F, ρ, s, Qd, rl, ht, hQ⟩ := h
  exact ⟨F, ρ, s, _, rl, ht, fun d ρ1 s1 v F1 H1 q1 r1 st1 rv => ⟨F1, ρ1, s1, _, r1, q1, fun ds ρ2 s2 vs F2 H2 q2 r2 st2 rs => hQ (d :: ds) ρ2 s2 (v :: vs) F2 H2 q2 r2 (st1.trans st2) (.cons (Rep.mono st2.ext _ _ rv) rs)⟩⟩
theorem da_cons {t : DT m} {u : DTA m} (ha : PE X e (up X.K m t)) (hr : PA X es (upA X.K m u)) (hs : starEach (e :: es) X.env = (false, eval e X.env) :: starEach es X.env := by rfl) : PA X (e :: es) (upA X.K m (daCons t u)) :=
  PA.imp (pa_cons ha hr hs) fun _ _ _ h => up_cons h
def dTup {m : Mem} (t : DTA m) : DT m := fun ρ s Q => t ρ s fun ds ρ1 s1 => ds.length ≤ sizeLine ∧ Q (.tup ds) ρ1 s1
def dLst {m : Mem} (t : DTA m) : DT m := fun ρ s Q => t ρ s fun ds ρ1 s1 => ds.length ≤ sizeLine ∧ Q (.lst ds) ρ1 s1
variable {u : DTA m}
theorem de_tup {k : Nat} (h : PA X es (upA X.K m u)) : PE X (.Tuple es k pos) (up X.K m (dTup u)) := PE.imp (pe_tup h) fun σ H Q h => by
  obtain ⟨F, ρ, s, Qd, rl, ht, hQ⟩ := h
  refine ⟨F, ρ, s, _, rl, ht, fun ds ρ1 s1 vs F1 H1 ⟨hl, q1⟩ r1 st1 rs => ⟨by rw [rs.length]; exact hl, fun p np => ?_⟩⟩
  have g : Grow F1 H1 (upd F1 p (.tup vs)) (upd H1 p (.tup vs)) := Grow.new r1.sub np
  exact hQ _ ρ1 s1 _ _ _ q1 (r1.grow g) (st1.trans g.stp) ⟨p, vs, rfl, .inl (.inl upd_same), by rw [rs.length]; exact hl, Reps.mono g.fF _ _ rs⟩
theorem de_lst (h : PA X es (upA X.K m u)) : PE X (.List es pos) (up X.K m (dLst u)) := PE.imp (pe_lst h) fun σ H Q h => by
  obtain ⟨F, ρ, s, Qd, rl, ht, hQ⟩ := h
  refine ⟨F, ρ, s, _, rl, ht, fun ds ρ1 s1 vs F1 H1 ⟨hl, q1⟩ r1 st1 rs => ⟨by rw [rs.length]; exact hl, fun p np => ?_⟩⟩
  have g : Grow F1 H1 (upd F1 p (.lst vs)) (upd H1 p (.lst vs)) := Grow.new r1.sub np
  exact hQ _ ρ1 s1 _ _ _ q1 (r1.grow g) (st1.trans g.stp) ⟨p, vs, rfl, upd_same, by rw [rs.length]; exact hl, Reps.mono g.fF _ _ rs⟩
/-- a call of a builtin by name: by its rule over data -/
def dB {m : Mem} (f : List D → (D → Prop) → Prop) (t : DTA m) : DT m := fun ρ s Q => t ρ s fun ds ρ1 s1 => f ds fun d => Q d ρ1 s1
theorem up_b {K : PySem.W.Frag} {r : List V → Hp → VK → Prop} {f : List D → (D → Prop) → Prop} {σ : L2.St} {H : Hp} {Q : VK} (hf : OpN K r f) (h : up K m (dB f u) σ H Q) : tCB r (upA K m u) σ H Q := by
  obtain ⟨F, ρ, s, Qd, rl, ht, hQ⟩ := h
  exact ⟨F, ρ, s, _, rl, ht, fun ds ρ1 s1 vs F1 H1 q1 r1 st1 rs => hf F1 H1 ds vs _ Q r1.sub rs q1 fun d v F2 H2 q2 g rv => hQ d ρ1 s1 v F2 H2 q2 (r1.grow g) (st1.trans g.stp) rv⟩
variable {x : Str} {p : Pos} {id T : String} {r : List V → Hp → VK → Prop} {f : List D → (D → Prop) → Prop}
theorem de_callB (hc : CallR X (.builtin id) r) (hf : OpN X.K r f) (hg : Gl X x) (hm : X.mg x = none) (hv : bootBuiltins x = some (.builtin id)) (ha : PA X (e :: es) (upA X.K m u)) (hn : x ≠ "__name__" := by decide) (hdb : (x == ("__debug__" : Str)) = false := by decide)
    (he : starEach (e :: es) X.env = (false, eval e X.env) :: starEach es X.env := by rfl) (hpl : (backTo pos (starEach es X.env)).any (·.1) = false := by rfl) : PE X (.Call (.Name x p) (e :: es) [] pos) (up X.K m (dB f u)) :=
  PE.imp (pe_callB hc hg hm hv ha hn hdb he hpl) fun _ _ _ h => up_b hf h
theorem de_callTy (hc : CallR X (.type T) r) (hf : OpN X.K r f) (hg : Gl X x) (hm : X.mg x = none) (hv : bootBuiltins x = some (.type T)) (ha : PA X (e :: es) (upA X.K m u)) (hn : x ≠ "__name__" := by decide) (hdb : (x == ("__debug__" : Str)) = false := by decide)
    (he : starEach (e :: es) X.env = (false, eval e X.env) :: starEach es X.env := by rfl) (hpl : (backTo pos (starEach es X.env)).any (·.1) = false := by rfl) : PE X (.Call (.Name x p) (e :: es) [] pos) (up X.K m (dB f u)) :=
  PE.imp (pe_callTy hc hg hm hv ha hn hdb he hpl) fun _ _ _ h => up_b hf h
/-! ### methods of built-in types -/
def tyD : D → String → Bool
  | .str _, T => T == "str"
  | .lst _, T => T == "list"
  | .dic _ _, T => T == "dict"
  | _, _ => false
theorem tyD_ok {K : PySem.W.Frag} {F H : Hp} {d : D} {v : V} {T : String} (h : Rep K F d v) (sub : Same F H) (e : tyD d T = true) : tyV K T v H := by
  cases d with
  | str x => obtain ⟨rfl, _⟩ := h; exact beq_iff_eq.mp e
  | lst xs => obtain ⟨a, vs, rfl, h1, _, _⟩ := h; exact .inl ⟨beq_iff_eq.mp e, vs, .inl (.inl (sub _ _ h1))⟩
  | dic ks ds => obtain ⟨a, kvs, rfl, h1, _, _⟩ := h; exact .inr (.inr (.inl ⟨beq_iff_eq.mp e, .inl ⟨kvs, sub _ _ h1⟩⟩))
  | _ => exact absurd e (by simp [tyD])
def dMt {m : Mem} (T : String) (f : D → List D → (D → Prop) → Prop) (to : DT m) (t : DTA m) : DT m := fun ρ s Q => to ρ s fun x ρ1 s1 => tyD x T = true ∧ t ρ1 s1 fun ds ρ2 s2 => f x ds fun d => Q d ρ2 s2
variable {o : Expr} {to : DT m} {name : Str} {apos cpos : Pos} {rM : V → List V → Hp → VK → Prop} {fM : D → List D → (D → Prop) → Prop}
theorem de_m (pa : PlainAttrs T) (slot : Slot T name id) (hty : typeOf (.builtin id) = pure (.type "method_descriptor")) (hm : MtR X id rM) (hf : OpM X.K rM fM) (ho : PE X o (up X.K m to)) (ha : PA X (e :: es) (upA X.K m u))
    (hbase : attributeBase o name X.env (eval o X.env) = eval o X.env := by rfl)
    (hfew : ((backTo cpos (starEach (e :: es) X.env)).all (fun x => !x.1) && (backToKw cpos (keywordEach [] X.env)).all (fun x => x.1.isSome)
      && decide ((e :: es).length + ([] : List Keyword).length + (if ([] : List Keyword).isEmpty then 0 else 1) < 30)) = true := by rfl)
    (hline : (apos.endLine == cpos.line) = true := by rfl) (hs : starEach (e :: es) X.env = (false, eval e X.env) :: starEach es X.env := by rfl) (hplain : (backTo cpos (starEach es X.env)).any (·.1) = false := by rfl) :
    PE X (.Call (.Attribute o name apos) (e :: es) [] cpos) (up X.K m (dMt T fM to u)) := PE.imp (pe_bm pa slot hty hm ho ha hbase hfew hline hs hplain) fun σ H Q h => by
  obtain ⟨F, ρ, s, Qd, rl, ht, hQ⟩ := h
  refine ⟨F, ρ, s, _, rl, ht, fun dx ρ1 s1 x F1 H1 ⟨hT, q1⟩ r1 st1 rx => ⟨tyD_ok rx r1.sub hT, F1, ρ1, s1, _, r1, q1, fun ds ρ2 s2 vs F2 H2 q2 r2 st2 rs => ?_⟩⟩
  exact hf F2 H2 dx x ds vs _ Q r2.sub (Rep.mono st2.ext _ _ rx) rs q2 fun d v F3 H3 q3 g rv => hQ d ρ2 s2 v F3 H3 q3 (r2.grow g) ((st1.trans st2).trans g.stp) rv
/-! ### subscripts, slices -/
theorem de_ix {r2 : R2} {f2 : D → D → (D → Prop) → Prop} (hr : IxR X r2) (hf : Op2 X.K r2 f2) (ha : PE X a (up X.K m ta)) (hb : PE X b (up X.K m tb)) (hs : PlainIx b := by exact fun _ _ => rfl) : PE X (.Subscript a b pos) (up X.K m (dOp f2 ta tb)) :=
  PE.imp (pe_ix hr ha hb hs) fun _ _ _ h => up_op hf h
abbrev DTO (m : Mem) := List Sl → m.S → (Option Int → List Sl → m.S → Prop) → Prop
def upO (K : PySem.W.Frag) (m : Mem) (t : DTO m) : TO := fun σ H Q => ∃ F ρ s Qd, Rel K m F H σ ρ s ∧ t ρ s Qd ∧ ∀ b ρ' s' F' H', Qd b ρ' s' → Rel K m F' H' σ ρ' s' → Stp m F H σ ρ s F' H' ρ' s' → Q b H'
theorem PO.imp {eo : Option Expr} {t t' : TO} (h : PO X eo t) (w : ∀ σ H Q, t' σ H Q → t σ H Q) : PO X eo t' := ⟨fun pins s σ H Q I q => h.run pins s σ H Q I (w σ H Q q)⟩
def doNone {m : Mem} : DTO m := fun ρ s Q => Q none ρ s
def doSome {m : Mem} (t : DT m) : DTO m := fun ρ s Q => t ρ s fun d ρ1 s1 => ∃ i, d = .int i ∧ Q (some i) ρ1 s1
theorem do_none : PO X none (upO X.K m doNone) := PO.imp po_none fun σ H Q h => by
  obtain ⟨F, ρ, s, Qd, rl, ht, hQ⟩ := h
  exact hQ none ρ s F H ht rl Stp.refl
theorem do_some (he : PE X e (up X.K m ta)) : PO X (some e) (upO X.K m (doSome ta)) := PO.imp (po_some he) fun σ H Q h => by
  obtain ⟨F, ρ, s, Qd, rl, ht, hQ⟩ := h
  refine ⟨F, ρ, s, _, rl, ht, fun d ρ1 s1 x F1 H1 ⟨i, e, q1⟩ r1 st1 rx => ?_⟩
  subst e
  cases rx
  exact ⟨i, rfl, hQ (some i) ρ1 s1 F1 H1 q1 r1 st1⟩
def OpS (K : PySem.W.Frag) (r : V → Option Int → Option Int → Hp → VK → Prop) (f : D → Option Int → Option Int → (D → Prop) → Prop) : Prop := ∀ F H dx x lo hi Qd Q, Same F H → Rep K F dx x → f dx lo hi Qd → (∀ d v F' H', Qd d → Grow F H F' H' → Rep K F' d v → Q v H') → r x lo hi H Q
def dSl {m : Mem} (f : D → Option Int → Option Int → (D → Prop) → Prop) (te : DT m) (tl th : DTO m) : DT m := fun ρ s Q => te ρ s fun x ρ1 s1 => tl ρ1 s1 fun l ρ2 s2 => th ρ2 s2 fun h ρ3 s3 => f x l h fun d => Q d ρ3 s3
theorem de_slice {rs : V → Option Int → Option Int → Hp → VK → Prop} {fs : D → Option Int → Option Int → (D → Prop) → Prop} {lo hi : Option Expr} {tl th : DTO m} {p2 : Pos} (hr : SlR X rs) (hf : OpS X.K rs fs) (he : PE X e (up X.K m ta)) (hl : PO X lo (upO X.K m tl)) (hh : PO X hi (upO X.K m th)) :
    PE X (.Subscript e (.Slice lo hi none p2) pos) (up X.K m (dSl fs ta tl th)) := PE.imp (pe_slice hr he hl hh) fun σ H Q h => by
  obtain ⟨F, ρ, s, Qd, rl, ht, hQ⟩ := h
  refine ⟨F, ρ, s, _, rl, ht, fun dx ρ1 s1 x F1 H1 q1 r1 st1 rx => ⟨F1, ρ1, s1, _, r1, q1, fun l ρ2 s2 F2 H2 q2 r2 st2 => ⟨F2, ρ2, s2, _, r2, q2, fun h ρ3 s3 F3 H3 q3 r3 st3 => ?_⟩⟩⟩
  exact hf F3 H3 dx x l h _ Q r3.sub (Rep.mono (st2.ext.trans st3.ext) _ _ rx) q3 fun d v F4 H4 q4 g rv => hQ d ρ3 s3 v F4 H4 q4 (r3.grow g) ((st1.trans st2).trans (st3.trans g.stp)) rv
/-! ### and, or, not of values by truth -/
def dAndV {m : Mem} (ta tb : DT m) : DT m := fun ρ s Q => ta ρ s fun x ρ1 s1 => ∃ k, tru x = some k ∧ ifB k (tb ρ1 s1 Q) (Q x ρ1 s1)
def dOrV {m : Mem} (ta tb : DT m) : DT m := fun ρ s Q => ta ρ s fun x ρ1 s1 => ∃ k, tru x = some k ∧ ifB k (Q x ρ1 s1) (tb ρ1 s1 Q)
theorem de_one {op} (h : PE X a (up X.K m ta)) : PE X (.BoolOp op [a] pos) (up X.K m ta) := pe_one h
theorem de_and (ha : PE X a (up X.K m ta)) (hb : PE X (.BoolOp .And (b :: rest) pos) (up X.K m tb)) : PE X (.BoolOp .And (a :: b :: rest) pos) (up X.K m (dAndV ta tb)) :=
  PE.imp (pe_andT ha hb) fun σ H Q h => by
    obtain ⟨F, ρ, s, Qd, rl, ht, hQ⟩ := h
    refine ⟨F, ρ, s, _, rl, ht, fun d ρ1 s1 x F1 H1 ⟨k, ek, q1⟩ r1 st1 rx => ⟨k, tru_rep rx r1.sub ek, ?_⟩⟩
    cases k with
    | true =>
      have q1 := ifB_t q1
      exact iteT ⟨F1, ρ1, s1, _, r1, q1, fun d ρ2 s2 v F2 H2 q2 r2 st2 rv => hQ d ρ2 s2 v F2 H2 q2 r2 (st1.trans st2) rv⟩
    | false => exact iteF (hQ d ρ1 s1 x F1 H1 (ifB_f q1) r1 st1 rx)
theorem de_or (ha : PE X a (up X.K m ta)) (hb : PE X (.BoolOp .Or (b :: rest) pos) (up X.K m tb)) : PE X (.BoolOp .Or (a :: b :: rest) pos) (up X.K m (dOrV ta tb)) :=
  PE.imp (pe_orT ha hb) fun σ H Q h => by
    obtain ⟨F, ρ, s, Qd, rl, ht, hQ⟩ := h
    refine ⟨F, ρ, s, _, rl, ht, fun d ρ1 s1 x F1 H1 ⟨k, ek, q1⟩ r1 st1 rx => ⟨k, tru_rep rx r1.sub ek, ?_⟩⟩
    cases k with
    | false => exact iteF ⟨F1, ρ1, s1, _, r1, ifB_f q1, fun d ρ2 s2 v F2 H2 q2 r2 st2 rv => hQ d ρ2 s2 v F2 H2 q2 r2 (st1.trans st2) rv⟩
    | true => exact iteT (hQ d ρ1 s1 x F1 H1 (ifB_t q1) r1 st1 rx)
/-! ### a def's promise over data, its call -/
abbrev DSp (m : Mem) := List D → m.S → (D → m.S → Prop) → Prop
structure CStp (m : Mem) (F H : Hp) (s : m.S) (F' H' : Hp) (s' : m.S) : Prop where
  ext : Same F F'
  keep : ∀ a o, H a = some o → ¬ m.R s a → H' a = some o
  alive : ∀ a, H a ≠ none → H' a ≠ none
  fresh : ∀ a o, F' a = some o → F a = some o ∨ H a = none
  regf : ∀ a, m.R s' a → m.R s a ∨ H a = none
  sub : Same F' H'
  mem : m.M s' H'
  reg : ∀ a, m.R s' a → F' a = none
def lift (K : PySem.W.Frag) (m : Mem) (n : Nat) (sp : DSp m) : Sp := fun vs H Q _ => vs.length = n ∧ ∃ F ds s Qd, Same F H ∧ m.M s H ∧ (∀ a, m.R s a → F a = none) ∧ Reps K F ds vs ∧ sp ds s Qd ∧
  ∀ d s' v F' H', Qd d s' → CStp m F H s F' H' s' → Rep K F' d v → Q v H'
theorem CStp.stp {F H F' H' : Hp} {s s' : m.S} (c : CStp m F H s F' H' s') {σ : L2.St} {ρ : List Sl} : Stp m F H σ ρ s F' H' ρ s' :=
  ⟨c.ext, c.keep, c.alive, fun a o h => (c.fresh a o h).elim .inl fun z => .inr (.inl z), c.regf, fun _ _ h => h⟩
theorem Rel.call {K : PySem.W.Frag} {F H F' H' : Hp} {σ : L2.St} {ρ : List Sl} {s s' : m.S} (r : Rel K m F H σ ρ s) (c : CStp m F H s F' H' s') : Rel K m F' H' σ ρ s' where
  sub := c.sub
  mem := c.mem
  reg := c.reg
  len := r.len
  sh := fun i d e => by
    obtain ⟨v, h1, h2⟩ := r.sh i d e
    exact ⟨v, h1, Rep.mono c.ext _ _ h2⟩
  ow := fun i o e => by
    obtain ⟨p, ho, h1, h2, h3, h4, h5⟩ := r.own_at e
    exact ⟨p, ho, h1, c.keep p ho h2 h5, h3.mono c.ext⟩
  owF := fun i p h => by
    obtain ⟨⟨o, e⟩, hσ⟩ := id h
    obtain ⟨p', ho, h1, h2, h3, h4, h5⟩ := r.own_at e
    rw [hσ] at h1; cases h1
    refine ⟨?_, fun z => ?_⟩
    · cases q : F' p with
      | none => rfl
      | some u =>
        rcases c.fresh p u q with z | z
        · rw [h4] at z; cases z
        · rw [z] at h2; cases h2
    · rcases c.regf p z with z | z
      · exact h5 z
      · rw [z] at h2; cases h2
  uq := r.uq
def dCall {m : Mem} (sp : DSp m) (t : DTA m) : DT m := fun ρ s Q => t ρ s fun ds ρ1 s1 => sp ds s1 fun d s' => Q d ρ1 s'
theorem up_call {K : PySem.W.Frag} {n : Nat} {sp : DSp m} {σ : L2.St} {H : Hp} {Q : VK} {E : XK} (hn : ∀ ds s Qd, sp ds s Qd → ds.length = n) (h : up K m (dCall sp u) σ H Q) : tCall (lift K m n sp) [] E (upA K m u) σ H Q := by
  obtain ⟨F, ρ, s, Qd, rl, ht, hQ⟩ := h
  refine ⟨F, ρ, s, _, rl, ht, fun ds ρ1 s1 vs F1 H1 q1 r1 st1 rs => ?_⟩
  show lift K m n sp (vs ++ []) H1 Q E
  rw [List.append_nil]
  exact ⟨by rw [rs.length]; exact hn _ _ _ q1, F1, ds, s1, _, r1.sub, r1.mem, r1.reg, rs, q1, fun d s' v F2 H2 q2 c rv => hQ d ρ1 s' v F2 H2 q2 (r1.call c) (st1.trans c.stp) rv⟩
theorem de_call {k n : Nat} {fa : Addr} {fd : FuncData} {ps : List Str} {sp : DSp m} (G : FnG X.prog X.w X.K X.mg X.base CX0 k fa fd ps (lift X.K m n sp)) (hn : ∀ ds s Qd, sp ds s Qd → ds.length = n) (hr : RoomG k X.A) (hg : Gl X x) (hm : X.mg x = some (.ref fa)) (hk : PySem.W.keepIn X.K (.ref fa) = true) (hb : Binds X.K fd ps [])
    (ha : PA X (e :: es) (upA X.K m u)) (hdb : (x == ("__debug__" : Str)) = false := by decide) (he : starEach (e :: es) X.env = (false, eval e X.env) :: starEach es X.env := by rfl) (hpl : (backTo pos (starEach es X.env)).any (·.1) = false := by rfl) :
    PE X (.Call (.Name x p) (e :: es) [] pos) (up X.K m (dCall sp u)) := PE.imp (pg_call G hr hg hm hk hb .nil pass0 ha hdb he hpl) fun _ _ _ h => up_call hn h
end
end DL

set_option Elab.async false
set_option linter.all false
set_option maxRecDepth 100000
namespace DL
open PySem PySem.Spec PyProof.Rows L2

/-! ### statements -/
/-- the state at a def's entry -/
structure Ent (m : Mem) where
  F : Hp
  H : Hp
  s : m.S
  W : WX := fun _ _ _ _ => False
/-- what has become of it -/
structure Own (m : Mem) (E : Ent m) (F H : Hp) (σ : L2.St) (ρ : List Sl) (s : m.S) : Prop where
  ext : Same E.F F
  keep : ∀ a o, E.H a = some o → ¬ m.R E.s a → H a = some o
  alive : ∀ a, E.H a ≠ none → H a ≠ none
  fresh : ∀ a o, F a = some o → E.F a = some o ∨ E.H a = none
  regf : ∀ a, m.R s a → m.R E.s a ∨ E.H a = none
  own : ∀ (i : Nat) p, Owns σ ρ i p → E.H p = none
theorem Own.stp {m : Mem} {E : Ent m} {F H F' H' : Hp} {σ : L2.St} {ρ ρ' : List Sl} {s s' : m.S} (o : Own m E F H σ ρ s) (st : Stp m F H σ ρ s F' H' ρ' s') : Own m E F' H' σ ρ' s' where
  ext := o.ext.trans st.ext
  keep := fun a x h n => st.keep a x (o.keep a x h n) fun r => by
    rcases o.regf a r with z | z
    · exact n z
    · rw [z] at h; cases h
  alive := fun a h => st.alive a (o.alive a h)
  fresh := fun a x h => by
    rcases st.fresh a x h with z | z | ⟨i, z⟩
    · exact o.fresh a x z
    · refine .inr ?_
      cases q : E.H a with
      | none => rfl
      | some u => exact absurd z (o.alive a (by rw [q]; simp))
    · exact .inr (o.own i a z)
  regf := fun a h => by
    rcases st.regf a h with z | z
    · exact o.regf a z
    · refine .inr ?_
      cases q : E.H a with
      | none => rfl
      | some u => exact absurd z (o.alive a (by rw [q]; simp))
  own := fun i p h => o.own i p (st.owns h)
structure DEnds (m : Mem) where
  nx : List Sl → m.S → Prop
  rt : D → m.S → Prop
  bk : List Sl → m.S → Prop := fun _ _ => False
  ct : List Sl → m.S → Prop := fun _ _ => False
  ex : Addr → List Str → List D → List Sl → m.S → Prop := fun _ _ _ _ _ => False
abbrev DTS (m : Mem) := DEnds m → List Sl → m.S → Prop
structure Fits (K : PySem.W.Frag) (m : Mem) (E : Ent m) (F0 : Hp) (dd : DEnds m) (DD : Ends) : Prop where
  nx : ∀ F H σ ρ s, Same F0 F → Rel K m F H σ ρ s → Own m E F H σ ρ s → dd.nx ρ s → DD.nx σ H
  rt : ∀ F H σ ρ s d v, Same F0 F → Rel K m F H σ ρ s → Own m E F H σ ρ s → Rep K F d v → dd.rt d s → DD.rt v H
  bk : ∀ F H σ ρ s, Same F0 F → Rel K m F H σ ρ s → Own m E F H σ ρ s → dd.bk ρ s → DD.bk σ H
  ct : ∀ F H σ ρ s, Same F0 F → Rel K m F H σ ρ s → Own m E F H σ ρ s → dd.ct ρ s → DD.ct σ H
  ex : ∀ F H σ ρ s C ns ds dx fs, Same F0 F → Rel K m F H σ ρ s → Own m E F H σ ρ s → H dx = some (.xd fs) → E.H dx = none → F dx = none → ¬ m.R s dx → (∀ i, ¬ Owns σ ρ i dx) → fs.map (·.1) = ns → Reps K F ds (fs.map (·.2)) → dd.ex C ns ds ρ s → E.W (.ref C) (some dx) σ H
theorem Fits.mono {K : PySem.W.Frag} {m : Mem} {E : Ent m} {F0 F1 : Hp} {dd : DEnds m} {DD : Ends} (f : Fits K m E F0 dd DD) (h : Same F0 F1) : Fits K m E F1 dd DD :=
  ⟨fun F H σ ρ s q => f.nx F H σ ρ s (h.trans q), fun F H σ ρ s d v q => f.rt F H σ ρ s d v (h.trans q), fun F H σ ρ s q => f.bk F H σ ρ s (h.trans q), fun F H σ ρ s q => f.ct F H σ ρ s (h.trans q), fun F H σ ρ s C ns ds dx fs q => f.ex F H σ ρ s C ns ds dx fs (h.trans q)⟩
def upS (K : PySem.W.Frag) (m : Mem) (E : Ent m) (t : DTS m) : TS := fun DD σ H => ∃ F ρ s dd, Rel K m F H σ ρ s ∧ Own m E F H σ ρ s ∧ t dd ρ s ∧ Fits K m E F dd DD

section
variable {X : Cx} {m : Mem} {E : Ent m} {st : Stmt} {rest : List Stmt} {t u : DTS m} {e : Expr} {te : DT m} {pos : Pos}
def dNext {m : Mem} : DTS m := fun dd ρ s => dd.nx ρ s
def dSeq {m : Mem} (t u : DTS m) : DTS m := fun dd ρ s => t { dd with nx := u dd } ρ s
theorem dss_nil : PSs X [] (upS X.K m E dNext) := PSs.imp pss_nil fun DD σ H h => by
  obtain ⟨F, ρ, s, dd, r, o, ht, f⟩ := h
  exact f.nx F H σ ρ s (Same.refl F) r o ht
theorem dss_cons (h1 : PS X st (upS X.K m E t)) (h2 : PSs X rest (upS X.K m E u)) : PSs X (st :: rest) (upS X.K m E (dSeq t u)) := PSs.imp (pss_cons h1 h2) fun DD σ H h => by
  obtain ⟨F, ρ, s, dd, r, o, ht, f⟩ := h
  exact ⟨F, ρ, s, _, r, o, ht, ⟨fun F' H' σ' ρ' s' sm r' o' q => ⟨F', ρ', s', dd, r', o', q, f.mono sm⟩, f.rt, f.bk, f.ct, f.ex⟩⟩
theorem dss_one (h1 : PS X st (upS X.K m E t)) : PSs X [st] (upS X.K m E t) := pss_one h1
def dRet {m : Mem} (te : DT m) : DTS m := fun dd ρ s => te ρ s fun d _ s1 => dd.rt d s1
theorem ds_ret (he : PE X e (up X.K m te)) : PS X (.Return (some e) pos) (upS X.K m E (dRet te)) := PS.imp (ps_ret he) fun DD σ H h => by
  obtain ⟨F, ρ, s, dd, r, o, ht, f⟩ := h
  exact ⟨F, ρ, s, _, r, ht, fun d ρ1 s1 v F1 H1 q1 r1 st1 rv => f.rt F1 H1 σ ρ1 s1 d v st1.ext r1 (o.stp st1) rv q1⟩
def dIf {m : Mem} (c : DTT m) (t u : DTS m) : DTS m := fun dd ρ s => c ρ s fun b ρ1 s1 => ifB b (t dd ρ1 s1) (u dd ρ1 s1)
theorem ds_if {c : Expr} {a b : List Stmt} {tc : DTT m} (hc : PT X c (upT X.K m tc)) (ha : PSs X a (upS X.K m E t)) (hb : PSs X b (upS X.K m E u)) : PS X (.If c a b pos) (upS X.K m E (dIf tc t u)) := PS.imp (ps_if hc ha hb) fun DD σ H h => by
  obtain ⟨F, ρ, s, dd, r, o, ht, f⟩ := h
  refine ⟨F, ρ, s, _, r, ht, fun b ρ1 s1 F1 H1 q1 r1 st1 => ?_⟩
  cases b with
  | true =>
    have q1 := ifB_t q1
    exact iteT ⟨F1, ρ1, s1, dd, r1, o.stp st1, q1, f.mono st1.ext⟩
  | false => exact iteF ⟨F1, ρ1, s1, dd, r1, o.stp st1, ifB_f q1, f.mono st1.ext⟩

/-! ### names stored -/
theorem Own.put {K : PySem.W.Frag} {F H : Hp} {σ : L2.St} {ρ : List Sl} {s : m.S} (o : Own m E F H σ ρ s) {i : Nat} {d : D} {v : V} : Own m E F H (σ.set i (some v)) (ρ.set i (.sh d)) s :=
  ⟨o.ext, o.keep, o.alive, o.fresh, o.regf, fun j p ⟨⟨ob, h1⟩, h2⟩ => by
    by_cases hj : i = j
    · subst hj
      by_cases hi : i < ρ.length
      · rw [List.getElem?_set_self hi] at h1; cases h1
      · rw [List.getElem?_eq_none (by simpa using hi)] at h1; cases h1
    · rw [List.getElem?_set_ne hj] at h1 h2; exact o.own j p ⟨⟨ob, h1⟩, h2⟩⟩
def dSet {m : Mem} (i : Nat) (te : DT m) : DTS m := fun dd ρ s => te ρ s fun d ρ1 s1 => dd.nx (ρ1.set i (.sh d)) s1
theorem ds_set (i : Nat) {x : Str} {pos' : Pos} (hN : X.N.Nodup) (he : PE X e (up X.K m te)) (hi : X.N[i]? = some x := by rfl) (hx : Loc X.env.scope x := by first | exact Or.inl rfl | exact Or.inr rfl) (hs : swapsWith e (some (.Name x pos')) pos.line X.env = pure false := by rfl)
    (hf : X.fn x = true ∨ X.env.scope.names.lookup x = some .local := by first | exact .inl rfl | exact .inr rfl) :
    PS X (.Assign [.Name x pos'] e pos) (upS X.K m E (dSet i te)) := PS.imp (ps_set hN hi hx he hs hf) fun DD σ H h => by
  obtain ⟨F, ρ, s, dd, r, o, ht, f⟩ := h
  exact ⟨F, ρ, s, _, r, ht, fun d ρ1 s1 v F1 H1 q1 r1 st1 rv => f.nx F1 H1 _ _ s1 st1.ext (r1.put rv) ((o.stp st1).put (K := X.K)) q1⟩
/-- x = [..], the list to be changed by this def -/
theorem Own.putO {K : PySem.W.Frag} {F H : Hp} {σ : L2.St} {ρ : List Sl} {s : m.S} (r : Rel K m F H σ ρ s) (o : Own m E F H σ ρ s) {i : Nat} {ob : Ob} {p : Addr} {ho : HO} (n : H p = none) : Own m E F (upd H p ho) (σ.set i (some (.ref p))) (ρ.set i (.ow ob)) s := by
  have eH : E.H p = none := by
    cases q : E.H p with
    | none => rfl
    | some u => exact absurd n (o.alive p (by rw [q]; simp))
  refine ⟨o.ext, fun a x h nr => ?_, fun a h => ?_, o.fresh, o.regf, fun j q ⟨⟨ob', h1⟩, h2⟩ => ?_⟩
  · rw [upd_ne (ne_of_none h eH)]; exact o.keep a x h nr
  · have hp : a ≠ p := fun z => h (z ▸ eH)
    rw [upd_ne hp]; exact o.alive a h
  · by_cases hj : i = j
    · subst hj
      have hi : i < σ.length := by
        have := (List.getElem?_eq_some_iff.mp h2).1
        rw [List.length_set] at this; exact this
      rw [List.getElem?_set_self hi] at h2
      cases h2
      exact eH
    · rw [List.getElem?_set_ne hj] at h1 h2; exact o.own j q ⟨⟨ob', h1⟩, h2⟩
def dSetL {m : Mem} (i : Nat) (ta : DTA m) : DTS m := fun dd ρ s => ta ρ s fun ds ρ1 s1 => ds.length ≤ sizeLine ∧ dd.nx (ρ1.set i (.ow (.lst ds))) s1
theorem ds_setL (i : Nat) {x : Str} {es : List Expr} {pos' lpos : Pos} {ta : DTA m} (hN : X.N.Nodup) (ha : PA X es (upA X.K m ta)) (hi : X.N[i]? = some x := by rfl) (hx : Loc X.env.scope x := by first | exact Or.inl rfl | exact Or.inr rfl)
    (hs : swapsWith (.List es lpos) (some (.Name x pos')) pos.line X.env = pure false := by rfl) (hf : X.fn x = true ∨ X.env.scope.names.lookup x = some .local := by first | exact .inl rfl | exact .inr rfl) :
    PS X (.Assign [.Name x pos'] (.List es lpos) pos) (upS X.K m E (dSetL i ta)) := PS.imp (ps_set hN hi hx (pe_lst ha) hs hf) fun DD σ H h => by
  obtain ⟨F, ρ, s, dd, r, o, ht, f⟩ := h
  refine ⟨F, ρ, s, _, r, ht, fun ds ρ1 s1 vs F1 H1 ⟨hl, q1⟩ r1 st1 rs => ⟨by rw [rs.length]; exact hl, fun p np => ?_⟩⟩
  exact f.nx F1 _ _ _ s1 st1.ext (r1.putO (o := .lst ds) np ⟨vs, rfl, by rw [rs.length]; exact hl, rs⟩) (Own.putO r1 (o.stp st1) np) q1
/-- x.append(e), the list x's own -/
def dApp {m : Mem} (i : Nat) (te : DT m) : DTS m := fun dd ρ s => (∃ ds0, ρ[i]? = some (.ow (.lst ds0))) ∧ te ρ s fun d ρ1 s1 => ∃ ds, ρ1[i]? = some (.ow (.lst ds)) ∧ ds.length < sizeLine ∧ dd.nx (ρ1.set i (.ow (.lst (ds ++ [d])))) s1
theorem Own.write {K : PySem.W.Frag} {F H : Hp} {σ : L2.St} {ρ : List Sl} {s : m.S} (o : Own m E F H σ ρ s) {i : Nat} {ob ob' : Ob} {p : Addr} {ho : HO} (e : ρ[i]? = some (.ow ob)) (eσ : σ[i]? = some (some (V.ref p))) : Own m E F (upd H p ho) σ (ρ.set i (.ow ob')) s := by
  have eH : E.H p = none := o.own i p ⟨⟨ob, e⟩, eσ⟩
  refine ⟨o.ext, fun a x h nr => ?_, fun a h => ?_, o.fresh, o.regf, fun j q ⟨⟨u, h1⟩, h2⟩ => ?_⟩
  · rw [upd_ne (ne_of_none h eH)]; exact o.keep a x h nr
  · have hp : a ≠ p := fun z => h (z ▸ eH)
    rw [upd_ne hp]; exact o.alive a h
  · by_cases hj : i = j
    · subst hj; exact o.own i q ⟨⟨ob, e⟩, h2⟩
    · rw [List.getElem?_set_ne hj] at h1; exact o.own j q ⟨⟨u, h1⟩, h2⟩
theorem ds_app (i : Nat) {x : Str} {xpos apos cpos : Pos} (he : PE X e (up X.K m te)) (hN : X.N[i]? = some x := by rfl) (hv : Vis X.env.scope x := by first | exact Or.inl rfl | exact Or.inr (Or.inl rfl) | exact Or.inr (Or.inr rfl))
    (hd : (x == ("__debug__" : Str)) = false := by decide) (hcd : (x == ("__classdict__" : Str)) = false := by decide)
    (hbase : attributeBase (.Name x xpos) "append" X.env (eval (.Name x xpos) X.env) = eval (.Name x xpos) X.env := by rfl)
    (hfew : ((backTo cpos (starEach [e] X.env)).all (fun x => !x.1) && (backToKw cpos (keywordEach [] X.env)).all (fun x => x.1.isSome)
      && decide ([e].length + ([] : List Keyword).length + (if ([] : List Keyword).isEmpty then 0 else 1) < 30)) = true := by rfl)
    (hline : (apos.endLine == cpos.line) = true := by rfl) (hs : starEach [e] X.env = [(false, eval e X.env)] := by rfl)
    (hsw : swapsWith (.Call (.Attribute (.Name x xpos) "append" apos) [e] [] cpos) none pos.line X.env = pure false := by rfl) :
    PS X (.Expr (.Call (.Attribute (.Name x xpos) "append" apos) [e] [] cpos) pos) (upS X.K m E (dApp i te)) :=
  PS.imp (ps_expr (pe_bm PySem.F.plainAttrs_list PySem.F.slot_list_append PySem.F.type_list_append mt_append (pv i hN hv hd hcd) (pa_cons he pa_nil (by rw [hs]; rfl)) hbase hfew hline (by rw [hs]; rfl) rfl) hsw) fun DD σ H h => by
  obtain ⟨F, ρ, s, dd, r, o, ⟨⟨ds0, e0⟩, ht⟩, f⟩ := h
  obtain ⟨p, ho, h1, h2, ⟨vs0, rfl, hl0, rs0⟩, h4, h5⟩ := r.own_at e0
  refine ⟨_, h1, .inl ⟨rfl, vs0, .inl (.inl h2)⟩, F, ρ, s, _, r, ht, fun d ρ1 s1 v F1 H1 ⟨ds, e1, hz, q1⟩ r1 st1 rv => ?_⟩
  obtain ⟨p', ho, g1, g2, ⟨vs, rfl, hl, rs⟩, g4, g5⟩ := r1.own_at e1
  rw [h1] at g1; cases g1
  have hlen := rs.length
  refine ⟨p, vs, v, rfl, rfl, g2, by omega, ?_⟩
  refine f.nx F1 _ σ _ s1 st1.ext (r1.write (o' := .lst (ds ++ [d])) e1 h1 ⟨vs ++ [v], rfl, by rw [List.length_append]; exact (by simp; omega), rs.append (.one rv)⟩) ((o.stp st1).write (K := X.K) e1 h1) q1

/-! ### what a target is bound to -/
abbrev DG := D → List Sl → (List Sl → Prop) → Prop
/-- ts: the slots that the target stores -/
def upG (K : PySem.W.Frag) (m : Mem) (ts : List Nat) (g : DG) : TG := fun v σ H Q => ∃ F ρ s d Qd, Rel K m F H σ ρ s ∧ Rep K F d v ∧ g d ρ Qd ∧
  ∀ σ' ρ', Qd ρ' → Rel K m F H σ' ρ' s → (∀ i p, Owns σ' ρ' i p → Owns σ ρ i p) → (σ'.length = σ.length ∧ ∀ j, j ∉ ts → σ'[j]? = σ[j]?) → Q σ' H
def upGs (K : PySem.W.Frag) (m : Mem) (ts : List Nat) (g : List D → List Sl → (List Sl → Prop) → Prop) : TGs := fun vs σ H Q => ∃ F ρ s ds Qd, Rel K m F H σ ρ s ∧ Reps K F ds vs ∧ g ds ρ Qd ∧
  ∀ σ' ρ', Qd ρ' → Rel K m F H σ' ρ' s → (∀ i p, Owns σ' ρ' i p → Owns σ ρ i p) → (σ'.length = σ.length ∧ ∀ j, j ∉ ts → σ'[j]? = σ[j]?) → Q σ' H
theorem PG.imp {tg : Expr} {g g' : TG} (h : PG X tg g) (w : ∀ v σ H Q, g' v σ H Q → g v σ H Q) : PG X tg g' := ⟨fun pins s σ H v u Q I r q => h.run pins s σ H v u Q I r (w v σ H Q q)⟩
theorem PGs.imp {tg : List Expr} {g g' : TGs} (h : PGs X tg g) (w : ∀ v σ H Q, g' v σ H Q → g v σ H Q) : PGs X tg g' := ⟨fun pins s σ H v u Q I r q => h.run pins s σ H v u Q I r (w v σ H Q q)⟩
def gN (i : Nat) : DG := fun d ρ Q => Q (ρ.set i (.sh d))
theorem owns_put {σ : L2.St} {ρ : List Sl} {i : Nat} {d : D} {v : V} {j : Nat} {q : Addr} (h : Owns (σ.set i (some v)) (ρ.set i (.sh d)) j q) : Owns σ ρ j q := by
  obtain ⟨⟨o', h1⟩, h2⟩ := h
  by_cases hj : i = j
  · subst hj
    by_cases hi : i < ρ.length
    · rw [List.getElem?_set_self hi] at h1; cases h1
    · rw [List.getElem?_eq_none (by simpa using hi)] at h1; cases h1
  · rw [List.getElem?_set_ne hj] at h1 h2; exact ⟨⟨o', h1⟩, h2⟩
theorem dg_name (i : Nat) {x : Str} (hN : X.N.Nodup) (hi : X.N[i]? = some x := by rfl) (hx : Loc X.env.scope x := by first | exact Or.inl rfl | exact Or.inr rfl) (hf : X.fn x = true ∨ X.env.scope.names.lookup x = some .local := by first | exact .inl rfl | exact .inr rfl) :
    PG X (.Name x pos) (upG X.K m [i] (gN i)) := PG.imp (pg_name hN hi hx hf) fun v σ H Q h => by
  obtain ⟨F, ρ, s, d, Qd, r, rv, hg, hQ⟩ := h
  exact hQ _ _ hg (r.put rv) (fun j p h => owns_put h) ⟨by rw [List.length_set], fun j hj => List.getElem?_set_ne (by simpa using Ne.symm (by simpa using hj))⟩
def gNil' : List D → List Sl → (List Sl → Prop) → Prop := fun ds ρ Q => ds = [] ∧ Q ρ
def gCons' (g : DG) (u : List D → List Sl → (List Sl → Prop) → Prop) : List D → List Sl → (List Sl → Prop) → Prop := fun ds ρ Q => ∃ d r, ds = d :: r ∧ g d ρ fun ρ1 => u r ρ1 Q
theorem dgs_nil : PGs X [] (upGs X.K m [] gNil') := PGs.imp pgs_nil fun vs σ H Q h => by
  obtain ⟨F, ρ, s, ds, Qd, r, rv, ⟨hg, hq⟩, hQ⟩ := h
  subst hg
  cases rv
  exact ⟨rfl, hQ σ ρ hq r (fun _ _ h => h) ⟨rfl, fun _ _ => rfl⟩⟩
theorem dgs_cons {es : List Expr} {ts us : List Nat} {g : DG} {u : List D → List Sl → (List Sl → Prop) → Prop} (h1 : PG X e (upG X.K m ts g)) (h2 : PGs X es (upGs X.K m us u)) (hs : (assignEach (e :: es) X.env).map (·.2) = assign e X.env :: (assignEach es X.env).map (·.2) := by rfl) :
    PGs X (e :: es) (upGs X.K m (ts ++ us) (gCons' g u)) := PGs.imp (pgs_cons h1 h2 hs) fun vs σ H Q h => by
  obtain ⟨F, ρ, s, ds, Qd, r, rv, ⟨d, rr, hd, hg⟩, hQ⟩ := h
  subst hd
  obtain ⟨v, vr, rfl, rv1, rv2⟩ := rv
  refine ⟨v, vr, rfl, F, ρ, s, d, _, r, rv1, hg, fun σ1 ρ1 q1 r1 o1 k1 => ⟨F, ρ1, s, rr, _, r1, rv2, q1, fun σ2 ρ2 q2 r2 o2 k2 => ?_⟩⟩
  exact hQ σ2 ρ2 q2 r2 (fun i p h => o1 i p (o2 i p h)) ⟨k2.1.trans k1.1, fun j hj => (k2.2 j fun z => hj (List.mem_append_right _ z)).trans (k1.2 j fun z => hj (List.mem_append_left _ z))⟩
def gTup' (n : Nat) (u : List D → List Sl → (List Sl → Prop) → Prop) : DG := fun d ρ Q => ∃ ds, d = .tup ds ∧ ds.length = n ∧ u ds ρ Q
theorem dg_tup {es : List Expr} {k : Nat} {us : List Nat} {u : List D → List Sl → (List Sl → Prop) → Prop} {n : Nat} (hc : X.calm = true) (h : PGs X es (upGs X.K m us u)) (hn : (assignEach es X.env).length = n := by rfl) (hst : (assignEach es X.env).findIdx? (·.1) = none := by rfl) :
    PG X (.Tuple es k pos) (upG X.K m us (gTup' n u)) := PG.imp (pg_tup hc h hn hst) fun v σ H Q h => by
  obtain ⟨F, ρ, s, d, Qd, r, rv, ⟨ds, hd, hl, hg⟩, hQ⟩ := h
  subst hd
  obtain ⟨a, vs, rfl, hT, _, rs⟩ := rv
  exact ⟨a, vs, rfl, Same.seqT r.sub hT, by rw [rs.length]; exact hl, F, ρ, s, ds, Qd, r, rs, hg, hQ⟩
theorem Own.tgt {F H : Hp} {σ σ' : L2.St} {ρ ρ' : List Sl} {s : m.S} (o : Own m E F H σ ρ s) (h : ∀ i p, Owns σ' ρ' i p → Owns σ ρ i p) : Own m E F H σ' ρ' s := ⟨o.ext, o.keep, o.alive, o.fresh, o.regf, fun i p q => o.own i p (h i p q)⟩
/-- target = e, any target -/
def dAsg {m : Mem} (te : DT m) (g : DG) : DTS m := fun dd ρ s => te ρ s fun d ρ1 s1 => g d ρ1 fun ρ2 => dd.nx ρ2 s1
theorem ds_asg {tg : Expr} {ts : List Nat} {g : DG} (he : PE X e (up X.K m te)) (hg : PG X tg (upG X.K m ts g)) (hs : swapsWithSole [tg] e pos.line X.env = pure false := by rfl) (hw : swappedStores [tg] e X.env = pure none := by rfl)
    (h1 : (assignEach [tg] X.env).map (·.2) = [assign tg X.env] := by rfl) : PS X (.Assign [tg] e pos) (upS X.K m E (dAsg te g)) := PS.imp (ps_asg he hg hs hw h1) fun DD σ H h => by
  obtain ⟨F, ρ, s, dd, r, o, ht, f⟩ := h
  refine ⟨F, ρ, s, _, r, ht, fun d ρ1 s1 v F1 H1 q1 r1 st1 rv => ⟨F1, ρ1, s1, d, _, r1, rv, q1, fun σ2 ρ2 q2 r2 o2 _ => ?_⟩⟩
  exact f.nx F1 H1 σ2 ρ2 s1 st1.ext r2 ((o.stp st1).tgt o2) q2
/-- x op= e -/
def dAug {m : Mem} (i : Nat) (f : D → D → (D → Prop) → Prop) (te : DT m) : DTS m := fun dd ρ s => ∃ x, ρ[i]? = some (.sh x) ∧ te ρ s fun y ρ1 s1 => f x y fun z => dd.nx (ρ1.set i (.sh z)) s1
theorem ds_aug (i : Nat) {x : Str} {op : Operator} {r2 : R2} {f2 : D → D → (D → Prop) → Prop} {pos' : Pos} (hN : X.N.Nodup) (ho : OpR X (inplaceOp op) r2) (hf2 : Op2 X.K r2 f2) (he : PE X e (up X.K m te)) (hi : X.N[i]? = some x := by rfl) (hx : Loc X.env.scope x := by first | exact Or.inl rfl | exact Or.inr rfl)
    (hf : X.fn x = true ∨ X.env.scope.names.lookup x = some .local := by first | exact .inl rfl | exact .inr rfl) : PS X (.AugAssign (.Name x pos') op e pos) (upS X.K m E (dAug i f2 te)) := PS.imp (ps_aug (ti := r2) hN hi hx he (fun pins s σ H x y v u Q I r1 r2 h => ho pins s σ H x y v u Q I r1 r2 h) hf) fun DD σ H h => by
  obtain ⟨F, ρ, s, dd, r, o, ⟨x, ex, ht⟩, f⟩ := h
  obtain ⟨v, h1, rv⟩ := r.sh i x ex
  refine ⟨v, h1, F, ρ, s, _, r, ht, fun y ρ1 s1 w F1 H1 q1 r1 st1 rw' => ?_⟩
  exact hf2 F1 H1 x y v w _ _ r1.sub (Rep.mono st1.ext _ _ rv) rw' q1 fun z u F2 H2 q2 g ru => f.nx F2 H2 _ _ s1 (st1.ext.trans g.fF) ((r1.grow g).put ru) ((o.stp (st1.trans g.stp)).put (K := X.K)) q2

/-! ### loops -/
/-- an iterator over known items: what it hands out is the data, in their order -/
def Walks (K : PySem.W.Frag) (F : Hp) (J : It) (ds : List D) : Prop := ∀ F' H', Same F F' → Same F' H' →
  (∀ i, ds.length ≤ i → J.stop i H') ∧ ∀ i d, ds[i]? = some d → J.go i H' ∧ ∀ x H2, J.yld i H' x H2 → ∃ F2, Grow F' H' F2 H2 ∧ Rep K F2 d x
theorem Walks.mono {K : PySem.W.Frag} {F F1 : Hp} {J : It} {ds : List D} (w : Walks K F J ds) (h : Same F F1) : Walks K F1 J ds := fun F' H' a b => w F' H' (h.trans a) b
abbrev DTI (m : Mem) := List Sl → m.S → (List D → List Sl → m.S → Prop) → Prop
def upI (K : PySem.W.Frag) (m : Mem) (t : DTI m) : TI := fun σ H R => ∃ F ρ s Qd, Rel K m F H σ ρ s ∧ t ρ s Qd ∧ ∀ ds ρ' s' J F' H', Qd ds ρ' s' → Rel K m F' H' σ ρ' s' → Stp m F H σ ρ s F' H' ρ' s' → Walks K F' J ds → R J H'
theorem PI.imp {tg iter : Expr} {t t' : TI} (h : PI X tg iter t) (w : ∀ σ H Q, t' σ H Q → t σ H Q) : PI X tg iter t' := ⟨fun pins s σ H R I q => h.run pins s σ H R I (w σ H R q)⟩
/-- a list or a tuple -/
def seqD : D → Option (List D)
  | .lst ds => some ds
  | .tup ds => some ds
  | .fz ds => some ds
  | _ => none
def diSeq {m : Mem} (te : DT m) : DTI m := fun ρ s Q => te ρ s fun d ρ1 s1 => ∃ ds, seqD d = some ds ∧ Q ds ρ1 s1
theorem walks_list {K : PySem.W.Frag} {F : Hp} {a : Addr} {ds : List D} {vs : List V} (h : SqL K F a vs) (rs : Reps K F ds vs) : Walks K F (Itl K a) ds := fun F' H' s1 s2 => by
  have q : SqL K H' a vs := Same.seq s2 (Same.seq s1 h)
  have hl := rs.length
  refine ⟨fun i hi => ⟨vs, q, by omega⟩, fun i d e => ?_⟩
  obtain ⟨v, ev, rv⟩ := rs.get e
  refine ⟨⟨vs, v, q, ev⟩, fun x H2 y => ?_⟩
  obtain ⟨e1, y⟩ := y
  subst e1
  have e2 := y vs q
  rw [ev] at e2
  cases e2
  exact ⟨F', Grow.refl s2, Rep.mono s1 _ _ rv⟩
theorem walks_tup {K : PySem.W.Frag} {F : Hp} {a : Addr} {ds : List D} {vs : List V} (h : SqT K F a vs) (rs : Reps K F ds vs) : Walks K F (Itt K a) ds := fun F' H' s1 s2 => by
  have q : SqT K H' a vs := Same.seqT s2 (Same.seqT s1 h)
  have hl := rs.length
  refine ⟨fun i hi => ⟨vs, q, by omega⟩, fun i d e => ?_⟩
  obtain ⟨v, ev, rv⟩ := rs.get e
  refine ⟨⟨vs, v, q, ev⟩, fun x H2 y => ?_⟩
  obtain ⟨e1, y⟩ := y
  subst e1
  have e2 := y vs q
  rw [ev] at e2
  cases e2
  exact ⟨F', Grow.refl s2, Rep.mono s1 _ _ rv⟩
theorem pi_seq {tg l : Expr} {tl : TE} (hl : PE X l tl) : PI X tg l (fun σ H R => tl σ H fun x H1 => ∃ a, x = .ref a ∧ (((∃ xs, SqL X.K H1 a xs) ∧ R (Itl X.K a) H1) ∨ ((∃ xs, SqT X.K H1 a xs) ∧ R (Itt X.K a) H1))) := by
  refine ⟨fun pins s σ H R I h => ?_⟩
  refine thn (hl.run pins s σ H _ I h) fun v s1 ⟨x, H1, I1, r1, q1⟩ => ?_
  obtain ⟨a, e, q⟩ := q1
  subst e
  cases r1
  rcases q with ⟨⟨xs, hq⟩, q⟩ | ⟨⟨xs, hq⟩, q⟩
  · obtain ⟨its, rv, p, hz⟩ := I1.list hq
    refine wpAny_pyIter_list p.isList ?_
    refine ⟨s1.heap.objs.size, [s1.heap.objs.size], _, _, H1, rfl, I1.kept (t' := s1.toks) fun b o e => Heap.get?_push_of_some _ e, turn_list a _, ⟨_, Heap.get?_push_size _ rfl, rfl, rfl⟩, fun b hb => ?_, q⟩
    have e : b = s1.heap.objs.size := by simpa using hb
    subst e
    exact I1.fpOk (Nat.le_refl _) (I1.hok.fresh (Nat.le_refl _))
  · obtain ⟨its, rv, p, hz⟩ := I1.tuple hq
    refine wpAny_pyIter_tuple (show s1.heap.IsTuple a its.toArray from p) ?_
    refine ⟨s1.heap.objs.size, [s1.heap.objs.size], _, _, H1, rfl, I1.kept (t' := s1.toks) fun b o e => Heap.get?_push_of_some _ e, turn_tuple a _, ⟨_, Heap.get?_push_size _ rfl, rfl, rfl⟩, fun b hb => ?_, q⟩
    have e : b = s1.heap.objs.size := by simpa using hb
    subst e
    exact I1.fpOk (Nat.le_refl _) (I1.hok.fresh (Nat.le_refl _))
theorem di_seq {tg l : Expr} (hl : PE X l (up X.K m te)) : PI X tg l (upI X.K m (diSeq te)) := PI.imp (pi_seq hl) fun σ H R h => by
  obtain ⟨F, ρ, s, Qd, r, ht, hQ⟩ := h
  refine ⟨F, ρ, s, _, r, ht, fun d ρ1 s1 v F1 H1 ⟨ds, e, q1⟩ r1 st1 rv => ?_⟩
  cases d with
  | lst es =>
    cases e
    obtain ⟨a, vs, rfl, h1, _, rs⟩ := rv
    exact ⟨a, rfl, .inl ⟨⟨vs, .inl (.inl (r1.sub _ _ h1))⟩, hQ _ ρ1 s1 _ F1 H1 q1 r1 st1 (walks_list (.inl (.inl h1)) rs)⟩⟩
  | tup es =>
    cases e
    obtain ⟨a, vs, rfl, h1, _, rs⟩ := rv
    exact ⟨a, rfl, .inr ⟨⟨vs, Same.seqT r1.sub h1⟩, hQ _ ρ1 s1 _ F1 H1 q1 r1 st1 (walks_tup h1 rs)⟩⟩
  | fz es =>
    cases e
    obtain ⟨a, vs, rfl, h1, _, rs⟩ := rv
    exact ⟨a, rfl, .inl ⟨⟨vs, Same.seq r1.sub h1⟩, hQ _ ρ1 s1 _ F1 H1 q1 r1 st1 (walks_list h1 rs)⟩⟩
  | _ => cases e
/-- lo, lo + 1, .. -/
def rngD (lo : Int) (n : Nat) : List D := (List.range n).map fun (i : Nat) => D.int (lo + (i : Int))
theorem rngD_length (lo : Int) (n : Nat) : (rngD lo n).length = n := by simp [rngD]
theorem walks_rng {K : PySem.W.Frag} {F : Hp} (lo : Int) (n : Nat) : Walks K F (Itr lo n) (rngD lo n) := fun F' H' s1 s2 => by
  refine ⟨fun i hi => by rw [rngD_length] at hi; exact hi, fun i d e => ?_⟩
  have hi : i < n := by
    have := (List.getElem?_eq_some_iff.mp e).1
    rw [rngD_length] at this; exact this
  refine ⟨hi, fun x H2 y => ?_⟩
  obtain ⟨e1, e2⟩ := y
  subst e1 e2
  refine ⟨F', Grow.refl s2, ?_⟩
  have e' : d = D.int (lo + (i : Int)) := by
    unfold rngD at e
    rw [List.getElem?_map, List.getElem?_range hi] at e
    exact (Option.some.inj e).symm
  subst e'
  rfl
def diR1 {m : Mem} (ta : DTA m) : DTI m := fun ρ s Q => ta ρ s fun ds ρ1 s1 => ∃ j : Int, ds = [.int j] ∧ -(2 ^ 62) ≤ j ∧ j < 2 ^ 62 ∧ Q (rngD 0 j.toNat) ρ1 s1
theorem di_range1 {tg a : Expr} {ta : DTA m} {p pos : Pos} (hg : Gl X "range") (hm : X.mg "range" = none) (ha : PA X [a] (upA X.K m ta)) (hs : starEach [a] X.env = [(false, eval a X.env)] := by rfl) : PI X tg (.Call (.Name "range" p) [a] [] pos) (upI X.K m (diR1 ta)) :=
  PI.imp (pi_range1 hg hm ha hs) fun σ H R h => by
    obtain ⟨F, ρ, s, Qd, r, ht, hQ⟩ := h
    refine ⟨F, ρ, s, _, r, ht, fun ds ρ1 s1 vs F1 H1 ⟨j, e, h1, h2, q1⟩ r1 st1 rs => ?_⟩
    subst e
    have e2 := reps_ints (ns := [j]) rs
    exact ⟨j, e2, h1, h2, hQ _ ρ1 s1 _ F1 H1 q1 r1 st1 (walks_rng 0 j.toNat)⟩
/-- a text, sign by sign -/
def chD (x : Str) : List D := x.cps.toList.map fun c => D.str ⟨#[c]⟩
def diStr {m : Mem} (te : DT m) : DTI m := fun ρ s Q => te ρ s fun d ρ1 s1 => ∃ x, d = .str x ∧ Q (chD x) ρ1 s1
theorem walks_str {K : PySem.W.Frag} {F : Hp} (x : Str) (hx : ∀ c ∈ x.cps.toList, c < 0x110000) : Walks K F (Its x) (chD x) := fun F' H' s1 s2 => by
  have hl : (chD x).length = x.cps.size := by simp [chD]
  refine ⟨fun i hi => by rw [hl] at hi; exact hi, fun i d e => ?_⟩
  have hi : i < x.cps.size := by
    have := (List.getElem?_eq_some_iff.mp e).1
    rw [hl] at this; exact this
  refine ⟨hi, fun y H2 q => ?_⟩
  obtain ⟨e1, c, e2, e3⟩ := q
  subst e1 e3
  refine ⟨F', Grow.refl s2, ?_⟩
  have e' : d = D.str ⟨#[c]⟩ := by
    unfold chD at e
    rw [List.getElem?_map, Array.getElem?_toList, e2] at e
    exact (Option.some.inj e).symm
  subst e'
  refine ⟨rfl, sOk_of (by show 1 ≤ strLim; decide) fun c' hc' => ?_⟩
  have hc2 : c' = c := by simpa using hc'
  subst hc2
  exact hx c' (by rw [← Array.getElem?_toList] at e2; exact List.mem_of_getElem? e2)
theorem di_str {tg l : Expr} (hl : PE X l (up X.K m te)) : PI X tg l (upI X.K m (diStr te)) := PI.imp (pi_str hl) fun σ H R h => by
  obtain ⟨F, ρ, s, Qd, r, ht, hQ⟩ := h
  refine ⟨F, ρ, s, _, r, ht, fun d ρ1 s1 v F1 H1 ⟨x, e, q1⟩ r1 st1 rv => ?_⟩
  subst e
  obtain ⟨rfl, hx⟩ := rv
  exact ⟨x, rfl, hQ _ ρ1 s1 _ F1 H1 q1 r1 st1 (walks_str x (sOk_cps hx))⟩
/-- for target in a walked thing: I says what holds when some are done -/
def dFor {m : Mem} (src : DTI m) (g : DG) (tb : DTS m) : DTS m := fun dd ρ s => src ρ s fun ds ρ1 s1 => ∃ I : List D → List Sl → m.S → Prop, I [] ρ1 s1 ∧
  (∀ pre x post ρ s, ds = pre ++ x :: post → I pre ρ s → g x ρ fun ρ2 => tb { dd with nx := I (pre ++ [x]), ct := I (pre ++ [x]), bk := dd.nx } ρ2 s) ∧ (∀ ρ s, I ds ρ s → dd.nx ρ s)
theorem for_core {K : PySem.W.Frag} {g : DG} {ts : List Nat} {tb : DTS m} {DD : Ends} {dd : DEnds m} {J : It} {σ : L2.St} {F0 F H : Hp} {ρ : List Sl} {s : m.S} {ds : List D} (r : Rel K m F H σ ρ s) (o : Own m E F H σ ρ s) (f : Fits K m E F0 dd DD) (h0 : Same F0 F) (hJ : Walks K F J ds)
    {I : List D → List Sl → m.S → Prop} (i0 : I [] ρ s) (turn : ∀ pre x post ρ s, ds = pre ++ x :: post → I pre ρ s → g x ρ fun ρ2 => tb { dd with nx := I (pre ++ [x]), ct := I (pre ++ [x]), bk := dd.nx } ρ2 s) (done : ∀ ρ s, I ds ρ s → dd.nx ρ s) :
    ∃ W : Nat → Nat → L2.St → Hp → Prop, (∃ m, W 0 m σ H) ∧ ∀ i n σ H, W i n σ H →
      (J.stop i H ∧ DD.nx σ H) ∨ (J.go i H ∧ ∃ N : L2.St → Hp → Prop, (∀ σ' H', N σ' H' → ∃ m', m' < n ∧ W (i + 1) m' σ' H') ∧ ∀ x H', J.yld i H x H' → upG K m ts g x σ H' fun σ2 H2 => upS K m E tb { DD with nx := N, ct := N, bk := DD.nx } σ2 H2) := by
  refine ⟨fun i n σ H => n = ds.length - i ∧ i ≤ ds.length ∧ ∃ F' ρ' s', Same F F' ∧ Rel K m F' H σ ρ' s' ∧ Own m E F' H σ ρ' s' ∧ I (ds.take i) ρ' s', ⟨ds.length, by simp, Nat.zero_le _, F, ρ, s, Same.refl F, r, o, by simpa using i0⟩, ?_⟩
  rintro i n σ1 H1 ⟨rfl, hi, F1, ρ1, s1, sm, r1, o1, hI⟩
  obtain ⟨hstop, hgo⟩ := hJ F1 H1 sm r1.sub
  by_cases hlt : i < ds.length
  · obtain ⟨h1, h2⟩ := hgo i _ (List.getElem?_eq_getElem hlt)
    refine .inr ⟨h1, fun σ' H' => ∃ F' ρ' s', Same F F' ∧ Rel K m F' H' σ' ρ' s' ∧ Own m E F' H' σ' ρ' s' ∧ I (ds.take (i + 1)) ρ' s', fun σ' H' ⟨F', ρ', s', q1, q2, q3, q4⟩ => ⟨ds.length - (i + 1), by omega, rfl, hlt, F', ρ', s', q1, q2, q3, q4⟩, fun x H' y => ?_⟩
    obtain ⟨F2, g2, rv⟩ := h2 x H' y
    have hsplit : ds = ds.take i ++ ds[i] :: ds.drop (i + 1) := by
      rw [List.getElem_cons_drop, List.take_append_drop]
    have etake : ds.take (i + 1) = ds.take i ++ [ds[i]] := List.take_succ_eq_append_getElem hlt
    have o2 := o1.stp (g2.stp (m := m) (s := s1) (ρ := ρ1) (σ := σ1))
    refine ⟨F2, ρ1, s1, ds[i], _, r1.grow g2, rv, turn _ _ _ _ _ hsplit hI, fun σ2 ρ2 q2 r2 o3 _ => ⟨F2, ρ2, s1, _, r2, o2.tgt o3, q2, ?_⟩⟩
    have fit : ∀ F' H' σ' ρ' s', Same F2 F' → Rel K m F' H' σ' ρ' s' → Own m E F' H' σ' ρ' s' → I (ds.take i ++ [ds[i]]) ρ' s' → ∃ F'' ρ'' s'', Same F F'' ∧ Rel K m F'' H' σ' ρ'' s'' ∧ Own m E F'' H' σ' ρ'' s'' ∧ I (ds.take (i + 1)) ρ'' s'' :=
      fun F' H' σ' ρ' s' a b c d => ⟨F', ρ', s', (sm.trans g2.fF).trans a, b, c, by rw [etake]; exact d⟩
    have f1 := f.mono ((h0.trans sm).trans g2.fF)
    exact ⟨fit, f1.rt, f1.nx, fit, f1.ex⟩
  · have e : i = ds.length := by omega
    subst e
    rw [List.take_length] at hI
    exact .inl ⟨hstop _ (Nat.le_refl _), f.nx F1 H1 σ1 ρ1 s1 (h0.trans sm) r1 o1 (done _ _ hI)⟩
theorem ds_for {tg iter : Expr} {body : List Stmt} {src : DTI m} {g : DG} {ts : List Nat} {tb : DTS m} (hc : X.calm = true) (hi : PI X tg iter (upI X.K m src)) (hg : PG X tg (upG X.K m ts g)) (hb : PSs X body (upS X.K m E tb)) (hp : PassesOwn (model X.prog X.w) X.A X.env X.xe := by exact PassesOwn.never)
    (hs : ∀ x, foldedSetIterable iter X.env x = pure x := by intro _; rfl) : PS X (.For tg iter body [] pos) (upS X.K m E (dFor src g tb)) := PS.imp (ps_for hp hc hi hg hb hs) fun DD σ H h => by
  obtain ⟨F, ρ, s, dd, r, o, ht, f⟩ := h
  exact ⟨F, ρ, s, _, r, ht, fun ds ρ1 s1 J F1 H1 ⟨I, i0, turn, done⟩ r1 st1 w => for_core r1 (o.stp st1) f st1.ext w i0 turn done⟩
/-- while: I by a number that falls -/
def dWhile {m : Mem} (c : DTT m) (tb : DTS m) : DTS m := fun dd ρ s => ∃ I : Nat → List Sl → m.S → Prop, (∃ n, I n ρ s) ∧ ∀ n ρ s, I n ρ s → c ρ s fun b ρ1 s1 => ifB b (tb { dd with nx := fun ρ' s' => ∃ n', n' < n ∧ I n' ρ' s', ct := fun ρ' s' => ∃ n', n' < n ∧ I n' ρ' s', bk := dd.nx } ρ1 s1) (dd.nx ρ1 s1)
theorem ds_while {c : Expr} {body : List Stmt} {tc : DTT m} {tb : DTS m} (hc : PT X c (upT X.K m tc)) (hb : PSs X body (upS X.K m E tb)) (hp : PassesOwn (model X.prog X.w) X.A X.env X.xe := by exact PassesOwn.never) : PS X (.While c body [] pos) (upS X.K m E (dWhile tc tb)) := PS.imp (ps_while hp hc hb) fun DD σ H h => by
  obtain ⟨F, ρ, s, dd, r, o, ⟨I, ⟨n0, i0⟩, turn⟩, f⟩ := h
  refine ⟨fun n σ H => ∃ F' ρ' s', Same F F' ∧ Rel X.K m F' H σ ρ' s' ∧ Own m E F' H σ ρ' s' ∧ I n ρ' s', ⟨n0, F, ρ, s, Same.refl F, r, o, i0⟩, ?_⟩
  rintro n σ1 H1 ⟨F1, ρ1, s1, sm, r1, o1, hI⟩
  refine ⟨F1, ρ1, s1, _, r1, turn n ρ1 s1 hI, fun b ρ2 s2 F2 H2 q2 r2 st2 => ?_⟩
  have f2 := f.mono (sm.trans st2.ext)
  cases b with
  | false => exact f2.nx F2 H2 σ1 ρ2 s2 (Same.refl _) r2 (o1.stp st2) (ifB_f q2)
  | true =>
    have q2 := ifB_t q2
    refine ⟨fun σ' H' => ∃ n', n' < n ∧ ∃ F' ρ' s', Same F F' ∧ Rel X.K m F' H' σ' ρ' s' ∧ Own m E F' H' σ' ρ' s' ∧ I n' ρ' s', fun σ' H' q => q, F2, ρ2, s2, _, r2, o1.stp st2, q2, ?_⟩
    have fit : ∀ F' H' σ' ρ' s', Same F2 F' → Rel X.K m F' H' σ' ρ' s' → Own m E F' H' σ' ρ' s' → (∃ n', n' < n ∧ I n' ρ' s') → ∃ n', n' < n ∧ ∃ F'' ρ'' s'', Same F F'' ∧ Rel X.K m F'' H' σ' ρ'' s'' ∧ Own m E F'' H' σ' ρ'' s'' ∧ I n' ρ'' s'' :=
      fun F' H' σ' ρ' s' a b c ⟨n', h1, h2⟩ => ⟨n', h1, F', ρ', s', (sm.trans st2.ext).trans a, b, c, h2⟩
    exact ⟨fit, f2.rt, f2.nx, fit, f2.ex⟩
end
end DL

set_option Elab.async false
set_option linter.all false
set_option maxRecDepth 100000
namespace DL
open PySem PySem.Spec PyProof.Rows L2

/-! ### comprehensions -/
section
variable {X : Cx} {m : Mem}
/-- from an inner state (the same heaps, other slots) the outer one is carried along -/
theorem Rel.carry {K : PySem.W.Frag} {F H F' H' : Hp} {σ σ2 : L2.St} {ρ ρ2 : List Sl} {s s' : m.S} (r : Rel K m F H σ ρ s) (st : Stp m F H σ2 ρ2 s F' H' ρ2 s') (r2 : Rel K m F' H' σ2 ρ2 s') : Rel K m F' H' σ ρ s' where
  sub := r2.sub
  mem := r2.mem
  reg := r2.reg
  len := r.len
  sh := fun i d e => by
    obtain ⟨v, h1, h2⟩ := r.sh i d e
    exact ⟨v, h1, Rep.mono st.ext _ _ h2⟩
  ow := fun i o e => by
    obtain ⟨p, ho, h1, h2, h3, h4, h5⟩ := r.own_at e
    exact ⟨p, ho, h1, st.keep p ho h2 h5, h3.mono st.ext⟩
  owF := fun i p h => by
    obtain ⟨⟨o, e⟩, hσ⟩ := id h
    obtain ⟨p', ho, h1, h2, h3, h4, h5⟩ := r.own_at e
    rw [hσ] at h1; cases h1
    refine ⟨?_, fun z => ?_⟩
    · cases q : F' p with
      | none => rfl
      | some u =>
        rcases st.fresh p u q with z | z | ⟨j, z⟩
        · rw [h4] at z; cases z
        · rw [z] at h2; cases h2
        · rw [(r2.owF j p z).1] at q; cases q
    · rcases st.regf p z with z | z
      · exact h5 z
      · rw [z] at h2; cases h2
  uq := r.uq
/-- an object that is known to nobody stays so -/
theorem Stp.hid {F H F' H' : Hp} {K : PySem.W.Frag} {σ2 : L2.St} {ρ2 : List Sl} {s s' : m.S} (st : Stp m F H σ2 ρ2 s F' H' ρ2 s') (r2 : Rel K m F' H' σ2 ρ2 s') {p : Addr} {ho : HO} (h : H p = some ho) (n : F p = none) (nr : ¬ m.R s p) : H' p = some ho ∧ F' p = none ∧ ¬ m.R s' p := by
  refine ⟨st.keep p ho h nr, ?_, fun z => ?_⟩
  · cases q : F' p with
    | none => rfl
    | some u =>
      rcases st.fresh p u q with z | z | ⟨j, z⟩
      · rw [n] at z; cases z
      · rw [z] at h; cases h
      · rw [(r2.owF j p z).1] at q; cases q
  · rcases st.regf p z with z | z
    · exact nr z
    · rw [z] at h; cases h
/-- the block's own names forgotten -/
def wipeD (ρ : List Sl) : List Nat → List Sl
  | [] => ρ
  | v :: vs => (wipeD ρ vs).set v .no
theorem wipeD_length (ρ : List Sl) : ∀ vs : List Nat, (wipeD ρ vs).length = ρ.length
  | [] => rfl
  | v :: vs => by unfold wipeD; rw [List.length_set, wipeD_length ρ vs]
theorem wipeD_some {ρ : List Sl} {i : Nat} {x : Sl} (hx : x ≠ .no) : ∀ {vs : List Nat}, (wipeD ρ vs)[i]? = some x → ρ[i]? = some x ∧ i ∉ vs
  | [], h => ⟨h, by simp⟩
  | v :: vs, h => by
    unfold wipeD at h
    by_cases hi : v = i
    · subst hi
      by_cases hv : v < (wipeD ρ vs).length
      · rw [List.getElem?_set_self hv] at h
        exact absurd (Option.some.inj h).symm hx
      · rw [List.getElem?_eq_none (by simpa using hv)] at h; cases h
    · rw [List.getElem?_set_ne hi] at h
      obtain ⟨h1, h2⟩ := wipeD_some hx h
      exact ⟨h1, by simp only [List.mem_cons, not_or]; exact ⟨fun e => hi e.symm, h2⟩⟩
theorem wipe_get {σ : L2.St} {i : Nat} : ∀ {vs : List Nat}, i ∉ vs → (wipe σ vs)[i]? = σ[i]?
  | [], _ => rfl
  | v :: vs, h => by
    have h1 : v ≠ i := fun e => h (by rw [e]; exact List.mem_cons_self)
    have h2 : i ∉ vs := fun m => h (List.mem_cons_of_mem _ m)
    unfold wipe
    rw [List.getElem?_set_ne h1]
    exact wipe_get h2
theorem wipe_in {σ : L2.St} {i : Nat} : ∀ {vs : List Nat}, i ∈ vs → i < σ.length → (wipe σ vs)[i]? = some none
  | [], h, _ => by cases h
  | v :: vs, h, hi => by
    unfold wipe
    by_cases e : v = i
    · subst e
      exact List.getElem?_set_self (by rw [wipe_length]; exact hi)
    · rw [List.getElem?_set_ne e]
      exact wipe_in ((List.mem_cons.mp h).resolve_left (Ne.symm e)) hi
theorem wipe_eq {σ σ' : L2.St} {vs ts : List Nat} (hl : σ'.length = σ.length) (h : ∀ j, j ∉ ts → σ'[j]? = σ[j]?) (hs : ∀ j ∈ ts, j ∈ vs) : wipe σ' vs = wipe σ vs := by
  refine List.ext_getElem? fun i => ?_
  by_cases hi : i ∈ vs
  · by_cases hlt : i < σ.length
    · rw [wipe_in hi (by omega), wipe_in hi hlt]
    · rw [List.getElem?_eq_none (by rw [wipe_length]; omega), List.getElem?_eq_none (by rw [wipe_length]; omega)]
  · rw [wipe_get hi, wipe_get hi]
    exact h i fun z => hi (hs i z)
theorem Rel.wipe {K : PySem.W.Frag} {F H : Hp} {σ : L2.St} {ρ : List Sl} {s : m.S} (r : Rel K m F H σ ρ s) (vs : List Nat) : Rel K m F H (L2.wipe σ vs) (wipeD ρ vs) s := by
  have back : ∀ i p, Owns (L2.wipe σ vs) (wipeD ρ vs) i p → Owns σ ρ i p := fun i p ⟨⟨o, h1⟩, h2⟩ => by
    obtain ⟨e1, n⟩ := wipeD_some (by intro z; cases z) h1
    rw [wipe_get n] at h2
    exact ⟨⟨o, e1⟩, h2⟩
  refine ⟨r.sub, r.mem, r.reg, by rw [wipe_length, wipeD_length]; exact r.len, fun i d e => ?_, fun i o e => ?_, fun i p h => r.owF i p (back i p h), fun i j p h1 h2 => r.uq i j p (back i p h1) (back j p h2)⟩
  · obtain ⟨e1, n⟩ := wipeD_some (by intro z; cases z) e
    obtain ⟨v, h1, h2⟩ := r.sh i d e1
    exact ⟨v, by rw [wipe_get n]; exact h1, h2⟩
  · obtain ⟨e1, n⟩ := wipeD_some (by intro z; cases z) e
    obtain ⟨p, ho, h1, h2, h3⟩ := r.ow i o e1
    exact ⟨p, ho, by rw [wipe_get n]; exact h1, h2, h3⟩

theorem wipe_wipe {σ : L2.St} {vs : List Nat} : wipe (wipe σ vs) vs = wipe σ vs := by
  refine List.ext_getElem? fun i => ?_
  by_cases hi : i ∈ vs
  · by_cases hlt : i < σ.length
    · rw [wipe_in hi (by rw [wipe_length]; exact hlt), wipe_in hi hlt]
    · rw [List.getElem?_eq_none (by rw [wipe_length, wipe_length]; omega), List.getElem?_eq_none (by rw [wipe_length]; omega)]
  · rw [wipe_get hi]
/-- an inner step is one for the outer slots, too -/
theorem Stp.outer {K : PySem.W.Frag} {F H F' H' : Hp} {σ σ2 : L2.St} {ρ ρ2 : List Sl} {s s' : m.S} (st : Stp m F H σ2 ρ2 s F' H' ρ2 s') (r2 : Rel K m F' H' σ2 ρ2 s') : Stp m F H σ ρ s F' H' ρ s' :=
  ⟨st.ext, st.keep, st.alive, fun a o h => by
    rcases st.fresh a o h with z | z | ⟨j, z⟩
    · exact .inl z
    · exact .inr (.inl z)
    · have z' := (r2.owF j a z).1
      rw [h] at z'
      exact absurd z' (by simp), st.regf, fun _ _ h => h⟩
/-- a hidden object is written -/
theorem Rel.hidW {K : PySem.W.Frag} {F H : Hp} {σ : L2.St} {ρ : List Sl} {s : m.S} (r : Rel K m F H σ ρ s) {p : Addr} {ho : HO} (n : F p = none) (nr : ¬ m.R s p) (no : ∀ i, ¬ Owns σ ρ i p) : Rel K m F (upd H p ho) σ ρ s := by
  refine ⟨fun b x e => ?_, m.loc s H _ r.mem fun a ha => upd_ne fun z => nr (z ▸ ha), r.reg, r.len, r.sh, fun i o e => ?_, r.owF, r.uq⟩
  · rw [upd_ne (ne_of_none e n)]; exact r.sub _ _ e
  · obtain ⟨q, ho', h1, h2, h3⟩ := r.ow i o e
    have hq : q ≠ p := fun z => no i (z ▸ ⟨⟨o, e⟩, h1⟩)
    exact ⟨q, ho', h1, by rw [upd_ne hq]; exact h2, h3⟩
theorem Stp.hidW {F H F' H' : Hp} {σ : L2.St} {ρ ρ' : List Sl} {s s' : m.S} (st : Stp m F H σ ρ s F' H' ρ' s') {p : Addr} {ho : HO} (n : H p = none) : Stp m F H σ ρ s F' (upd H' p ho) ρ' s' :=
  ⟨st.ext, fun a o h nr => by rw [upd_ne (ne_of_none h n)]; exact st.keep a o h nr, fun a h => by
    by_cases e : a = p
    · subst e; rw [upd_same]; simp
    · rw [upd_ne e]; exact st.alive a h, st.fresh, st.regf, st.shr⟩

abbrev dYes {m : Mem} : DTT m := fun ρ s Q => Q true ρ s
theorem PTs.imp {ifs : List Expr} {t t' : TT} (h : PTs X ifs t) (w : ∀ σ H Q, t' σ H Q → t σ H Q) : PTs X ifs t' := ⟨fun pins s σ H Q I q => h.run pins s σ H Q I (w σ H Q q)⟩
theorem dts_nil : PTs X [] (upT X.K m dYes) := PTs.imp pts_nil fun σ H Q h => by
  obtain ⟨F, ρ, s, Qd, r, ht, hQ⟩ := h
  exact hQ true ρ s F H ht r Stp.refl
theorem dts_one {c : Expr} {t : DTT m} (h : PT X c (upT X.K m t)) : PTs X [c] (upT X.K m t) := pts_one h
/-- [e for target in source if test], the source's items known: I says what list has been made of those that are done -/
def lcK {m : Mem} (g : DG) (tt : DTT m) (te : DT m) (vs : List Nat) (Q : DK m) : List D → List Sl → m.S → Prop := fun ds ρ1 s1 => ds.length ≤ sizeLine ∧ ∃ I : List D → List D → m.S → Prop, I [] [] s1 ∧
  (∀ pre x post acc s, ds = pre ++ x :: post → acc.length ≤ pre.length → I pre acc s → g x (wipeD ρ1 vs) fun ρ2 => tt ρ2 s fun b ρ3 s3 => ρ3 = ρ2 ∧ ifB b (te ρ2 s3 fun y ρ4 s4 => ρ4 = ρ2 ∧ I (pre ++ [x]) (acc ++ [y]) s4) (I (pre ++ [x]) acc s3)) ∧
  (∀ acc s, acc.length ≤ ds.length → I ds acc s → Q (.lst acc) ρ1 s)
/-- [e for target in source if test] -/
def dLc {m : Mem} (src : DTI m) (g : DG) (tt : DTT m) (te : DT m) (vs : List Nat) : DT m := fun ρ s Q => src ρ s (lcK g tt te vs Q)
theorem up_lc {K : PySem.W.Frag} {src : DTI m} {g : DG} {tt : DTT m} {te : DT m} {vs ts : List Nat} (hts : ∀ j ∈ ts, j ∈ vs) {σ : L2.St} {H : Hp} {Q : VK} {Qd : DK m} {F : Hp} {ρ : List Sl} {s : m.S} (r : Rel K m F H σ ρ s) (ht : dLc src g tt te vs ρ s Qd)
    (hQ : ∀ ds ρ' s' p ws F' H', Qd (.lst ds) ρ' s' → Rel K m F' H' σ ρ' s' → Stp m F H σ ρ s F' H' ρ' s' → H' p = some (.lst ws) → F' p = none → ¬ m.R s' p → (∀ i, ¬ Owns σ ρ' i p) → H p = none → ws.length ≤ sizeLine → Reps K F' ds ws → Q (.ref p) H') :
    tLc (upI K m src) (upG K m ts g) (upT K m tt) (up K m te) vs σ H Q := by
  refine ⟨F, ρ, s, _, r, ht, fun ds ρ1 s1 J F1 H1 ⟨hz, I, i0, turn, done⟩ r1 st1 w D nD => ?_⟩
  have nF : F1 D = none := r1.sub.free nD
  have nR : ¬ m.R s1 D := fun z => m.there s1 H1 D r1.mem z nD
  have nO : ∀ i, ¬ Owns σ ρ1 i D := fun i ⟨⟨o, e⟩, hσ⟩ => by
    obtain ⟨p, ho, h1, h2, _⟩ := r1.own_at e
    rw [hσ] at h1; cases h1
    rw [nD] at h2; cases h2
  have nD0 : H D = none := by
    cases q : H D with
    | none => rfl
    | some u => exact absurd nD (st1.alive D (by rw [q]; simp))
  -- the start: the new list at D
  have r0 : Rel K m F1 (upd H1 D (.lst [])) σ ρ1 s1 := by
    refine ⟨fun b x e => ?_, m.loc s1 H1 _ r1.mem fun a ha => upd_ne fun z => nR (z ▸ ha), r1.reg, r1.len, r1.sh, fun i o e => ?_, r1.owF, r1.uq⟩
    · rw [upd_ne (ne_of_none e nF)]; exact r1.sub _ _ e
    · obtain ⟨p, ho, h1, h2, h3⟩ := r1.ow i o e
      exact ⟨p, ho, h1, by rw [upd_ne (ne_of_none h2 nD)]; exact h2, h3⟩
  have st0 : Stp m F H σ ρ s F1 (upd H1 D (.lst [])) ρ1 s1 :=
    ⟨st1.ext, fun a o h n => by rw [upd_ne (ne_of_none h nD0)]; exact st1.keep a o h n, fun a h => by
      by_cases e : a = D
      · subst e; rw [upd_same]; simp
      · rw [upd_ne e]; exact st1.alive a h, st1.fresh, st1.regf, st1.shr⟩
  refine ⟨fun i n H2 => n = ds.length - i ∧ i ≤ ds.length ∧ ∃ F2 s2 acc ws, Rel K m F2 H2 σ ρ1 s2 ∧ Stp m F H σ ρ s F2 H2 ρ1 s2 ∧ Same F1 F2 ∧ H2 D = some (.lst ws) ∧ F2 D = none ∧ ¬ m.R s2 D ∧ Reps K F2 acc ws ∧ acc.length ≤ i ∧ I (ds.take i) acc s2,
    ⟨ds.length, by simp, Nat.zero_le _, F1, s1, [], [], r0, st0, Same.refl _, upd_same, nF, nR, .nil, Nat.le_refl _, by simpa using i0⟩, ?_⟩
  rintro i n H2 ⟨rfl, hi, F2, s2, acc, ws, r2, st2, sm, hD, nF2, nR2, rs, hacc, hI⟩
  obtain ⟨hstop, hgo⟩ := w F2 H2 sm r2.sub
  by_cases hlt : i < ds.length
  · obtain ⟨h1, h2⟩ := hgo i _ (List.getElem?_eq_getElem hlt)
    have hsplit : ds = ds.take i ++ ds[i] :: ds.drop (i + 1) := by
      rw [List.getElem_cons_drop, List.take_append_drop]
    have etake : ds.take (i + 1) = ds.take i ++ [ds[i]] := List.take_succ_eq_append_getElem hlt
    refine .inr ⟨h1, fun H' => ∃ F' s' acc' ws', Rel K m F' H' σ ρ1 s' ∧ Stp m F H σ ρ s F' H' ρ1 s' ∧ Same F1 F' ∧ H' D = some (.lst ws') ∧ F' D = none ∧ ¬ m.R s' D ∧ Reps K F' acc' ws' ∧ acc'.length ≤ i + 1 ∧ I (ds.take (i + 1)) acc' s',
      fun H' ⟨F', s', acc', ws', q⟩ => ⟨ds.length - (i + 1), by omega, rfl, hlt, F', s', acc', ws', q⟩, fun x H3 y => ?_⟩
    obtain ⟨F3, g3, rv⟩ := h2 x H3 y
    have r3 := r2.grow g3
    have hD3 : H3 D = some (.lst ws) := g3.hH _ _ hD
    have nF3 : F3 D = none := by
      cases q : F3 D with
      | none => rfl
      | some u =>
        rcases g3.fresh D u q with z | z
        · rw [nF2] at z; cases z
        · rw [z] at hD; cases hD
    have st3 := st2.trans (g3.stp (m := m) (s := s2) (ρ := ρ1) (σ := σ))
    have htk : (ds.take i).length = i := by rw [List.length_take]; omega
    refine ⟨F3, wipeD ρ1 vs, s2, ds[i], _, r3.wipe vs, rv, turn _ _ _ acc _ hsplit (by omega) hI, fun σ2 ρ2 q2 r4 o4 k4 => ⟨(wipe_eq k4.1 k4.2 hts).trans wipe_wipe, ?_⟩⟩
    refine ⟨F3, ρ2, s2, _, r4, q2, fun b ρ3 s3 F4 H4 ⟨e, q3⟩ r5 st5 => ?_⟩
    subst e
    obtain ⟨hD4, nF4, nR4⟩ := st5.hid r5 hD3 nF3 nR2
    have r6 := r3.carry st5 r5
    have st6 := st3.trans (st5.outer (σ := σ) (ρ := ρ1) r5)
    have sm4 : Same F1 F4 := (sm.trans g3.fF).trans st5.ext
    have rs4 := Reps.mono (g3.fF.trans st5.ext) _ _ rs
    have hlw := rs.length
    cases b with
    | false =>
      have q3 := ifB_f q3
      exact iteF ⟨F4, s3, acc, ws, r6, st6, sm4, hD4, nF4, nR4, rs4, by omega, by rw [etake]; exact q3⟩
    | true =>
      have q3 := ifB_t q3
      refine iteT ⟨F4, ρ3, s3, _, r5, q3, fun y ρ4 s4 v F5 H5 ⟨e, q4⟩ r7 st7 rvy => ?_⟩
      subst e
      obtain ⟨hD5, nF5, nR5⟩ := st7.hid r7 hD4 nF4 nR4
      have r8 := r6.carry st7 r7
      have st8 := st6.trans (st7.outer (σ := σ) (ρ := ρ1) r7)
      refine ⟨ws, hD5, by omega, F5, s4, acc ++ [y], ws ++ [v], r8.hidW nF5 nR5 nO, st8.hidW nD0, sm4.trans st7.ext, upd_same, nF5, nR5, (Reps.mono st7.ext _ _ rs4).append (.one rvy), by rw [List.length_append]; simp; omega, by rw [etake]; exact q4⟩
  · have e : i = ds.length := by omega
    subst e
    rw [List.take_length] at hI
    exact .inl ⟨hstop _ (Nat.le_refl _), hQ acc ρ1 s2 D ws F2 H2 (done acc s2 (by omega) hI) r2 st2 hD nF2 nR2 nO nD0 (by rw [rs.length]; omega) rs⟩
theorem de_lc {elt tg iter : Expr} {ifs : List Expr} {scope : Scope} {own : List (Str × Nat)} {pos : Pos} {src : DTI m} {g : DG} {ts : List Nat} {tt : DTT m} {te : DT m} (hN : X.N.Nodup) (hi : PI X tg iter (upI X.K m src)) (ok : BlkOk X.N X.env.scope scope own)
    (hg : ∀ (s : Shared) (H : Hp) (C : Addr) (cl : List (Str × Addr)) (fp : List Addr), PG (X.blk s H scope (compEnvC scope cl C X.env) fp) tg (upG X.K m ts g)) (ht : ∀ (s : Shared) (H : Hp) (C : Addr) (cl : List (Str × Addr)) (fp : List Addr), PTs (X.blk s H scope (compEnvC scope cl C X.env) fp) ifs (upT X.K m tt))
    (he : ∀ (s : Shared) (H : Hp) (C : Addr) (cl : List (Str × Addr)) (fp : List Addr), PE (X.blk s H scope (compEnvC scope cl C X.env) fp) elt (up X.K m te)) (hts : ∀ j ∈ ts, j ∈ own.map (·.2) := by decide) (hc : X.calm = true := by rfl) (hs : ∀ x, foldedSetIterable iter X.env x = pure x := by intro _; rfl) :
    PE X (.ListComp elt [⟨tg, iter, ifs, 0⟩] scope pos) (up X.K m (dLc src g tt te (own.map (·.2)))) := PE.imp (pe_lc hc hN hi ok hg ht he hs) fun σ H Q h => by
  obtain ⟨F, ρ, s, Qd, r, h, hQ⟩ := h
  refine up_lc hts r h fun ds ρ' s' p ws F' H' q r' st hp nF nR nO nH hz rs => ?_
  have sm : Same F' (upd F' p (.lst ws)) := same_upd nF
  refine hQ _ ρ' s' _ (upd F' p (.lst ws)) H' q (r'.adopt hp nF nR nO) ⟨st.ext.trans sm, st.keep, st.alive, fun a o e => ?_, st.regf, st.shr⟩ ⟨p, ws, rfl, upd_same, hz, Reps.mono sm _ _ rs⟩
  by_cases ha : a = p
  · subst ha; exact .inr (.inl nH)
  · rw [upd_ne ha] at e; exact st.fresh a o e
variable {E : Ent m}
/-- y = [..] -/
theorem ds_setLc (i : Nat) {y : Str} {py : Pos} {elt tg iter : Expr} {ifs : List Expr} {scope : Scope} {own : List (Str × Nat)} {pos spos : Pos} {src : DTI m} {g : DG} {ts : List Nat} {tt : DTT m} {te : DT m} (hN : X.N.Nodup) (hi : PI X tg iter (upI X.K m src)) (ok : BlkOk X.N X.env.scope scope own)
    (hg : ∀ (s : Shared) (H : Hp) (C : Addr) (cl : List (Str × Addr)) (fp : List Addr), PG (X.blk s H scope (compEnvC scope cl C X.env) fp) tg (upG X.K m ts g)) (ht : ∀ (s : Shared) (H : Hp) (C : Addr) (cl : List (Str × Addr)) (fp : List Addr), PTs (X.blk s H scope (compEnvC scope cl C X.env) fp) ifs (upT X.K m tt))
    (he : ∀ (s : Shared) (H : Hp) (C : Addr) (cl : List (Str × Addr)) (fp : List Addr), PE (X.blk s H scope (compEnvC scope cl C X.env) fp) elt (up X.K m te)) (hy : X.N[i]? = some y := by rfl) (hyl : X.env.scope.names.lookup y = some .local := by rfl)
    (hsw : swapsWith (.ListComp elt [⟨tg, iter, ifs, 0⟩] scope pos) (some (.Name y py)) spos.line X.env = pure true := by exact sw_true rfl rfl rfl (by decide +kernel)) (hts : ∀ j ∈ ts, j ∈ own.map (·.2) := by decide) (hc : X.calm = true := by rfl) (hs : ∀ x, foldedSetIterable iter X.env x = pure x := by intro _; rfl) :
    PS X (.Assign [.Name y py] (.ListComp elt [⟨tg, iter, ifs, 0⟩] scope pos) spos) (upS X.K m E (dSet i (dLc src g tt te (own.map (·.2))))) := PS.imp (ps_setLc hc hN hy hyl hsw hi ok hg ht he hs) fun DD σ H h => by
  obtain ⟨F, ρ, s, dd, r, o, h, f⟩ := h
  refine up_lc hts r h fun ds ρ' s' p ws F' H' q r' st hp nF nR nO nH hz rs => ?_
  have sm : Same F' (upd F' p (.lst ws)) := same_upd nF
  have st' : Stp m F H σ ρ s (upd F' p (.lst ws)) H' ρ' s' := ⟨st.ext.trans sm, st.keep, st.alive, fun a o e => by
    by_cases ha : a = p
    · subst ha; exact .inr (.inl nH)
    · rw [upd_ne ha] at e; exact st.fresh a o e, st.regf, st.shr⟩
  exact f.nx _ H' _ _ s' st'.ext ((r'.adopt hp nF nR nO).put (d := .lst ds) ⟨p, ws, rfl, upd_same, hz, Reps.mono sm _ _ rs⟩) ((o.stp st').put (K := X.K)) q
/-- .. a list that this def will change -/
def dSetLcO {m : Mem} (i : Nat) (src : DTI m) (g : DG) (tt : DTT m) (te : DT m) (vs : List Nat) : DTS m := fun dd ρ s => dLc src g tt te vs ρ s fun d ρ1 s1 => ∃ ds, d = .lst ds ∧ dd.nx (ρ1.set i (.ow (.lst ds))) s1
theorem ds_setLcO (i : Nat) {y : Str} {py : Pos} {elt tg iter : Expr} {ifs : List Expr} {scope : Scope} {own : List (Str × Nat)} {pos spos : Pos} {src : DTI m} {g : DG} {ts : List Nat} {tt : DTT m} {te : DT m} (hN : X.N.Nodup) (hi : PI X tg iter (upI X.K m src)) (ok : BlkOk X.N X.env.scope scope own)
    (hg : ∀ (s : Shared) (H : Hp) (C : Addr) (cl : List (Str × Addr)) (fp : List Addr), PG (X.blk s H scope (compEnvC scope cl C X.env) fp) tg (upG X.K m ts g)) (ht : ∀ (s : Shared) (H : Hp) (C : Addr) (cl : List (Str × Addr)) (fp : List Addr), PTs (X.blk s H scope (compEnvC scope cl C X.env) fp) ifs (upT X.K m tt))
    (he : ∀ (s : Shared) (H : Hp) (C : Addr) (cl : List (Str × Addr)) (fp : List Addr), PE (X.blk s H scope (compEnvC scope cl C X.env) fp) elt (up X.K m te)) (hy : X.N[i]? = some y := by rfl) (hyl : X.env.scope.names.lookup y = some .local := by rfl)
    (hsw : swapsWith (.ListComp elt [⟨tg, iter, ifs, 0⟩] scope pos) (some (.Name y py)) spos.line X.env = pure true := by exact sw_true rfl rfl rfl (by decide +kernel)) (hts : ∀ j ∈ ts, j ∈ own.map (·.2) := by decide) (hc : X.calm = true := by rfl) (hs : ∀ x, foldedSetIterable iter X.env x = pure x := by intro _; rfl) :
    PS X (.Assign [.Name y py] (.ListComp elt [⟨tg, iter, ifs, 0⟩] scope pos) spos) (upS X.K m E (dSetLcO i src g tt te (own.map (·.2)))) := PS.imp (ps_setLc hc hN hy hyl hsw hi ok hg ht he hs) fun DD σ H h => by
  obtain ⟨F, ρ, s, dd, r, o, h, f⟩ := h
  refine up_lc hts r h fun ds ρ' s' p ws F' H' ⟨es, e, q⟩ r' st hp nF nR nO nH hz rs => ?_
  cases e
  have o' := o.stp st
  have eH : E.H p = none := by
    cases q : E.H p with
    | none => rfl
    | some u => exact absurd nH (o.alive p (by rw [q]; simp))
  have other : ∀ (j : Nat) q, i ≠ j → Owns (σ.set i (some (.ref p))) (ρ'.set i (.ow (.lst ds))) j q → Owns σ ρ' j q := fun j q hj ⟨⟨o', h1⟩, h2⟩ => by
    rw [List.getElem?_set_ne hj] at h1 h2; exact ⟨⟨o', h1⟩, h2⟩
  have self : ∀ q, Owns (σ.set i (some (.ref p))) (ρ'.set i (.ow (.lst ds))) i q → q = p := fun q ⟨⟨o', h1⟩, h2⟩ => by
    have hi : i < σ.length := by
      have := (List.getElem?_eq_some_iff.mp h2).1
      rw [List.length_set] at this; exact this
    rw [List.getElem?_set_self hi] at h2
    cases h2; rfl
  refine f.nx F' H' _ _ s' st.ext ⟨r'.sub, r'.mem, r'.reg, by rw [List.length_set, List.length_set]; exact r'.len, fun j d' z => ?_, fun j o' z => ?_, fun j q z => ?_, fun j k q h1 h2 => ?_⟩ ⟨o'.ext, o'.keep, o'.alive, o'.fresh, o'.regf, fun j q z => ?_⟩ q
  · by_cases hj : i = j
    · subst hj
      have hi : i < ρ'.length := by
        have := (List.getElem?_eq_some_iff.mp z).1
        rw [List.length_set] at this; exact this
      rw [List.getElem?_set_self hi] at z
      cases z
    · rw [List.getElem?_set_ne hj] at z
      obtain ⟨w, h1, h2⟩ := r'.sh j d' z
      exact ⟨w, by rw [List.getElem?_set_ne hj]; exact h1, h2⟩
  · by_cases hj : i = j
    · subst hj
      have hi : i < ρ'.length := by
        have := (List.getElem?_eq_some_iff.mp z).1
        rw [List.length_set] at this; exact this
      rw [List.getElem?_set_self hi] at z
      cases z
      exact ⟨p, _, List.getElem?_set_self (by rw [r'.len]; exact hi), hp, ws, rfl, hz, rs⟩
    · rw [List.getElem?_set_ne hj] at z
      obtain ⟨q, ho', h1, h2, h3⟩ := r'.ow j o' z
      exact ⟨q, ho', by rw [List.getElem?_set_ne hj]; exact h1, h2, h3⟩
  · by_cases hj : i = j
    · subst hj
      rw [self q z]; exact ⟨nF, nR⟩
    · exact r'.owF j q (other j q hj z)
  · by_cases hj : i = j
    · subst hj
      by_cases hk : i = k
      · exact hk
      · exact absurd ((self q h1) ▸ other k q hk h2) (nO k)
    · by_cases hk : i = k
      · subst hk
        exact absurd ((self q h2) ▸ other j q hj h1) (nO j)
      · exact r'.uq j k q (other j q hj h1) (other k q hk h2)
  · by_cases hj : i = j
    · subst hj
      rw [self q z]; exact eH
    · exact o'.own j q (other j q hj z)
end

/-! ### a def -/
/-- the slots at a def's entry -/
def startD (N : List Str) (ds : List D) : List Sl := ds.map .sh ++ List.replicate (N.length - ds.length) .no
section
variable {P : Program} {w : World} {K : PySem.W.Frag} {mg : Str → Option Value} {base : Heap} {m : Mem}
theorem rel_start {F H : Hp} {s : m.S} {N : List Str} {ds : List D} {vs : List V} (sub : Same F H) (hm : m.M s H) (hr : ∀ a, m.R s a → F a = none) (rs : Reps K F ds vs) : Rel K m F H (L2.start N vs) (startD N ds) s := by
  have hl := rs.length
  have no : ∀ (i : Nat) o, (startD N ds)[i]? ≠ some (Sl.ow o) := fun i o e => by
    unfold startD at e
    by_cases hi : i < ds.length
    · rw [List.getElem?_append_left (by simpa using hi), List.getElem?_map, List.getElem?_eq_getElem hi] at e; cases e
    · rw [List.getElem?_append_right (by simpa using hi), List.getElem?_replicate] at e
      split at e <;> cases e
  refine ⟨sub, hm, hr, by unfold L2.start startD; simp [hl], fun i d e => ?_, fun i o e => absurd e (no i o), fun i p ⟨⟨o, e⟩, _⟩ => absurd e (no i o), fun i j p ⟨⟨o, e⟩, _⟩ _ => absurd e (no i o)⟩
  unfold startD at e
  by_cases hi : i < ds.length
  · rw [List.getElem?_append_left (by simpa using hi), List.getElem?_map, List.getElem?_eq_getElem hi] at e
    cases e
    obtain ⟨v, h1, h2⟩ := rs.get (List.getElem?_eq_getElem hi)
    refine ⟨v, ?_, h2⟩
    unfold L2.start
    rw [List.getElem?_append_left (by simp; omega), List.getElem?_map, h1]
    rfl
  · rw [List.getElem?_append_right (by simpa using hi), List.getElem?_replicate] at e
    split at e <;> cases e
/-- what a def's body is to reach -/
abbrev endsOf {m : Mem} (Qd : D → m.S → Prop) : DEnds m := { nx := fun _ s' => Qd .non s', rt := Qd }
/-- THE RULE for a def, over data -/
theorem dfn {x qual : Str} {st : Stmt} {f : Addr} {fd : FuncData} {N ps : List Str} {k n : Nat} {sp : DSp m} (F : Fun K x qual st f fd) (S : FnScope N ps (defScope st)) (hn : n = ps.length)
    (hb : ∀ (cdv : Value) (A : Around) (outer : List Env) (s : Shared) (H : Hp) (E : XK) (En : Ent m), RoomG k (A.deeper (envOfC qual (defScope st) s.heap.objs.size f cdv)) →
      ∃ t, PSs (cxOf CX0 P w K mg base N qual (defScope st) f cdv A outer s H E).nox (defBody st) (upS K m En t) ∧ ∀ ds s Qd, sp ds s Qd → t (endsOf Qd) (startD N ds) s) : FnG P w K mg base CX0 (k + 1) f fd ps (lift K m n sp) := by
  subst hn
  refine Fun.okG F S (fun vs H Q E h => h.1) (fun cdv A outer s H vs Q E hr h => ?_)
  obtain ⟨hl, F0, ds, s0, Qd, sub, hm, hreg, rs, hsp, hQ⟩ := h
  obtain ⟨t, ht, hq⟩ := hb cdv A outer s H E ⟨F0, H, s0, fun _ _ _ _ => False⟩ hr
  refine ⟨_, ht.nox, F0, startD N ds, s0, _, rel_start sub hm hreg rs, ⟨Same.refl _, fun _ _ h _ => h, fun _ h => h, fun _ _ h => .inl h, fun _ h => .inl h, fun i p ⟨⟨o, e⟩, _⟩ => ?_⟩, hq ds s0 Qd hsp, ?_⟩
  · unfold startD at e
    by_cases hi : i < ds.length
    · rw [List.getElem?_append_left (by simpa using hi), List.getElem?_map, List.getElem?_eq_getElem hi] at e; cases e
    · rw [List.getElem?_append_right (by simpa using hi), List.getElem?_replicate] at e
      split at e <;> cases e
  · have cs : ∀ F' H' σ ρ s, Rel K m F' H' σ ρ s → Own m ⟨F0, H, s0, fun _ _ _ _ => False⟩ F' H' σ ρ s → CStp m F0 H s0 F' H' s := fun F' H' σ ρ s r o => ⟨o.ext, o.keep, o.alive, o.fresh, o.regf, r.sub, r.mem, r.reg⟩
    exact ⟨fun F' H' σ ρ s _ r o q => hQ .non s _ F' H' q (cs F' H' σ ρ s r o) rfl, fun F' H' σ ρ s d v _ r o rv q => hQ d s v F' H' q (cs F' H' σ ρ s r o) rv, fun _ _ _ _ _ _ _ _ q => q.elim, fun _ _ _ _ _ _ _ _ q => q.elim, fun _ _ _ _ _ _ _ _ _ _ _ _ _ _ _ _ _ _ _ _ q => q.elim⟩
end
end DL

set_option Elab.async false
set_option linter.all false
set_option maxRecDepth 100000
namespace DL
open PySem PySem.Spec PyProof.Rows L2 TL

/-! ### what operations do with data -/
section
variable {K : PySem.W.Frag} {X : Cx}
/-- + -/
def addD : D → D → (D → Prop) → Prop
  | .int i, .int j, Q => Q (.int (i + j))
  | .str a, .str b, Q => a.length + b.length ≤ strLim ∧ Q (.str (a ++ b))
  | .lst a, .lst b, Q => a.length + b.length ≤ sizeLine ∧ Q (.lst (a ++ b))
  | .tup a, .tup b, Q => a.length + b.length ≤ sizeLine ∧ Q (.tup (a ++ b))
  | _, _, _ => False
def rAddA (K : PySem.W.Frag) : R2 := fun x y H Q => (∃ i j, x = .int i ∧ y = .int j ∧ Q (.int (i + j)) H) ∨ (∃ i j, x = .str i ∧ y = .str j ∧ i.length + j.length ≤ sizeLine ∧ Q (.str (i ++ j)) H) ∨ rCat x y H Q ∨ rCatA K x y H Q
theorem op_addA : OpR X (binaryOp .Add) (rAddA X.K) := op_add.or (op_add_str.or (op_cat.or op_catA))
theorem sOk_app {a b : Str} (h : sOk a = true) (k : sOk b = true) (l : a.length + b.length ≤ strLim) : sOk (a ++ b) = true := by
  refine sOk_of ?_ fun c hc => ?_
  · rw [len_tl, tl_append, List.length_append, ← len_tl, ← len_tl]; exact l
  · rw [show (a ++ b).cps.toList = tl a ++ tl b from tl_append a b] at hc
    rcases List.mem_append.mp hc with z | z
    · exact sOk_cps h c z
    · exact sOk_cps k c z
theorem o_add : Op2 K (rAddA K) addD := by
  intro F H dx dy x y Qd Q sub rx ry h hQ
  cases dx with
  | int i =>
    cases dy with
    | int j => cases rx; cases ry; exact .inl ⟨i, j, rfl, rfl, hQ _ _ F H h (Grow.refl sub) rfl⟩
    | _ => exact False.elim h
  | str a =>
    cases dy with
    | str b =>
      obtain ⟨rfl, ha⟩ := rx
      obtain ⟨rfl, hb⟩ := ry
      obtain ⟨hl, h⟩ := h
      exact .inr (.inl ⟨a, b, rfl, rfl, Nat.le_trans hl (Nat.le_trans (Nat.le_add_right _ 2) strLim_line), hQ _ _ F H h (Grow.refl sub) ⟨rfl, sOk_app ha hb hl⟩⟩)
    | _ => exact False.elim h
  | lst a =>
    cases dy with
    | lst b =>
      obtain ⟨p, vs, rfl, h1, _, rs⟩ := rx
      obtain ⟨q, ws, rfl, h2, _, rt⟩ := ry
      obtain ⟨hl, h⟩ := h
      have l1 := rs.length
      have l2 := rt.length
      refine .inr (.inr (.inl ⟨p, q, vs, ws, rfl, rfl, sub _ _ h1, sub _ _ h2, by omega, fun n nn => ?_⟩))
      have g : Grow F H (upd F n (.lst (vs ++ ws))) (upd H n (.lst (vs ++ ws))) := Grow.new sub nn
      exact hQ _ _ _ _ h g ⟨n, _, rfl, upd_same, by rw [List.length_append]; omega, (Reps.mono g.fF _ _ rs).append (Reps.mono g.fF _ _ rt)⟩
    | _ => exact False.elim h
  | tup a =>
    cases dy with
    | tup b =>
      have rx' := rx
      have ry' := ry
      obtain ⟨p, vs, rfl, h1, _, rs⟩ := rx
      obtain ⟨q, ws, rfl, h2, _, rt⟩ := ry
      obtain ⟨hl, h⟩ := h
      have l1 := rs.length
      have l2 := rt.length
      refine .inr (.inr (.inr ⟨p, q, vs, ws, rfl, rfl, Same.seqT sub h1, Same.seqT sub h2, by omega, fun e => ?_, fun _ e => ?_, fun _ _ n nn => ?_⟩))
      · subst e
        have e' : a = [] := by cases a with | nil => rfl | cons _ _ => cases l1
        subst e'
        exact hQ _ _ F H h (Grow.refl sub) ry'
      · subst e
        have e' : b = [] := by cases b with | nil => rfl | cons _ _ => cases l2
        subst e'
        rw [List.append_nil] at h
        exact hQ _ _ F H h (Grow.refl sub) rx'
      · have g : Grow F H (upd F n (.tup (vs ++ ws))) (upd H n (.tup (vs ++ ws))) := Grow.new sub nn
        exact hQ _ _ _ _ h g ⟨n, _, rfl, .inl (.inl upd_same), by rw [List.length_append]; omega, (Reps.mono g.fF _ _ rs).append (Reps.mono g.fF _ _ rt)⟩
    | _ => exact False.elim h
  | _ => cases dy <;> exact False.elim h
/-- - -/
def subD : D → D → (D → Prop) → Prop
  | .int i, .int j, Q => Q (.int (i - j))
  | _, _, _ => False
theorem o_ints0 {g : Int → Int → Int} {f : D → D → (D → Prop) → Prop} (h : ∀ x y Qd, f x y Qd → ∃ i j, x = .int i ∧ y = .int j ∧ Qd (.int (g i j))) : Op2 K (rI0 fun i j => .int (g i j)) f := by
  intro F H dx dy x y Qd Q sub rx ry q hQ
  obtain ⟨i, j, rfl, rfl, q2⟩ := h _ _ _ q
  cases rx
  cases ry
  exact ⟨i, j, rfl, rfl, hQ _ _ F H q2 (Grow.refl sub) rfl⟩
theorem o_sub : Op2 K (rI0 fun i j => .int (i - j)) subD := o_ints0 fun x y Qd h => by
  cases x with
  | int i => cases y with
    | int j => exact ⟨i, j, rfl, rfl, h⟩
    | _ => exact False.elim h
  | _ => cases y <;> exact False.elim h
/-- *: of ints, one of them below 2 ^ 64; a text or a list some times -/
def mulD : D → D → (D → Prop) → Prop
  | .int i, .int j, Q => CMul i j ∧ Q (.int (i * j))
  | .str a, .int n, Q => (0 ≤ n ∧ n ≤ strLim ∧ a.length * n.toNat ≤ strLim) ∧ Q (.str ⟨((List.replicate n.toNat a.cps.toList).flatten).toArray⟩)
  | .lst a, .int n, Q => (0 ≤ n ∧ n < 2 ^ 62 ∧ a.length * n.toNat ≤ sizeLine) ∧ Q (.lst (List.replicate n.toNat a).flatten)
  | _, _, _ => False
theorem mul_txt {a : Str} {n : Int} (h0 : 0 ≤ n) : Txt.mul a n = ⟨((List.replicate n.toNat a.cps.toList).flatten).toArray⟩ := by
  have fold : ∀ (k : Nat) (acc : Array Nat), ((List.replicate k a.cps).foldl (· ++ ·) acc).toList = acc.toList ++ (List.replicate k a.cps.toList).flatten := by
    intro k
    induction k with
    | zero => intro acc; simp
    | succ k ih => intro acc; rw [List.replicate_succ, List.foldl_cons, ih, List.replicate_succ, List.flatten_cons, Array.toList_append, List.append_assoc]
  refine ext_tl ?_
  show tl (Txt.mul a n) = (List.replicate n.toNat a.cps.toList).flatten
  unfold Txt.mul
  by_cases h1 : n < 1
  · rw [if_pos h1]
    have e : n.toNat = 0 := by omega
    rw [e]
    rfl
  · rw [if_neg h1]
    by_cases h2 : (n == 1 || a.length == 0) = true
    · rw [if_pos h2]
      rw [Bool.or_eq_true] at h2
      rcases h2 with h2 | h2
      · have e : n = 1 := by simpa using h2
        subst e
        show tl a = (List.replicate 1 (tl a)).flatten
        simp
      · have e : tl a = [] := by
          have : a.length = 0 := by simpa using h2
          exact List.eq_nil_of_length_eq_zero (by rw [← len_tl]; exact this)
        show tl a = (List.replicate n.toNat (tl a)).flatten
        rw [e]
        simp
    · rw [if_neg h2]
      show ((List.replicate n.toNat a.cps).foldl (· ++ ·) #[]).toList = _
      rw [fold]
      simp
theorem op_mul_str : OpR X (binaryOp .Mult) (fun x y H Q => ∃ a n, x = .str a ∧ y = .int n ∧ (0 ≤ n ∧ n ≤ strLim ∧ a.length * n.toNat ≤ strLim) ∧ Q (.str ⟨((List.replicate n.toNat a.cps.toList).flatten).toArray⟩) H) := by
  intro pins s σ H x y v u Q I rx ry h
  obtain ⟨a, n, rfl, rfl, ⟨h0, h1, h2⟩, q⟩ := h
  obtain ⟨t, rfl⟩ := rx
  obtain ⟨t', rfl⟩ := ry
  have hs : strLim = 1000000 := rfl
  refine PySem.SB.mul ⟨?_, fun _ _ => ?_, fun _ _ => ?_⟩ fun t' k => ⟨.str _, H, I.tok _, ⟨t', by rw [mul_txt h0]⟩, q⟩
  · rw [decide_eq_false (by omega), decide_eq_false (by omega)]; rfl
  · have hn : 0 < n := by omega
    have : (a.length : Int) * n ≤ strLim := by
      have e : (n.toNat : Int) = n := by omega
      have : ((a.length * n.toNat : Nat) : Int) ≤ ((strLim : Nat) : Int) := by exact_mod_cast h2
      rw [Int.natCast_mul, e] at this
      exact this
    have q2 : (a.length : Int) ≤ (2 ^ 63 - 1) / n := (Int.le_ediv_iff_mul_le hn).mpr (Int.le_trans this (by decide))
    omega
  · unfold Builtin.Str.tooLong
    have := strLim_line
    exact decide_eq_false (by omega)
def rMulA : R2 := fun x y H Q => (∃ i j, x = .int i ∧ y = .int j ∧ CMul i j ∧ Q (.int (i * j)) H) ∨ (∃ a n, x = .str a ∧ y = .int n ∧ (0 ≤ n ∧ n ≤ strLim ∧ a.length * n.toNat ≤ strLim) ∧ Q (.str ⟨((List.replicate n.toNat a.cps.toList).flatten).toArray⟩) H) ∨ rRep x y H Q
theorem op_mulA : OpR X (binaryOp .Mult) rMulA := op_mul.or (op_mul_str.or op_rep)
theorem flat_rep_len {α : Type} (l : List α) : ∀ n : Nat, (List.replicate n l).flatten.length = l.length * n
  | 0 => by simp
  | n + 1 => by rw [List.replicate_succ, List.flatten_cons, List.length_append, flat_rep_len l n, Nat.mul_succ, Nat.add_comm]
theorem Reps.rep {K : PySem.W.Frag} {F : Hp} {ds : List D} {vs : List V} (h : Reps K F ds vs) : ∀ n : Nat, Reps K F (List.replicate n ds).flatten (List.replicate n vs).flatten
  | 0 => .nil
  | n + 1 => by rw [List.replicate_succ, List.replicate_succ, List.flatten_cons, List.flatten_cons]; exact h.append (Reps.rep h n)
theorem o_mul : Op2 K rMulA mulD := by
  intro F H dx dy x y Qd Q sub rx ry h hQ
  cases dx with
  | int i =>
    cases dy with
    | int j => cases rx; cases ry; exact .inl ⟨i, j, rfl, rfl, h.1, hQ _ _ F H h.2 (Grow.refl sub) rfl⟩
    | _ => exact False.elim h
  | str a =>
    cases dy with
    | int n =>
      obtain ⟨rfl, ha⟩ := rx
      cases ry
      refine .inr (.inl ⟨a, n, rfl, rfl, h.1, hQ _ _ F H h.2 (Grow.refl sub) ⟨rfl, sOk_of ?_ fun c hc => ?_⟩⟩)
      · show (((List.replicate n.toNat a.cps.toList).flatten).toArray).size ≤ strLim
        rw [List.size_toArray, flat_rep_len, Array.length_toList]
        exact h.1.2.2
      · have hc' : c ∈ (List.replicate n.toNat a.cps.toList).flatten := hc
        obtain ⟨l, hl, hcl⟩ := List.mem_flatten.mp hc'
        rw [(List.mem_replicate.mp hl).2] at hcl
        exact sOk_cps ha c hcl
    | _ => exact False.elim h
  | lst a =>
    cases dy with
    | int n =>
      obtain ⟨p, vs, rfl, h1, _, rs⟩ := rx
      cases ry
      obtain ⟨⟨h0, h2, h3⟩, h⟩ := h
      have l1 := rs.length
      refine .inr (.inr ⟨p, n, vs, rfl, rfl, sub _ _ h1, by omega, by omega, by rw [l1]; exact h3, fun q nq => ?_⟩)
      have g : Grow F H (upd F q (.lst (List.replicate n.toNat vs).flatten)) (upd H q (.lst (List.replicate n.toNat vs).flatten)) := Grow.new sub nq
      exact hQ _ _ _ _ h g ⟨q, _, rfl, upd_same, by rw [flat_rep_len, l1]; exact h3, (Reps.mono g.fF _ _ rs).rep _⟩
    | _ => exact False.elim h
  | _ => cases dy <;> exact False.elim h
/-- -x -/
def negD : D → (D → Prop) → Prop
  | .int i, Q => Q (.int (-i))
  | _, _ => False
theorem o_neg : Op1 K (rU fun i => .int (-i)) negD := by
  intro F H dx x Qd Q sub rx h hQ
  cases dx with
  | int i => cases rx; exact ⟨i, rfl, hQ _ _ F H h (Grow.refl sub) rfl⟩
  | _ => exact False.elim h

/-! ### comparisons -/
def ltS (a b : Str) : Bool := decide (a.cps.toList < b.cps.toList)
def ltD : D → D → (Bool → Prop) → Prop
  | .int i, .int j, Q => Q (decide (i < j))
  | .str a, .str b, Q => Q (ltS a b)
  | _, _, _ => False
def leD : D → D → (Bool → Prop) → Prop
  | .int i, .int j, Q => Q (decide (i ≤ j))
  | .str a, .str b, Q => Q (!ltS b a)
  | _, _, _ => False
def gtD : D → D → (Bool → Prop) → Prop
  | .int i, .int j, Q => Q (decide (j < i))
  | .str a, .str b, Q => Q (ltS b a)
  | _, _, _ => False
def rIS (f : Int → Int → Bool) (g : Str → Str → Bool) : R2 := fun x y H Q => (∃ i j, x = .int i ∧ y = .int j ∧ Q (.bl (f i j)) H) ∨ (∃ i j, x = .str i ∧ y = .str j ∧ Q (.bl (g i j)) H)
theorem op_ltA : OpR X (compareOp .Lt) (rIS (fun i j => decide (i < j)) ltS) := op_lt.or op_lt_str
theorem op_leA : OpR X (compareOp .LtE) (rIS (fun i j => decide (i ≤ j)) fun a b => !ltS b a) := op_le.or op_le_str
theorem op_gtA : OpR X (compareOp .Gt) (rIS (fun i j => decide (j < i)) fun a b => ltS b a) := op_gt.or op_gt_str
theorem o_is {f : Int → Int → Bool} {g : Str → Str → Bool} {c : D → D → (Bool → Prop) → Prop} (h : ∀ x y Qd, c x y Qd → (∃ i j, x = .int i ∧ y = .int j ∧ Qd (f i j)) ∨ ∃ i j, x = .str i ∧ y = .str j ∧ Qd (g i j)) : Cm2 K (rIS f g) c := by
  intro F H dx dy x y Qd Q sub rx ry q hQ
  rcases h _ _ _ q with ⟨i, j, rfl, rfl, q2⟩ | ⟨i, j, rfl, rfl, q2⟩
  · cases rx; cases ry; exact .inl ⟨i, j, rfl, rfl, hQ _ F H q2 (Grow.refl sub)⟩
  · obtain ⟨rfl, _⟩ := rx
    obtain ⟨rfl, _⟩ := ry
    exact .inr ⟨i, j, rfl, rfl, hQ _ F H q2 (Grow.refl sub)⟩
theorem o_lt : Cm2 K (rIS (fun i j => decide (i < j)) ltS) ltD := o_is fun x y Qd h => by
  cases x <;> cases y <;> first | exact False.elim h | exact .inl ⟨_, _, rfl, rfl, h⟩ | exact .inr ⟨_, _, rfl, rfl, h⟩
theorem o_le : Cm2 K (rIS (fun i j => decide (i ≤ j)) fun a b => !ltS b a) leD := o_is fun x y Qd h => by
  cases x <;> cases y <;> first | exact False.elim h | exact .inl ⟨_, _, rfl, rfl, h⟩ | exact .inr ⟨_, _, rfl, rfl, h⟩
theorem o_gt : Cm2 K (rIS (fun i j => decide (j < i)) fun a b => ltS b a) gtD := o_is fun x y Qd h => by
  cases x <;> cases y <;> first | exact False.elim h | exact .inl ⟨_, _, rfl, rfl, h⟩ | exact .inr ⟨_, _, rfl, rfl, h⟩
/-- is None, is not None -/
def isNo : D → Bool
  | .non => true
  | _ => false
def isD : D → D → (Bool → Prop) → Prop
  | x, .non, Q => Q (isNo x)
  | _, _, _ => False
def isntD : D → D → (Bool → Prop) → Prop
  | x, .non, Q => Q (!isNo x)
  | _, _, _ => False
theorem rep_no {F : Hp} {d : D} {v : V} (h : Rep K F d v) (n : ∀ w, d ≠ .any w) : decide (v = .non) = isNo d := by
  cases d with
  | non => cases h; rfl
  | bl b => cases h; rfl
  | int i => cases h; rfl
  | str x => obtain ⟨rfl, _⟩ := h; rfl
  | lst xs => obtain ⟨a, vs, rfl, _⟩ := h; rfl
  | tup xs => obtain ⟨a, vs, rfl, _⟩ := h; rfl
  | dic ks ds => obtain ⟨a, vs, rfl, _⟩ := h; rfl
  | ins C ns ds => obtain ⟨a, dx, fs, rfl, _⟩ := h; rfl
  | any w => exact absurd rfl (n w)
  | fz xs => obtain ⟨a, vs, rfl, _⟩ := h; rfl
  | exc C ns ds => obtain ⟨a, d, fs, rfl, _⟩ := h; rfl
  | cau a x ns ds => obtain ⟨rfl, _⟩ := h; rfl
def isD' (x y : D) (Q : Bool → Prop) : Prop := (∀ w, x ≠ .any w) ∧ isD x y Q
def isntD' (x y : D) (Q : Bool → Prop) : Prop := (∀ w, x ≠ .any w) ∧ isntD x y Q
theorem o_isN : Cm2 K (fun x y H Q => y = .non ∧ Q (.bl (decide (x = .non))) H) isD' := by
  intro F H dx dy x y Qd Q sub rx ry h hQ
  obtain ⟨n, h⟩ := h
  cases dy with
  | non => cases ry; exact ⟨rfl, by rw [rep_no rx n]; exact hQ _ F H h (Grow.refl sub)⟩
  | _ => cases dx <;> exact False.elim h
theorem o_notN : Cm2 K (fun x y H Q => y = .non ∧ Q (.bl (!decide (x = .non))) H) isntD' := by
  intro F H dx dy x y Qd Q sub rx ry h hQ
  obtain ⟨n, h⟩ := h
  cases dy with
  | non => cases ry; exact ⟨rfl, by rw [rep_no rx n]; exact hQ _ F H h (Grow.refl sub)⟩
  | _ => cases dx <;> exact False.elim h

/-! ### == and != -/
mutual
/-- data without dicts, objects and the like, at most so deep -/
def plainD : Nat → D → Bool
  | _, .non => true
  | _, .bl _ => true
  | _, .int _ => true
  | _, .str _ => true
  | n, .lst xs => match n with
    | 0 => false
    | k + 1 => plainDs k xs
  | n, .tup xs => match n with
    | 0 => false
    | k + 1 => plainDs k xs
  | _, _ => false
def plainDs : Nat → List D → Bool
  | _, [] => true
  | n, d :: ds => plainD n d && plainDs n ds
end
mutual
def eqD : D → D → Bool
  | .non, .non => true
  | .bl a, .bl b => a == b
  | .bl a, .int j => (if a then 1 else 0) == j
  | .int i, .bl b => i == (if b then 1 else 0)
  | .int i, .int j => i == j
  | .str x, .str y => x == y
  | .lst xs, .lst ys => eqDs xs ys
  | .tup xs, .tup ys => eqDs xs ys
  | _, _ => false
def eqDs : List D → List D → Bool
  | [], [] => true
  | x :: xs, y :: ys => eqD x y && eqDs xs ys
  | _, _ => false
end
mutual
def toPy : D → PyData
  | .non => .none
  | .bl b => .bool b
  | .int i => .int i
  | .str x => .str x
  | .lst xs => .list (toPys xs)
  | .tup xs => .tuple (toPys xs)
  | _ => .none
def toPys : List D → List PyData
  | [] => []
  | d :: ds => toPy d :: toPys ds
end
mutual
theorem rep_dp {F H : Hp} (sub : Same F H) : ∀ (n : Nat) (d : D) (v : V), plainD n d = true → Rep K F d v → Dp K H v (toPy d)
  | _, .non, _, _, h => by cases h; exact .non
  | _, .bl b, _, _, h => by cases h; exact .bl b
  | _, .int i, _, _, h => by cases h; exact .int i
  | _, .str x, _, _, h => by obtain ⟨rfl, _⟩ := h; exact .str x
  | 0, .lst xs, _, p, _ => by simp [plainD] at p
  | n + 1, .lst xs, _, p, h => by
    obtain ⟨a, vs, rfl, h1, _, r⟩ := h
    exact .lst (.inl (.inl (sub _ _ h1))) (reps_dp sub n xs vs (by simpa [plainD] using p) r)
  | 0, .tup xs, _, p, _ => by simp [plainD] at p
  | n + 1, .tup xs, _, p, h => by
    obtain ⟨a, vs, rfl, h1, _, r⟩ := h
    exact .tup (Same.seqT sub h1) (reps_dp sub n xs vs (by simpa [plainD] using p) r)
  | _, .dic _ _, _, p, _ => by simp [plainD] at p
  | _, .ins _ _ _, _, p, _ => by simp [plainD] at p
  | _, .any _, _, p, _ => by simp [plainD] at p
  | _, .fz _, _, p, _ => by simp [plainD] at p
  | _, .exc _ _ _, _, p, _ => by simp [plainD] at p
  | _, .cau _ _ _ _, _, p, _ => by simp [plainD] at p
theorem reps_dp {F H : Hp} (sub : Same F H) : ∀ (n : Nat) (ds : List D) (vs : List V), plainDs n ds = true → Reps K F ds vs → DpAll K H vs (toPys ds)
  | _, [], _, _, h => by cases h; exact .nil
  | n, d :: ds, _, p, ⟨v, r, e, h, t⟩ => by
    subst e
    rw [plainDs, Bool.and_eq_true] at p
    exact .cons (rep_dp sub n d v p.1 h) (reps_dp sub n ds r p.2 t)
end
theorem strOk_of {x : Str} (h : sOk x = true) : PyData.strOk x = true := by
  unfold PyData.strOk
  rw [← Array.all_toList]
  exact List.all_eq_true.mpr fun c hc => decide_eq_true (sOk_cps h c hc)
mutual
theorem lay_of {F : Hp} : ∀ (n : Nat) (d : D) (v : V), plainD n d = true → Rep K F d v → (toPy d).canLay0 = true ∧ (toPy d).depth ≤ n
  | _, .non, _, _, _ => ⟨rfl, Nat.zero_le _⟩
  | _, .bl b, _, _, _ => ⟨rfl, Nat.zero_le _⟩
  | _, .int i, _, _, _ => ⟨rfl, Nat.zero_le _⟩
  | _, .str x, _, _, h => by obtain ⟨_, h⟩ := h; exact ⟨by simpa [toPy, PyData.canLay0] using strOk_of h, by simp [toPy, PyData.depth]⟩
  | 0, .lst xs, _, p, _ => by simp [plainD] at p
  | n + 1, .lst xs, _, p, h => by
    obtain ⟨a, vs, rfl, h1, _, r⟩ := h
    obtain ⟨q1, q2⟩ := lay_ofs n xs vs (by simpa [plainD] using p) r
    exact ⟨by simpa [toPy, PyData.canLay0] using q1, by simp only [toPy, PyData.depth]; omega⟩
  | 0, .tup xs, _, p, _ => by simp [plainD] at p
  | n + 1, .tup xs, _, p, h => by
    obtain ⟨a, vs, rfl, h1, _, r⟩ := h
    obtain ⟨q1, q2⟩ := lay_ofs n xs vs (by simpa [plainD] using p) r
    exact ⟨by simpa [toPy, PyData.canLay0] using q1, by simp only [toPy, PyData.depth]; omega⟩
  | _, .dic _ _, _, p, _ => by simp [plainD] at p
  | _, .ins _ _ _, _, p, _ => by simp [plainD] at p
  | _, .any _, _, p, _ => by simp [plainD] at p
  | _, .fz _, _, p, _ => by simp [plainD] at p
  | _, .exc _ _ _, _, p, _ => by simp [plainD] at p
  | _, .cau _ _ _ _, _, p, _ => by simp [plainD] at p
theorem lay_ofs {F : Hp} : ∀ (n : Nat) (ds : List D) (vs : List V), plainDs n ds = true → Reps K F ds vs → PyData.canLayAll0 (toPys ds) = true ∧ PyData.depthAll (toPys ds) ≤ n
  | _, [], _, _, _ => ⟨rfl, Nat.zero_le _⟩
  | n, d :: ds, _, p, ⟨v, r, e, h, t⟩ => by
    rw [plainDs, Bool.and_eq_true] at p
    obtain ⟨q1, q2⟩ := lay_of n d v p.1 h
    obtain ⟨q3, q4⟩ := lay_ofs n ds r p.2 t
    exact ⟨by simp only [toPys, PyData.canLayAll0, q1, q3, Bool.and_self], by simp only [toPys, PyData.depthAll]; omega⟩
end
mutual
theorem eqv_of : ∀ (n m : Nat) (d e : D), plainD n d = true → plainD m e = true → PyData.eqv (toPy d) (toPy e) = eqD d e
  | _, _, .non, e, _, q => by cases e <;> simp_all [toPy, eqD, PyData.eqv, plainD]
  | _, _, .bl b, e, _, q => by cases e <;> simp_all [toPy, eqD, PyData.eqv, plainD]
  | _, _, .int i, e, _, q => by cases e <;> simp_all [toPy, eqD, PyData.eqv, plainD]
  | _, _, .str x, e, _, q => by cases e <;> simp_all [toPy, eqD, PyData.eqv, plainD]
  | n, m, .lst xs, e, p, q => by
    cases e with
    | lst ys =>
      cases n with
      | zero => simp [plainD] at p
      | succ n =>
        cases m with
        | zero => simp [plainD] at q
        | succ m => simpa only [toPy, eqD, PyData.eqv] using eqv_ofs n m xs ys (by simpa [plainD] using p) (by simpa [plainD] using q)
    | _ => simp_all [toPy, eqD, PyData.eqv, plainD]
  | n, m, .tup xs, e, p, q => by
    cases e with
    | tup ys =>
      cases n with
      | zero => simp [plainD] at p
      | succ n =>
        cases m with
        | zero => simp [plainD] at q
        | succ m => simpa only [toPy, eqD, PyData.eqv] using eqv_ofs n m xs ys (by simpa [plainD] using p) (by simpa [plainD] using q)
    | _ => simp_all [toPy, eqD, PyData.eqv, plainD]
  | _, _, .dic _ _, _, p, _ => by simp [plainD] at p
  | _, _, .ins _ _ _, _, p, _ => by simp [plainD] at p
  | _, _, .any _, _, p, _ => by simp [plainD] at p
  | _, _, .fz _, _, p, _ => by simp [plainD] at p
  | _, _, .exc _ _ _, _, p, _ => by simp [plainD] at p
  | _, _, .cau _ _ _ _, _, p, _ => by simp [plainD] at p
theorem eqv_ofs : ∀ (n m : Nat) (d e : List D), plainDs n d = true → plainDs m e = true → PyData.eqvAll (toPys d) (toPys e) = eqDs d e
  | _, _, [], [], _, _ => rfl
  | _, _, [], _ :: _, _, _ => rfl
  | _, _, _ :: _, [], _, _ => rfl
  | n, m, d :: ds, e :: es, p, q => by
    rw [plainDs, Bool.and_eq_true] at p q
    simp only [toPys, PyData.eqvAll, eqDs]
    rw [eqv_of n m d e p.1 q.1, eqv_ofs n m ds es p.2 q.2]
end
def eqC (x y : D) (Q : Bool → Prop) : Prop := plainD 60 x = true ∧ plainD 60 y = true ∧ Q (eqD x y)
def neC (x y : D) (Q : Bool → Prop) : Prop := plainD 60 x = true ∧ plainD 60 y = true ∧ Q (!eqD x y)
theorem shaped_of {F : Hp} {d : D} {v : V} (p : plainD 60 d = true) (h : Rep K F d v) : SeqAt.shaped (toPy d) = true := by
  obtain ⟨h1, h2⟩ := lay_of 60 d v p h
  unfold SeqAt.shaped
  rw [h1, decide_eq_true (by omega)]
  rfl
theorem o_eq : Cm2 K (rEqD K) eqC := by
  intro F H dx dy x y Qd Q sub rx ry h hQ
  obtain ⟨p1, p2, h⟩ := h
  refine ⟨toPy dx, toPy dy, rep_dp sub 60 dx x p1 rx, rep_dp sub 60 dy y p2 ry, shaped_of p1 rx, shaped_of p2 ry, ?_⟩
  rw [eqv_of 60 60 dx dy p1 p2]
  exact hQ _ F H h (Grow.refl sub)
theorem o_ne : Cm2 K (rNeD K) neC := by
  intro F H dx dy x y Qd Q sub rx ry h hQ
  obtain ⟨p1, p2, h⟩ := h
  refine ⟨toPy dx, toPy dy, rep_dp sub 60 dx x p1 rx, rep_dp sub 60 dy y p2 ry, shaped_of p1 rx, shaped_of p2 ry, ?_⟩
  rw [eqv_of 60 60 dx dy p1 p2]
  exact hQ _ F H h (Grow.refl sub)
/-! ### in, not in -/
def strIn (a z : Str) : Bool := !(Builtin.Str.occurrences z a 0 z.length 1).isEmpty
def inD : D → D → (Bool → Prop) → Prop
  | .str a, .str z, Q => Q (strIn a z)
  | x, .lst ys, Q => plainD 58 x = true ∧ plainDs 58 ys = true ∧ Q (ys.any fun y => eqD y x)
  | _, _, _ => False
def notInD : D → D → (Bool → Prop) → Prop
  | .str a, .str z, Q => Q (!strIn a z)
  | x, .lst ys, Q => plainD 58 x = true ∧ plainDs 58 ys = true ∧ Q (!ys.any fun y => eqD y x)
  | _, _, _ => False
def rInA (K : PySem.W.Frag) : R2 := fun x y H Q => (∃ i j, x = .str i ∧ y = .str j ∧ Q (.bl (strIn i j)) H) ∨ rInD K x y H Q
def rNotInA (K : PySem.W.Frag) : R2 := fun x y H Q => (∃ i j, x = .str i ∧ y = .str j ∧ Q (.bl (!strIn i j)) H) ∨ rNotInD K x y H Q
theorem op_inA (hu : X.A.units + 65 < cLine) : OpR X (compareOp .In) (rInA X.K) := op_in_str.or (op_inD hu)
theorem op_notInA (hu : X.A.units + 65 < cLine) : OpR X (compareOp .NotIn) (rNotInA X.K) := op_notin_str.or (op_notInD hu)
theorem any_eqv (n m : Nat) (x : D) (hx : plainD n x = true) : ∀ (ys : List D), plainDs m ys = true → (toPys ys).any (fun z => PyData.eqv z (toPy x)) = ys.any fun y => eqD y x
  | [], _ => rfl
  | y :: ys, h => by
    rw [plainDs, Bool.and_eq_true] at h
    rw [toPys, List.any_cons, List.any_cons, eqv_of m n y x h.1 hx, any_eqv n m x hx ys h.2]
mutual
theorem plain_mono : ∀ (n m : Nat) (d : D), n ≤ m → plainD n d = true → plainD m d = true
  | _, _, .non, _, _ => by simp [plainD]
  | _, _, .bl _, _, _ => by simp [plainD]
  | _, _, .int _, _, _ => by simp [plainD]
  | _, _, .str _, _, _ => by simp [plainD]
  | 0, _, .lst xs, _, p => by simp [plainD] at p
  | n + 1, 0, .lst xs, h, _ => absurd h (by omega)
  | n + 1, m + 1, .lst xs, h, p => by simpa [plainD] using plain_monos n m xs (by omega) (by simpa [plainD] using p)
  | 0, _, .tup xs, _, p => by simp [plainD] at p
  | n + 1, 0, .tup xs, h, _ => absurd h (by omega)
  | n + 1, m + 1, .tup xs, h, p => by simpa [plainD] using plain_monos n m xs (by omega) (by simpa [plainD] using p)
  | _, _, .dic _ _, _, p => by simp [plainD] at p
  | _, _, .ins _ _ _, _, p => by simp [plainD] at p
  | _, _, .any _, _, p => by simp [plainD] at p
  | _, _, .fz _, _, p => by simp [plainD] at p
theorem plain_monos : ∀ (n m : Nat) (d : List D), n ≤ m → plainDs n d = true → plainDs m d = true
  | _, _, [], _, _ => by simp [plainDs]
  | n, m, d :: ds, h, p => by
    rw [plainDs, Bool.and_eq_true] at p ⊢
    exact ⟨plain_mono n m d h p.1, plain_monos n m ds h p.2⟩
end
theorem in_core {F H : Hp} {dx : D} {ys : List D} {x y : V} (sub : Same F H) (rx : Rep K F dx x) (ry : Rep K F (.lst ys) y) (p1 : plainD 58 dx = true) (p2 : plainDs 58 ys = true) :
    ∃ d ds, Dp K H x d ∧ Dp K H y (.list ds) ∧ SeqAt.shaped d = true ∧ SeqAt.shaped (.list ds) = true ∧ (ds.any fun z => PyData.eqv z d) = ys.any fun y => eqD y dx := by
  have q1 := plain_mono 58 60 dx (by omega) p1
  have q2 : plainD 60 (.lst ys) = true := by
    have := plain_monos 58 59 ys (by omega) p2
    simpa [plainD] using this
  exact ⟨toPy dx, toPys ys, rep_dp sub 60 dx x q1 rx, rep_dp sub 60 _ y q2 ry, shaped_of q1 rx, shaped_of q2 ry, any_eqv 58 58 dx p1 ys p2⟩
theorem o_in : Cm2 K (rInA K) inD := by
  intro F H dx dy x y Qd Q sub rx ry h hQ
  cases dy with
  | lst ys =>
    have h' : plainD 58 dx = true ∧ plainDs 58 ys = true ∧ Qd (ys.any fun y => eqD y dx) := by cases dx <;> exact h
    obtain ⟨p1, p2, q⟩ := h'
    obtain ⟨d, ds, a1, a2, a3, a4, e⟩ := in_core sub rx ry p1 p2
    exact .inr ⟨d, ds, a1, a2, a3, a4, by rw [e]; exact hQ _ F H q (Grow.refl sub)⟩
  | str z =>
    cases dx with
    | str a =>
      obtain ⟨rfl, _⟩ := rx
      obtain ⟨rfl, _⟩ := ry
      exact .inl ⟨a, z, rfl, rfl, hQ _ F H h (Grow.refl sub)⟩
    | _ => exact False.elim h
  | _ => cases dx <;> exact False.elim h
theorem o_notIn : Cm2 K (rNotInA K) notInD := by
  intro F H dx dy x y Qd Q sub rx ry h hQ
  cases dy with
  | lst ys =>
    have h' : plainD 58 dx = true ∧ plainDs 58 ys = true ∧ Qd (!ys.any fun y => eqD y dx) := by cases dx <;> exact h
    obtain ⟨p1, p2, q⟩ := h'
    obtain ⟨d, ds, a1, a2, a3, a4, e⟩ := in_core sub rx ry p1 p2
    exact .inr ⟨d, ds, a1, a2, a3, a4, by rw [e]; exact hQ _ F H q (Grow.refl sub)⟩
  | str z =>
    cases dx with
    | str a =>
      obtain ⟨rfl, _⟩ := rx
      obtain ⟨rfl, _⟩ := ry
      exact .inl ⟨a, z, rfl, rfl, hQ _ F H h (Grow.refl sub)⟩
    | _ => exact False.elim h
  | _ => cases dx <;> exact False.elim h

/-! ### subscripts and slices -/
def ixD : D → D → (D → Prop) → Prop
  | .lst ds, .int i, Q => ∃ d, atI ds i = some d ∧ Q d
  | .tup ds, .int i, Q => ∃ d, atI ds i = some d ∧ Q d
  | .str z, .int i, Q => ∃ c, atI z.cps.toList i = some c ∧ Q (.str ⟨#[c]⟩)
  | _, _, _ => False
theorem Reps.atI {F : Hp} {ds : List D} {vs : List V} {i : Int} {d : D} (h : Reps K F ds vs) (e : L2.atI ds i = some d) : ∃ v, L2.atI vs i = some v ∧ Rep K F d v := by
  unfold L2.atI at e ⊢
  rw [h.length]
  cases q : ixN ds.length i with
  | none => rw [q] at e; cases e
  | some j =>
    rw [q] at e
    exact h.get e
theorem sOk_one {c : Nat} (h : c < 0x110000) : sOk ⟨#[c]⟩ = true := sOk_of (by show 1 ≤ strLim; decide) fun c' hc' => by
  have e : c' = c := by simpa using hc'
  subst e
  exact h
theorem o_ix : Op2 K (rIx K) ixD := by
  intro F H dx dy x y Qd Q sub rx ry h hQ
  cases dx with
  | lst ds =>
    cases dy with
    | int i =>
      obtain ⟨a, vs, rfl, h1, _, rs⟩ := rx
      cases ry
      obtain ⟨d, e, q⟩ := h
      obtain ⟨v, e2, rv⟩ := rs.atI e
      exact .inl ⟨a, vs, i, v, rfl, rfl, .inl (.inl (sub _ _ h1)), e2, hQ d v F H q (Grow.refl sub) rv⟩
    | _ => exact False.elim h
  | tup ds =>
    cases dy with
    | int i =>
      obtain ⟨a, vs, rfl, h1, _, rs⟩ := rx
      cases ry
      obtain ⟨d, e, q⟩ := h
      obtain ⟨v, e2, rv⟩ := rs.atI e
      exact .inr (.inl ⟨a, vs, i, v, rfl, rfl, Same.seqT sub h1, e2, hQ d v F H q (Grow.refl sub) rv⟩)
    | _ => exact False.elim h
  | str z =>
    cases dy with
    | int i =>
      obtain ⟨rfl, hz⟩ := rx
      cases ry
      obtain ⟨c, e, q⟩ := h
      obtain ⟨j, _, hj, _, _, _⟩ := atI_get e
      exact .inr (.inr ⟨z, i, c, rfl, rfl, Nat.le_trans (sOk_len hz) (Nat.le_trans (Nat.le_add_right _ 2) strLim_line), e, hQ _ _ F H q (Grow.refl sub) ⟨rfl, sOk_one (sOk_cps hz c (List.mem_of_getElem? hj))⟩⟩)
    | _ => exact False.elim h
  | _ => cases dy <;> exact False.elim h
def cutD (xs : List D) (lo hi : Option Int) : List D := (xs.drop (HT.sIx xs.length 0 lo)).take (HT.sIx xs.length xs.length hi - HT.sIx xs.length 0 lo)
theorem Reps.cut {F : Hp} {ds : List D} {vs : List V} (h : Reps K F ds vs) (lo hi : Option Int) : Reps K F (cutD ds lo hi) (cutV vs lo hi) := by
  unfold cutD cutV
  rw [h.length]
  exact (h.drop _).take _
def slD : D → Option Int → Option Int → (D → Prop) → Prop
  | .lst ds, lo, hi, Q => Q (.lst (cutD ds lo hi))
  | .tup ds, lo, hi, Q => Q (.tup (cutD ds lo hi))
  | .str z, lo, hi, Q => Q (.str (cutS z lo hi))
  | _, _, _, _ => False
def rSlAll (K : PySem.W.Frag) : V → Option Int → Option Int → Hp → VK → Prop := fun x lo hi H Q => rSlL K x lo hi H Q ∨ rSlA K x lo hi H Q ∨ rSlS x lo hi H Q
theorem sl_all : SlR X (rSlAll X.K) := sl_list.or (sl_tupA.or sl_str)
theorem sOk_cut {z : Str} (h : sOk z = true) (lo hi : Option Int) : sOk (cutS z lo hi) = true := sOk_of (Nat.le_trans (cutS_length z lo hi) (sOk_len h)) fun c hc => by
  have hc' : c ∈ (z.cps.toList.drop (HT.sIx z.length 0 lo)).take (HT.sIx z.length z.length hi - HT.sIx z.length 0 lo) := hc
  exact sOk_cps h c (List.mem_of_mem_drop (List.mem_of_mem_take hc'))
theorem o_sl : OpS K (rSlAll K) slD := by
  intro F H dx x lo hi Qd Q sub rx h hQ
  cases dx with
  | lst ds =>
    obtain ⟨a, vs, rfl, h1, hl, rs⟩ := rx
    refine .inl ⟨a, vs, rfl, .inl (.inl (sub _ _ h1)), fun p np => ?_⟩
    have g : Grow F H (upd F p (.lst (cutV vs lo hi))) (upd H p (.lst (cutV vs lo hi))) := Grow.new sub np
    exact hQ _ _ _ _ h g ⟨p, _, rfl, upd_same, Nat.le_trans (cutV_length vs lo hi) hl, (Reps.mono g.fF _ _ rs).cut lo hi⟩
  | tup ds =>
    have rx' := rx
    obtain ⟨a, vs, rfl, h1, hl, rs⟩ := rx
    refine .inr (.inl ⟨a, vs, rfl, Same.seqT sub h1, fun e => ?_, fun _ p np => ?_⟩)
    · have e2 : cutD ds lo hi = ds := by
        unfold cutD
        rw [rs.length] at e
        rw [e.1, e.2, List.drop_zero, Nat.sub_zero, List.take_length]
      have h' : Qd (.tup (cutD ds lo hi)) := h
      rw [e2] at h'
      exact hQ _ _ F H h' (Grow.refl sub) rx'
    · have g : Grow F H (upd F p (.tup (cutV vs lo hi))) (upd H p (.tup (cutV vs lo hi))) := Grow.new sub np
      exact hQ _ _ _ _ h g ⟨p, _, rfl, .inl (.inl upd_same), Nat.le_trans (cutV_length vs lo hi) hl, (Reps.mono g.fF _ _ rs).cut lo hi⟩
  | str z =>
    obtain ⟨rfl, hz⟩ := rx
    exact .inr (.inr ⟨z, rfl, Nat.le_trans (sOk_len hz) (Nat.le_trans (Nat.le_add_right _ 2) strLim_line), hQ _ _ F H h (Grow.refl sub) ⟨rfl, sOk_cut hz lo hi⟩⟩)
  | _ => exact False.elim h
/-! ### built-in functions -/
def lenOf : D → Option Nat
  | .lst ds => some ds.length
  | .tup ds => some ds.length
  | .str z => some z.length
  | .dic ks _ => some ks.length
  | _ => none
def lenD (ds : List D) (Q : D → Prop) : Prop := ∃ d n, ds = [d] ∧ lenOf d = some n ∧ Q (.int (n : Nat))
def rLenA (K : PySem.W.Frag) : List V → Hp → VK → Prop := fun xs H Q => (∃ x n, xs = [x] ∧ LenV K x H n ∧ Q (.int n) H) ∨ (∃ a kvs, xs = [V.ref a] ∧ H a = some (.dK kvs) ∧ Q (.int kvs.length) H)
theorem CallR.or {f : Value} {r r' : List V → Hp → VK → Prop} (h : CallR X f r) (h' : CallR X f r') : CallR X f (fun xs H Q => r xs H Q ∨ r' xs H Q) := by
  intro pins s σ H xs us Q I rx q
  rcases q with q | q
  · exact h pins s σ H xs us Q I rx q
  · exact h' pins s σ H xs us Q I rx q
theorem o_len : OpN K (rLenA K) lenD := by
  intro F H ds vs Qd Q sub rs h hQ
  obtain ⟨d, n, rfl, e, q⟩ := h
  obtain ⟨v, _, rfl, rv, rn⟩ := rs
  cases rn
  have fin : Q (.int (n : Nat)) H := hQ _ _ F H q (Grow.refl sub) rfl
  cases d with
  | lst xs =>
    obtain ⟨a, ws, rfl, h1, _, r⟩ := rv
    cases e
    exact .inl ⟨_, xs.length, rfl, .inl ⟨ws, .inl (.inl (sub _ _ h1)), r.length.symm⟩, fin⟩
  | tup xs =>
    obtain ⟨a, ws, rfl, h1, _, r⟩ := rv
    cases e
    exact .inl ⟨_, xs.length, rfl, .inr ⟨ws, Same.seqT sub h1, r.length.symm⟩, fin⟩
  | str z =>
    obtain ⟨rfl, hz⟩ := rv
    cases e
    exact .inl ⟨_, z.length, rfl, ⟨Nat.le_trans (sOk_len hz) (Nat.le_trans (Nat.le_add_right _ 2) strLim_line), rfl⟩, fin⟩
  | dic ks xs =>
    obtain ⟨a, kvs, rfl, h1, _, ek, r⟩ := rv
    cases e
    refine .inr ⟨a, kvs, rfl, sub _ _ h1, ?_⟩
    have e2 : kvs.length = ks.length := by rw [← ek, List.length_map]
    rw [e2]
    exact fin
  | _ => cases e
theorem int2 {F : Hp} {i j : Int} {vs : List V} (h : Reps K F [.int i, .int j] vs) : vs = [.int i, .int j] := reps_ints (ns := [i, j]) h
def minD (ds : List D) (Q : D → Prop) : Prop := ∃ i j, ds = [.int i, .int j] ∧ Q (.int (if j < i then j else i))
theorem o_min : OpN K (fun xs H Q => ∃ i j, xs = [.int i, .int j] ∧ Q (.int (if j < i then j else i)) H) minD := by
  intro F H ds vs Qd Q sub rs h hQ
  obtain ⟨i, j, rfl, q⟩ := h
  exact ⟨i, j, int2 rs, hQ _ _ F H q (Grow.refl sub) rfl⟩
def allD (ds : List D) (Q : D → Prop) : Prop := ∃ bs : List Bool, ds = [.lst (bs.map .bl)] ∧ Q (.bl (bs.all id))
def anyD (ds : List D) (Q : D → Prop) : Prop := ∃ bs : List Bool, ds = [.lst (bs.map .bl)] ∧ Q (.bl (bs.any id))
theorem o_all : OpN K (rAll K) allD := by
  intro F H ds vs Qd Q sub rs h hQ
  obtain ⟨bs, rfl, q⟩ := h
  obtain ⟨v, _, rfl, ⟨a, ws, rfl, h1, _, r⟩, rn⟩ := rs
  cases rn
  have e := reps_bls r
  subst e
  exact ⟨a, bs, rfl, .inl (.inl (sub _ _ h1)), hQ _ _ F H q (Grow.refl sub) rfl⟩
theorem o_any : OpN K (rAny K) anyD := by
  intro F H ds vs Qd Q sub rs h hQ
  obtain ⟨bs, rfl, q⟩ := h
  obtain ⟨v, _, rfl, ⟨a, ws, rfl, h1, _, r⟩, rn⟩ := rs
  cases rn
  have e := reps_bls r
  subst e
  exact ⟨a, bs, rfl, .inl (.inl (sub _ _ h1)), hQ _ _ F H q (Grow.refl sub) rfl⟩
/-- tuple(xs), list(xs) -/
def tupD (ds : List D) (Q : D → Prop) : Prop := ∃ d xs, ds = [d] ∧ seqD d = some xs ∧ Q (.tup xs)
theorem o_tuple : OpN K (fun xs H Q => ∃ p ys, xs = [.ref p] ∧ ((SqL K H p ys ∧ ∀ l, H l = none → Q (.ref l) (upd H l (.tup ys))) ∨ (SqT K H p ys ∧ Q (.ref p) H))) tupD := by
  intro F H ds vs Qd Q sub rs h hQ
  obtain ⟨d, xs, rfl, e, q⟩ := h
  obtain ⟨v, _, rfl, rv, rn⟩ := rs
  cases rn
  cases d with
  | lst xs =>
    cases e
    obtain ⟨a, ws, rfl, h1, hl, r⟩ := rv
    refine ⟨a, ws, rfl, .inl ⟨.inl (.inl (sub _ _ h1)), fun p np => ?_⟩⟩
    have g : Grow F H (upd F p (.tup ws)) (upd H p (.tup ws)) := Grow.new sub np
    exact hQ _ _ _ _ q g ⟨p, _, rfl, .inl (.inl upd_same), hl, Reps.mono g.fF _ _ r⟩
  | tup xs =>
    cases e
    have rv' := rv
    obtain ⟨a, ws, rfl, h1, hl, r⟩ := rv
    exact ⟨a, ws, rfl, .inr ⟨Same.seqT sub h1, hQ _ _ F H q (Grow.refl sub) rv'⟩⟩
  | fz xs =>
    cases e
    obtain ⟨a, ws, rfl, h1, hl, r⟩ := rv
    refine ⟨a, ws, rfl, .inl ⟨Same.seq sub h1, fun p np => ?_⟩⟩
    have g : Grow F H (upd F p (.tup ws)) (upd H p (.tup ws)) := Grow.new sub np
    exact hQ _ _ _ _ q g ⟨p, _, rfl, .inl (.inl upd_same), hl, Reps.mono g.fF _ _ r⟩
  | _ => cases e
/-- isinstance(x, T), T a built-in type -/
inductive Tg where
  | non | bl | int | str | lst | tup | dic
def tgS : Tg → String
  | .non => "NoneType"
  | .bl => "bool"
  | .int => "int"
  | .str => "str"
  | .lst => "list"
  | .tup => "tuple"
  | .dic => "dict"
def tyT : D → Option Tg
  | .non => some .non
  | .bl _ => some .bl
  | .int _ => some .int
  | .str _ => some .str
  | .lst _ => some .lst
  | .tup _ => some .tup
  | .dic _ _ => some .dic
  | _ => none
/-- what isinstance says -/
def isTg : Tg → Tg → Bool
  | .non, .non => true
  | .bl, .bl => true
  | .bl, .int => true
  | .int, .int => true
  | .str, .str => true
  | .lst, .lst => true
  | .tup, .tup => true
  | .dic, .dic => true
  | _, _ => false
theorem kitB_ok (t T : Tg) (h : T ≠ .non) : kitB (tgS t) (tgS T) = some (isTg t T) := by
  cases T with
  | non => exact absurd rfl h
  | bl => cases t <;> decide +kernel
  | int => cases t <;> decide +kernel
  | str => cases t <;> decide +kernel
  | lst => cases t <;> decide +kernel
  | tup => cases t <;> decide +kernel
  | dic => cases t <;> decide +kernel
def isiD (ds : List D) (Q : D → Prop) : Prop := ∃ x T t, ds = [x, .any (.ty (tgS T))] ∧ tyT x = some t ∧ T ≠ .non ∧ Q (.bl (isTg t T))
theorem ty_of {F H : Hp} {d : D} {v : V} {t : Tg} (sub : Same F H) (h : Rep K F d v) (e : tyT d = some t) : TyX K H v (.type (tgS t)) := by
  cases d with
  | non => cases e; cases h; exact .base .non
  | bl b => cases e; cases h; exact .base (.bl b)
  | int i => cases e; cases h; exact .base (.int i)
  | str x => cases e; obtain ⟨rfl, _⟩ := h; exact .base (.str x)
  | lst xs => cases e; obtain ⟨a, vs, rfl, h1, _, _⟩ := h; exact .base (.lst (sub _ _ h1))
  | tup xs =>
    cases e
    obtain ⟨a, vs, rfl, h1, _, _⟩ := h
    rcases h1 with (h1 | ⟨o, h1⟩) | ⟨o, its, n, h1, h2, _⟩
    · exact .base (.tup (sub _ _ h1))
    · exact .fTuple (sub _ _ h1)
    · exact .kTuple h1 h2
  | dic ks ds => cases e; obtain ⟨a, vs, rfl, h1, _⟩ := h; exact .base (.dK (sub _ _ h1))
  | ins _ _ _ => cases e
  | any _ => cases e
  | fz _ => cases e
  | exc _ _ _ => cases e
  | cau _ _ _ _ => cases e
theorem o_isi : OpN K (rIsi K) isiD := by
  intro F H ds vs Qd Q sub rs h hQ
  obtain ⟨x, T, t, rfl, e1, e2, q⟩ := h
  obtain ⟨v, _, rfl, rv, w, _, rfl, rw', rn⟩ := rs
  cases rn
  cases rw'
  exact ⟨v, .ty (tgS T), .type (tgS t), .type (tgS T), _, rfl, .ty _, ty_of sub rv e1, kit_ty (kitB_ok t T e2), hQ _ _ F H q (Grow.refl sub) rfl⟩
/-! ### methods of texts -/
theorem line2 {a : Str} (h : sOk a = true) : a.length + 2 ≤ sizeLine := Nat.le_trans (Nat.add_le_add_right (sOk_len h) 2) strLim_line
theorem line0 {a : Str} (h : sOk a = true) : a.length ≤ sizeLine := Nat.le_trans (Nat.le_add_right _ 2) (line2 h)
/-- a text cut at a text of one sign: its parts -/
theorem spl_mem {S : List Nat} : ∀ (k : Nat) (acc l : List Nat), ∀ p ∈ spl S k acc l, p.length ≤ acc.length + l.length ∧ ∀ c ∈ p, c ∈ acc ∨ c ∈ l
  | _, acc, [], p, hp => by
    rw [spl_nil] at hp
    have e : p = acc := by simpa using hp
    subst e
    exact ⟨by simp, fun c hc => .inl hc⟩
  | 0, acc, c :: r, p, hp => by
    cases h : pre S (c :: r) with
    | true =>
      rw [spl_hit h] at hp
      rcases List.mem_cons.mp hp with e | hp
      · subst e; exact ⟨by simp, fun c hc => .inl hc⟩
      · obtain ⟨h1, h2⟩ := spl_mem (S.length - 1) [] r p hp
        exact ⟨by simp at h1 ⊢; omega, fun c' hc => .inr (List.mem_cons_of_mem _ ((h2 c' hc).resolve_left (by simp)))⟩
    | false =>
      rw [spl_miss h] at hp
      obtain ⟨h1, h2⟩ := spl_mem 0 (acc ++ [c]) r p hp
      refine ⟨by simp at h1 ⊢; omega, fun c' hc => ?_⟩
      rcases h2 c' hc with z | z
      · rcases List.mem_append.mp z with z | z
        · exact .inl z
        · exact .inr (by have : c' = c := by simpa using z
                         subst this
                         exact List.mem_cons_self)
      · exact .inr (List.mem_cons_of_mem _ z)
  | k + 1, acc, c :: r, p, hp => by
    have e : spl S (k + 1) acc (c :: r) = spl S k acc r := rfl
    rw [e] at hp
    obtain ⟨h1, h2⟩ := spl_mem k acc r p hp
    exact ⟨by simp; omega, fun c' hc => (h2 c' hc).elim .inl fun z => .inr (List.mem_cons_of_mem _ z)⟩
/-- the parts of a text between signs c -/
def splS (c : Nat) (x : Str) : List Str := (spl [c] 0 [] (tl x)).map fun l => ⟨l.toArray⟩
theorem split_splS {c : Nat} (hc : c < 256) (x : Str) : Txt.split x ⟨#[c]⟩ = splS c x := by
  refine map_tl_inj ?_
  rw [split_spl x ⟨#[c]⟩ (by simp) (kind_ok (by simpa using hc))]
  unfold splS
  rw [List.map_map]
  show spl [c] 0 [] (tl x) = (spl [c] 0 [] (tl x)).map (fun l => l)
  rw [List.map_id']
theorem sOk_spl {c : Nat} {x : Str} (h : sOk x = true) : ∀ y ∈ splS c x, sOk y = true := fun y hy => by
  obtain ⟨l, hl, rfl⟩ := List.mem_map.mp hy
  obtain ⟨h1, h2⟩ := spl_mem 0 [] (tl x) l hl
  refine sOk_of ?_ fun c' hc => sOk_cps h c' ((h2 c' hc).resolve_left (by simp))
  have := sOk_len h
  rw [len_tl] at this
  show l.toArray.size ≤ strLim
  rw [List.size_toArray]
  rw [List.length_nil, Nat.zero_add] at h1
  exact Nat.le_trans h1 this
def splitD : D → List D → (D → Prop) → Prop := fun x ds Q => ∃ z c, x = .str z ∧ ds = [.str ⟨#[c]⟩] ∧ c < 256 ∧ Q (.lst ((splS c z).map .str))
theorem new_strs {F H : Hp} {ys : List Str} {Qd : D → Prop} {Q : VK} (sub : Same F H) (hl : ys.length ≤ sizeLine) (hy : ∀ y ∈ ys, sOk y = true) (h : Qd (.lst (ys.map .str))) (hQ : ∀ d v F' H', Qd d → Grow F H F' H' → Rep K F' d v → Q v H') : rNewStrs ys H Q := fun p np => by
  have g : Grow F H (upd F p (.lst (ys.map V.str))) (upd H p (.lst (ys.map V.str))) := Grow.new sub np
  exact hQ _ _ _ _ h g ⟨p, _, rfl, upd_same, by rw [List.length_map]; exact hl, reps_of_strs ys hy⟩
theorem o_split : OpM K (fun x xs H Q => ∃ a b, x = .str a ∧ xs = [.str b] ∧ (b.length == 0) = false ∧ a.length + 2 ≤ sizeLine ∧ rNewStrs (Txt.split a b) H Q) splitD := by
  intro F H dx x ds vs Qd Q sub rx rs h hQ
  obtain ⟨z, c, rfl, rfl, hc, q⟩ := h
  obtain ⟨rfl, hz⟩ := rx
  obtain ⟨v, _, rfl, ⟨rfl, _⟩, rn⟩ := rs
  cases rn
  refine ⟨z, ⟨#[c]⟩, rfl, rfl, rfl, line2 hz, ?_⟩
  have hl := PyProof.Rows.split_le z ⟨#[c]⟩
  have h2 := line2 hz
  rw [split_splS hc] at hl ⊢
  exact new_strs sub (by omega) (sOk_spl hz) q hQ
def joinS (z : Str) (ys : List Str) : Str := Str.join z ys
theorem joinL_len (S : List Nat) : ∀ ps : List (List Nat), (joinL S ps).length ≤ (ps.map List.length).sum + ps.length * S.length
  | [] => by simp [joinL]
  | [p] => by simp [joinL]
  | p :: q :: r => by
    have ih := joinL_len S (q :: r)
    have e : joinL S (p :: q :: r) = p ++ S ++ joinL S (q :: r) := (List.append_assoc _ _ _).symm
    rw [e]
    simp only [List.length_append, List.map_cons, List.sum_cons, List.length_cons] at ih ⊢
    have e2 : (r.length + 1 + 1) * S.length = (r.length + 1) * S.length + S.length := Nat.succ_mul _ _
    omega
theorem joinL_mem (S : List Nat) {c : Nat} : ∀ ps : List (List Nat), c ∈ joinL S ps → c ∈ S ∨ ∃ p ∈ ps, c ∈ p
  | [], h => by simp [joinL] at h
  | [p], h => .inr ⟨p, by simp, h⟩
  | p :: q :: r, h => by
    have e : joinL S (p :: q :: r) = p ++ S ++ joinL S (q :: r) := (List.append_assoc _ _ _).symm
    rw [e] at h
    rcases List.mem_append.mp h with h | h
    · rcases List.mem_append.mp h with h | h
      · exact .inr ⟨p, by simp, h⟩
      · exact .inl h
    · rcases joinL_mem S (q :: r) h with h | ⟨u, hu, hc⟩
      · exact .inl h
      · exact .inr ⟨u, List.mem_cons_of_mem _ hu, hc⟩
def joinD : D → List D → (D → Prop) → Prop := fun x ds Q => ∃ z ys, x = .str z ∧ (ds = [.lst (ys.map .str)] ∨ ds = [.tup (ys.map .str)]) ∧ (ys.map (·.length)).sum + ys.length * z.length ≤ strLim ∧ Q (.str (joinS z ys))
theorem o_join : OpM K (fun x xs H Q => ∃ a p, ∃ ys : List Str, x = .str a ∧ xs = [.ref p] ∧ (SqL K H p (ys.map V.str) ∨ SqT K H p (ys.map V.str)) ∧
    (ys.map (·.length)).sum + ys.length * a.length ≤ 16777216 ∧ Q (.str (Txt.join a ys)) H) joinD := by
  intro F H dx x ds vs Qd Q sub rx rs h hQ
  obtain ⟨z, ys, rfl, hd, hl, q⟩ := h
  obtain ⟨rfl, hz⟩ := rx
  have hs : strLim = 1000000 := rfl
  have fin : ∀ (hy : ∀ y ∈ ys, sOk y = true), Q (.str (Txt.join z ys)) H := fun hy => by
    rw [join_eq]
    refine hQ _ _ F H q (Grow.refl sub) ⟨rfl, sOk_of ?_ fun c hc => ?_⟩
    · rw [len_tl]
      show (tl (Str.join z ys)).length ≤ strLim
      rw [tl_join]
      refine Nat.le_trans (joinL_len _ _) ?_
      rw [List.map_map, List.length_map, ← len_tl]
      have e : ys.map (List.length ∘ tl) = ys.map (·.length) := List.map_congr_left fun y _ => (len_tl y).symm
      rw [e]
      exact hl
    · have hc' : c ∈ tl (Str.join z ys) := hc
      rw [tl_join] at hc'
      rcases joinL_mem _ _ hc' with h | ⟨p, hp, hcp⟩
      · exact sOk_cps hz c h
      · obtain ⟨y, hy', rfl⟩ := List.mem_map.mp hp
        exact sOk_cps (hy y hy') c hcp
  rcases hd with rfl | rfl
  · obtain ⟨v, _, rfl, ⟨a, ws, rfl, h1, _, r⟩, rn⟩ := rs
    cases rn
    obtain ⟨rfl, hy⟩ := reps_strs r
    exact ⟨z, a, ys, rfl, rfl, .inl (.inl (.inl (sub _ _ h1))), by omega, fin hy⟩
  · obtain ⟨v, _, rfl, ⟨a, ws, rfl, h1, _, r⟩, rn⟩ := rs
    cases rn
    obtain ⟨rfl, hy⟩ := reps_strs r
    exact ⟨z, a, ys, rfl, rfl, .inr (Same.seqT sub h1), by omega, fin hy⟩
def swD : D → List D → (D → Prop) → Prop := fun x ds Q => ∃ a b, x = .str a ∧ ds = [.str b] ∧ Q (.bl (Txt.startswith a b))
theorem o_sw : OpM K (fun x xs H Q => ∃ a b, x = .str a ∧ xs = [.str b] ∧ Q (.bl (Txt.startswith a b)) H) swD := by
  intro F H dx x ds vs Qd Q sub rx rs h hQ
  obtain ⟨a, b, rfl, rfl, q⟩ := h
  obtain ⟨rfl, _⟩ := rx
  obtain ⟨v, _, rfl, ⟨rfl, _⟩, rn⟩ := rs
  cases rn
  exact ⟨a, b, rfl, rfl, hQ _ _ F H q (Grow.refl sub) rfl⟩
/-- rpartition -/
theorem mt_rpartition : MtR X "str.rpartition" (fun x xs H Q => ∃ a b, x = .str a ∧ xs = [.str b] ∧ (b.length == 0) = false ∧ a.length ≤ sizeLine ∧
    ∀ p, H p = none → Q (.ref p) (upd H p (.tup [.str (Txt.rpartition a b).1, .str (Txt.rpartition a b).2.1, .str (Txt.rpartition a b).2.2]))) := by
  intro pins s σ H x xs v us Q I rx rs h
  obtain ⟨a, b, rfl, rfl, hb, hz, h⟩ := h
  obtain ⟨t, rfl⟩ := rx
  cases rs with
  | cons r1 rs =>
    cases rs
    obtain ⟨u, rfl⟩ := r1
    refine call_meets PySem.F.slot_str_rpartition (typeIs_str _ _ _) PySem.F.entry_str_rpartition (PySem.F.args_str_rpartition_2 _ _) (meets_str_rpartition a b t u hb hz) ?_
    unfold Txt.rpartition at h
    revert h
    cases Builtin.Str.lastOccurrence a b 0 a.length with
    | none => intro h; exact laid_parts I h
    | some i => intro h; exact laid_parts I h
def rpartD : D → List D → (D → Prop) → Prop := fun x ds Q => ∃ z c, x = .str z ∧ ds = [.str ⟨#[c]⟩] ∧ c < 0x110000 ∧ Q (.tup [.str (Txt.rpartition z ⟨#[c]⟩).1, .str (Txt.rpartition z ⟨#[c]⟩).2.1, .str (Txt.rpartition z ⟨#[c]⟩).2.2])
theorem sOk_sub {z : Str} (h : sOk z = true) (i j : Nat) : sOk (Builtin.Str.strSub z i j) = true := by
  refine sOk_of ?_ fun c hc => ?_
  · rw [len_tl, tl_strSub, List.length_take, List.length_drop]
    have := sOk_len h
    rw [len_tl] at this
    omega
  · have hc' : c ∈ tl (Builtin.Str.strSub z i j) := hc
    rw [tl_strSub] at hc'
    exact sOk_cps h c (List.mem_of_mem_drop (List.mem_of_mem_take hc'))
theorem sOk_rpart {z : Str} {b : Str} (h : sOk z = true) (hb : sOk b = true) : sOk (Txt.rpartition z b).1 = true ∧ sOk (Txt.rpartition z b).2.1 = true ∧ sOk (Txt.rpartition z b).2.2 = true := by
  unfold Txt.rpartition
  cases Builtin.Str.lastOccurrence z b 0 z.length with
  | none => exact ⟨by show sOk Str.empty = true; decide, by show sOk Str.empty = true; decide, h⟩
  | some i => exact ⟨sOk_sub h _ _, hb, sOk_sub h _ _⟩
theorem o_rpart : OpM K (fun x xs H Q => ∃ a b, x = .str a ∧ xs = [.str b] ∧ (b.length == 0) = false ∧ a.length ≤ sizeLine ∧
    ∀ p, H p = none → Q (.ref p) (upd H p (.tup [.str (Txt.rpartition a b).1, .str (Txt.rpartition a b).2.1, .str (Txt.rpartition a b).2.2]))) rpartD := by
  intro F H dx x ds vs Qd Q sub rx rs h hQ
  obtain ⟨z, c, rfl, rfl, hc, q⟩ := h
  obtain ⟨rfl, hz⟩ := rx
  obtain ⟨v, _, rfl, ⟨rfl, hb⟩, rn⟩ := rs
  cases rn
  obtain ⟨k1, k2, k3⟩ := sOk_rpart hz hb
  refine ⟨z, ⟨#[c]⟩, rfl, rfl, rfl, line0 hz, fun p np => ?_⟩
  have g : Grow F H (upd F p (.tup [.str (Txt.rpartition z ⟨#[c]⟩).1, .str (Txt.rpartition z ⟨#[c]⟩).2.1, .str (Txt.rpartition z ⟨#[c]⟩).2.2])) (upd H p (.tup [.str (Txt.rpartition z ⟨#[c]⟩).1, .str (Txt.rpartition z ⟨#[c]⟩).2.1, .str (Txt.rpartition z ⟨#[c]⟩).2.2])) := Grow.new sub np
  exact hQ _ _ _ _ q g ⟨p, _, rfl, .inl (.inl upd_same), by show 3 ≤ sizeLine; decide, .cons ⟨rfl, k1⟩ (.cons ⟨rfl, k2⟩ (.one ⟨rfl, k3⟩))⟩
end
end DL

set_option Elab.async false
set_option linter.all false
set_option maxRecDepth 100000
namespace DL
open PySem PySem.Spec PyProof.Rows L2 TL

/-! ### a list that is a def's own: its items read and stored, its length -/
section
variable {X : Cx} {m : Mem} {E : Ent m} {e b : Expr} {te tb : DT m} {pos : Pos}
def dIxO {m : Mem} (i : Nat) (tb : DT m) : DT m := fun ρ s Q => (∃ ds0, ρ[i]? = some (.ow (.lst ds0))) ∧ tb ρ s fun y ρ1 s1 => ∃ k ds d, y = .int k ∧ ρ1[i]? = some (.ow (.lst ds)) ∧ atI ds k = some d ∧ Q d ρ1 s1
theorem de_ixO (i : Nat) {x : Str} {xpos : Pos} (hb : PE X b (up X.K m tb)) (hN : X.N[i]? = some x := by rfl) (hv : Vis X.env.scope x := by first | exact Or.inl rfl | exact Or.inr (Or.inl rfl) | exact Or.inr (Or.inr rfl))
    (hd : (x == ("__debug__" : Str)) = false := by decide) (hcd : (x == ("__classdict__" : Str)) = false := by decide) (hs : PlainIx b := by exact fun _ _ => rfl) : PE X (.Subscript (.Name x xpos) b pos) (up X.K m (dIxO i tb)) :=
  PE.imp (pe_ix ix_list (pv i hN hv hd hcd) hb hs) fun σ H Q h => by
    obtain ⟨F, ρ, s, Qd, r, ⟨⟨ds0, e0⟩, ht⟩, hQ⟩ := h
    obtain ⟨p, ho, h1, h2, ⟨vs0, rfl, hl0, rs0⟩, h4, h5⟩ := r.own_at e0
    refine ⟨_, h1, F, ρ, s, _, r, ht, fun y ρ1 s1 v F1 H1 ⟨k, ds, d, ey, e1, ea, q1⟩ r1 st1 rv => ?_⟩
    subst ey
    cases rv
    obtain ⟨p', ho, g1, g2, ⟨vs, rfl, hl, rs⟩, g4, g5⟩ := r1.own_at e1
    rw [h1] at g1; cases g1
    obtain ⟨w, ew, rw'⟩ := rs.atI ea
    exact ⟨p, vs, k, w, rfl, rfl, .inl (.inl g2), ew, hQ d ρ1 s1 w F1 H1 q1 r1 st1 rw'⟩
def dLenO {m : Mem} (i : Nat) : DT m := fun ρ s Q => ∃ ds, ρ[i]? = some (.ow (.lst ds)) ∧ Q (.int (ds.length : Nat)) ρ s
theorem de_lenO (i : Nat) {x : Str} {xpos p : Pos} (hg : Gl X "len") (hm : X.mg "len" = none) (hN : X.N[i]? = some x := by rfl) (hv : Vis X.env.scope x := by first | exact Or.inl rfl | exact Or.inr (Or.inl rfl) | exact Or.inr (Or.inr rfl))
    (hd : (x == ("__debug__" : Str)) = false := by decide) (hcd : (x == ("__classdict__" : Str)) = false := by decide)
    (hs : starEach [.Name x xpos] X.env = [(false, eval (.Name x xpos) X.env)] := by rfl) : PE X (.Call (.Name "len" p) [.Name x xpos] [] pos) (up X.K m (dLenO i)) :=
  PE.imp (pe_callB call_len_seq hg hm PySem.boot_len (pa_cons (pv i hN hv hd hcd) pa_nil (by rw [hs]; rfl)) (by decide) (by decide) (by rw [hs]; rfl) rfl) fun σ H Q h => by
    obtain ⟨F, ρ, s, Qd, r, ⟨ds, e0, q⟩, hQ⟩ := h
    obtain ⟨p, ho, h1, h2, ⟨vs, rfl, hl, rs⟩, h4, h5⟩ := r.own_at e0
    refine ⟨_, h1, p, vs, rfl, .inl (.inl (.inl h2)), ?_⟩
    rw [rs.length]
    exact hQ _ ρ s _ F H q r Stp.refl rfl
/-- x[i] = e -/
def dStO {m : Mem} (i : Nat) (te tb : DT m) : DTS m := fun dd ρ s => te ρ s fun d ρ1 s1 => (∃ ds0, ρ1[i]? = some (.ow (.lst ds0))) ∧ tb ρ1 s1 fun y ρ2 s2 => ∃ k ds j, y = .int k ∧ ρ2[i]? = some (.ow (.lst ds)) ∧ ixN ds.length k = some j ∧ dd.nx (ρ2.set i (.ow (.lst (ds.set j d)))) s2
theorem ds_stO (i : Nat) {x : Str} {xpos spos : Pos} (he : PE X e (up X.K m te)) (hb : PE X b (up X.K m tb)) (hN : X.N[i]? = some x := by rfl) (hv : Vis X.env.scope x := by first | exact Or.inl rfl | exact Or.inr (Or.inl rfl) | exact Or.inr (Or.inr rfl))
    (hd : (x == ("__debug__" : Str)) = false := by decide) (hcd : (x == ("__classdict__" : Str)) = false := by decide)
    (ha : ∀ v, assign (.Subscript (.Name x xpos) b spos) X.env v = (do
      let ov ← holding [v] (eval (.Name x xpos) X.env)
      let iv ← holding [v, ov] (eval b X.env)
      standAt spos
      holding [v, ov, iv] (setItem ov iv v)
      release [v, ov, iv] []) := by intro _; rfl)
    (hs : swapsWithSole [.Subscript (.Name x xpos) b spos] e pos.line X.env = pure false := by rfl) (hw : swappedStores [.Subscript (.Name x xpos) b spos] e X.env = pure none := by rfl)
    (h1 : (assignEach [.Subscript (.Name x xpos) b spos] X.env).map (·.2) = [assign (.Subscript (.Name x xpos) b spos) X.env] := by rfl) :
    PS X (.Assign [.Subscript (.Name x xpos) b spos] e pos) (upS X.K m E (dStO i te tb)) :=
  PS.imp (ps_asg he (pg_sub (pv i hN hv hd hcd) hb set_list ha) hs hw h1) fun DD σ H h => by
    obtain ⟨F, ρ, s, dd, r, o, ht, f⟩ := h
    refine ⟨F, ρ, s, _, r, ht, fun d ρ1 s1 v F1 H1 ⟨⟨ds0, e0⟩, q1⟩ r1 st1 rv => ?_⟩
    obtain ⟨p, ho, h1, h2, ⟨vs0, rfl, hl0, rs0⟩, h4, h5⟩ := r1.own_at e0
    refine ⟨_, h1, F1, ρ1, s1, _, r1, q1, fun y ρ2 s2 u F2 H2 ⟨k, ds, j, ey, e2, ej, q2⟩ r2 st2 ru => ?_⟩
    subst ey
    cases ru
    obtain ⟨p', ho, g1, g2, ⟨vs, rfl, hl, rs⟩, g4, g5⟩ := r2.own_at e2
    rw [h1] at g1; cases g1
    refine ⟨p, vs, k, j, rfl, rfl, g2, by rw [rs.length]; exact ej, ?_⟩
    refine f.nx F2 _ σ _ s2 (st1.ext.trans st2.ext) (r2.write (o' := .lst (ds.set j d)) e2 h1 ⟨vs.set j v, rfl, by rw [List.length_set]; exact hl, rs.set (Rep.mono st2.ext _ _ rv) j⟩) (((o.stp st1).stp st2).write (K := X.K) e2 h1) q2
end

/-! ### further -/
section
variable {X : Cx} {m : Mem} {E : Ent m}
def dNever {m : Mem} : DTS m := fun _ _ _ => False
theorem ds_never {st : Stmt} : PS X st (upS X.K m E dNever) := PS.imp ps_never fun DD σ H h => by
  obtain ⟨F, ρ, s, dd, r, o, ht, f⟩ := h
  exact ht.elim
theorem u64R {A : Around} {k : Nat} (hr : Room k A) : A.units + 64 < cLine := by have := hr.un; omega
theorem u1 {A : Around} {k : Nat} (hr : RoomG k A) : A.units + 1 < cLine := by have := hr.r.un; omega
theorem u64 {A : Around} {k : Nat} (hr : RoomG k A) : A.units + 64 < cLine := by have := hr.r.un; omega
theorem u65 {A : Around} {k : Nat} (hr : RoomG k A) : A.units + 65 < cLine := by have := hr.r.un; omega
end

/-! ### the deck: the draws of a script -/
structure DkS where
  adr : Option (Addr × Addr × Addr)
  n : Nat
def DkAt (H : Hp) (a b c : Addr) (n : Nat) : Prop := a ≠ b ∧ a ≠ c ∧ b ≠ c ∧ ∃ (big all : List Int) (t : Int), H a = some (.lst [.ref b, .ref c, .int t]) ∧ H b = some (.lst (big.map V.int)) ∧ H c = some (.lst (all.map V.int)) ∧ all ≠ [] ∧ all.length ≤ 1000 ∧ big.length ≤ 1000 ∧ 0 ≤ t ∧ t ≤ n
def Mem.deck : Mem where
  S := DkS
  M := fun s H => ∀ a b c, s.adr = some (a, b, c) → DkAt H a b c s.n
  R := fun s x => ∃ a b c, s.adr = some (a, b, c) ∧ (x = a ∨ x = b ∨ x = c)
  loc := fun s H H' h k a b c e => by
    obtain ⟨n1, n2, n3, big, all, t, h1, h2, h3, r⟩ := h a b c e
    exact ⟨n1, n2, n3, big, all, t, (k a ⟨a, b, c, e, .inl rfl⟩).trans h1, (k b ⟨a, b, c, e, .inr (.inl rfl)⟩).trans h2, (k c ⟨a, b, c, e, .inr (.inr rfl)⟩).trans h3, r⟩
  there := fun s H x h ⟨a, b, c, e, hx⟩ => by
    obtain ⟨n1, n2, n3, big, all, t, h1, h2, h3, r⟩ := h a b c e
    rcases hx with rfl | rfl | rfl
    · rw [h1]; simp
    · rw [h2]; simp
    · rw [h3]; simp
/-- how many draws there may be -/
abbrev drawLim : Nat := 2 ^ 60
/-- a draw: a number below many -/
def spNext : DSp Mem.deck := fun ds s Q => ∃ a b c n, s.adr = some (a, b, c) ∧ ds = [.any (.ref a), .int n] ∧ 0 < n ∧ n < 1073741824 ∧ s.n < drawLim ∧ ∀ (r : Int) (k : Nat), 0 ≤ r → r < n → k = s.n + 1 → Q (.int r) ⟨s.adr, k⟩
theorem spNext_len : ∀ ds s Qd, spNext ds s Qd → ds.length = 2 := fun ds s Qd ⟨_, _, _, _, _, e, _⟩ => by rw [e]; rfl
/-- the deck of a script -/
def spDeck : DSp Mem.deck := fun ds s Q => ∃ ns : List Int, ds = [.fz (ns.map .int)] ∧ ns.length ≤ 63 ∧ s.adr = none ∧ ∀ a b c, Q (.any (.ref a)) ⟨some (a, b, c), s.n⟩
theorem spDeck_len : ∀ ds s Qd, spDeck ds s Qd → ds.length = 1 := fun ds s Qd ⟨_, e, _⟩ => by rw [e]; rfl
def absI (i : Int) : Int := if i < 0 then -i else i
theorem ix0 (x : Int) (bg : List Int) : ixN (((x :: bg).map V.int).length) 0 = some 0 := by
  unfold ixN
  rw [if_pos (by decide), if_pos (by rw [List.length_map, List.length_cons]; omega)]
  rfl
end DL

set_option Elab.async false
set_option linter.all false
set_option maxRecDepth 100000
namespace DL
open PySem PySem.Spec PyProof.Rows L2 TL

section
variable {X : Cx} {m : Mem} {pos : Pos}
theorem de_globI {x : Str} {i : Int} (hg : Gl X x) (hm : ∃ t, X.mg x = some (.int i t)) (hd : (x == ("__debug__" : Str)) = false := by decide) : PE X (.Name x pos) (up X.K m (dC (.int i))) := by
  obtain ⟨t, hm⟩ := hm
  exact de_glob (v := .int i) hg hm ⟨_, rfl⟩ (fun _ => rfl) hd
end
/-- the law's own promise -/
def spLaw : DSp Mem.deck := fun ds s Q => ∃ ns : List Int, ds = [.fz (ns.map .int)] ∧ ns.length ≤ 63 ∧ s.adr = none ∧ s.n = 0 ∧ ∀ s', Q (.bl true) s'
theorem law_start {K : PySem.W.Frag} {H : Hp} {a : Addr} {ns : List Int} {E : XK} (hl : ns.length ≤ 63) (hO : Only H) (hS : SqL K H a (ns.map V.int)) : lift K Mem.deck 1 spLaw [.ref a] H (fun v _ => v = .bl true) E := by
  refine ⟨rfl, H, [.fz (ns.map .int)], ⟨none, 0⟩, fun d _ => d = .bl true, Same.refl H, (fun _ _ _ e => by cases e), (fun x ⟨_, _, _, e, _⟩ => by cases e), .one ⟨a, _, rfl, hS, ?_, reps_of_ints ns⟩, ⟨ns, rfl, hl, rfl, rfl, fun _ => rfl⟩, fun d s' v F' H' e _ rv => ?_⟩
  · rw [List.length_map]; exact Nat.le_of_lt (small1000 (by omega))
  · subst e; exact rv

/-! ### small facts -/
theorem pick_ints (l : List Int) (r : Int) (h0 : 0 ≤ r) (h1 : r < (l.length : Nat)) : ∃ k ∈ l, atI (l.map D.int) r = some (.int k) := by
  obtain ⟨j, hj⟩ : ∃ j : Nat, r = (j : Int) := ⟨r.toNat, by omega⟩
  subst hj
  have hj2 : j < l.length := by omega
  exact ⟨l[j], List.getElem_mem hj2, atI_nat (by rw [List.getElem?_map, List.getElem?_eq_getElem hj2]; rfl)⟩
theorem pick_any {α : Type} (l : List α) (r : Int) (h0 : 0 ≤ r) (h1 : r < (l.length : Nat)) : ∃ k ∈ l, atI l r = some k := by
  obtain ⟨j, hj⟩ : ∃ j : Nat, r = (j : Int) := ⟨r.toNat, by omega⟩
  subst hj
  have hj2 : j < l.length := by omega
  exact ⟨l[j], List.getElem_mem hj2, atI_nat (List.getElem?_eq_getElem hj2)⟩
theorem pick_map {α : Type} (f : α → D) (l : List α) (r : Int) (h0 : 0 ≤ r) (h1 : r < (l.length : Nat)) : ∃ k ∈ l, atI (l.map f) r = some (f k) := by
  obtain ⟨d, hd, e⟩ := pick_any (l.map f) r h0 (by rw [List.length_map]; exact h1)
  obtain ⟨k, hk, rfl⟩ := List.mem_map.mp hd
  exact ⟨k, hk, e⟩
/-- one letter -/
def one (c : Nat) : Str := ⟨#[c]⟩
theorem join0 (ls : List Nat) : tl (joinS ⟨#[]⟩ (ls.map one)) = ls := by
  show tl (Str.join ⟨#[]⟩ (ls.map one)) = ls
  rw [tl_join, List.map_map]
  show joinL [] (ls.map fun c => [c]) = ls
  have h : ∀ l : List Nat, joinL [] (l.map fun c => [c]) = l := fun l => by
    induction l with
    | nil => rfl
    | cons a r ih =>
      cases r with
      | nil => rfl
      | cons b t =>
        show [a] ++ ([] ++ joinL [] ((b :: t).map fun c => [c])) = a :: b :: t
        rw [ih]
        rfl
  exact h ls
theorem letters_tl : tl ("abcdefghijklmnopqrstuvwxyz" : Str) = [97, 98, 99, 100, 101, 102, 103, 104, 105, 106, 107, 108, 109, 110, 111, 112, 113, 114, 115, 116, 117, 118, 119, 120, 121, 122] := by decide +kernel
theorem letter_at {r : Int} (h0 : 0 ≤ r) (h1 : r < 26) : ∃ c, 97 ≤ c ∧ c ≤ 122 ∧ atI (tl ("abcdefghijklmnopqrstuvwxyz" : Str)) r = some c := by
  rw [letters_tl]
  obtain ⟨c, hc, e⟩ := pick_any [97, 98, 99, 100, 101, 102, 103, 104, 105, 106, 107, 108, 109, 110, 111, 112, 113, 114, 115, 116, 117, 118, 119, 120, 121, 122] r h0 h1
  have hall : ∀ c ∈ [97, 98, 99, 100, 101, 102, 103, 104, 105, 106, 107, 108, 109, 110, 111, 112, 113, 114, 115, 116, 117, 118, 119, 120, 121, 122], 97 ≤ c ∧ c ≤ 122 := by decide
  exact ⟨c, (hall c hc).1, (hall c hc).2, e⟩
/-- a name: one to eight letters -/
def NameOk (x : Str) : Prop := 1 ≤ x.length ∧ x.length ≤ 8 ∧ ∀ c ∈ tl x, 97 ≤ c ∧ c ≤ 122
theorem nameOk_of {ls : List Nat} (h1 : 1 ≤ ls.length) (h8 : ls.length ≤ 8) (h : ∀ c ∈ ls, 97 ≤ c ∧ c ≤ 122) : NameOk (joinS ⟨#[]⟩ (ls.map one)) := by
  have e := join0 ls
  exact ⟨by rw [len_tl, e]; exact h1, by rw [len_tl, e]; exact h8, by rw [e]; exact h⟩
theorem sum_ones (ls : List Nat) : ((ls.map one).map (·.length)).sum = ls.length := by
  induction ls with
  | nil => rfl
  | cons a r ih => rw [List.map_cons, List.map_cons, List.sum_cons, ih, List.length_cons]; show 1 + r.length = _; omega

/-! ### what the law's own defs promise -/
def spName : DSp Mem.deck := fun ds s Q => ∃ a b c, s.adr = some (a, b, c) ∧ ds = [.any (.ref a)] ∧ s.n + 20 < drawLim ∧ ∀ x k, NameOk x → k ≤ s.n + 20 → Q (.str x) ⟨s.adr, k⟩
theorem spName_len : ∀ ds s Qd, spName ds s Qd → ds.length = 1 := fun ds s Qd ⟨_, _, _, _, e, _⟩ => by rw [e]; rfl
def spPool : DSp Mem.deck := fun ds s Q => ∃ a b c n, s.adr = some (a, b, c) ∧ ds = [.any (.ref a), .int n] ∧ 2 ≤ n ∧ n ≤ 10 ∧ s.n + 300 < drawLim ∧ ∀ (xs : List Str) k, (xs.length : Nat) = n.toNat → (∀ x ∈ xs, NameOk x) → k ≤ s.n + 300 → Q (.lst (xs.map .str)) ⟨s.adr, k⟩
theorem spPool_len : ∀ ds s Qd, spPool ds s Qd → ds.length = 2 := fun ds s Qd ⟨_, _, _, _, _, e, _⟩ => by rw [e]; rfl
/-- a path: names of a pool with dots between -/
def PathOf (pool : List Str) (most : Int) (x : Str) : Prop := ∃ ns : List Str, 1 ≤ ns.length ∧ (ns.length : Int) ≤ most ∧ (∀ y ∈ ns, y ∈ pool) ∧ x = joinS ⟨#[46]⟩ ns
def spPath : DSp Mem.deck := fun ds s Q => ∃ a b c pool most, s.adr = some (a, b, c) ∧ ds = [.any (.ref a), .lst (pool.map .str), .int most] ∧ 1 ≤ most ∧ most ≤ 10 ∧ 0 < pool.length ∧ pool.length ≤ 100 ∧ (∀ x ∈ pool, x.length ≤ 8) ∧ s.n + 20 < drawLim ∧
  ∀ x k, PathOf pool most x → k ≤ s.n + 20 → Q (.str x) ⟨s.adr, k⟩
theorem spPath_len : ∀ ds s Qd, spPath ds s Qd → ds.length = 3 := fun ds s Qd ⟨_, _, _, _, _, _, e, _⟩ => by rw [e]; rfl
theorem sum_le8 {ns : List Str} (h : ∀ y ∈ ns, y.length ≤ 8) : (ns.map (·.length)).sum ≤ 8 * ns.length := by
  induction ns with
  | nil => exact Nat.zero_le _
  | cons a r ih =>
    have h1 := h a List.mem_cons_self
    have h2 := ih fun y hy => h y (List.mem_cons_of_mem _ hy)
    rw [List.map_cons, List.sum_cons, List.length_cons]
    omega
theorem joinS_len {z : Str} {ns : List Str} : (joinS z ns).length ≤ (ns.map (·.length)).sum + ns.length * z.length := by
  rw [len_tl]
  show (tl (Str.join z ns)).length ≤ _
  rw [tl_join]
  refine Nat.le_trans (joinL_len _ _) ?_
  rw [List.map_map, List.length_map, ← len_tl]
  have e : ns.map (List.length ∘ tl) = ns.map (·.length) := List.map_congr_left fun y _ => (len_tl y).symm
  rw [e]
  exact Nat.le_refl _
theorem PathOf.len {pool : List Str} {most : Int} {x : Str} (h : PathOf pool most x) (hp : ∀ y ∈ pool, y.length ≤ 8) (hm : most ≤ 10) : x.length ≤ 90 := by
  obtain ⟨ns, h1, h2, h3, rfl⟩ := h
  have q1 := joinS_len (z := ⟨#[46]⟩) (ns := ns)
  have q2 := sum_le8 fun y hy => hp y (h3 y hy)
  have q3 : (⟨#[46]⟩ : Str).length = 1 := rfl
  rw [q3] at q1
  omega

/-! ### paths of the program -/
def dot : Str := ⟨#[46]⟩
def coversS (p o : Str) : Bool := o == p || Txt.startswith o (p ++ dot)
/-- .. as the law reads it -/
def lcov (p o : Str) : Bool := (splS 46 o).take (splS 46 p).length == splS 46 p
def spCovers {m : Mem} : DSp m := fun ds s Q => ∃ p o : Str, ds = [.str p, .str o] ∧ p.length ≤ 1000 ∧ Q (.bl (coversS p o)) s
theorem spCovers_len {m : Mem} : ∀ ds s Qd, (spCovers : DSp m) ds s Qd → ds.length = 2 := fun ds s Qd ⟨_, _, e, _⟩ => by rw [e]; rfl
def spLcov {m : Mem} : DSp m := fun ds s Q => ∃ p o : Str, ds = [.str p, .str o] ∧ Q (.bl (lcov p o)) s
theorem spLcov_len {m : Mem} : ∀ ds s Qd, (spLcov : DSp m) ds s Qd → ds.length = 2 := fun ds s Qd ⟨_, _, e, _⟩ => by rw [e]; rfl
def optS : Option Str → D
  | none => .non
  | some x => .str x
end DL

set_option Elab.async false
set_option linter.all false
set_option maxRecDepth 100000
namespace DL
open PySem PySem.Spec PyProof.Rows L2 TL

/-! ### texts cut at one sign -/
def cutL (c : Nat) : List Nat → List Nat → List (List Nat)
  | acc, [] => [acc]
  | acc, x :: r => if x = c then acc :: cutL c [] r else cutL c (acc ++ [x]) r
theorem spl_cut (c : Nat) : ∀ (l acc : List Nat), spl [c] 0 acc l = cutL c acc l
  | [], acc => spl_nil _ _ _
  | x :: r, acc => by
    by_cases h : x = c
    · subst h
      have e : pre [x] (x :: r) = true := pre_self [x] r
      rw [spl_hit e, cutL, if_pos rfl]
      show acc :: spl [x] 0 [] r = _
      rw [spl_cut x r []]
    · rw [spl_miss (pre_of_head [] r h), cutL, if_neg h, spl_cut c r]
theorem cutL_ne (c : Nat) : ∀ (l acc : List Nat), cutL c acc l ≠ []
  | [], acc => by simp [cutL]
  | x :: r, acc => by
    rw [cutL]
    by_cases h : x = c
    · rw [if_pos h]; simp
    · rw [if_neg h]; exact cutL_ne c r _
theorem cutL_app (c : Nat) (b : List Nat) : ∀ (a acc : List Nat), cutL c acc (a ++ c :: b) = cutL c acc a ++ cutL c [] b
  | [], acc => by
    show (if c = c then acc :: cutL c [] b else cutL c (acc ++ [c]) b) = acc :: cutL c [] b
    rw [if_pos rfl]
  | x :: r, acc => by
    show cutL c acc (x :: (r ++ c :: b)) = _
    rw [cutL, cutL]
    by_cases h : x = c
    · rw [if_pos h, if_pos h, cutL_app c b r]; rfl
    · rw [if_neg h, if_neg h, cutL_app c b r]
theorem joinL_cons (S p : List Nat) {q : List (List Nat)} (h : q ≠ []) : joinL S (p :: q) = p ++ (S ++ joinL S q) := by
  cases q with
  | nil => exact absurd rfl h
  | cons a r => rfl
theorem joinL_app (S : List Nat) {B : List (List Nat)} (hB : B ≠ []) : ∀ {A : List (List Nat)}, A ≠ [] → joinL S (A ++ B) = joinL S A ++ (S ++ joinL S B)
  | [], h => absurd rfl h
  | [p], _ => by
    show joinL S (p :: B) = p ++ _
    rw [joinL_cons S p hB]
  | p :: q :: r, _ => by
    show joinL S (p :: ((q :: r) ++ B)) = _
    rw [joinL_cons S p (by simp), joinL_app S hB (by simp), joinL_cons S p (by simp)]
    simp only [List.append_assoc]
theorem joinL_cut (c : Nat) : ∀ (l acc : List Nat), joinL [c] (cutL c acc l) = acc ++ l
  | [], acc => by simp [cutL, joinL]
  | x :: r, acc => by
    rw [cutL]
    by_cases h : x = c
    · rw [if_pos h, joinL_cons _ _ (cutL_ne c r []), joinL_cut c r, h]; simp
    · rw [if_neg h, joinL_cut c r]; simp
/-- the parts of a text, and the text again -/
theorem tl_splS (c : Nat) (x : Str) : (splS c x).map tl = cutL c [] (tl x) := by
  unfold splS
  rw [spl_cut, List.map_map]
  exact List.map_id' _
theorem splS_ne (c : Nat) (x : Str) : splS c x ≠ [] := fun h => by
  have := tl_splS c x
  rw [h] at this
  exact cutL_ne c _ _ this.symm
theorem join_splS (c : Nat) (x : Str) : joinS ⟨#[c]⟩ (splS c x) = x := by
  refine ext_tl ?_
  show tl (Str.join _ _) = _
  rw [tl_join, tl_splS]
  exact joinL_cut c _ _
theorem splS_inj {c : Nat} {x y : Str} (h : splS c x = splS c y) : x = y := by rw [← join_splS c x, h, join_splS]
theorem splS_app (c : Nat) (x y : Str) : splS c (x ++ ⟨#[c]⟩ ++ y) = splS c x ++ splS c y := by
  refine map_tl_inj ?_
  rw [List.map_append, tl_splS, tl_splS, tl_splS, tl_append, tl_append]
  show cutL c [] (tl x ++ [c] ++ tl y) = _
  rw [List.append_assoc]
  exact cutL_app c _ _ _
theorem splS_join {c : Nat} {ns : List Str} (h : ns ≠ []) (hf : ∀ x ∈ ns, c ∉ tl x) : splS c (joinS ⟨#[c]⟩ ns) = ns := by
  refine map_tl_inj ?_
  rw [tl_splS, ← spl_cut]
  show spl [c] 0 [] (tl (Str.join _ _)) = _
  rw [tl_join]
  exact spl_join (by simpa using h) fun p hp => by
    obtain ⟨x, hx, rfl⟩ := List.mem_map.mp hp
    exact hf x hx
/-- a text begins with another -/
theorem sw_iff (x y : Str) : Txt.startswith x y = true ↔ ∃ r, x = y ++ r := by
  have key : Txt.startswith x y = true ↔ (tl x).take (tl y).length = tl y := by
    show (decide (0 + y.length ≤ x.length) && Builtin.Str.subAt x y 0) = true ↔ _
    rw [Bool.and_eq_true, StrLaws.subAt_eq, List.drop_zero, len_tl, len_tl]
    constructor
    · rintro ⟨_, h⟩; exact eq_of_beq h
    · intro h
      refine ⟨decide_eq_true ?_, by rw [h]; exact beq_self_eq_true _⟩
      have := congrArg List.length h
      rw [List.length_take] at this
      omega
  rw [key]
  constructor
  · intro h
    refine ⟨⟨((tl x).drop (tl y).length).toArray⟩, ext_tl ?_⟩
    rw [tl_append]
    show tl x = tl y ++ (tl x).drop (tl y).length
    have e := List.take_append_drop (tl y).length (tl x)
    rw [h] at e
    exact e.symm
  · rintro ⟨r, rfl⟩
    rw [tl_append, List.take_left]
/-- the two ways to say: p covers o -/
theorem cov_eq (p o : Str) : coversS p o = lcov p o := by
  have key : coversS p o = true ↔ lcov p o = true := by
    unfold coversS lcov
    rw [Bool.or_eq_true, sw_iff, beq_iff_eq, beq_iff_eq]
    constructor
    · rintro (rfl | ⟨r, rfl⟩)
      · rw [List.take_length]
      · rw [show p ++ dot ++ r = p ++ ⟨#[46]⟩ ++ r from rfl, splS_app, List.take_left]
    · intro h
      have e := List.take_append_drop (splS 46 p).length (splS 46 o)
      rw [h] at e
      cases q : (splS 46 o).drop (splS 46 p).length with
      | nil => rw [q, List.append_nil] at e; exact .inl (splS_inj e).symm
      | cons a r =>
        rw [q] at e
        refine .inr ⟨joinS dot (a :: r), ?_⟩
        have e2 := join_splS 46 o
        rw [← e] at e2
        rw [← e2]
        refine ext_tl ?_
        show tl (Str.join _ _) = tl (p ++ dot ++ Str.join _ _)
        rw [tl_join, List.map_append, joinL_app _ (by simp) (by simpa using splS_ne 46 p), tl_append, tl_append, tl_join, List.append_assoc]
        have e3 := congrArg tl (join_splS 46 p)
        have e4 : tl (joinS ⟨#[46]⟩ (splS 46 p)) = joinL [46] ((splS 46 p).map tl) := tl_join _ _
        rw [e4] at e3
        show joinL [46] _ ++ _ = _
        rw [e3]
        rfl
  cases h1 : coversS p o <;> cases h2 : lcov p o
  · rfl
  · rw [key.mpr h2] at h1; cases h1
  · rw [key.mp h1] at h2; cases h2
  · rfl
end DL

set_option Elab.async false
set_option linter.all false
set_option maxRecDepth 100000
namespace DL
open PySem PySem.Spec PyProof.Rows L2 TL
theorem eqs (a b : Str) : eqD (.str a) (.str b) = decide (a = b) := by
  show (a == b) = _
  by_cases h : a = b
  · rw [decide_eq_true h, h]; simp
  · rw [decide_eq_false h]; exact beq_eq_false_iff_ne.mpr h
theorem eqss : ∀ (xs ys : List Str), eqDs (xs.map .str) (ys.map .str) = (xs == ys)
  | [], [] => rfl
  | [], _ :: _ => rfl
  | _ :: _, [] => rfl
  | x :: xs, y :: ys => by
    show (eqD (.str x) (.str y) && eqDs (xs.map .str) (ys.map .str)) = (x == y && xs == ys)
    rw [eqss xs ys]
    rfl
theorem plain_strs : ∀ (n : Nat) (xs : List Str), plainDs n (xs.map .str) = true
  | _, [] => by simp [plainDs]
  | n, x :: xs => by
    have := plain_strs n xs
    simp only [List.map_cons, plainDs, this, Bool.and_true]
    simp [plainD]
theorem plain_lst (xs : List Str) : plainD 60 (.lst (xs.map .str)) = true := by
  simp only [plainD]
  exact plain_strs 59 xs
theorem beq_dec (a b : Str) : (a == b) = decide (a = b) := by
  by_cases h : a = b
  · rw [decide_eq_true h, h]; simp
  · rw [decide_eq_false h]; exact beq_eq_false_iff_ne.mpr h

theorem map_str_inj : ∀ {xs ys : List Str}, xs.map D.str = ys.map D.str → xs = ys
  | [], [], _ => rfl
  | [], _ :: _, h => by cases h
  | _ :: _, [], h => by cases h
  | x :: xs, y :: ys, h => by
    rw [List.map_cons, List.map_cons] at h
    injection h with h1 h2
    injection h1 with h1
    rw [h1, map_str_inj h2]
theorem cut_take (xs : List D) (n : Nat) : cutD xs none (some (n : Int)) = xs.take n := by
  unfold cutD
  rw [HT.sIx_none, List.drop_zero, Nat.sub_zero, show HT.sIx xs.length xs.length (some (n : Int)) = min n xs.length from HT.sIx_nat _ _ n]
  by_cases h : n ≤ xs.length
  · rw [Nat.min_eq_left h]
  · rw [Nat.min_eq_right (by omega), List.take_length, List.take_of_length_le (by omega)]
theorem ixN_n {n j : Nat} (hj : j < n) : ixN n (j : Int) = some j := by
  unfold ixN
  rw [if_pos (by omega), if_pos (by omega)]
  simp
theorem tl_cut (x : Str) (n : Nat) : tl (cutS x none (some (n : Int))) = (tl x).take n := by
  show (((x.cps.toList.drop (HT.sIx x.length 0 none)).take (HT.sIx x.length x.length (some (n : Int)) - HT.sIx x.length 0 none)).toArray).toList = (tl x).take n
  rw [HT.sIx_none, List.drop_zero, Nat.sub_zero, show HT.sIx x.length x.length (some (n : Int)) = min n x.length from HT.sIx_nat _ _ n]
  show (tl x).take (min n x.length) = (tl x).take n
  by_cases h : n ≤ x.length
  · rw [Nat.min_eq_left h]
  · rw [Nat.min_eq_right (by omega), len_tl, List.take_length, List.take_of_length_le (by rw [← len_tl]; omega)]
theorem rng_pre {lo : Int} {n : Nat} {pre : List D} {x : D} {post : List D} (h : rngD lo n = pre ++ x :: post) : pre.length < n ∧ x = .int (lo + (pre.length : Int)) := by
  have hl := congrArg List.length h
  rw [rngD_length, List.length_append, List.length_cons] at hl
  have hp : pre.length < n := by omega
  refine ⟨hp, ?_⟩
  have e : (rngD lo n)[pre.length]? = some x := by rw [h]; simp
  unfold rngD at e
  rw [List.getElem?_map, List.getElem?_range hp] at e
  exact (Option.some.inj e).symm
def T_covers {m : Mem} : DTS m :=
  (dRet (dOrV (dCm eqC (dVar 1) (dVar 0)) (dMt "str" swD (dVar 1) (daCons (dOp addD (dVar 0) (dC (D.str (Str.ofString ".")))) daNil))))
theorem read_covers {m : Mem} : ∀ ds s Qd, (spCovers : DSp m) ds s Qd → (T_covers : DTS m) (endsOf Qd) (startD ["path", "other"] ds) s := by
  intro ds s Qd h
  obtain ⟨p, o, rfl, hl, hQ⟩ := h
  have hd : (Str.ofString ".") = dot := by decide +kernel
  refine ⟨rfl, rfl, _, rfl, ?_⟩
  rw [eqs]
  unfold coversS at hQ
  rw [beq_dec] at hQ
  by_cases e : o = p
  · rw [decide_eq_true e, Bool.true_or] at hQ
    rw [decide_eq_true e]
    exact hQ
  · rw [decide_eq_false e, Bool.false_or] at hQ
    rw [decide_eq_false e]
    refine ⟨rfl, ?_, o, p ++ Str.ofString ".", rfl, rfl, ?_⟩
    · rw [hd]
      show p.length + 1 ≤ strLim
      have : strLim = 1000000 := rfl
      omega
    · rw [hd]
      exact hQ
def T__law_covers {m : Mem} : DTS m :=
  (dSeq (dSet 2 (dMt "str" splitD (dVar 0) (daCons (dC (D.str (Str.ofString "."))) daNil)))
      (dRet (dCm eqC (dSl slD (dMt "str" splitD (dVar 1) (daCons (dC (D.str (Str.ofString "."))) daNil)) doNone (doSome (dB lenD (daCons (dVar 2) daNil)))) (dVar 2))))
theorem read__law_covers {m : Mem} : ∀ ds s Qd, (spLcov : DSp m) ds s Qd → (T__law_covers : DTS m) (endsOf Qd) (startD ["_law_path_here", "_law_other", "_law_names"] ds) s := by
  intro ds s Qd h
  obtain ⟨p, o, rfl, hQ⟩ := h
  have hd : (Str.ofString ".") = (⟨#[46]⟩ : Str) := by decide +kernel
  refine ⟨rfl, p, 46, rfl, by rw [hd], by decide, ?_⟩
  refine ⟨rfl, o, 46, rfl, by rw [hd], by decide, _, _, rfl, rfl, _, rfl, ?_⟩
  show eqC (.lst (cutD ((splS 46 o).map .str) none (some (((splS 46 p).map D.str).length : Nat)))) (.lst ((splS 46 p).map .str)) (fun k => Qd (.bl k) s)
  rw [cut_take, List.length_map, ← List.map_take]
  refine ⟨plain_lst _, plain_lst _, ?_⟩
  show Qd (.bl (eqDs _ _)) s
  rw [eqss]
  exact hQ
def T__law_name : DTS Mem.deck :=
  (dSeq (dSet 1 (dC (D.str (Str.ofString "abcdefghijklmnopqrstuvwxyz"))))
      (dSeq (dSet 2 (dOp ixD (dLst (daCons (dC (D.int 1)) (daCons (dC (D.int 2)) (daCons (dC (D.int 3)) (daCons (dC (D.int 8)) (daCons (dC (D.int 4)) (daCons (dC (D.int 1)) (daCons (dC (D.int 6)) (daCons (dC (D.int 2)) daNil))))))))) (dCall spNext (daCons (dVar 0) (daCons (dC (D.int 8)) daNil)))))
      (dRet (dMt "str" joinD (dC (D.str (Str.ofString ""))) (daCons (dLc (diR1 (daCons (dVar 2) daNil)) (gN 3) dYes (dOp ixD (dVar 1) (dCall spNext (daCons (dVar 0) (daCons (dC (D.int 26)) daNil)))) [3]) daNil)))))
theorem read__law_name : ∀ ds s Qd, (spName : DSp Mem.deck) ds s Qd → (T__law_name : DTS Mem.deck) (endsOf Qd) (startD ["_law_deck_here", "_law_letters", "_law_many", "_law_k"] ds) s := by
  intro ds s Qd h
  obtain ⟨a, b, c, hs, rfl, hn, hQ⟩ := h
  refine ⟨by decide, a, b, c, 8, hs, rfl, by decide, by decide, by omega, fun r k h0 h1 hk => ?_⟩
  obtain ⟨n, hn8, hat⟩ := pick_ints [1, 2, 3, 8, 4, 1, 6, 2] r h0 h1
  have hb : 1 ≤ n ∧ n ≤ 8 := (by decide : ∀ n ∈ [(1 : Int), 2, 3, 8, 4, 1, 6, 2], 1 ≤ n ∧ n ≤ 8) n hn8
  refine ⟨_, hat, rfl, ⟨n, rfl, by omega, by omega, ?_⟩⟩
  have hL : Str.ofString "" = (⟨#[]⟩ : Str) := by decide +kernel
  have hd : (Str.ofString ".") = dot := by decide +kernel
  refine ⟨by rw [rngD_length]; exact Nat.le_of_lt (small1000 (by omega)), fun pre acc s' => s'.adr = s.adr ∧ s'.n = k + pre.length ∧ ∃ ls : List Nat, acc = (ls.map one).map D.str ∧ ls.length = pre.length ∧ ∀ c ∈ ls, 97 ≤ c ∧ c ≤ 122, ⟨rfl, rfl, [], rfl, rfl, by simp⟩, ?_, ?_⟩
  · rintro pre x post acc s' e - ⟨e1, e2, ls, rfl, hl, hc⟩
    have hp : pre.length < n.toNat := by
      have := congrArg List.length e
      rw [rngD_length, List.length_append, List.length_cons] at this
      omega
    refine ⟨rfl, a, b, c, 26, e1.trans hs, rfl, by decide, by decide, by omega, fun r' k' g0 g1 gk => ?_⟩
    obtain ⟨ch, c1, c2, hat2⟩ := letter_at g0 g1
    refine ⟨ch, hat2, rfl, e1, by show k' = _; rw [List.length_append, List.length_singleton]; omega, ls ++ [ch], by rw [List.map_append, List.map_append]; rfl, by rw [List.length_append, List.length_append, hl]; rfl, fun c' hc' => ?_⟩
    rcases List.mem_append.mp hc' with z | z
    · exact hc c' z
    · rw [List.mem_singleton.mp z]; exact ⟨c1, c2⟩
  · rintro acc s' - ⟨e1, e2, ls, rfl, hl, hc⟩
    rw [rngD_length] at e2 hl
    refine ⟨_, ls.map one, rfl, .inl rfl, ?_, ?_⟩
    · rw [hL, sum_ones, List.length_map]
      show ls.length + ls.length * 0 ≤ strLim
      have : strLim = 1000000 := rfl
      omega
    · show Qd (.str (joinS _ _)) s'
      rw [hL]
      have := hQ _ s'.n (nameOk_of (by omega) (by omega) hc) (by omega)
      rw [← e1] at this
      exact this
def T__law_pool : DTS Mem.deck :=
  (dSeq (dSetLcO 2 (diR1 (daCons (dVar 1) daNil)) (gN 3) dYes (dCall spName (daCons (dVar 0) daNil)) [3])
      (dSeq (dIf (dCmT ltD (dB lenD (daCons (dIxO 2 (dC (D.int 0))) daNil)) (dC (D.int 8))) (dStO 2 (dOp addD (dIxO 2 (dC (D.int 0))) (dOp ixD (dC (D.str (Str.ofString "abcdefghijklmnopqrstuvwxyz"))) (dCall spNext (daCons (dVar 0) (daCons (dC (D.int 26)) daNil))))) (dC (D.int 1))) (dStO 2 (dSl slD (dIxO 2 (dC (D.int 0))) doNone (doSome (dC (D.int 7)))) (dC (D.int 1))))
      (dRet (dVar 2))))
theorem read__law_pool : ∀ ds s Qd, (spPool : DSp Mem.deck) ds s Qd → (T__law_pool : DTS Mem.deck) (endsOf Qd) (startD ["_law_deck_here", "_law_many", "_law_found", "_law_k"] ds) s := by
  intro ds s Qd h
  obtain ⟨a, b, c, n, hs, rfl, h2, h10, hn, hQ⟩ := h
  refine ⟨n, rfl, by omega, by omega, by rw [rngD_length]; exact Nat.le_of_lt (small1000 (by omega)), fun pre acc s' => s'.adr = s.adr ∧ s'.n ≤ s.n + 20 * pre.length ∧ ∃ xs : List Str, acc = xs.map D.str ∧ xs.length = pre.length ∧ ∀ x ∈ xs, NameOk x, ⟨rfl, Nat.le_refl _, [], rfl, rfl, by simp⟩, ?_, ?_⟩
  · rintro pre x post acc s' e - ⟨e1, e2, xs, rfl, hl, hc⟩
    have hp : pre.length < n.toNat := by
      have := congrArg List.length e
      rw [rngD_length, List.length_append, List.length_cons] at this
      omega
    refine ⟨rfl, a, b, c, e1.trans hs, rfl, by omega, fun y k' hy hk => ?_⟩
    refine ⟨rfl, e1, by show k' ≤ _; rw [List.length_append, List.length_singleton]; omega, xs ++ [y], by rw [List.map_append]; rfl, by rw [List.length_append, List.length_append, hl]; rfl, fun c' hc' => ?_⟩
    rcases List.mem_append.mp hc' with z | z
    · exact hc c' z
    · rw [List.mem_singleton.mp z]; exact hy
  · rintro acc s' - ⟨e1, e2, xs, rfl, hl, hc⟩
    rw [rngD_length] at e2 hl
    obtain ⟨x, y, r, rfl⟩ : ∃ x y r, xs = x :: y :: r := by
      match xs, hl with
      | [], hl => exact absurd hl (by show ¬ (0 = _); omega)
      | [_], hl => exact absurd hl (by show ¬ (1 = _); omega)
      | x :: y :: r, _ => exact ⟨x, y, r, rfl⟩
    have hx := hc x (by simp)
    have fin : ∀ (z : Str) (k : Nat), NameOk z → k ≤ s.n + 300 → Qd (.lst ((x :: z :: r).map .str)) ⟨s'.adr, k⟩ := fun z k hz hk => by
      rw [e1]
      refine hQ _ k (by rw [← hl]; rfl) (fun w hw => ?_) hk
      rcases List.mem_cons.mp hw with rfl | hw
      · exact hx
      · rcases List.mem_cons.mp hw with rfl | hw
        · exact hz
        · exact hc w (by simp [hw])
    refine ⟨_, rfl, ⟨⟨_, rfl⟩, 0, _, .str x, rfl, rfl, atI_nat (j := 0) rfl, .str x, x.length, rfl, rfl, ?_⟩⟩
    refine ifBd (fun hlt => ?_) fun hge => ?_
    · refine ⟨⟨_, rfl⟩, 0, _, .str x, rfl, rfl, atI_nat (j := 0) rfl, ?_⟩
      refine ⟨a, b, c, 26, e1.trans hs, rfl, by decide, by decide, by omega, fun r' k' g0 g1 gk => ?_⟩
      obtain ⟨ch, c1, c2, hat2⟩ := letter_at g0 g1
      refine ⟨ch, hat2, ⟨?_, ⟨_, rfl⟩, 1, _, 1, rfl, rfl, ixN_n (j := 1) (by rw [List.length_map]; show 1 < r.length + 1 + 1; omega), ?_⟩⟩
      · show x.length + 1 ≤ strLim
        have : strLim = 1000000 := rfl
        omega
      refine fin (x ++ ⟨#[ch]⟩) k' ⟨by rw [len_tl, tl_append, List.length_append]; show 1 ≤ (tl x).length + 1; omega, by rw [len_tl, tl_append, List.length_append, ← len_tl]; show x.length + 1 ≤ 8; omega, fun c' hc' => by
        rw [tl_append] at hc'
        rcases List.mem_append.mp hc' with z | z
        · exact hx.2.2 c' z
        · rw [List.mem_singleton.mp z]; exact ⟨c1, c2⟩⟩ (by omega)
    · refine ⟨⟨_, rfl⟩, 0, _, .str x, rfl, rfl, atI_nat (j := 0) rfl, 7, rfl, ⟨_, rfl⟩, 1, _, 1, rfl, rfl, ixN_n (j := 1) (by rw [List.length_map]; show 1 < r.length + 1 + 1; omega), ?_⟩
      have e7 : tl (cutS x none (some 7)) = (tl x).take 7 := tl_cut x 7
      have hx8 := hx.2.1
      have hl7 : (tl (cutS x none (some 7))).length = 7 := by rw [e7, List.length_take, ← len_tl]; omega
      refine fin (cutS x none (some 7)) s'.n ⟨by rw [len_tl, hl7]; decide, by rw [len_tl, hl7]; decide, fun c' hc' => ?_⟩ (by omega)
      rw [e7] at hc'
      exact hx.2.2 c' (List.mem_of_mem_take hc')
def T__law_path : DTS Mem.deck :=
  (dSeq (dSet 3 (dOp addD (dC (D.int 1)) (dB minD (daCons (dOp subD (dVar 2) (dC (D.int 1))) (daCons (dOp ixD (dLst (daCons (dC (D.int 1)) (daCons (dC (D.int 2)) (daCons (dC (D.int 1)) (daCons (dC (D.int 2)) (daCons (dC (D.int 3)) (daCons (dC (D.int 0)) (daCons (dC (D.int 5)) (daCons (dC (D.int 1)) daNil))))))))) (dCall spNext (daCons (dVar 0) (daCons (dC (D.int 8)) daNil)))) daNil)))))
      (dRet (dMt "str" joinD (dC (D.str (Str.ofString "."))) (daCons (dLc (diR1 (daCons (dVar 3) daNil)) (gN 4) dYes (dOp ixD (dVar 1) (dCall spNext (daCons (dVar 0) (daCons (dB lenD (daCons (dVar 1) daNil)) daNil)))) [4]) daNil))))
theorem read__law_path : ∀ ds s Qd, (spPath : DSp Mem.deck) ds s Qd → (T__law_path : DTS Mem.deck) (endsOf Qd) (startD ["_law_deck_here", "_law_pool_here", "_law_most", "_law_many", "_law_k"] ds) s := by
  intro ds s Qd h
  obtain ⟨a, b, c, pool, most, hs, rfl, h1, h10, hp0, hp100, hp8, hn, hQ⟩ := h
  refine ⟨by decide, a, b, c, 8, hs, rfl, by decide, by decide, by omega, fun r k h0 h1' hk => ?_⟩
  obtain ⟨n, hn8, hat⟩ := pick_ints [1, 2, 1, 2, 3, 0, 5, 1] r h0 h1'
  have hb : 0 ≤ n ∧ n ≤ 5 := (by decide : ∀ n ∈ [(1 : Int), 2, 1, 2, 3, 0, 5, 1], 0 ≤ n ∧ n ≤ 5) n hn8
  refine ⟨_, hat, most - 1, n, rfl, ?_⟩
  have hm : ∃ w : Int, 1 + (if n < most - 1 then n else most - 1) = w ∧ 1 ≤ w ∧ w ≤ 6 ∧ w ≤ most := by
    refine ⟨_, rfl, ?_⟩
    by_cases h : n < most - 1
    · rw [if_pos h]; omega
    · rw [if_neg h]; omega
  obtain ⟨w, ew, w1, w6, wm⟩ := hm
  have hd : (Str.ofString ".") = (⟨#[46]⟩ : Str) := by decide +kernel
  refine ⟨rfl, ⟨w, by show [D.int (1 + _)] = _; rw [ew], by omega, by omega, ?_⟩⟩
  refine ⟨by rw [rngD_length]; exact Nat.le_of_lt (small1000 (by omega)), fun pre acc s' => s'.adr = s.adr ∧ s'.n = k + pre.length ∧ ∃ ls : List Str, acc = ls.map D.str ∧ ls.length = pre.length ∧ ∀ c ∈ ls, c ∈ pool, ⟨rfl, rfl, [], rfl, rfl, by simp⟩, ?_, ?_⟩
  · rintro pre x post acc s' e - ⟨e1, e2, ls, rfl, hl, hc⟩
    have hp : pre.length < w.toNat := by
      have := congrArg List.length e
      rw [rngD_length, List.length_append, List.length_cons] at this
      omega
    refine ⟨rfl, .lst (pool.map .str), _, rfl, rfl, a, b, c, _, e1.trans hs, rfl, by rw [List.length_map]; omega, by rw [List.length_map]; omega, by omega, fun r' k' g0 g1 gk => ?_⟩
    rw [List.length_map] at g1
    obtain ⟨y, hy, hat2⟩ := pick_map D.str pool r' g0 g1
    refine ⟨_, hat2, rfl, e1, by show k' = _; rw [List.length_append, List.length_singleton]; omega, ls ++ [y], by rw [List.map_append]; rfl, by rw [List.length_append, List.length_append, hl]; rfl, fun c' hc' => ?_⟩
    rcases List.mem_append.mp hc' with z | z
    · exact hc c' z
    · rw [List.mem_singleton.mp z]; exact hy
  · rintro acc s' - ⟨e1, e2, ls, rfl, hl, hc⟩
    rw [rngD_length] at e2 hl
    have q2 := sum_le8 fun y hy => hp8 y (hc y hy)
    refine ⟨_, ls, rfl, .inl rfl, ?_, ?_⟩
    · rw [hd]
      show _ + ls.length * 1 ≤ strLim
      have : strLim = 1000000 := rfl
      omega
    · show Qd (.str (joinS _ _)) s'
      rw [hd]
      have := hQ _ s'.n ⟨ls, by omega, by omega, hc, rfl⟩ (by omega)
      rw [← e1] at this
      exact this
end DL

set_option Elab.async false
set_option linter.all false
set_option maxRecDepth 100000
namespace DL
open PySem PySem.Spec PyProof.Rows L2 TL

/-! ### {} and {x: y} -/
section
variable {X : Cx} {m : Mem} {E : Ent m} {pos : Pos}
end
end DL

set_option Elab.async false
set_option linter.all false
set_option maxRecDepth 100000
namespace DL
open PySem PySem.Spec PyProof.Rows L2 TL
/-! ### the forms of a path -/
def okc (c : Nat) : Bool := decide (97 ≤ c) && decide (c ≤ 122)
def okLen (x : Str) : Bool := decide (1 ≤ x.length) && decide (x.length ≤ 8)
def okName (x : Str) : Bool := okLen x && (tl x).all okc
def isPathS (x : Str) : Bool := decide ((splS 46 x).length ≤ 6) && (splS 46 x).all okName
def isPathD : D → Bool
  | .str x => isPathS x
  | _ => false
/-- the values that are asked -/
def Val (d : D) : Prop := (∃ t, tyT d = some t) ∧ ∀ x, d = .str x → x.length ≤ 10000
def spIsName {m : Mem} : DSp m := fun ds s Q => ∃ x : Str, ds = [.str x] ∧ x.length ≤ 10000 ∧ Q (.bl (okName x)) s
theorem spIsName_len {m : Mem} : ∀ ds s Qd, (spIsName : DSp m) ds s Qd → ds.length = 1 := fun ds s Qd ⟨_, e, _⟩ => by rw [e]; rfl
def spIsPath {m : Mem} : DSp m := fun ds s Q => ∃ d, ds = [d] ∧ Val d ∧ Q (.bl (isPathD d)) s
theorem spIsPath_len {m : Mem} : ∀ ds s Qd, (spIsPath : DSp m) ds s Qd → ds.length = 1 := fun ds s Qd ⟨_, e, _⟩ => by rw [e]; rfl
theorem lt_one (c d : Nat) : decide (([c] : List Nat) < [d]) = decide (c < d) := by
  by_cases h : c < d
  · rw [decide_eq_true h, decide_eq_true (List.cons_lt_cons_iff.mpr (.inl h))]
  · rw [decide_eq_false h]
    refine decide_eq_false fun z => ?_
    rcases List.cons_lt_cons_iff.mp z with z | ⟨_, z⟩
    · exact h z
    · exact absurd z (by simp)
theorem le_a (c : Nat) : (!ltS ⟨#[c]⟩ (Str.ofString "a")) = decide (97 ≤ c) := by
  have e : (Str.ofString "a") = (⟨#[97]⟩ : Str) := by decide +kernel
  rw [e]
  show (!decide (([c] : List Nat) < [97])) = _
  rw [lt_one]
  by_cases h : c < 97
  · rw [decide_eq_true h, decide_eq_false (by omega)]; rfl
  · rw [decide_eq_false h, decide_eq_true (by omega)]; rfl
theorem le_z (c : Nat) : (!ltS (Str.ofString "z") ⟨#[c]⟩) = decide (c ≤ 122) := by
  have e : (Str.ofString "z") = (⟨#[122]⟩ : Str) := by decide +kernel
  rw [e]
  show (!decide (([122] : List Nat) < [c])) = _
  rw [lt_one]
  by_cases h : 122 < c
  · rw [decide_eq_true h, decide_eq_false (by omega)]; rfl
  · rw [decide_eq_false h, decide_eq_true (by omega)]; rfl
theorem ch_app {x : Str} {pre : List D} {y : D} {post : List D} (e : chD x = pre ++ y :: post) : ∃ c, y = D.str ⟨#[c]⟩ ∧ c ∈ tl x := by
  have hm : y ∈ chD x := by rw [e]; simp
  obtain ⟨c, hc, rfl⟩ := List.mem_map.mp hm
  exact ⟨c, rfl, hc⟩
theorem chr_inj : ∀ {l m : List Nat}, (l.map fun c => D.str ⟨#[c]⟩) = (m.map fun c => D.str ⟨#[c]⟩) → l = m
  | [], [], _ => rfl
  | [], _ :: _, h => by cases h
  | _ :: _, [], h => by cases h
  | c :: l, d :: m, h => by
    rw [List.map_cons, List.map_cons] at h
    injection h with h1 h2
    injection h1 with h1
    injection h1 with h1
    have h1' : c = d := by simpa using h1
    rw [h1', chr_inj h2]
theorem chD_length (x : Str) : (chD x).length = x.length := by
  unfold chD
  rw [List.length_map, len_tl]
theorem line_of {n : Nat} (h : n ≤ 1000000) : n ≤ sizeLine := Nat.le_trans h (Nat.le_trans (Nat.le_add_right _ 2) strLim_line)
theorem bl_app (l : List Nat) (f : Nat → Bool) (c : Nat) : (l.map f).map D.bl ++ [D.bl (f c)] = ((l ++ [c]).map f).map D.bl := by
  rw [List.map_append, List.map_append]; rfl
theorem splS_count {x : Str} : (splS 46 x).length ≤ x.length + 1 := by
  have h : ∀ (l acc : List Nat), (cutL 46 acc l).length ≤ l.length + 1 := by
    intro l
    induction l with
    | nil => intro acc; simp [cutL]
    | cons a r ih =>
      intro acc
      rw [cutL]
      by_cases h : a = 46
      · rw [if_pos h, List.length_cons, List.length_cons]; have := ih []; omega
      · rw [if_neg h, List.length_cons]; have := ih (acc ++ [a]); omega
  have e : (splS 46 x).length = ((splS 46 x).map tl).length := by rw [List.length_map]
  rw [e, tl_splS, len_tl]
  exact h _ _
theorem splS_each {x : Str} : ∀ y ∈ splS 46 x, y.length ≤ x.length := fun y hy => by
  obtain ⟨l, hl, rfl⟩ := List.mem_map.mp hy
  have := (spl_mem 0 [] (tl x) l hl).1
  rw [List.length_nil, Nat.zero_add] at this
  rw [len_tl, len_tl]
  exact this
theorem lz {n : Nat} (h : Nat.ble n 1000000 = true) : n ≤ sizeLine := line_of (Nat.le_of_ble_eq_true h)
theorem len_add (a b : Str) : (a ++ b).length = a.length + b.length := by rw [len_tl, tl_append, List.length_append, ← len_tl, ← len_tl]
def T__is_name {m : Mem} : DTS m :=
  (dRet (dAndV (dCh leD leD (dC (D.int 1)) (dB lenD (daCons (dVar 0) daNil)) (dC (D.int 8))) (dB allD (daCons (dLc (diStr (dVar 0)) (gN 1) dYes (dCh leD leD (dC (D.str (Str.ofString "a"))) (dVar 1) (dC (D.str (Str.ofString "z")))) [1]) daNil))))
theorem read__is_name {m : Mem} : ∀ ds s Qd, (spIsName : DSp m) ds s Qd → (T__is_name : DTS m) (endsOf Qd) (startD ["text", "letter"] ds) s := by
  intro ds s Qd h
  obtain ⟨x, rfl, hx, hQ⟩ := h
  refine ⟨.str x, x.length, rfl, rfl, ifBd (fun h1 => ?_) fun h1 => ?_⟩
  · refine ⟨_, rfl, ifBd (fun h2 => ?_) fun h2 => ?_⟩
    · refine ⟨x, rfl, (by rw [chD_length]; exact line_of (by omega)), fun pre acc s' => s' = s ∧ ∃ cs : List Nat, pre = cs.map (fun c => D.str ⟨#[c]⟩) ∧ acc = (cs.map okc).map D.bl, ⟨rfl, [], rfl, rfl⟩, ?_, ?_⟩
      · rintro pre y post acc s' e - ⟨rfl, cs, rfl, rfl⟩
        obtain ⟨c, rfl, hc⟩ := ch_app e
        refine ⟨rfl, ?_⟩
        show ifB (!ltS ⟨#[c]⟩ (Str.ofString "a")) _ _
        rw [le_a]
        refine ifBd (fun g1 => ?_) fun g1 => ?_
        · refine ⟨rfl, rfl, cs ++ [c], by rw [List.map_append]; rfl, ?_⟩
          rw [← bl_app, le_z]
          unfold okc
          rw [decide_eq_true g1, Bool.true_and]
        · refine ⟨rfl, rfl, cs ++ [c], by rw [List.map_append]; rfl, ?_⟩
          rw [← bl_app]
          unfold okc
          rw [decide_eq_false g1, Bool.false_and]
      · rintro acc s' - ⟨rfl, cs, e, rfl⟩
        have ec : tl x = cs := chr_inj e
        refine ⟨_, rfl, ?_⟩
        have ek : okName x = (cs.map okc).all id := by
          unfold okName okLen
          rw [decide_eq_true (by omega), decide_eq_true (by omega), ec, List.all_map]
          rfl
        rw [ek] at hQ
        exact hQ
    · have ek : okName x = false := by unfold okName okLen; rw [decide_eq_false (p := x.length ≤ 8) (by omega), Bool.and_false, Bool.false_and]
      rw [ek] at hQ
      rw [decide_eq_false h2]
      exact hQ
  · have ek : okName x = false := by unfold okName okLen; rw [decide_eq_false (p := 1 ≤ x.length) (by omega), Bool.false_and, Bool.false_and]
    rw [ek] at hQ
    exact ⟨_, rfl, hQ⟩
def T_is_path {m : Mem} : DTS m :=
  (dSeq (dIf (dNotT (dTr (dB isiD (daCons (dVar 0) (daCons (dC (D.any (V.ty "str"))) daNil))))) (dRet (dC (D.bl false))) dNext)
      (dSeq (dSet 1 (dMt "str" splitD (dVar 0) (daCons (dC (D.str (Str.ofString "."))) daNil)))
      (dRet (dAndV (dCm leD (dB lenD (daCons (dVar 1) daNil)) (dC (D.int 6))) (dB allD (daCons (dLc (diSeq (dVar 1)) (gN 2) dYes (dCall spIsName (daCons (dVar 2) daNil)) [2]) daNil))))))
theorem read_is_path {m : Mem} : ∀ ds s Qd, (spIsPath : DSp m) ds s Qd → (T_is_path : DTS m) (endsOf Qd) (startD ["value", "names", "name"] ds) s := by
  intro ds s Qd h
  obtain ⟨d, rfl, ⟨⟨t, ht⟩, hx⟩, hQ⟩ := h
  have hd : (Str.ofString ".") = dot := by decide +kernel
  refine ⟨d, .str, t, rfl, ht, (by intro z; cases z), _, rfl, ?_⟩
  cases d with
  | str x =>
    cases ht
    have hx := hx x rfl
    refine ⟨rfl, x, 46, rfl, (by rw [hd]; rfl), by decide, ?_⟩
    refine ⟨_, (splS 46 x).length, rfl, (by show some _ = _; rw [List.length_map]), _, rfl, ?_⟩
    refine ifBd (fun h1 => ?_) fun h1 => ?_
    · refine ⟨_, rfl, (by rw [List.length_map]; exact line_of (Nat.le_trans splS_count (by omega))), fun pre acc s' => s' = s ∧ ∃ ls : List Str, pre = ls.map D.str ∧ acc = (ls.map okName).map D.bl, ⟨rfl, [], rfl, rfl⟩, ?_, ?_⟩
      · rintro pre y post acc s' e - ⟨rfl, ls, rfl, rfl⟩
        obtain ⟨z, rfl, hz⟩ : ∃ z, y = D.str z ∧ z ∈ splS 46 x := by
          have hm : y ∈ (splS 46 x).map D.str := by rw [e]; simp
          obtain ⟨z, hz, rfl⟩ := List.mem_map.mp hm
          exact ⟨z, rfl, hz⟩
        exact ⟨rfl, z, rfl, Nat.le_trans (splS_each z hz) hx, rfl, rfl, ls ++ [z], (by rw [List.map_append]; rfl), (by rw [List.map_append, List.map_append]; rfl)⟩
      · rintro acc s' - ⟨rfl, ls, e, rfl⟩
        have e1 : splS 46 x = ls := map_str_inj e
        refine ⟨_, rfl, ?_⟩
        have ek : isPathD (.str x) = (ls.map okName).all id := by
          show (decide _ && _) = _
          rw [decide_eq_true (by omega), Bool.true_and, e1, List.all_map]
          rfl
        rw [ek] at hQ
        exact hQ
    · have ek : isPathD (.str x) = false := by
        show (decide _ && _) = _
        rw [decide_eq_false (by omega), Bool.false_and]
      rw [ek] at hQ
      rw [decide_eq_false h1]
      exact hQ
  | any _ => cases ht
  | fz _ => cases ht
  | ins _ _ _ => cases ht
  | exc _ _ _ => cases ht
  | cau _ _ _ _ => cases ht
  | _ => cases ht; exact hQ
end DL

set_option Elab.async false
set_option linter.all false
set_option maxRecDepth 100000
namespace DL
open PySem PySem.Spec PyProof.Rows L2 TL
/-! ### parent, last_name, overlap -/
theorem cutL_free {c : Nat} : ∀ {l acc : List Nat}, c ∉ l → cutL c acc l = [acc ++ l]
  | [], acc, _ => by simp [cutL]
  | x :: r, acc, h => by
    rw [cutL, if_neg (fun e => h (by simp [e])), cutL_free fun z => h (List.mem_cons_of_mem _ z)]
    simp
theorem splS_free {c : Nat} {x : Str} (h : c ∉ tl x) : splS c x = [x] := by
  refine map_tl_inj ?_
  rw [tl_splS, cutL_free h]
  rfl
def parentS (p : Str) : Option Str := if 1 < (splS 46 p).length then some (joinS dot (splS 46 p).dropLast) else none
theorem pre_one {l : List Nat} {c : Nat} : pre [c] l = true ↔ ∃ r, l = c :: r := by
  unfold pre
  rw [beq_iff_eq]
  cases l with
  | nil => simp
  | cons a r => simp
theorem rpart_dot (p : Str) : (parentS p = none ∧ Txt.rpartition p dot = (Str.empty, Str.empty, p)) ∨ ∃ a, parentS p = some a ∧ (Txt.rpartition p dot).1 = a ∧ (Txt.rpartition p dot).2.1 = dot := by
  have hd : tl dot ≠ [] := by intro z; cases z
  rcases StrLaws.last_spec p dot with ⟨e, h⟩ | ⟨i, e, h1, h2⟩
  · refine .inl ⟨?_, ?_⟩
    · unfold parentS
      rw [splS_free (c := 46) (x := p), if_neg (show ¬ 1 < [p].length from Nat.lt_irrefl 1)]
      intro hm
      obtain ⟨a, b, eq⟩ := List.append_of_mem hm
      refine h a.length ((at_iff hd _).mpr ?_)
      rw [eq, List.drop_left]
      exact pre_one.mpr ⟨b, rfl⟩
    · unfold Txt.rpartition
      rw [e]
  · refine .inr ⟨Builtin.Str.strSub p 0 i, ?_, ?_, ?_⟩
    · have h3 := (at_iff hd i).mp h1
      obtain ⟨r, er⟩ := pre_one.mp h3
      have ep : tl p = (tl p).take i ++ 46 :: r := by
        rw [← er, List.take_append_drop]
      have il : i ≤ (tl p).length := by
        cases Nat.lt_or_ge (tl p).length i with
        | inl z => rw [List.drop_eq_nil_of_le (Nat.le_of_lt z)] at er; cases er
        | inr z => exact z
      have free : 46 ∉ r := fun hm => by
        obtain ⟨a, b, eq⟩ := List.append_of_mem hm
        refine h2 (i + 1 + a.length) (by omega) ((at_iff hd _).mpr ?_)
        have e5 : (tl p).drop (i + 1 + a.length) = 46 :: b := by
          have e6 : (tl p).drop (i + 1) = r := by
            have := congrArg (List.drop 1) er
            rw [List.drop_drop] at this
            simpa using this
          rw [← List.drop_drop, e6, eq, List.drop_left]
        rw [e5]
        exact pre_one.mpr ⟨b, rfl⟩
      have es : Builtin.Str.strSub p 0 i = ⟨((tl p).take i).toArray⟩ := ext_tl (by rw [tl_strSub, List.drop_zero, Nat.sub_zero])
      have e7 : p = (⟨((tl p).take i).toArray⟩ : Str) ++ ⟨#[46]⟩ ++ ⟨r.toArray⟩ := ext_tl (by
        rw [tl_append, tl_append]
        show tl p = (tl p).take i ++ [46] ++ r
        rw [List.append_assoc]
        exact ep)
      unfold parentS
      have e8 : splS 46 p = splS 46 ⟨((tl p).take i).toArray⟩ ++ [⟨r.toArray⟩] := by
        conv => lhs; rw [e7]
        rw [splS_app, splS_free (x := ⟨r.toArray⟩) free]
      rw [e8, List.dropLast_concat, es]
      rw [if_pos (by
        have := List.length_pos_iff.mpr (splS_ne 46 ⟨((tl p).take i).toArray⟩)
        rw [List.length_append, List.length_singleton]; omega)]
      exact congrArg some (join_splS 46 _)
    · unfold Txt.rpartition; rw [e]
    · unfold Txt.rpartition; rw [e]
def spParent {m : Mem} : DSp m := fun ds s Q => ∃ p : Str, ds = [.str p] ∧ Q (optS (parentS p)) s
theorem spParent_len {m : Mem} : ∀ ds s Qd, (spParent : DSp m) ds s Qd → ds.length = 1 := fun ds s Qd ⟨_, e, _⟩ => by rw [e]; rfl
def spOverlap {m : Mem} : DSp m := fun ds s Q => ∃ p o : Str, ds = [.str p, .str o] ∧ p.length ≤ 1000 ∧ o.length ≤ 1000 ∧ Q (.bl (coversS p o || coversS o p)) s
theorem spOverlap_len {m : Mem} : ∀ ds s Qd, (spOverlap : DSp m) ds s Qd → ds.length = 2 := fun ds s Qd ⟨_, _, e, _⟩ => by rw [e]; rfl
def spLover {m : Mem} : DSp m := fun ds s Q => ∃ p o : Str, ds = [.str p, .str o] ∧ Q (.bl (lcov p o || lcov o p)) s
theorem spLover_len {m : Mem} : ∀ ds s Qd, (spLover : DSp m) ds s Qd → ds.length = 2 := fun ds s Qd ⟨_, _, e, _⟩ => by rw [e]; rfl
theorem atI_last {α : Type} {xs : List α} (h : xs ≠ []) : atI xs (-1) = some (xs.getLast h) := by
  unfold atI ixN
  have hl := List.length_pos_iff.mpr h
  rw [if_neg (by decide), if_pos (by omega)]
  show xs[((xs.length : Int) + -1).toNat]? = _
  rw [List.getLast_eq_getElem]
  have e : ((xs.length : Int) + -1).toNat = xs.length - 1 := by omega
  rw [e]
  exact List.getElem?_eq_getElem (by omega)
def T_overlap {m : Mem} : DTS m :=
  (dRet (dOrV (dCall spCovers (daCons (dVar 0) (daCons (dVar 1) daNil))) (dCall spCovers (daCons (dVar 1) (daCons (dVar 0) daNil)))))
theorem read_overlap {m : Mem} : ∀ ds s Qd, (spOverlap : DSp m) ds s Qd → (T_overlap : DTS m) (endsOf Qd) (startD ["path", "other"] ds) s := by
  intro ds s Qd h
  obtain ⟨p, o, rfl, hp, ho, hQ⟩ := h
  refine ⟨p, o, rfl, hp, _, rfl, ifB2 (fun h => ?_) fun h => ⟨o, p, rfl, ho, ?_⟩⟩
  · rw [h] at hQ ⊢; exact hQ
  · rw [h] at hQ; exact hQ
def T_parent {m : Mem} : DTS m :=
  (dSeq (dAsg (dMt "str" rpartD (dVar 0) (daCons (dC (D.str (Str.ofString "."))) daNil)) (gTup' 3 (gCons' (gN 1) (gCons' (gN 2) (gCons' (gN 3) gNil')))))
      (dRet (dIfE (dTr (dVar 2)) (dVar 1) (dC D.non))))
theorem read_parent {m : Mem} : ∀ ds s Qd, (spParent : DSp m) ds s Qd → (T_parent : DTS m) (endsOf Qd) (startD ["path", "above", "dot", "_"] ds) s := by
  intro ds s Qd h
  obtain ⟨p, rfl, hQ⟩ := h
  have hd : (Str.ofString ".") = dot := by decide +kernel
  refine ⟨rfl, p, 46, rfl, by rw [hd]; rfl, by decide, _, rfl, rfl, _, _, rfl, _, _, rfl, _, _, rfl, rfl, ?_⟩
  rcases rpart_dot p with ⟨e1, e2⟩ | ⟨a, e1, e2, e3⟩
  · rw [e1] at hQ
    refine ⟨false, ?_, hQ⟩
    show tru (.str (Txt.rpartition p dot).2.1) = some false
    rw [e2]
    rfl
  · rw [e1] at hQ
    refine ⟨true, ?_, ?_⟩
    · show tru (.str (Txt.rpartition p dot).2.1) = some true
      rw [e3]
      rfl
    · show Qd (.str (Txt.rpartition p dot).1) s
      rw [e2]
      exact hQ
def T__law_overlap {m : Mem} : DTS m :=
  (dRet (dOrV (dCall spLcov (daCons (dVar 0) (daCons (dVar 1) daNil))) (dCall spLcov (daCons (dVar 1) (daCons (dVar 0) daNil)))))
theorem read__law_overlap {m : Mem} : ∀ ds s Qd, (spLover : DSp m) ds s Qd → (T__law_overlap : DTS m) (endsOf Qd) (startD ["_law_path_here", "_law_other"] ds) s := by
  intro ds s Qd h
  obtain ⟨p, o, rfl, hQ⟩ := h
  refine ⟨p, o, rfl, _, rfl, ifB2 (fun h => ?_) fun h => ⟨o, p, rfl, ?_⟩⟩
  · rw [h] at hQ ⊢; exact hQ
  · rw [h] at hQ; exact hQ
end DL

set_option Elab.async false
set_option linter.all false
set_option maxRecDepth 100000
/-! DX: own exception classes (over any of the built-in ones): made as values, their fields stored and read, isinstance of them. -/
namespace DL
open PySem PySem.Spec PyProof.Rows L2
/-- what the written part says of an own exception class -/
structure XC (K : PySem.W.Frag) (C : Addr) : Prop where
  base : ∃ B newId initId bmB, ExcBaseFacts B newId initId bmB ∧ StoreFacts B bmB "object.__setattr__" "object" ∧ PySem.W.excInitIn K C bmB newId = true ∧ PySem.W.excOver K C bmB = true
  sa : PySem.W.findIn K (.ref C) "__setattr__" = some (some (.builtin "object.__setattr__"))
  ga : PySem.W.findIn K (.ref C) "__getattribute__" = some (some (.builtin "BaseException.__getattribute__"))
  gg : PySem.W.findIn K (.ref C) "__getattr__" = some none
  sb : PySem.W.subIn K (.ref C) (.type "BaseException") = some true
  kC : PySem.W.keepIn K (.ref C) = true
  hd : PySem.W.hasDictIn K C = true
  cl : PySem.W.findIn K (.ref C) "__class__" = some (some (.builtin "object.__class__"))
  mr : PySem.W.mroIn K C (.type "object") = some true
  gn : PySem.W.specialIn K (.builtin "object.__class__") "__get__" = some (some (.builtin "getset_descriptor.__get__"))
  gt : PySem.W.takesIn K (.builtin "object.__class__") = some true
/-- .. in one look -/
def xcB (K : PySem.W.Frag) (C : Addr) (bmB : List Value) (newId : String) : Bool :=
  PySem.W.excInitIn K C bmB newId && (PySem.W.excOver K C bmB && (decide (PySem.W.findIn K (.ref C) "__setattr__" = some (some (.builtin "object.__setattr__"))) && (decide (PySem.W.findIn K (.ref C) "__getattribute__" = some (some (.builtin "BaseException.__getattribute__"))) &&
  (decide (PySem.W.findIn K (.ref C) "__getattr__" = some none) && (decide (PySem.W.subIn K (.ref C) (.type "BaseException") = some true) && (PySem.W.keepIn K (.ref C) && (PySem.W.hasDictIn K C && (decide (PySem.W.findIn K (.ref C) "__class__" = some (some (.builtin "object.__class__"))) &&
  (decide (PySem.W.mroIn K C (.type "object") = some true) && (decide (PySem.W.specialIn K (.builtin "object.__class__") "__get__" = some (some (.builtin "getset_descriptor.__get__"))) && decide (PySem.W.takesIn K (.builtin "object.__class__") = some true)))))))))))
theorem xc_of {K : PySem.W.Frag} {C : Addr} {B newId initId : String} {bmB : List Value} (F : ExcBaseFacts B newId initId bmB) (S : StoreFacts B bmB "object.__setattr__" "object") (h : xcB K C bmB newId = true) : XC K C := by
  unfold xcB at h
  simp only [Bool.and_eq_true, decide_eq_true_eq] at h
  obtain ⟨h1, h2, h3, h4, h5, h6, h7, h8, h9, h10, h11, h12⟩ := h
  exact ⟨⟨B, newId, initId, bmB, F, S, h1, h2⟩, h3, h4, h5, h6, h7, h8, h9, h10, h11, h12⟩
abbrev bmV : List Value := [.type "ValueError", .type "Exception", .type "BaseException", .type "object"]
section
variable {X : Cx} {pins : List (Addr × Obj)} {σ : L2.St} {H : Hp} {s : Shared} {a C dx : Addr} {f : Str} {y : V} {u : Value} {fs : List (Str × V)} {Q : Unit → Shared → Prop} {E : Value → Shared → Prop} {A : Around}
abbrev exObj (C t1 : Addr) (d : Option Addr) : Obj := { cls := .ref C, dict := d, data := .fields #[.ref t1, .none, .none, .none, .bool false, .none] }
/-- the first field stored -/
theorem xst_new (T : XC X.K C) (I : Inv X pins σ H s) (e : H a = some (exo a C none)) (no : PySem.W.findIn X.K (.ref C) f = some none) (ry : RelV y u)
    (h : ∀ dx s', H dx = none → dx ≠ a → Inv X pins σ (upd (upd H dx (exd dx [(f, y)])) a (exo a C (some dx))) s' → Q () s') : wpAny (model X.prog X.w) A (setAttr (.ref a) f u) Q E s := by
  obtain ⟨B, newId, initId, bmB, FB, SF, ci, ov⟩ := T.base
  obtain ⟨t1, ho⟩ := exo_at I.hok e
  obtain ⟨cd, hc, hd'⟩ := PySem.W.any_some T.hd
  obtain ⟨hp, g, d, t, os⟩ := s
  have K0 := I.kIn
  have la : a < hp.objs.size := Heap.lt_size ho
  have nf : H hp.objs.size = none := I.hok.fresh (Nat.le_refl _)
  refine PySem.W.set_plain K0 (ox := exObj C t1 none) (od := none) ⟨ho, rfl, rfl, trivial⟩ T.sa ?_
  refine PySem.W.osa_openX (s := ⟨hp, g, d, t + 1, os⟩) (od := none) SF K0 ⟨ho, rfl, rfl, trivial⟩ ov (by unfold PySem.W.takerIn; rw [no]; rfl) fun b => ?_
  refine wpAny_bind (wpAny_pure (wpAny_bind (PySem.W.instanceDict_exc (s := ⟨hp, g, d, t + 1, os⟩) (t := t1) (c2 := .none) ho (PySem.W.looks_clsIn K0 hc) hd' ?_)))
  have hne : hp.objs.size ≠ a := Nat.ne_of_gt la
  have d0 : ((hp.push (PySem.W.dictOf [] 0)).update a fun o => { o with dict := some hp.objs.size }).Ns1 hp.objs.size (fun _ => none) :=
    ⟨_, #[], _, (Heap.get?_update_ne _ _ _ _ hne).trans (Heap.get?_push_at rfl rfl), rfl, fun q hq => absurd hq (by simp), List.Pairwise.nil, fun _ => rfl⟩
  refine PySem.OEX.store_in_old (ns := []) d0 (fun q hq => absurd rfl hq) (by simp) fun h' tk' hn' sb => ?_
  have oldA : (hp.push (PySem.W.dictOf [] 0)).get? a = some (exObj C t1 none) := Heap.get?_push_of_some _ ho
  have newA : h'.get? a = some (exObj C t1 (some hp.objs.size)) := (sb.2 a (Ne.symm hne)).trans (Heap.get?_update_self _ oldA rfl)
  have old : ∀ b o, b ≠ a → hp.get? b = some o → h'.get? b = some o := fun b o hb q => by
    have hb2 : b ≠ hp.objs.size := Nat.ne_of_lt (Heap.lt_size q)
    exact (sb.2 b hb2).trans ((Heap.get?_update_ne _ _ _ _ hb).trans (Heap.get?_push_of_some _ q))
  -- first the dict alone, the object as it was
  have g0 : ∀ b o, hp.get? b = some o → (h'.update a fun _ => exObj C t1 none).get? b = some o := fun b o q => by
    by_cases hb : b = a
    · subst hb
      have z : o = exObj C t1 none := Option.some.inj (q.symm.trans ho)
      rw [z]
      exact Heap.get?_update_self _ newA rfl
    · rw [Heap.get?_update_ne _ _ _ _ hb]; exact old b o hb q
  have n0 : (h'.update a fun _ => exObj C t1 none).Ns1 hp.objs.size (fun y => if y = f then some u else none) := hn'.at fun o q => by
    rw [Heap.get?_update_ne _ _ _ _ hne]; exact q
  have I1 : Inv X pins σ (upd H hp.objs.size (exd hp.objs.size [(f, y)])) ⟨h'.update a fun _ => exObj C t1 none, g, d, tk', os⟩ :=
    I.laid (t' := tk') g0 (Nat.le_refl _) (exd_ok n0 (relO_put (fs := []) ry fun g => True.intro))
  have e1 : upd H hp.objs.size (exd hp.objs.size [(f, y)]) a = some (exo a C none) := by rw [upd_ne (Ne.symm hne)]; exact e
  have I2 : Inv X pins σ (upd (upd H hp.objs.size (exd hp.objs.size [(f, y)])) a (exo a C (some hp.objs.size))) ⟨h', g, d, tk', os⟩ :=
    I1.write (t' := tk') (x := a) (e := a) (o := exo a C (some hp.objs.size)) (by rw [e1]; exact True.intro) (.inl rfl) (fun b o hb q => by
      have q' : (h'.update a fun _ => exObj C t1 none).get? b = some o := q
      rw [Heap.get?_update_ne _ _ _ _ hb] at q'; exact q') ⟨_, newA⟩ (exo_ok newA)
  exact h _ _ nf hne I2
/-- a further field stored -/
theorem xst_old (T : XC X.K C) (I : Inv X pins σ H s) (e : H a = some (exo a C (some dx))) (ed : H dx = some (exd dx fs)) (hl : fs.length ≤ 900) (no : PySem.W.findIn X.K (.ref C) f = some none) (ry : RelV y u)
    (h : ∀ s', Inv X pins σ (upd H dx (exd dx ((f, y) :: fs))) s' → Q () s') : wpAny (model X.prog X.w) A (setAttr (.ref a) f u) Q E s := by
  obtain ⟨B, newId, initId, bmB, FB, SF, ci, ov⟩ := T.base
  obtain ⟨t1, ho⟩ := exo_at I.hok e
  obtain ⟨mA, hns, rel⟩ := exd_at I.hok ed
  obtain ⟨cd, hc, hd'⟩ := PySem.W.any_some T.hd
  have wi := within_of rel
  obtain ⟨hp, g, d, t, os⟩ := s
  have K0 := I.kIn
  obtain ⟨oD, es, ep, hoD, _⟩ := id hns
  refine PySem.W.set_plain K0 (ox := exObj C t1 (some dx)) (od := some oD) ⟨ho, rfl, rfl, hoD⟩ T.sa ?_
  refine PySem.W.osa_openX (s := ⟨hp, g, d, t + 1, os⟩) (od := some oD) SF K0 ⟨ho, rfl, rfl, hoD⟩ ov (by unfold PySem.W.takerIn; rw [no]; rfl) fun b => ?_
  refine wpAny_bind (wpAny_pure (wpAny_bind (wpAny_bind (wpAny_loadPart ho (wpAny_bind ((PySem.W.looks_clsIn K0 hc).at ?_))))))
  rw [hd']
  refine wpAny_pure (a := some dx) ?_
  refine PySem.OEX.store_in_old (ns := fs.map (·.1)) hns wi (by rw [List.length_map]; omega) fun h' tk' hn' sb => ?_
  obtain ⟨o', _, _, ho', _⟩ := id hn'
  exact h _ (I.write (t' := tk') (x := dx) (e := dx) (o := exd dx ((f, y) :: fs)) (by rw [ed]; exact True.intro) (.inl rfl) (fun b o hb q => (sb.2 b hb).trans q) ⟨_, ho'⟩ (exd_ok hn' (relO_put ry rel)))
end
/-! ### __init__: self.f = e -/
def tXst (K : PySem.W.Frag) (f : Str) (to te : TE) : TS := fun D σ H => te σ H fun y H1 => to σ H1 fun x H2 => ∃ a C : Addr, x = .ref a ∧ XC K C ∧ PySem.W.findIn K (.ref C) f = some none ∧
  ((H2 a = some (exo a C none) ∧ ∀ dx, H2 dx = none → dx ≠ a → D.nx σ (upd (upd H2 dx (exd dx [(f, y)])) a (exo a C (some dx)))) ∨
    ∃ (dx : Addr) (fs : List (Str × V)), H2 a = some (exo a C (some dx)) ∧ H2 dx = some (exd dx fs) ∧ fs.length ≤ 900 ∧ D.nx σ (upd H2 dx (exd dx ((f, y) :: fs))))
section
variable {X : Cx} {o e : Expr} {es : List Expr} {to te : TE} {ta : TA} {f x : Str} {p p' pos : Pos} {C : Addr}
theorem ps_xst (ho : PE X o to) (he : PE X e te) (hs : swapsWith e (some (.Attribute o f p')) pos.line X.env = pure false := by rfl) : PS X (.Assign [.Attribute o f p'] e pos) (tXst X.K f to te) :=
  ⟨fun pins s σ H D I h => plainObj_wpAny_Assign_Attribute (thn (he.run pins s σ H _ I h) fun v s1 ⟨y, H1, I1, r1, q1⟩ => thn (ho.run pins s1 σ H1 _ I1 q1) fun u s2 ⟨x, H2, I2, r2, a, C, ex, T, no, q⟩ => by
    subst ex
    have eu : u = Value.ref a := r2
    subst eu
    rcases q with ⟨ea, q⟩ | ⟨dx, fs, ea, ed, hl, q⟩
    · exact xst_new T I2 ea no r1 fun dx s' n ne J => ⟨σ, _, J, q dx n ne⟩
    · exact xst_old T I2 ea ed hl no r1 fun s' J => ⟨σ, _, J, q⟩) hs⟩
/-- the promise of such an __init__: of one field, of two -/
def spIn1 (C : Addr) (f : Str) : Sp := fun vs H Q _ => ∃ (a : Addr) (v : V), vs = [.ref a, v] ∧ H a = some (exo a C none) ∧ ∀ dx, H dx = none → dx ≠ a → Q .non (upd (upd H dx (exd dx [(f, v)])) a (exo a C (some dx)))
/-! ### C(e, ..) as a value -/
/-! ### e.f -/
/-! ### isinstance(e, c), isinstance(e, (c, ..)) -/
end
end DL

set_option Elab.async false
set_option linter.all false
set_option maxRecDepth 100000
namespace DL
open PySem PySem.Spec PyProof.Rows L2 TL

/-! ### own exceptions as data -/
section
variable {X : Cx} {m : Mem} {e : Expr} {es : List Expr} {ta : DTA m} {te : DT m} {x : Str} {p pos : Pos} {C : Addr}
/-! ### isinstance of them -/
/-! ### zip -/
def pairsD (xs ys : List D) : List D := List.zipWith (fun x y => .tup [x, y]) xs ys
theorem pairs_get {xs ys : List D} {i : Nat} {d : D} (h : (pairsD xs ys)[i]? = some d) : ∃ x y, xs[i]? = some x ∧ ys[i]? = some y ∧ d = .tup [x, y] := by
  unfold pairsD at h
  rw [List.getElem?_zipWith] at h
  cases hx : xs[i]? with
  | none => rw [hx] at h; cases h
  | some x =>
    cases hy : ys[i]? with
    | none => rw [hx, hy] at h; cases h
    | some y => rw [hx, hy] at h; exact ⟨x, y, rfl, rfl, (Option.some.inj h).symm⟩
theorem pairs_end {xs ys : List D} {i : Nat} (h : (pairsD xs ys).length ≤ i) : xs.length ≤ i ∨ ys.length ≤ i := by
  unfold pairsD at h
  rw [List.length_zipWith] at h
  omega
theorem rep_pair {K : PySem.W.Frag} {F : Hp} {x y : D} {v w : V} {T : Addr} (h : F T = some (.tup [v, w])) (rx : Rep K F x v) (ry : Rep K F y w) : Rep K F (.tup [x, y]) (.ref T) :=
  ⟨T, [v, w], rfl, .inl (.inl h), by show 2 ≤ sizeLine; decide, .cons rx (.one ry)⟩
theorem walks_zipT {K : PySem.W.Frag} {F : Hp} {a b : Addr} {ds es : List D} {vs ws : List V} (h1 : SqT K F a vs) (r1 : Reps K F ds vs) (h2 : SqT K F b ws) (r2 : Reps K F es ws) : Walks K F (RZ.ItzT K a b) (pairsD ds es) := fun F' H' s1 s2 => by
  have q1 : SqT K H' a vs := Same.seqT s2 (Same.seqT s1 h1)
  have q2 : SqT K H' b ws := Same.seqT s2 (Same.seqT s1 h2)
  refine ⟨fun i hi => ⟨vs, ws, q1, q2, by rw [r1.length, r2.length]; exact pairs_end hi⟩, fun i d e => ?_⟩
  obtain ⟨x, y, ex, ey, rfl⟩ := pairs_get e
  obtain ⟨v, ev, rv⟩ := r1.get ex
  obtain ⟨w, ew, rw'⟩ := r2.get ey
  refine ⟨⟨vs, ws, v, w, q1, q2, ev, ew⟩, fun z H2 yl => ?_⟩
  obtain ⟨T, v', w', rfl, nT, rfl, g1, g2⟩ := yl
  have e1 := g1 vs q1
  have e2 := g2 ws q2
  rw [ev] at e1; rw [ew] at e2
  cases e1; cases e2
  have g : Grow F' H' (upd F' T (.tup [v, w])) (upd H' T (.tup [v, w])) := Grow.new s2 nT
  exact ⟨_, g, rep_pair upd_same (Rep.mono (s1.trans g.fF) _ _ rv) (Rep.mono (s1.trans g.fF) _ _ rw')⟩
end
end DL

set_option Elab.async false
set_option linter.all false
set_option maxRecDepth 100000
namespace DL
open PySem PySem.Spec PyProof.Rows L2 TL

/-! ### repr -/
def keyPy : Key → PyData
  | .inl i => .int i
  | .inr x => .str x
mutual
/-- data as the library's model of data, dicts too -/
def pyR : D → PyData
  | .non => .none
  | .bl b => .bool b
  | .int i => .int i
  | .str x => .str x
  | .lst xs => .list (pyRs xs)
  | .tup xs => .tuple (pyRs xs)
  | .dic ks xs => .dict (pyRk ks xs)
  | _ => .none
def pyRs : List D → List PyData
  | [] => []
  | d :: ds => pyR d :: pyRs ds
def pyRk : List Key → List D → List (PyData × PyData)
  | k :: ks, d :: ds => (keyPy k, pyR d) :: pyRk ks ds
  | _, _ => []
end
mutual
/-- what repr takes, at most so deep -/
def repD : Nat → D → Bool
  | _, .non => true
  | _, .bl _ => true
  | _, .int _ => true
  | _, .str _ => true
  | n, .lst xs => match n with
    | 0 => false
    | k + 1 => repDs k xs
  | n, .tup xs => match n with
    | 0 => false
    | k + 1 => repDs k xs
  | n, .dic ks xs => match n with
    | 0 => false
    | k + 1 => repDs k xs
  | _, _ => false
def repDs : Nat → List D → Bool
  | _, [] => true
  | n, d :: ds => repD n d && repDs n ds
end
@[irreducible] def repOk (d : D) : Bool := repD 60 d && ((pyR d).showable && decide ((pyR d).shown.length ≤ sizeLine))
section
variable {X : Cx} {pins : List (Addr × Obj)} {σ : L2.St} {F H : Hp} {s : Shared}
theorem pairs_reads {P : Program} {w : World} {h : Heap} : ∀ {es : List DictEntry} {vs : List (Key × Value)}, Pairs (mixKind P w) es vs → ReadsAll h (es.map (·.key)) (vs.map fun p => keyPy p.1) [] ∧ es.map (·.val) = vs.map (·.2)
  | _, _, .nil => ⟨.nil, rfl⟩
  | _, _, .cons (e := e) (kv := kv) hk hv r => by
    obtain ⟨q1, q2⟩ := pairs_reads (h := h) r
    have hk' : keyIs kv.1 e.key = true := hk
    have one : Reads h e.key (keyPy kv.1) [] := by
      rcases keyIs_shape hk' with ⟨i, t, e1, e2⟩ | ⟨x, t, e1, e2⟩
      · rw [e1, e2]; exact .int i t
      · rw [e1, e2]; exact .str x t
    exact ⟨.cons one q1, by rw [List.map_cons, List.map_cons, hv, q2]⟩
mutual
theorem rep_reads (hS : H sysModules = none) (I : Inv X pins σ H s) (sub : Same F H) : ∀ (n : Nat) (d : D) (v : V) (u : Value), repD n d = true → Rep X.K F d v → RelV v u → ∃ as, Reads s.heap u (pyR d) as ∧ sysModules ∉ as
  | _, .non, _, _, _, h, r => by cases h; cases r; exact ⟨_, .none, by simp⟩
  | _, .bl b, _, _, _, h, r => by cases h; cases r; exact ⟨_, .bool b, by simp⟩
  | _, .int i, _, _, _, h, r => by cases h; obtain ⟨t, rfl⟩ := r; exact ⟨_, .int i t, by simp⟩
  | _, .str x, _, _, _, h, r => by obtain ⟨rfl, _⟩ := h; obtain ⟨t, rfl⟩ := r; exact ⟨_, .str x t, by simp⟩
  | 0, .lst xs, _, _, p, _, _ => by simp [repD] at p
  | n + 1, .lst xs, _, _, p, h, r => by
    obtain ⟨a, vs, rfl, h1, _, rs⟩ := h
    cases r
    have ha := sub _ _ h1
    obtain ⟨its, rv, ⟨o, k, ho, hc, _, hd⟩, _⟩ := I.list (.inl (.inl ha))
    obtain ⟨as, q1, q2⟩ := reps_reads hS I sub n xs vs its (by simpa [repD] using p) rs rv
    refine ⟨_, .list ho hc hd q1, ?_⟩
    simp only [List.mem_cons, not_or]
    exact ⟨(fun z => by rw [z, ha] at hS; cases hS), q2⟩
  | 0, .tup xs, _, _, p, _, _ => by simp [repD] at p
  | n + 1, .tup xs, _, _, p, h, r => by
    obtain ⟨a, vs, rfl, h1, _, rs⟩ := h
    cases r
    obtain ⟨its, rv, ⟨o, ho, hc, k, hd⟩, _⟩ := I.tuple (Same.seqT sub h1)
    obtain ⟨as, q1, q2⟩ := reps_reads hS I sub n xs vs its (by simpa [repD] using p) rs rv
    exact ⟨_, .tuple ho hc hd q1, q2⟩
  | 0, .dic ks xs, _, _, p, _, _ => by simp [repD] at p
  | n + 1, .dic ks xs, _, _, p, h, r => by
    obtain ⟨a, kvs, rfl, h1, _, rfl, rs⟩ := h
    cases r
    obtain ⟨_, hd, vs, kv, ⟨o, es, ep, ho, ex, hdat, _, pr, _⟩⟩ := dk_of I.hok (sub _ _ h1)
    obtain ⟨q1, q2⟩ := pairs_reads (h := s.heap) pr
    obtain ⟨bs, q3, q4⟩ := repk_reads hS I sub n xs kvs vs (by simpa [repD] using p) rs kv
    refine ⟨a :: [] ++ bs, .dict ho ex.1 hdat (by rw [q3.1]; exact q1) (by rw [q2]; exact q3.2), ?_⟩
    simp only [List.cons_append, List.nil_append, List.mem_cons, not_or]
    exact ⟨(fun z => by rw [← z] at hd; simp at hd), q4⟩
  | _, .ins _ _ _, _, _, p, _, _ => by simp [repD] at p
  | _, .any _, _, _, p, _, _ => by simp [repD] at p
  | _, .fz _, _, _, p, _, _ => by simp [repD] at p
  | _, .exc _ _ _, _, _, p, _, _ => by simp [repD] at p
  | _, .cau _ _ _ _, _, _, p, _, _ => by simp [repD] at p
theorem reps_reads (hS : H sysModules = none) (I : Inv X pins σ H s) (sub : Same F H) : ∀ (n : Nat) (ds : List D) (vs : List V) (us : List Value), repDs n ds = true → Reps X.K F ds vs → Vals vs us → ∃ as, ReadsAll s.heap us (pyRs ds) as ∧ sysModules ∉ as
  | _, [], _, _, _, h, r => by cases h; cases r; exact ⟨_, .nil, by simp⟩
  | n, d :: ds, _, _, p, ⟨v, vs, e, h, t⟩, r => by
    subst e
    rw [repDs, Bool.and_eq_true] at p
    cases r with
    | cons r1 r2 =>
      obtain ⟨as, q1, n1⟩ := rep_reads hS I sub n d v _ p.1 h r1
      obtain ⟨bs, q2, n2⟩ := reps_reads hS I sub n ds vs _ p.2 t r2
      exact ⟨_, .cons q1 q2, by simp only [List.mem_append, not_or]; exact ⟨n1, n2⟩⟩
theorem repk_reads (hS : H sysModules = none) (I : Inv X pins σ H s) (sub : Same F H) : ∀ (n : Nat) (ds : List D) (kvs : List (Key × V)) (vs : List (Key × Value)), repDs n ds = true → Reps X.K F ds (kvs.map (·.2)) → KV kvs vs →
    ∃ bs, ((pyRk (kvs.map (·.1)) ds).map (·.1) = vs.map (fun p => keyPy p.1) ∧ ReadsAll s.heap (vs.map (·.2)) ((pyRk (kvs.map (·.1)) ds).map (·.2)) bs) ∧ sysModules ∉ bs
  | _, [], [], _, _, _, k => by
    cases k
    exact ⟨[], ⟨rfl, .nil⟩, by simp⟩
  | _, [], _ :: _, _, _, h, _ => by cases h
  | _, _ :: _, [], _, _, ⟨_, _, e, _⟩, _ => by cases e
  | n, d :: ds, (k0, v0) :: kvs, _, p, ⟨v, r, e, h, t⟩, k => by
    rw [List.map_cons] at e
    injection e with e1 e2
    subst e1 e2
    rw [repDs, Bool.and_eq_true] at p
    cases k with
    | cons kr kt =>
      obtain ⟨as, q1, n1⟩ := rep_reads hS I sub n d _ _ p.1 h kr.2
      obtain ⟨bs, ⟨q2, q3⟩, n2⟩ := repk_reads hS I sub n ds kvs _ p.2 t kt
      refine ⟨as ++ bs, ⟨?_, ?_⟩, by simp only [List.mem_append, not_or]; exact ⟨n1, n2⟩⟩
      · simp only [List.map_cons, pyRk]
        rw [q2, show k0 = _ from kr.1]
      · simp only [List.map_cons, pyRk]
        exact .cons q1 q3
end
mutual
theorem depth_of : ∀ (n : Nat) (d : D), repD n d = true → (pyR d).depth ≤ n
  | _, .non, _ => Nat.zero_le _
  | _, .bl _, _ => Nat.zero_le _
  | _, .int _, _ => Nat.zero_le _
  | _, .str _, _ => by simp [pyR, PyData.depth]
  | 0, .lst xs, p => by simp [repD] at p
  | n + 1, .lst xs, p => by
    have := depths_of n xs (by simpa [repD] using p)
    simp only [pyR, PyData.depth]; omega
  | 0, .tup xs, p => by simp [repD] at p
  | n + 1, .tup xs, p => by
    have := depths_of n xs (by simpa [repD] using p)
    simp only [pyR, PyData.depth]; omega
  | 0, .dic ks xs, p => by simp [repD] at p
  | n + 1, .dic ks xs, p => by
    have := depthk_of n ks xs (by simpa [repD] using p)
    simp only [pyR, PyData.depth]; omega
  | _, .ins _ _ _, p => by simp [repD] at p
  | _, .any _, p => by simp [repD] at p
  | _, .fz _, p => by simp [repD] at p
  | _, .exc _ _ _, p => by simp [repD] at p
  | _, .cau _ _ _ _, p => by simp [repD] at p
theorem depths_of : ∀ (n : Nat) (ds : List D), repDs n ds = true → PyData.depthAll (pyRs ds) ≤ n
  | _, [], _ => Nat.zero_le _
  | n, d :: ds, p => by
    rw [repDs, Bool.and_eq_true] at p
    have h1 := depth_of n d p.1
    have h2 := depths_of n ds p.2
    simp only [pyRs, PyData.depthAll]; omega
theorem depthk_of : ∀ (n : Nat) (ks : List Key) (ds : List D), repDs n ds = true → PyData.depthKv (pyRk ks ds) ≤ n
  | _, [], ds, _ => by cases ds <;> exact Nat.zero_le _
  | _, _ :: _, [], _ => Nat.zero_le _
  | n, k :: ks, d :: ds, p => by
    rw [repDs, Bool.and_eq_true] at p
    have h1 := depth_of n d p.1
    have h2 := depthk_of n ks ds p.2
    have h3 : (keyPy k).depth = 0 := by cases k <;> simp [keyPy, PyData.depth]
    simp only [pyRk, PyData.depthKv]; omega
end
theorem sys_free (hk : ∃ o, X.base.get? sysModules = some o) (I : Inv X pins σ H s) : H sysModules = none := by
  obtain ⟨o, e⟩ := hk
  exact (I.bs _ o e).2
end
/-! ### a, b, c = x, y, z with plain local names -/
section
variable {X : Cx} {m : Mem} {E : Ent m} {pos : Pos}
end
end DL

set_option Elab.async false
set_option linter.all false
set_option maxRecDepth 100000
/-! DL11: str.strip, int and str of more, written dicts as data and as a def's own, list.extend -/
namespace DL
open PySem PySem.Spec PyProof.Rows L2 TL

/-! ### small ones -/
section
open PySem.Builtin PySem.Builtin.Str
end
section
variable {K : PySem.W.Frag}
def intBD (ds : List D) (Q : D → Prop) : Prop := ∃ k, ds = [.bl k] ∧ Q (.int (if k then 1 else 0))
theorem o_intB : OpN K (fun xs H Q => (∃ i, xs = [.int i] ∧ Q (.int i) H) ∨ ∃ k, xs = [.bl k] ∧ Q (.int (if k then 1 else 0)) H) intBD := by
  intro F H ds vs Qd Q sub rs h hQ
  obtain ⟨k, rfl, q⟩ := h
  obtain ⟨v, _, rfl, rfl, rn⟩ := rs
  cases rn
  exact .inr ⟨k, rfl, hQ _ _ F H q (Grow.refl sub) rfl⟩
end

/-! ### a hidden object becomes a slot's own -/
/-! ### a written dict with texts as keys -/
section
variable {X : Cx} {m : Mem} {E : Ent m} {pos : Pos}
theorem putK_new {κ : Type} [DecidableEq κ] {kvs : List (κ × V)} {k : κ} {v : V} (h : ∀ p ∈ kvs, p.1 ≠ k) : putK kvs k v = kvs ++ [(k, v)] := by
  unfold putK
  rw [if_neg]
  intro e
  rw [List.any_eq_true] at e
  obtain ⟨p, hp, q⟩ := e
  exact h p hp (of_decide_eq_true q)
end
/-! ### a dict read by key; a def's own dict -/
def dicGet : List Key → List D → Key → Option D
  | k :: ks, d :: ds, q => if k = q then some d else dicGet ks ds q
  | _, _, _ => none
theorem val_rep {K : PySem.W.Frag} {F : Hp} {q : Key} : ∀ {kvs : List (Key × V)} {ks : List Key} {ds : List D}, kvs.map (·.1) = ks → Reps K F ds (kvs.map (·.2)) → (∀ d, dicGet ks ds q = some d → ∃ v, valV kvs q = some v ∧ Rep K F d v) ∧ (valV kvs q).isSome = (dicGet ks ds q).isSome
  | [], _, ds, e, r => by
    subst e
    refine ⟨fun d h => ?_, ?_⟩
    · cases ds <;> cases h
    · cases ds <;> rfl
  | p :: kvs, _, ds, e, r => by
    subst e
    cases ds with
    | nil => cases r
    | cons d ds =>
      obtain ⟨v, _, e, rv, rs⟩ := r
      cases e
      have ih := val_rep (q := q) (kvs := kvs) rfl rs
      have eD : dicGet ((p :: kvs).map (·.1)) (d :: ds) q = if p.1 = q then some d else dicGet (kvs.map (·.1)) ds q := rfl
      rw [eD]
      by_cases c : p.1 = q
      · rw [valV_pos c, if_pos c]
        refine ⟨fun d' h => ?_, rfl⟩
        cases h
        exact ⟨_, rfl, rv⟩
      · have e1 : valV (p :: kvs) q = valV kvs q := by
          unfold valV
          rw [List.find?_cons, decide_eq_false c]
        rw [e1, if_neg c]
        exact ih
section
variable {X : Cx} {m : Mem} {E : Ent m} {pos : Pos} {e b : Expr} {te tb : DT m}
def dGet {m : Mem} (te tb : DT m) : DT m := fun ρ s Q => te ρ s fun x ρ1 s1 => tb ρ1 s1 fun y ρ2 s2 => ∃ ks ds z d, x = .dic ks ds ∧ y = .str z ∧ dicGet ks ds (.inr z) = some d ∧ Q d ρ2 s2
theorem de_get (hu : X.A.units + 1 < cLine) (he : PE X e (up X.K m te)) (hb : PE X b (up X.K m tb)) (hs : NoSl b := by exact fun _ _ => rfl) : PE X (.Subscript e b pos) (up X.K m (dGet te tb)) := PE.imp (pe_dget hu he hb hs) fun σ H Q h => by
  obtain ⟨F, ρ, s, Qd, r, ht, hQ⟩ := h
  refine up2 (R := fun x y H2 => ∃ a v, x = .ref a ∧ DGet H2 a y (some v) ∧ Q v H2) r ht fun dx dy x y F2 H2 ρ2 s2 ⟨ks, ds, z, d, ex, ey, eg, q⟩ r2 st rx ry => ?_
  subst ex
  subst ey
  obtain ⟨a, kvs, rfl, ha, _, hk, rs⟩ := rx
  obtain ⟨rfl, _⟩ := ry
  obtain ⟨v, ev, rv⟩ := (val_rep hk rs).1 d eg
  refine ⟨a, v, rfl, ?_, hQ d ρ2 s2 v F2 H2 q r2 st rv⟩
  rw [← ev]
  exact DGet.k (k := .inr z) (r2.sub _ _ ha)
/-- e in x, e not in x, x the def's own dict -/
def dInO {m : Mem} (neg : Bool) (te : DT m) (i : Nat) : DTT m := fun ρ s Q => te ρ s fun y ρ1 s1 => ∃ ks ds z, y = .str z ∧ ρ1[i]? = some (.ow (.dic ks ds)) ∧ Q (neg ^^ (dicGet ks ds (.inr z)).isSome) ρ1 s1
theorem dt_notInO (i : Nat) {x : Str} {xpos : Pos} (hu : X.A.units + 1 < cLine) (he : PE X e (up X.K m te)) (hN : X.N[i]? = some x := by rfl) (hv : Vis X.env.scope x := by first | exact Or.inl rfl | exact Or.inr (Or.inl rfl) | exact Or.inr (Or.inr rfl))
    (hd : (x == ("__debug__" : Str)) = false := by decide) (hcd : (x == ("__classdict__" : Str)) = false := by decide) (hm : behindInMarks .NotIn (.Name x xpos) = false := by first | exact nobehind _ (by decide) (by decide) | rfl) : PT X (.Compare e [.NotIn] [.Name x xpos] pos) (upT X.K m (dInO true te i)) :=
  PT.imp (pt_cmp (pc_dnotin hu he (pv i hN hv hd hcd)) hm) fun σ H Q h => by
    obtain ⟨F, ρ, s, Qd, r, ht, hQ⟩ := h
    refine ⟨F, ρ, s, _, r, ht, fun y ρ1 s1 v F1 H1 ⟨ks, ds, z, ey, e1, q1⟩ r1 st1 rv => ?_⟩
    subst ey
    obtain ⟨rfl, _⟩ := rv
    obtain ⟨p, ho, g1, g2, ⟨kvs, rfl, hl, hk, rs⟩, g4, g5⟩ := r1.own_at e1
    refine ⟨_, g1, p, _, rfl, DGet.k (k := .inr z) g2, _, rfl, ?_⟩
    rw [(val_rep hk rs).2]
    rw [Bool.true_xor] at q1
    exact hQ _ ρ1 s1 F1 H1 q1 r1 st1
end
/-! ### x.extend(e), enumerate -/
section
variable {X : Cx} {m : Mem} {E : Ent m} {pos : Pos} {e : Expr} {te : DT m} {ta : DTA m} {p : Pos}
def enumD (xs : List D) : List D := xs.mapIdx fun i x => .tup [.int (i : Nat), x]
theorem enum_get {xs : List D} {i : Nat} {d : D} (h : (enumD xs)[i]? = some d) : ∃ x, xs[i]? = some x ∧ d = .tup [.int (i : Nat), x] := by
  unfold enumD at h
  rw [List.getElem?_mapIdx] at h
  cases hx : xs[i]? with
  | none => rw [hx] at h; cases h
  | some x => rw [hx] at h; exact ⟨x, rfl, (Option.some.inj h).symm⟩
theorem walks_enumL {K : PySem.W.Frag} {F : Hp} {a : Addr} {ds : List D} {vs : List V} (h1 : SqL K F a vs) (r1 : Reps K F ds vs) : Walks K F (Ite K a) (enumD ds) := fun F' H' s1 s2 => by
  have q1 : SqL K H' a vs := Same.seq s2 (Same.seq s1 h1)
  refine ⟨fun i hi => ⟨vs, q1, by rw [r1.length]; unfold enumD at hi; rw [List.length_mapIdx] at hi; exact hi⟩, fun i d e => ?_⟩
  obtain ⟨x, ex, rfl⟩ := enum_get e
  obtain ⟨v, ev, rv⟩ := r1.get ex
  refine ⟨⟨vs, v, q1, ev⟩, fun z H2 yl => ?_⟩
  obtain ⟨T, v', rfl, nT, rfl, g1⟩ := yl
  have e1 := g1 vs q1
  rw [ev] at e1
  cases e1
  have g : Grow F' H' (upd F' T (.tup [.int (i : Nat), v])) (upd H' T (.tup [.int (i : Nat), v])) := Grow.new s2 nT
  exact ⟨_, g, rep_pair upd_same rfl (Rep.mono (s1.trans g.fF) _ _ rv)⟩
end
end DL

set_option Elab.async false
set_option linter.all false
set_option maxRecDepth 100000
/-! DL12: a comprehension with two fors -/
namespace DL
open PySem PySem.Spec PyProof.Rows L2 TL
section
variable {X : Cx} {m : Mem}
theorem wipe_back {σ : L2.St} {ρ : List Sl} {vs : List Nat} {i : Nat} {p : Addr} (h : Owns (L2.wipe σ vs) (wipeD ρ vs) i p) : Owns σ ρ i p := by
  obtain ⟨⟨o, h1⟩, h2⟩ := h
  obtain ⟨e1, n⟩ := wipeD_some (by intro z; cases z) h1
  rw [wipe_get n] at h2
  exact ⟨⟨o, e1⟩, h2⟩
theorem hid_grow {F H F' H' : Hp} {p : Addr} {ho : HO} (g : Grow F H F' H') (h : H p = some ho) (n : F p = none) : H' p = some ho ∧ F' p = none := by
  refine ⟨g.hH _ _ h, ?_⟩
  cases q : F' p with
  | none => rfl
  | some u =>
    rcases g.fresh p u q with z | z
    · rw [n] at z; cases z
    · rw [z] at h; cases h
end
end DL

set_option Elab.async false
set_option linter.all false
set_option maxRecDepth 100000
/-! DL13: the program's written dicts: texts to tuples -/
namespace DL
open PySem PySem.Spec PyProof.Rows L2 TL
/-- at p: a written dict of the module; t: what stands in it -/
structure KTab (K : PySem.W.Frag) (w : World) (p : Addr) (t : List (Str × D)) : Prop where
  at_ : ∃ (es : Array DictEntry) (n : Nat), K.lookup p = some ⟨.type "dict", none, .dict es n, #[]⟩ ∧ PySem.W.KeysLit w.params es.toList
  low : (p == sysModules) = false
  get : ∀ z, (∀ d, t.lookup z = some d → ∃ u v, PySem.W.nsIn K p z = some (some u) ∧ RelV v u ∧ ∀ F, Rep K F d v) ∧ (t.lookup z = none → PySem.W.nsIn K p z = some none)
section
variable {X : Cx} {K : PySem.W.Frag} {w : World} {p : Addr} {t : List (Str × D)}
theorem KTab.kd (T : KTab K w p t) : ∃ es n, KDict K w p es n := by
  obtain ⟨es, n, h1, h2⟩ := T.at_
  exact ⟨es, n, h1, h2, T.low⟩
end
/-! ### from the object to its table -/
end DL

set_option Elab.async false
set_option linter.all false
set_option maxRecDepth 100000
/-! DL14: any data in a tuple of texts -/
namespace DL
open PySem PySem.Spec PyProof.Rows L2 TL
theorem str_eq_declines_dict (b : Str) (u : Tok) (l : Addr) (es : Array DictEntry) (ep : Nat) (dd : Option Addr) (sl : Array (Option Value)) :
    Meets (Builtin.«str.__eq__» ⟨[.str b u, .ref l], []⟩) (fun _ R s => s.heap.get? l = some { cls := .type "dict", dict := dd, data := .dict es ep, slots := sl } ∧ R (.ok (.ret .notImplemented)) s) :=
  .of_wp fun prog w A R s h => by obtain ⟨hp, g, d, tk, os⟩ := s; obtain ⟨hl, h⟩ := h; have f1 := PySem.F.sub_dict_str; wp_walk using wpAny_loadPart' hl, wpAny_load hl; exact ⟨_, rfl, h⟩
theorem dict_eq_declines_str (l : Addr) (es : Array DictEntry) (ep : Nat) (dd : Option Addr) (sl : Array (Option Value)) (b : Str) (u : Tok) :
    Meets (Builtin.«dict.__eq__» ⟨[.ref l, .str b u], []⟩) (fun _ R s => s.heap.get? l = some { cls := .type "dict", dict := dd, data := .dict es ep, slots := sl } ∧ R (.ok (.ret .notImplemented)) s) :=
  .of_wp fun prog w A R s h => by obtain ⟨hp, g, d, tk, os⟩ := s; obtain ⟨hl, h⟩ := h; have f1 := PySem.F.sub_str_dict; wp_walk using wpAny_loadPart' hl, wpAny_load hl; exact ⟨_, rfl, h⟩
section
variable {A : Around} {s : Shared}
theorem rc_str_dict {l : Addr} {es : Array DictEntry} {ep : Nat} {dd : Option Addr} {sl : Array (Option Value)} (b : Str) (u : Tok) (ho : s.heap.get? l = some { cls := .type "dict", dict := dd, data := .dict es ep, slots := sl }) (hu : A.units < cLine) : SeqAt.RcAt A s (.str b u) (.ref l) false := fun prog w E Q h =>
  SeqAt.rc_eq_decline_or (k := false) (typeIs_str s b u) ⟨_, ho, rfl⟩ (by decide) PySem.F.sub_dict_str PySem.F.slot_str_eq PySem.F.slot_dict_eq_refl
    (fun _ hq => call_meets PySem.F.slot_str_eq (typeIs_str s b u) PySem.F.entry_str_eq (PySem.F.args_str_eq_2 _ _) (str_eq_declines_dict b u l es ep dd sl) ⟨ho, hq⟩)
    (fun _ hq => call_meets PySem.F.slot_dict_eq_refl ⟨_, ho, rfl⟩ PySem.F.entry_dict_eq (PySem.F.args_dict_eq_2 _ _) (dict_eq_declines_str l es ep dd sl b u) ⟨ho, hq⟩)
    (fun _ hq => wpAny_of_eq (rfl : isSame (.str b u) (.ref l) = pure false) hq) (.inr hu) h
theorem eq_str_dict {l : Addr} {es : Array DictEntry} {ep : Nat} {dd : Option Addr} {sl : Array (Option Value)} (b : Str) (u : Tok) (ho : s.heap.get? l = some { cls := .type "dict", dict := dd, data := .dict es ep, slots := sl }) (hu : A.units < cLine) : SeqAt.EqAt A s (.str b u) (.ref l) false := fun prog w E Q h => by
  unfold eqBool
  refine wpAny_holding ?_
  refine wpAny_ite_split (fun hab => absurd (eq_of_beq hab) nofun) (fun _ => ?_)
  exact wpAny_bind (rc_str_dict b u ho hu prog w E _ (wpAny_truthy_bool h))
end
/-- is the data one of the texts -/
def inTx : D → List Str → Bool
  | .str z, ys => ys.any fun y => decide (y = z)
  | _, _ => false
def eTx (d : D) : Value → Bool
  | .str a _ => (match d with | .str z => decide (a = z) | _ => false)
  | _ => false
theorem eTx_any {d : D} : ∀ {ys : List Str} {its : List Value}, Vals (ys.map V.str) its → its.any (eTx d) = inTx d ys
  | [], _, r => by
    cases r
    cases d <;> rfl
  | y :: ys, _, r => by
    rw [List.map_cons] at r
    cases r with
    | cons h t =>
      obtain ⟨tk, rfl⟩ := h
      rw [List.any_cons, eTx_any t]
      cases d <;> first | rfl | (show (false || _) = _; rw [Bool.false_or]; rfl)
section
variable {X : Cx}
def rInTx (K : PySem.W.Frag) : R2 := fun x y H Q => ∃ F dx p ys, Same F H ∧ Rep K F dx x ∧ (tyT dx).isSome = true ∧ y = .ref p ∧ SqT K H p (ys.map V.str) ∧ Q (.bl (inTx dx ys)) H
theorem eTx_at {pins : List (Addr × Obj)} {σ : L2.St} {F H : Hp} {s : Shared} {dx : D} {x : V} {v : Value} (hu : X.A.units + 1 < cLine) (I : Inv X pins σ H s) (sub : Same F H) (rx : Rep X.K F dx x) (rv : RelV x v) (ht : (tyT dx).isSome = true) (a : Str) (tk : Tok) :
    SeqAt.EqAt X.A.in1 s (.str a tk) v (eTx dx (.str a tk)) := by
  have hu1 : X.A.in1.units < cLine := hu
  cases dx with
  | non => cases rx; cases rv; exact SeqAt.EqAt.str_none a tk
  | bl b => cases rx; cases rv; exact SeqAt.EqAt.str_bool a tk b
  | int i => cases rx; obtain ⟨t, rfl⟩ := rv; exact SeqAt.EqAt.str_int a tk i t
  | str z =>
    obtain ⟨rfl, _⟩ := rx
    obtain ⟨t, rfl⟩ := rv
    have := SeqAt.EqAt.str_str (A := X.A.in1) (s := s) a tk z t
    have e : (a == z) = decide (a = z) := by
      by_cases h : a = z
      · rw [h, decide_eq_true rfl]; exact beq_self_eq_true z
      · rw [decide_eq_false h]; exact beq_eq_false_iff_ne.mpr h
    rw [e] at this
    exact this
  | lst ds =>
    obtain ⟨l, vs, rfl, hl, _, _⟩ := rx
    cases rv
    obtain ⟨its, _, p, _⟩ := I.list (.inl (.inl (sub _ _ hl)))
    exact SeqAt.EqAt.str_list a tk p.isList hu1
  | tup ds =>
    obtain ⟨l, vs, rfl, hl, _, _⟩ := rx
    cases rv
    obtain ⟨its, _, ⟨o, h1, h2, h3⟩, _⟩ := I.tuple (Same.seqT sub hl)
    exact SeqAt.EqAt.str_tuple a tk ⟨o, h1, h2, h3⟩ hu1
  | dic ks ds =>
    obtain ⟨l, kvs, rfl, hl, _, _, _⟩ := rx
    cases rv
    obtain ⟨_, _, vs0, _, ⟨o, es, ep, h1, h2, h3, _⟩⟩ := dk_of I.hok (sub _ _ hl)
    obtain ⟨cls, dd, data, sl⟩ := o
    have hc : cls = Value.type "dict" := h2.1
    have hd : data = .dict es ep := h3
    subst hc hd
    exact eq_str_dict a tk h1 hu1
  | _ => cases ht
theorem op_inTx (hu : X.A.units + 1 < cLine) : OpR X (compareOp .In) (rInTx X.K) := by
  intro pins s σ H x y v u Q I rx ry h
  obtain ⟨F, dx, p, ys, sub, rd, ht, rfl, hT, q⟩ := h
  cases ry
  obtain ⟨its, rvs, ⟨o, h1, h2, n, h3⟩, _⟩ := I.tuple hT
  refine SeqAt.in_tupleAt (eTx dx) ⟨o, h1, h2, n, h3⟩ (fun z hz => ?_) ?_
  · obtain ⟨y, a, e1, e2, r⟩ : ∃ (y : Str) (a : Tok), z = .str y a ∧ True ∧ True := by
      have hz' : z ∈ its := by simpa using hz
      obtain ⟨i, hi⟩ := List.getElem?_of_mem hz'
      have hl := rvs.length
      have hi' : i < ys.length := by
        have := (List.getElem?_eq_some_iff.mp hi).1
        rw [List.length_map] at hl
        omega
      obtain ⟨w, g1, g2⟩ := rvs.get (i := i) (x := .str ys[i]) (by rw [List.getElem?_map, List.getElem?_eq_getElem hi']; rfl)
      rw [hi] at g1
      cases g1
      obtain ⟨t, rfl⟩ := g2
      exact ⟨_, t, rfl, True.intro, True.intro⟩
    subst e1
    exact eTx_at hu I sub rd rx ht y a
  · have e : its.toArray.any (eTx dx) = inTx dx ys := by
      rw [← eTx_any rvs]
      simp
    rw [e]
    exact ⟨.bl _, H, I, rfl, q⟩
def inTxD : D → D → (Bool → Prop) → Prop := fun x y Q => ∃ ys : List Str, (tyT x).isSome = true ∧ y = .tup (ys.map .str) ∧ Q (inTx x ys)
theorem o_inTx {K : PySem.W.Frag} : Cm2 K (rInTx K) inTxD := by
  intro F H dx dy x y Qd Q sub rx ry h hQ
  obtain ⟨ys, ht, rfl, q⟩ := h
  obtain ⟨p, vs, rfl, hT, _, rs⟩ := ry
  obtain ⟨ev, _⟩ := reps_strs rs
  subst ev
  exact ⟨F, dx, p, ys, sub, rx, ht, rfl, Same.seqT sub hT, hQ _ F H q (Grow.refl sub)⟩
end
end DL

set_option Elab.async false
set_option linter.all false
set_option maxRecDepth 100000
/-! DL15: enumerate over a tuple -/
namespace DL
open PySem PySem.Spec PyProof.Rows L2 TL
open AutoSeq1 (wpAny_loadPart')
theorem meets_enumerate_newT (l : Addr) (items : Array Value) (n : Nat) (dct : Option Addr) (sl : Array (Option Value)) :
    Meets (Builtin.«enumerate.__new__» ⟨[.type "enumerate", .ref l], []⟩) (fun _ R s => s.heap.get? l = some { cls := .type "tuple", dict := dct, data := .seq items n, slots := sl } ∧
      R (.ok (.ret (.ref (s.heap.push { cls := .type "tuple_iterator", data := .fields #[.ref l, .int 0 0] }).objs.size)))
        { s with heap := (s.heap.push { cls := .type "tuple_iterator", data := .fields #[.ref l, .int 0 0] }).push { cls := .type "enumerate", data := .fields #[.none, .bool false, .ref s.heap.objs.size, rawInt 0, .none, .none] } }) :=
  .of_wp fun prog w A R s h => by
    obtain ⟨hp, g, d, tk, os⟩ := s; obtain ⟨hl, h⟩ := h
    have hsub := sub_enumerate
    have hL : Heap.IsTuple (Shared.heap ⟨hp, g, d, tk, os⟩) l items := ⟨_, hl, rfl, n, rfl⟩
    wp_walk using wpAny_loadPart' hl
    refine wpAny_stack_any fun st => wpAny_pure ?_
    split
    · rename_i c _ _ _ _ _
      cases (c == Value.type "enumerate")
      · wp_walk using wpAny_loadPart' hl, wpAny_pyIter_tuple hL
        exact ⟨_, rfl, h⟩
      · wp_walk using wpAny_loadPart' hl, wpAny_pyIter_tuple hL
        exact ⟨_, rfl, h⟩
    · wp_walk using wpAny_loadPart' hl, wpAny_pyIter_tuple hL
      exact ⟨_, rfl, h⟩
section
variable {prog : Program} {w : World} {A : Around} {E : Value → Shared → Prop} {s : Shared}
theorem call_enumerate_tuple {l : Addr} {items : Array Value} {Q : Value → Shared → Prop} (hL : s.heap.IsTuple l items)
    (h : ∀ h', IsEnum h' (s.heap.objs.size + 1) s.heap.objs.size 0 .none → h'.IsTupleIter s.heap.objs.size l 0 → h'.objs.size = s.heap.objs.size + 2 →
      (∀ b o, s.heap.get? b = some o → h'.get? b = some o) → Q (.ref (s.heap.objs.size + 1)) { s with heap := h' }) :
    wpAny (model prog w) A (call (.type "enumerate") [.ref l]) Q E s := by
  obtain ⟨⟨c, dct, dt, sl⟩, hl, hc, n, hd⟩ := hL
  replace hc : c = .type "tuple" := hc
  replace hd : dt = .seq items n := hd
  subst hc hd
  refine callType_new F.called_enumerate (by decide) (F.typeCall_enumerate_1 _) (F.newCall_enumerate_1 _) (fun obj => F.args_object_init_2 obj _) F.entry_enumerate_new
    (meets_enumerate_newT l items n dct sl) ⟨hl, ?_⟩
  have hz : (s.heap.push { cls := .type "tuple_iterator", data := .fields #[.ref l, .int 0 0] }).objs.size = s.heap.objs.size + 1 := Heap.size_push ..
  show _ ∧ _
  rw [hz]
  have he : IsEnum ((s.heap.push { cls := .type "tuple_iterator", data := .fields #[.ref l, .int 0 0] }).push
      { cls := .type "enumerate", data := .fields #[.none, .bool false, .ref s.heap.objs.size, rawInt 0, .none, .none] }) (s.heap.objs.size + 1) s.heap.objs.size 0 .none := by
    have := Heap.get?_push_size (s.heap.push { cls := .type "tuple_iterator", data := .fields #[.ref l, .int 0 0] })
      (o := { cls := .type "enumerate", data := .fields #[.none, .bool false, .ref s.heap.objs.size, rawInt 0, .none, .none] }) rfl
    rw [hz] at this; exact this
  refine ⟨⟨_, he, rfl⟩, h _ he ⟨_, Heap.get?_push_of_some _ (Heap.get?_push_size _ rfl), rfl, rfl⟩ (by rw [Heap.size_push, hz]) fun b o x => Heap.get?_push_of_some _ (Heap.get?_push_of_some _ x)⟩
theorem next_enumT_end {e it l : Addr} {i : Nat} {items : Array Value} {old : Value} {Q : Option Value → Shared → Prop} (hh : A.handled = none)
    (he : IsEnum s.heap e it i old) (hit : s.heap.IsTupleIter it l i) (hl : s.heap.IsTuple l items) (hx : items[i]? = none)
    (hQ : ∀ h', Heap.ExtBut it s.heap h' → Q none { s with heap := h' }) : wpAny (model prog w) A (pyNext (.ref e)) Q E s := by
  have hT : s.TypeIs (.ref e) "enumerate" := ⟨_, he, rfl⟩
  unfold pyNext
  refine wpAny_bind (wpAny_attempt (wpAny_callSpecial?_slot (name := Str.ofString "__next__") hT F.slot_enumerate_next
    (wpAny_call_entry F.slot_enumerate_next hT F.entry_enumerate_next ?_ (F.args_enumerate_next_1 _))))
  show wpAny _ _ (field (.ref e) 2 >>= _) _ _ _
  refine wpAny_bind (wpAny_field he rfl (x := .ref it) rfl ?_)
  refine wpAny_bind (wpAny_nextOf_tuple_end hh hit hl hx fun h' x he' hx' => ?_)
  obtain ⟨o, ho, hc⟩ := hx'
  refine wpAny_bind (wpAny_isInstance (T := "StopIteration") (b := true) ⟨o, ho, hc⟩ isSubtype_stop ?_)
  exact wpAny_pure (hQ _ he')
end
/-- the tuple at a, each item in a new pair -/
def IteT (K : PySem.W.Frag) (a : Addr) : It :=
  ⟨fun i H => ∃ (xs : List V) (x : V), SqT K H a xs ∧ xs[i]? = some x, fun i H v H' => ∃ T x, v = .ref T ∧ H T = none ∧ H' = upd H T (.tup [.int (i : Nat), x]) ∧ ∀ xs, SqT K H a xs → xs[i]? = some x, fun i H => ∃ xs : List V, SqT K H a xs ∧ xs.length ≤ i⟩
theorem turn_enumT {P : Program} {w : World} {K : PySem.W.Frag} {elts : List Expr} {kk : Nat} {tpos : Pos} (a e it : Addr) :
    Turn P w K (.Tuple elts kk tpos) (IteT K a) [e, it] e (fun i h => (∃ old, IsEnum h e it ((i : Nat) : Int) old) ∧ h.IsTupleIter it a i ∧ e ≠ it) where
  mem := by simp
  obj := fun i h st b hb => by
    obtain ⟨⟨old, he⟩, ⟨o, ho, hc, hd⟩, _⟩ := st
    have e' : b = e ∨ b = it := by simpa using hb
    rcases e' with z | z
    · rw [z]; exact ⟨_, he, fun v q => nomatch q⟩
    · rw [z]; exact ⟨o, ho, fun v q => by rw [hd] at q; cases q⟩
  keep := fun i h h' st k => let ⟨⟨old, he⟩, hi, hne⟩ := st; ⟨⟨old, k e (by simp) _ he⟩, hi.at fun o q => k it (by simp) o q, hne⟩
  item := by
    intro X hP hw hK hc i pins s σ H E I hf st hg
    subst hP hw hK
    obtain ⟨⟨old, he⟩, hit, hne⟩ := st
    obtain ⟨xs, x, hq, hx⟩ := hg
    obtain ⟨its, rv, ⟨o, g1, g2, n, g3⟩, hz⟩ := I.tuple hq
    have p : s.heap.IsTuple a its.toArray := ⟨o, g1, g2, n, g3⟩
    obtain ⟨u, hu, ru⟩ := rv.get hx
    have hel : e < s.heap.objs.size := Heap.lt_size he
    have hil : it < s.heap.objs.size := by obtain ⟨_, q, _⟩ := hit; exact Heap.lt_size q
    have hai : a ≠ it := fun z => by
      obtain ⟨o', q1, q2, _⟩ := hit
      rw [← z, g1] at q1
      cases q1
      rw [g2] at q2
      exact absurd (Value.type.inj q2) (by decide)
    have hae : e ≠ a := fun z => by
      have he' : s.heap.get? e = some _ := he
      rw [z, g1] at he'
      have := Option.some.inj he'
      rw [this] at g2
      exact absurd (Value.type.inj g2) (by decide)
    have hlt : i < its.toArray.size := by
      have := (List.getElem?_eq_some_iff.mp hu).1
      simpa using this
    refine wpAny_pyNext_enum_itemD (Draws.tuple (A := X.A.in1) (I.ok.hd hc) it a hai its.toArray) he ⟨hit, p⟩ hlt hne (by simp [hne, hae]) fun u' h' tk hP ho hit' hT hsz hk => ?_
    have eu : u' = u := by
      have hP' : its.toArray[i]? = some u' := hP
      have : its[i]? = some u' := by simpa using hP'
      rw [hu] at this
      exact (Option.some.inj this).symm
    subst eu
    refine ⟨_, rfl, wpAny_letOwnedTupleGo_enum (s := { s with heap := h', toks := tk + 1 }) ho fun h'' he' sb => ?_⟩
    have hT2 : h''.get? s.heap.objs.size = some { cls := .type "tuple", data := .seq #[.int i tk, u'] } := (sb.2 _ (Nat.ne_of_gt hel)).trans hT
    have new : ObjOk X.prog X.w (upd H s.heap.objs.size (.tup [.int (i : Nat), x])) h'' s.heap.objs.size (.tup [.int (i : Nat), x]) :=
      ⟨by show 2 ≤ sizeLine; decide, [.int i tk, u'], .cons ⟨_, rfl⟩ (.cons ru .nil), ⟨_, hT2, rfl, _, rfl⟩⟩
    have I1 : Inv X pins σ (upd H s.heap.objs.size (.tup [.int (i : Nat), x])) { s with heap := h'', toks := tk + 1 } :=
      I.turnedNew (ch := [e, it]) (fun b ob hb q => (sb.2 b (fun z => hb (by simp [z]))).trans (hk b ob (fun z => hb (by simp [z])) (fun z => hb (by simp [z])) q)) hf (Nat.le_refl _) new
    refine ⟨.ref s.heap.objs.size, _, I1, rfl, ⟨_, x, rfl, I.hok.fresh (Nat.le_refl _), rfl, fun ys hy => by rw [I.tuple_inj hy hq]; exact hx⟩, ⟨⟨u', ?_⟩, hit'.1.at fun o q => (sb.2 it (Ne.symm hne)).trans q, hne⟩, fun b hb => ?_⟩
    · have e1 : ((i + 1 : Nat) : Int) = (i : Int) + 1 := by omega
      rw [e1]; exact he'
    · have hb' : b < s.heap.objs.size := by
        have e' : b = e ∨ b = it := by simpa using hb
        rcases e' with z | z
        · rw [z]; exact hel
        · rw [z]; exact hil
      rw [upd_ne (Nat.ne_of_lt hb')]
      exact (hf b hb).1
  done := by
    intro X hP hw hK hc i pins s σ H E I hf st hg
    subst hP hw hK
    obtain ⟨⟨old, he⟩, hit, hne⟩ := st
    obtain ⟨xs, hq, hx⟩ := hg
    obtain ⟨its, rv, ⟨o, g1, g2, n, g3⟩, hz⟩ := I.tuple hq
    obtain ⟨f0, f1, f2, f3, f4, f5⟩ := hf it (by simp)
    have hl := rv.length
    exact next_enumT_end (I.ok.hd hc) he hit ⟨o, g1, g2, n, g3⟩ (by simp; omega) fun h' eb => ⟨rfl, I.turned (t' := s.toks) (fun b o hb q => eb b o hb q) f0 f1 f3 f4 f5⟩
  self := fun A i s Q E st h => let ⟨⟨_, he⟩, _⟩ := st; wpAny_pyIter_enum he h
def iEnumT (K : PySem.W.Frag) (ta : TA) : TI := fun σ H R => ta σ H fun vs H1 => ∃ a xs, vs = [.ref a] ∧ ((SqL K H1 a xs ∧ R (Ite K a) H1) ∨ (SqT K H1 a xs ∧ R (IteT K a) H1))
theorem pi_enumA {X : Cx} {e : Expr} {ta : TA} {p pos tpos : Pos} {elts : List Expr} {kk : Nat} (hg : Gl X "enumerate") (hm : X.mg "enumerate" = none) (ha : PA X [e] ta) (hs : starEach [e] X.env = [(false, eval e X.env)] := by rfl) :
    PI X (.Tuple elts kk tpos) (.Call (.Name "enumerate" p) [e] [] pos) (iEnumT X.K ta) := by
  refine ⟨fun pins s σ H R I h => ?_⟩
  refine Call_ (ld_blt I hg hm boot_enumerate (PyProof.Rows.callWith_type1 (thn (ha.run pos pins s σ H _ I h) fun us s1 ⟨vs, H1, I1, r1, q1⟩ => ?_) hs rfl))
  obtain ⟨a, xs, ex, q⟩ := q1
  subst ex
  cases r1 with
  | cons r rr =>
    cases rr
    cases r
    rcases q with ⟨hq, q⟩ | ⟨hq, q⟩
    · obtain ⟨its, rv, p', hz⟩ := I1.list hq
      refine call_enumerate_list p'.isList fun h' he hit hsz hk => wpAny_pyIter_enum he ?_
      have I2 : Inv X pins σ H1 { s1 with heap := h' } := I1.kept (t' := s1.toks) hk
      refine ⟨s1.heap.objs.size + 1, [s1.heap.objs.size + 1, s1.heap.objs.size], _, _, H1, rfl, I2, turn_enum a (s1.heap.objs.size + 1) s1.heap.objs.size, ⟨⟨.none, he⟩, hit, Nat.succ_ne_self _⟩, fun b hb => ?_, q⟩
      have e' : b = s1.heap.objs.size + 1 ∨ b = s1.heap.objs.size := by simpa using hb
      have hle : s1.heap.objs.size ≤ b := by
        rcases e' with z | z
        · rw [z]; exact Nat.le_add_right _ _
        · rw [z]; exact Nat.le_refl _
      exact I1.fpOk hle (I1.hok.fresh hle)
    · obtain ⟨its, rv, ⟨o, g1, g2, n, g3⟩, hz⟩ := I1.tuple hq
      refine call_enumerate_tuple (items := its.toArray) ⟨o, g1, g2, n, g3⟩ fun h' he hit hsz hk => wpAny_pyIter_enum he ?_
      have I2 : Inv X pins σ H1 { s1 with heap := h' } := I1.kept (t' := s1.toks) hk
      refine ⟨s1.heap.objs.size + 1, [s1.heap.objs.size + 1, s1.heap.objs.size], _, _, H1, rfl, I2, turn_enumT a (s1.heap.objs.size + 1) s1.heap.objs.size, ⟨⟨.none, he⟩, hit, Nat.succ_ne_self _⟩, fun b hb => ?_, q⟩
      have e' : b = s1.heap.objs.size + 1 ∨ b = s1.heap.objs.size := by simpa using hb
      have hle : s1.heap.objs.size ≤ b := by
        rcases e' with z | z
        · rw [z]; exact Nat.le_add_right _ _
        · rw [z]; exact Nat.le_refl _
      exact I1.fpOk hle (I1.hok.fresh hle)
section
variable {X : Cx} {m : Mem} {pos p : Pos} {ta : DTA m}
theorem walks_enumT {K : PySem.W.Frag} {F : Hp} {a : Addr} {ds : List D} {vs : List V} (h1 : SqT K F a vs) (r1 : Reps K F ds vs) : Walks K F (IteT K a) (enumD ds) := fun F' H' s1 s2 => by
  have q1 : SqT K H' a vs := Same.seqT s2 (Same.seqT s1 h1)
  refine ⟨fun i hi => ⟨vs, q1, by rw [r1.length]; unfold enumD at hi; rw [List.length_mapIdx] at hi; exact hi⟩, fun i d e => ?_⟩
  obtain ⟨x, ex, rfl⟩ := enum_get e
  obtain ⟨v, ev, rv⟩ := r1.get ex
  refine ⟨⟨vs, v, q1, ev⟩, fun z H2 yl => ?_⟩
  obtain ⟨T, v', rfl, nT, rfl, g1⟩ := yl
  have e1 := g1 vs q1
  rw [ev] at e1
  cases e1
  have g : Grow F' H' (upd F' T (.tup [.int (i : Nat), v])) (upd H' T (.tup [.int (i : Nat), v])) := Grow.new s2 nT
  exact ⟨_, g, rep_pair upd_same rfl (Rep.mono (s1.trans g.fF) _ _ rv)⟩
def dEnumA {m : Mem} (ta : DTA m) : DTI m := fun ρ s Q => ta ρ s fun ds ρ1 s1 => ∃ d xs, ds = [d] ∧ (d = .lst xs ∨ d = .tup xs) ∧ Q (enumD xs) ρ1 s1
theorem di_enumA {a : Expr} {elts : List Expr} {kk : Nat} {tpos : Pos} (hg : Gl X "enumerate") (hm : X.mg "enumerate" = none) (ha : PA X [a] (upA X.K m ta)) (hs : starEach [a] X.env = [(false, eval a X.env)] := by rfl) :
    PI X (.Tuple elts kk tpos) (.Call (.Name "enumerate" p) [a] [] pos) (upI X.K m (dEnumA ta)) := PI.imp (pi_enumA hg hm ha hs) fun σ H R h => by
  obtain ⟨F, ρ, s, Qd, r, ht, hQ⟩ := h
  refine ⟨F, ρ, s, _, r, ht, fun ds ρ1 s1 vs F1 H1 ⟨d, xs, ed, ek, q1⟩ r1 st1 rs => ?_⟩
  subst ed
  rcases ek with rfl | rfl
  · obtain ⟨v, _, rfl, ⟨a, vs, rfl, h1, _, k1⟩, rn⟩ := rs
    cases rn
    exact ⟨a, vs, rfl, .inl ⟨.inl (.inl (r1.sub _ _ h1)), hQ _ ρ1 s1 _ F1 H1 q1 r1 st1 (walks_enumL (.inl (.inl h1)) k1)⟩⟩
  · obtain ⟨v, _, rfl, ⟨a, vs, rfl, h1, _, k1⟩, rn⟩ := rs
    cases rn
    exact ⟨a, vs, rfl, .inr ⟨Same.seqT r1.sub h1, hQ _ ρ1 s1 _ F1 H1 q1 r1 st1 (walks_enumT h1 k1)⟩⟩
end
end DL

set_option Elab.async false
set_option linter.all false
set_option maxRecDepth 100000
/-! DL16: a list of any data against [] -/
namespace DL
open PySem PySem.Spec PyProof.Rows L2 TL
section
variable {X : Cx}
def rEqE (K : PySem.W.Frag) (neg : Bool) : R2 := fun x y H Q => ∃ a b xs, x = .ref a ∧ y = .ref b ∧ SqL K H a xs ∧ SqL K H b [] ∧ Q (.bl (neg ^^ xs.isEmpty)) H
theorem op_eqE (hu : X.A.units + 1 < cLine) : OpR X (compareOp .Eq) (rEqE X.K false) := by
  intro pins s σ H x y v u Q I rx ry h
  obtain ⟨a, b, xs, rfl, rfl, ha, hb, q⟩ := h
  cases rx
  cases ry
  obtain ⟨its, rv, p, _⟩ := I.list ha
  obtain ⟨its2, rv2, p2, _⟩ := I.list hb
  cases rv2
  have hl := rv.length
  rw [Bool.false_xor] at q
  cases xs with
  | nil =>
    cases rv
    refine SeqAt.eq_listAt (e := fun _ => true) p.isList p2.isList rfl (by omega) (fun j h1 _ => absurd h1 (by simp)) ?_
    exact ⟨.bl true, H, I, rfl, q⟩
  | cons z r =>
    refine SeqAt.eq_list_lengthsAt p.isList p2.isList ?_ (by omega) ⟨.bl false, H, I, rfl, q⟩
    rw [List.length_cons] at hl
    simp [← hl]
def eqE (neg : Bool) (x y : D) (Q : Bool → Prop) : Prop := ∃ xs, x = .lst xs ∧ y = .lst [] ∧ Q (neg ^^ xs.isEmpty)
theorem o_eqE {K : PySem.W.Frag} {neg : Bool} : Cm2 K (rEqE K neg) (eqE neg) := by
  intro F H dx dy x y Qd Q sub rx ry h hQ
  obtain ⟨xs, rfl, rfl, q⟩ := h
  obtain ⟨a, vs, rfl, h1, _, r1⟩ := rx
  obtain ⟨b, ws, rfl, h2, _, r2⟩ := ry
  cases r2
  have e : vs.isEmpty = xs.isEmpty := by
    have := r1.length
    cases vs <;> cases xs <;> simp at this ⊢
  refine ⟨a, b, vs, rfl, rfl, .inl (.inl (sub _ _ h1)), .inl (.inl (sub _ _ h2)), ?_⟩
  rw [e]
  exact hQ _ F H q (Grow.refl sub)
end
end DL

set_option Elab.async false
set_option linter.all false
set_option maxRecDepth 100000
/-! DL17: a def's own list by x, y = e, [] and by y = list(e) -/
namespace DL
open PySem PySem.Spec PyProof.Rows L2 TL
section
variable {X : Cx} {m : Mem} {E : Ent m} {pos : Pos}
end
end DL

set_option Elab.async false
set_option linter.all false
set_option maxRecDepth 100000
/-! DL18: t[::-1] of a tuple -/
namespace DLR
open PySem PySem.Spec PyProof.Rows L2 HT
section
variable {P : Program} {w : World} {A : Around} {X0 : Value → Shared → Prop} {s : Shared}
end
section
variable {X : Cx}
end
end DLR
namespace DL
open PySem PySem.Spec PyProof.Rows L2 TL
section
variable {X : Cx} {m : Mem}
end
end DL

set_option Elab.async false
set_option linter.all false
set_option maxRecDepth 100000
/-! DL19: a hidden list becomes a slot's own; x, y = [], e -/
namespace DL
open PySem PySem.Spec PyProof.Rows L2 TL
section
variable {X : Cx} {m : Mem} {E : Ent m} {pos : Pos}
theorem put_hid {K : PySem.W.Frag} {F' H' : Hp} {σ : L2.St} {ρ' : List Sl} {s' : m.S} (r' : Rel K m F' H' σ ρ' s') (o' : Own m E F' H' σ ρ' s') (i : Nat) {p : Addr} {ho : HO} {ob : Ob} (hp : H' p = some ho) (nF : F' p = none) (nR : ¬ m.R s' p) (nO : ∀ i, ¬ Owns σ ρ' i p) (eH : E.H p = none) (hob : ObAt K F' ob p ho) :
    Rel K m F' H' (σ.set i (some (.ref p))) (ρ'.set i (.ow ob)) s' ∧ Own m E F' H' (σ.set i (some (.ref p))) (ρ'.set i (.ow ob)) s' := by
  have other : ∀ (j : Nat) q, i ≠ j → Owns (σ.set i (some (.ref p))) (ρ'.set i (.ow ob)) j q → Owns σ ρ' j q := fun j q hj ⟨⟨o', h1⟩, h2⟩ => by
    rw [List.getElem?_set_ne hj] at h1 h2; exact ⟨⟨o', h1⟩, h2⟩
  have self : ∀ q, Owns (σ.set i (some (.ref p))) (ρ'.set i (.ow ob)) i q → q = p := fun q ⟨⟨o', h1⟩, h2⟩ => by
    have hi : i < σ.length := by
      have := (List.getElem?_eq_some_iff.mp h2).1
      rw [List.length_set] at this; exact this
    rw [List.getElem?_set_self hi] at h2
    cases h2; rfl
  refine ⟨⟨r'.sub, r'.mem, r'.reg, by rw [List.length_set, List.length_set]; exact r'.len, fun j d' z => ?_, fun j o' z => ?_, fun j q z => ?_, fun j k q h1 h2 => ?_⟩, ⟨o'.ext, o'.keep, o'.alive, o'.fresh, o'.regf, fun j q z => ?_⟩⟩
  · by_cases hj : i = j
    · subst hj
      have hi : i < ρ'.length := by
        have := (List.getElem?_eq_some_iff.mp z).1
        rw [List.length_set] at this; exact this
      rw [List.getElem?_set_self hi] at z
      cases z
    · rw [List.getElem?_set_ne hj] at z
      obtain ⟨w, h1, h2⟩ := r'.sh j d' z
      exact ⟨w, by rw [List.getElem?_set_ne hj]; exact h1, h2⟩
  · by_cases hj : i = j
    · subst hj
      have hi : i < ρ'.length := by
        have := (List.getElem?_eq_some_iff.mp z).1
        rw [List.length_set] at this; exact this
      rw [List.getElem?_set_self hi] at z
      cases z
      exact ⟨p, _, List.getElem?_set_self (by rw [r'.len]; exact hi), hp, hob⟩
    · rw [List.getElem?_set_ne hj] at z
      obtain ⟨q, ho', h1, h2, h3⟩ := r'.ow j o' z
      exact ⟨q, ho', by rw [List.getElem?_set_ne hj]; exact h1, h2, h3⟩
  · by_cases hj : i = j
    · subst hj
      rw [self q z]; exact ⟨nF, nR⟩
    · exact r'.owF j q (other j q hj z)
  · by_cases hj : i = j
    · subst hj
      by_cases hk : i = k
      · exact hk
      · exact absurd ((self q h1) ▸ other k q hk h2) (nO k)
    · by_cases hk : i = k
      · subst hk
        exact absurd ((self q h2) ▸ other j q hj h1) (nO j)
      · exact r'.uq j k q (other j q hj h1) (other k q hk h2)
  · by_cases hj : i = j
    · subst hj
      rw [self q z]; exact eH
    · exact o'.own j q (other j q hj z)
end
end DL

set_option Elab.async false
set_option linter.all false
set_option maxRecDepth 100000
/-! EL1: sorted(..) of a tuple, by any order -/
namespace ELR
open PySem PySem.Spec PyProof.Rows L2 HT SrtO
section
variable {P : Program} {w : World} {A : Around} {X0 : Value → Shared → Prop} {s : Shared}
/-- the heap with the collected list behind it -/
abbrev gath (h : Heap) (us : List Value) : Heap := (h.push (seqObj "list" #[] 0)).update h.objs.size (Obj.mapSeq (· ++ us.toArray))
theorem gather_tup {t : Addr} {us : List Value} {R : List Value → Shared → Prop} (ht : IsTup s.heap t us.toArray) (many : us.length ≤ sizeLine) (q : R us { s with heap := gath s.heap us }) :
    wpAny (model P w) A (collect (.ref t)) R X0 s := by
  obtain ⟨o, e1, e2, n, e3⟩ := id ht
  have there : (s.heap.push (seqObj "list" #[] 0)).get? t = some o := Heap.get?_push_of_some _ e1
  have fresh : (s.heap.push (seqObj "list" #[] 0)).get? s.heap.objs.size = some (seqObj "list" #[] 0) := Heap.get?_push_size _ rfl
  have last : wpAny (model P w) A (do
      let o ← load s.heap.objs.size
      match o.data with
      | .seq xs _ => pure xs.toList
      | _ => unsupported "internal:collect") R X0 { s with heap := gath s.heap us } := by
    refine wpAny_bind (wpAny_load (get?_update_seq fresh _) ?_)
    show wpAny _ _ (pure ((#[] : Array Value) ++ us.toArray).toList) _ _ _
    have e : ((#[] : Array Value) ++ us.toArray).toList = us := by simp
    rw [e]
    exact wpAny_pure q
  have ext : ∀ (A' : Around) (T : PySem.Fin → Shared → Prop), T (.done (.ret (.ref s.heap.objs.size))) { s with heap := gath s.heap us } → wpAny (model P w) A' (Builtin.List.listExtendWith (.ref s.heap.objs.size) (.ref t) (.ref s.heap.objs.size)) T X0 { s with heap := s.heap.push (seqObj "list" #[] 0) } := fun A' T hT => by
    unfold Builtin.List.listExtendWith
    refine wpAny_bind (wpAny_typeOf (T := "tuple") ⟨o, there, e2⟩ ?_)
    rw [if_pos (by rw [show (Value.type "tuple" == Value.type "tuple") = true by rfl]; simp)]
    refine wpAny_bind (listItems_at there e3 (wpAny_bind (listItems_at (xs := #[]) (n := 0) fresh rfl ?_)))
    rw [if_neg (by simp)]
    refine wpAny_bind (listUpdate_at (xs := #[]) (n := 0) fresh rfl (wpAny_pure hT) (Nat.zero_le _) ?_)
    show (#[] ++ us.toArray).size ≤ sizeLine + 1
    simp only [Array.size_append, List.size_toArray, List.length_nil]
    omega
  unfold collect
  refine wpAny_bind (wpAny_runValue (codeAny_builtin entry_proto_collect' ?_))
  show wpAny _ _ (do again (.builtin "list.__iadd__" ⟨[← newList [], .ref t], []⟩)) _ _ s
  refine wpAny_bind (wpAny_newList (wpAny_pure ?_))
  refine ⟨Code.quiet_builtin _ (by decide +kernel), codeAny_builtin entry_list_iadd' (ext _ _ ?_)⟩
  exact last
theorem list_made {t : Addr} {us : List Value} {ltv : Value → Value → Bool} {R : Value → Shared → Prop} (O : Swo ltv) (ht : IsTup s.heap t us.toArray) (many : us.length ≤ sizeLine)
    (cmp : 2 ≤ us.length → ∀ (h₁ : Heap) (a : Addr), h₁.get? a = some (seqObj "list" us.toArray 0) → (∀ b o, s.heap.get? b = some o → b ≠ a ∧ h₁.get? b = some o) → SortableO P w A.in1.in1 { s with heap := h₁ } a us ltv)
    (q : ∀ out : List Value, Srtd ltv out → Stb ltv out us → R (.ref (s.heap.objs.size + 1)) { s with heap := sortedAll s.heap us out.toArray }) : wpAny (model P w) A (call (.builtin "sorted") [.ref t]) R X0 s := by
  have size1 : (gath s.heap us).objs.size = s.heap.objs.size + 1 := by rw [Heap.size_update, size_push']
  have at1 : ((gath s.heap us).push (seqObj "list" us.toArray 0)).get? (s.heap.objs.size + 1) = some (seqObj "list" us.toArray 0) := by
    rw [← size1]; exact Heap.get?_push_size _ rfl
  have old : ∀ b o, s.heap.get? b = some o → b ≠ s.heap.objs.size + 1 ∧ ((gath s.heap us).push (seqObj "list" us.toArray 0)).get? b = some o := fun b o e => by
    have lt := Heap.lt_size e
    refine ⟨Nat.ne_of_lt (Nat.lt_succ_of_lt lt), Heap.get?_push_of_some _ ?_⟩
    rw [Heap.get?_update_ne _ _ _ _ (Nat.ne_of_lt lt)]
    exact Heap.get?_push_of_some _ e
  refine Calls.call_function_entry kind_sorted plain_sorted entry_sorted (args_sorted1 _) ?_
  unfold Builtin.«sorted»
  refine wpAny_bind (m := checkCount "sorted" 1 1 _) (wpAny_pure (wpAny_bind (gather_tup ht many (wpAny_bind (wpAny_newList ?_ many)))))
  show wpAny _ _ _ _ _ { s with heap := (gath s.heap us).push (seqObj "list" us.toArray 0) }
  rw [size1]
  have isl : Shared.TypeIs { s with heap := (gath s.heap us).push (seqObj "list" us.toArray 0) } (.ref (s.heap.objs.size + 1)) "list" := ⟨_, at1, rfl⟩
  have sorts := wpAny_call_entry (prog := P) (w := w) (E := X0) slot_list_sort isl entry_list_sort (list_sort_ord (prog := P) (w := w) (A := A.in1.in1) (E := X0) (s := { s with heap := (gath s.heap us).push (seqObj "list" us.toArray 0) }) O at1 many (fun h2 => cmp h2 _ _ at1 old) (R := fun f s' => ∃ v, f = .done (.ret v) ∧ ∃ out, Srtd ltv out ∧ Stb ltv out us ∧ s' = { s with heap := sortedAll s.heap us out.toArray }) fun out h1 h2 => ⟨_, rfl, out, h1, h2, rfl⟩) (args_list_sort _)
  refine wpAny_bind (wpAny_holding (wpAny_mono sorts (fun v s' z => ?_) fun _ _ z => z))
  obtain ⟨out, h1, h2, rfl⟩ := z
  exact wpAny_pure ⟨_, rfl, q out h1 h2⟩
end
end ELR

set_option Elab.async false
set_option linter.all false
set_option maxRecDepth 100000
/-! EL2: instances of own classes: made by a call, whose __init__ is a def over data -/
namespace DL
open PySem PySem.Spec PyProof.Rows L2 TL
/-- all but one object -/
def hid (H : Hp) (x : Addr) : Hp := fun a => if a = x then none else H a
theorem hid_self {H : Hp} {x : Addr} : hid H x x = none := if_pos rfl
theorem hid_ne {H : Hp} {x a : Addr} (h : a ≠ x) : hid H x a = H a := if_neg h
theorem hid_some {H : Hp} {x a : Addr} {o : HO} (h : hid H x a = some o) : a ≠ x ∧ H a = some o := by
  unfold hid at h
  split at h
  · cases h
  · rename_i n
    exact ⟨n, h⟩
/-- what an __init__ promises: of its arguments' data it makes the fields -/
abbrev ISp (m : Mem) := List D → m.S → (List Str → List D → m.S → Prop) → Prop
def liftI (K : PySem.W.Frag) (m : Mem) (C : Addr) (n : Nat) (sp : ISp m) : Sp := fun vs H Q _ => vs.length = n + 1 ∧ ∃ (x dx : Addr) (ws : List V) (F : Hp) (ds : List D) (s : m.S) (Qd : List Str → List D → m.S → Prop), vs = .ref x :: ws ∧ H x = some (.ins C dx []) ∧ Same F (hid H x) ∧ m.M s H ∧ (∀ a, m.R s a → F a = none) ∧ ¬ m.R s x ∧ Reps K F ds ws ∧ sp ds s Qd ∧
  ∀ ns es s' (fs : List (Str × V)) F' H', Qd ns es s' → CStp m F (hid H x) s F' H' s' → H' x = some (.ins C dx fs) → fs.map (·.1) = ns → Reps K F' es (fs.map (·.2)) → F' x = none → ¬ m.R s' x → Q .non H'
section
variable {P : Program} {w : World} {K : PySem.W.Frag} {mg : Str → Option Value} {base : Heap} {m : Mem}
/-- what an __init__'s body is to reach -/
abbrev endsI {m : Mem} (x dx C : Addr) (Qd : List Str → List D → m.S → Prop) : DEnds m := { nx := fun ρ' s' => ∃ ns es, ρ'[0]? = some (.ow (.ins x dx C ns es)) ∧ Qd ns es s', rt := fun _ _ => False }
/-- THE RULE for an __init__, over data -/
theorem dfnI {qual : Str} {st : Stmt} {f C : Addr} {fd : FuncData} {N ps : List Str} {k n : Nat} {sp : ISp m} {nm : Str} (F : Fun K nm qual st f fd) (S : FnScope N ps (defScope st)) (hn : n + 1 = ps.length)
    (hb : ∀ (cdv : Value) (A : Around) (outer : List Env) (s : Shared) (H : Hp) (E : XK) (En : Ent m), RoomG k (A.deeper (envOfC qual (defScope st) s.heap.objs.size f cdv)) →
      ∃ t, PSs (cxOf CX0 P w K mg base N qual (defScope st) f cdv A outer s H E).nox (defBody st) (upS K m En t) ∧ ∀ ds s Qd (x dx : Addr), sp ds s Qd → t (endsI x dx C Qd) ((startD N (.any (.ref x) :: ds)).set 0 (.ow (.ins x dx C [] []))) s) : FnG P w K mg base CX0 (k + 1) f fd ps (liftI K m C n sp) := by
  refine Fun.okG F S (fun vs H Q E h => h.1.trans hn) (fun cdv A outer s H vs Q E hr h => ?_)
  obtain ⟨hl, x, dx, ws, F0, ds, s0, Qd, rfl, hx, sub, hm, hreg, nR, rs, hsp, hQ⟩ := h
  obtain ⟨t, ht, hq⟩ := hb cdv A outer s H E ⟨F0, hid H x, s0, fun _ _ _ _ => False⟩ hr
  have sub' : Same F0 H := fun b o e => (hid_some (sub b o e)).2
  have nF : F0 x = none := by
    cases q : F0 x with
    | none => rfl
    | some o => exact absurd rfl (hid_some (sub x o q)).1
  have r0 : Rel K m F0 H (L2.start N (.ref x :: ws)) (startD N (.any (.ref x) :: ds)) s0 := rel_start sub' hm hreg (.cons rfl rs)
  have no : ∀ (i : Nat) o, (startD N (.any (.ref x) :: ds))[i]? ≠ some (Sl.ow o) := fun i o e => by
    unfold startD at e
    by_cases hi : i < (D.any (.ref x) :: ds).length
    · rw [List.getElem?_append_left (by simpa using hi), List.getElem?_map, List.getElem?_eq_getElem hi] at e; cases e
    · rw [List.getElem?_append_right (by simpa using hi), List.getElem?_replicate] at e
      split at e <;> cases e
  have o0 : Own m ⟨F0, hid H x, s0, fun _ _ _ _ => False⟩ F0 H (L2.start N (.ref x :: ws)) (startD N (.any (.ref x) :: ds)) s0 := ⟨Same.refl _, fun a o e _ => (hid_some e).2, fun a e => by
    by_cases z : a = x
    · rw [z, hx]; simp
    · have e : hid H x a ≠ none := e
      rw [hid_ne z] at e; exact e, fun _ _ h => .inl h, fun _ h => .inl h, fun i p ⟨⟨o, e⟩, _⟩ => absurd e (no i o)⟩
  obtain ⟨r1, o1⟩ := put_hid r0 o0 0 (ob := .ins x dx C [] []) hx nF nR (fun i ⟨⟨o, e⟩, _⟩ => absurd e (no i o)) hid_self ⟨rfl, [], rfl, rfl, .nil⟩
  have same : (L2.start N (.ref x :: ws)).set 0 (some (.ref x)) = L2.start N (.ref x :: ws) := by
    unfold L2.start
    rw [List.map_cons]; rfl
  rw [same] at r1 o1
  refine ⟨_, ht.nox, F0, _, s0, _, r1, o1, hq ds s0 Qd x dx hsp, ?_⟩
  refine ⟨fun F' H' σ ρ s _ r o q => ?_, fun _ _ _ _ _ _ _ _ _ _ _ q => q.elim, fun _ _ _ _ _ _ _ _ q => q.elim, fun _ _ _ _ _ _ _ _ q => q.elim, fun _ _ _ _ _ _ _ _ _ _ _ _ _ _ _ _ _ _ _ _ q => q.elim⟩
  obtain ⟨ns, es, e0, q⟩ := q
  obtain ⟨p, ho, h1, h2, ⟨rfl, fs, rfl, h3, h4⟩, h5, h6⟩ := r.own_at e0
  exact hQ ns es s fs F' H' q ⟨o.ext, o.keep, o.alive, o.fresh, o.regf, r.sub, r.mem, r.reg⟩ h2 h3 h4 h5 h6
end
section
variable {X : Cx} {m : Mem} {E : Ent m} {e : Expr} {es : List Expr} {t : TA} {u : DTA m} {x : Str} {p pos : Pos} {C f : Addr} {k : Nat} {fd : FuncData} {ps : List Str} {sp : Sp}
/-- C(e, ..), by the promise of its __init__ -/
theorem pe_instG (M : Mk X.K C f) (G : FnG X.prog X.w X.K X.mg X.base CX0 k f fd ps sp) (hr : RoomG (k + 1) X.A) (hg : Gl X x) (hm : X.mg x = some (.ref C)) (hb : Binds X.K fd ps []) (ha : PA X (e :: es) t)
    (hdb : (x == ("__debug__" : Str)) = false := by decide) (he : starEach (e :: es) X.env = (false, eval e X.env) :: starEach es X.env := by rfl) (hpl : (backTo pos (starEach es X.env)).any (·.1) = false := by rfl) :
    PE X (.Call (.Name x p) (e :: es) [] pos) (tMake C sp [] E0 t) := by
  refine ⟨fun pins s σ H Q I h => wpAny_Call_Name_kw (ld_glob I hg hm (PySem.W.callWith_K (h₀ := X.base) I.ok.mod.kin M.kp (thn (ha.run pos pins s σ H _ I h) fun us s1 ⟨vs, H1, I1, rv, q⟩ => ⟨I1.kIn, ?_⟩) he hpl) hdb)⟩
  have hq := q (s1.heap.objs.size + 1) s1.heap.objs.size (I1.hok.fresh (Nat.le_succ _)) (I1.hok.fresh (Nat.le_refl _)) (Nat.ne_of_lt (Nat.lt_succ_self _))
  rw [List.append_nil] at hq
  have J := Inv.made (C := C) I1
  have rr : Vals (V.ref (s1.heap.objs.size + 1) :: vs) (Value.ref (s1.heap.objs.size + 1) :: us) := .cons rfl rv
  have many : ((Value.ref (s1.heap.objs.size + 1) :: us) ++ []).length = ps.length := by
    rw [List.append_nil, ← rr.length]
    exact G.len _ _ _ _ hq
  have bd := hb _ (Value.ref (s1.heap.objs.size + 1) :: us) J.kIn many
  rw [List.append_nil] at bd
  refine wpAny_call (make_map (f := f) I1.kIn M.makes M.init (beq_iff_eq.mp M.fn) (codeAny_mono (G.run _ X.stack _ _ ⟨Value.ref (s1.heap.objs.size + 1) :: us, []⟩ _ _ _ E0 (hr.make C us []) (J.env0.make C us []) bd rr hq) fun r s' z => ?_))
  rcases r with er | (_ | _ | _ | u)
  · exact z.elim
  · exact z.elim
  · exact z.elim
  · exact z.elim
  · obtain ⟨v, H', J', r', ev, q2⟩ := J.after z
    subst ev
    exact ⟨r', ⟨.ref (s1.heap.objs.size + 1), H', J', rfl, q2⟩⟩
def dMake {m : Mem} (C : Addr) (sp : ISp m) (t : DTA m) : DT m := fun ρ s Q => t ρ s fun ds ρ1 s1 => sp ds s1 fun ns es s' => Q (.ins C ns es) ρ1 s'
theorem up_make {K : PySem.W.Frag} {n : Nat} {sp : ISp m} {σ : L2.St} {H : Hp} {Q : VK} (hn : ∀ ds s Qd, sp ds s Qd → ds.length = n) (h : up K m (dMake C sp u) σ H Q) : tMake C (liftI K m C n sp) [] E0 (upA K m u) σ H Q := by
  obtain ⟨F, ρ, s, Qd, rl, ht, hQ⟩ := h
  refine ⟨F, ρ, s, _, rl, ht, fun ds ρ1 s1 vs F1 H1 q1 r1 st1 rs x dx nx ndx ne => ?_⟩
  rw [List.append_nil]
  obtain ⟨H2, e2⟩ : ∃ H2, H2 = upd (upd H1 dx (.own x)) x (.ins C dx []) := ⟨_, rfl⟩
  rw [← e2]
  have at_x : H2 x = some (.ins C dx []) := by rw [e2, upd_same]
  have at_o : ∀ a, a ≠ x → a ≠ dx → H2 a = H1 a := fun a h1 h2 => by rw [e2, upd_ne h1, upd_ne h2]
  have old : ∀ a o, H1 a = some o → a ≠ x ∧ a ≠ dx := fun a o e => ⟨fun z => by (rw [z, nx] at e; cases e), fun z => by (rw [z, ndx] at e; cases e)⟩
  have nR : ¬ m.R s1 x := fun z => m.there s1 H1 x r1.mem z nx
  have nF : F1 x = none := r1.sub.free nx
  have subh : Same F1 (hid H2 x) := fun b o e => by
    obtain ⟨z1, z2⟩ := old b o (r1.sub b o e)
    rw [hid_ne z1, at_o b z1 z2]; exact r1.sub b o e
  have mem2 : m.M s1 H2 := m.loc s1 H1 H2 r1.mem fun a ha => by
    have q := m.there s1 H1 a r1.mem ha
    cases e : H1 a with
    | none => exact absurd e q
    | some o =>
      obtain ⟨z1, z2⟩ := old a o e
      rw [at_o a z1 z2, e]
  refine ⟨by rw [List.length_cons, rs.length, hn _ _ _ q1], x, dx, vs, F1, ds, s1, _, rfl, at_x, subh, mem2, r1.reg, nR, rs, q1, fun ns es s' fs F' H' q2 c hx' hns hes nF' nR' => ⟨rfl, ?_⟩⟩
  have c1 : CStp m F1 H1 s1 F' H' s' := ⟨c.ext, fun a o e nr => by
      obtain ⟨z1, z2⟩ := old a o e
      exact c.keep a o (by rw [hid_ne z1, at_o a z1 z2]; exact e) nr, fun a h => by
      cases e : H1 a with
      | none => exact absurd e h
      | some o =>
        obtain ⟨z1, z2⟩ := old a o e
        exact c.alive a (by rw [hid_ne z1, at_o a z1 z2, e]; simp), fun a o e => by
      rcases c.fresh a o e with z | z
      · exact .inl z
      · refine .inr ?_
        by_cases z1 : a = x
        · rw [z1]; exact nx
        · rw [hid_ne z1] at z
          by_cases z2 : a = dx
          · rw [z2]; exact ndx
          · rw [at_o a z1 z2] at z; exact z, fun a h => by
      rcases c.regf a h with z | z
      · exact .inl z
      · refine .inr ?_
        by_cases z1 : a = x
        · rw [z1]; exact nx
        · rw [hid_ne z1] at z
          by_cases z2 : a = dx
          · rw [z2]; exact ndx
          · rw [at_o a z1 z2] at z; exact z, c.sub, c.mem, c.reg⟩
  have r2 := r1.call c1
  have nO : ∀ i, ¬ Owns σ ρ1 i x := fun i ⟨⟨o, e⟩, hσ⟩ => by
    obtain ⟨q, ho', h1, h2, _⟩ := r1.own_at e
    rw [hσ] at h1; cases h1
    rw [nx] at h2; cases h2
  have sm : Same F' (upd F' x (.ins C dx fs)) := same_upd nF'
  have st2 := st1.trans (c1.stp (σ := σ) (ρ := ρ1))
  refine hQ _ ρ1 s' _ (upd F' x (.ins C dx fs)) H' q2 (r2.adopt hx' nF' nR' nO) ⟨st2.ext.trans sm, st2.keep, st2.alive, fun a o e => ?_, st2.regf, st2.shr⟩ ⟨x, dx, fs, rfl, upd_same, hns, Reps.mono sm _ _ hes⟩
  by_cases z : a = x
  · subst z
    refine .inr (.inl ?_)
    cases q : H a with
    | none => rfl
    | some o => exact absurd nx (st1.alive a (by rw [q]; simp))
  · rw [upd_ne z] at e; exact st2.fresh a o e
theorem de_make {n : Nat} {sp : ISp m} (M : Mk X.K C f) (G : FnG X.prog X.w X.K X.mg X.base CX0 k f fd ps (liftI X.K m C n sp)) (hn : ∀ ds s Qd, sp ds s Qd → ds.length = n) (hr : RoomG (k + 1) X.A) (hg : Gl X x) (hm : X.mg x = some (.ref C)) (hb : Binds X.K fd ps []) (ha : PA X (e :: es) (upA X.K m u))
    (hdb : (x == ("__debug__" : Str)) = false := by decide) (he : starEach (e :: es) X.env = (false, eval e X.env) :: starEach es X.env := by rfl) (hpl : (backTo pos (starEach es X.env)).any (·.1) = false := by rfl) :
    PE X (.Call (.Name x p) (e :: es) [] pos) (up X.K m (dMake C sp u)) := PE.imp (pe_instG M G hr hg hm hb ha hdb he hpl) fun _ _ _ h => up_make hn h
end
end DL

set_option Elab.async false
set_option linter.all false
set_option maxRecDepth 100000
/-! EL3: fields stored in an __init__; empty sets; sorted of what is empty; isinstance of own instances -/
namespace DL
open PySem PySem.Spec PyProof.Rows L2 TL
theorem putF_new {f : Str} {v : V} : ∀ {fs : List (Str × V)}, f ∉ fs.map (·.1) → putF f v fs = fs ++ [(f, v)]
  | [], _ => rfl
  | (g, x) :: r, h => by
    have h1 : g ≠ f := fun e => h (by rw [e]; simp)
    have h2 : f ∉ r.map (·.1) := fun e => h (by rw [List.map_cons]; exact List.mem_cons_of_mem _ e)
    show (if g = f then (g, v) :: r else (g, x) :: putF f v r) = _
    rw [if_neg h1, putF_new h2]
    rfl
section
variable {X : Cx} {m : Mem} {E : Ent m} {e : Expr} {te : DT m} {pos : Pos}
/-- self.f = e, a field that is not there yet -/
def dFst {m : Mem} (C : Addr) (i : Nat) (f : Str) (te : DT m) : DTS m := fun dd ρ s => te ρ s fun d ρ1 s1 => ∃ x dx ns ds, ρ1[i]? = some (.ow (.ins x dx C ns ds)) ∧ f ∉ ns ∧ ns.length < 900 ∧ dd.nx (ρ1.set i (.ow (.ins x dx C (ns ++ [f]) (ds ++ [d])))) s1
theorem ds_fst (i : Nat) {y f : Str} {C : Addr} {xpos p' : Pos} (cl : Cls X.K C) (na : NoAttr X.K C f) (he : PE X e (up X.K m te)) (hN : X.N[i]? = some y := by rfl) (hv : Vis X.env.scope y := by first | exact Or.inl rfl | exact Or.inr (Or.inl rfl) | exact Or.inr (Or.inr rfl))
    (hd : (y == ("__debug__" : Str)) = false := by decide) (hcd : (y == ("__classdict__" : Str)) = false := by decide) (hs : swapsWith e (some (.Attribute (.Name y xpos) f p')) pos.line X.env = pure false := by rfl) :
    PS X (.Assign [.Attribute (.Name y xpos) f p'] e pos) (upS X.K m E (dFst C i f te)) :=
  PS.imp (ps_fld (pv i hN hv hd hcd) he hs) fun DD σ H h => by
    obtain ⟨F, ρ, s, dd, r, o, ht, ft⟩ := h
    refine ⟨F, ρ, s, _, r, ht, fun d ρ1 s1 v F1 H1 ⟨x, dx, ns, ds, e1, hn, hl, q1⟩ r1 st1 rv => ?_⟩
    obtain ⟨p, ho, h1, h2, ⟨rfl, fs, rfl, h3, h4⟩, h5, h6⟩ := r1.own_at e1
    have hl2 : fs.length < 900 := by rw [← h3, List.length_map] at hl; exact hl
    refine ⟨.ref p, h1, p, C, dx, fs, rfl, h2, cl, na, by omega, ?_⟩
    rw [putF_new (by rw [h3]; exact hn)]
    exact ft.nx F1 _ σ _ s1 st1.ext (r1.write (o' := .ins p dx C (ns ++ [f]) (ds ++ [d])) e1 h1 ⟨rfl, _, rfl, by rw [List.map_append, h3]; rfl, by rw [List.map_append]; exact h4.append (.one rv)⟩) ((o.stp st1).write (K := X.K) e1 h1) q1
/-! ### sets that stay empty -/
/-! ### sorted(()) -/
/-! ### isinstance of instances of own classes -/
structure InsK (K : PySem.W.Frag) (C : Addr) : Prop where
  cl : Cls K C
  ha : PySem.W.findIn K (.ref C) "__class__" = some (some (.builtin "object.__class__"))
  hn : PySem.W.specialIn K (.builtin "object.__class__") "__get__" = some (some (.builtin "getset_descriptor.__get__"))
  ht : PySem.W.takesIn K (.builtin "object.__class__") = some true
  hm : PySem.W.mroIn K C (.type "object") = some true
  no : PySem.W.kitOne K (.ref C) (.type "tuple") = some false
end
end DL

set_option Elab.async false
set_option linter.all false
set_option maxRecDepth 100000
/-! EL4: lists of texts that lie in a list and are changed there; a popped item appended; two own lists at once -/
namespace DL
open PySem PySem.Spec PyProof.Rows L2 TL
/-- beside the state of m: lists of texts that may be changed, wherever they are named -/
def Mem.hot (m : Mem) : Mem where
  S := m.S × List (Addr × List Str)
  M := fun s H => m.M s.1 H ∧ (s.2.map Prod.fst).Nodup ∧ ∀ p ∈ s.2, H p.1 = some (.lst (p.2.map V.str)) ∧ p.2.length ≤ sizeLine ∧ (∀ x ∈ p.2, sOk x = true) ∧ ¬ m.R s.1 p.1
  R := fun s a => m.R s.1 a ∨ ∃ p ∈ s.2, p.1 = a
  loc := fun s H H' h k => ⟨m.loc s.1 H H' h.1 fun a ha => k a (.inl ha), h.2.1, fun p hp => by
    obtain ⟨h1, h2⟩ := h.2.2 p hp
    exact ⟨(k p.1 (.inr ⟨p, hp, rfl⟩)).trans h1, h2⟩⟩
  there := fun s H a h ha => by
    rcases ha with ha | ⟨p, hp, rfl⟩
    · exact m.there s.1 H a h.1 ha
    · rw [(h.2.2 p hp).1]; simp
/-- a promise kept with such lists beside -/
def hotSp {m : Mem} (sp : DSp m) : DSp (Mem.hot m) := fun ds s Q => sp ds s.1 fun d s' => Q d (s', s.2)
theorem lift_hot {K : PySem.W.Frag} {m : Mem} {n : Nat} {sp : DSp m} {vs : List V} {H : Hp} {Q : VK} {E : XK} (h : lift K (Mem.hot m) n (hotSp sp) vs H Q E) : lift K m n sp vs H Q E := by
  obtain ⟨hl, F, ds, s, Qd, sub, hm, hr, rs, hsp, hQ⟩ := h
  refine ⟨hl, F, ds, s.1, fun d s' => Qd d (s', s.2), sub, hm.1, fun a h => hr a (.inl h), rs, hsp, fun d s' v F' H' q c rv => hQ d (s', s.2) v F' H' q ?_ rv⟩
  refine ⟨c.ext, fun a o e nr => c.keep a o e fun z => nr (.inl z), c.alive, c.fresh, fun a e => ?_, c.sub, ⟨c.mem, hm.2.1, fun p hp => ?_⟩, fun a e => ?_⟩
  · rcases e with e | e
    · exact (c.regf a e).elim (fun z => .inl (.inl z)) .inr
    · exact .inl (.inr e)
  · obtain ⟨h1, h2, h3, h4⟩ := hm.2.2 p hp
    refine ⟨c.keep _ _ h1 h4, h2, h3, fun z => ?_⟩
    rcases c.regf _ z with z | z
    · exact h4 z
    · rw [h1] at z; cases z
  · rcases e with e | ⟨p, hp, rfl⟩
    · exact c.reg a e
    · cases q : F' p.1 with
      | none => rfl
      | some o =>
        rcases c.fresh _ o q with z | z
        · rw [hr _ (.inr ⟨p, hp, rfl⟩)] at z; cases z
        · rw [(hm.2.2 p hp).1] at z; cases z
/-- .. and a def that makes such lists for itself -/
theorem lift_cold {K : PySem.W.Frag} {m : Mem} {n : Nat} {sp : DSp m} {sp' : DSp (Mem.hot m)} (hs : ∀ ds s Q, sp ds s Q → sp' ds (s, []) fun d s' => Q d s'.1) {vs : List V} {H : Hp} {Q : VK} {E : XK} (h : lift K m n sp vs H Q E) : lift K (Mem.hot m) n sp' vs H Q E := by
  obtain ⟨hl, F, ds, s, Qd, sub, hm, hr, rs, hsp, hQ⟩ := h
  refine ⟨hl, F, ds, (s, []), fun d s' => Qd d s'.1, sub, ⟨hm, List.nodup_nil, fun p hp => nomatch hp⟩, fun a h => ?_, rs, hs _ _ _ hsp, fun d s' v F' H' q c rv => hQ d s'.1 v F' H' q ⟨c.ext, fun a o e nr => c.keep a o e fun z => ?_, c.alive, c.fresh, fun a e => ?_, c.sub, c.mem.1, fun a e => c.reg a (.inl e)⟩ rv⟩
  · rcases h with h | ⟨p, hp, _⟩
    · exact hr a h
    · cases hp
  · rcases z with z | ⟨p, hp, _⟩
    · exact nr z
    · cases hp
  · rcases c.regf a (.inl e) with z | z
    · rcases z with z | ⟨p, hp, _⟩
      · exact .inl z
      · cases hp
    · exact .inr z
section
variable {K : PySem.W.Frag} {m : Mem} {F H : Hp} {σ : L2.St} {ρ : List Sl} {s : m.S} {L : List (Addr × List Str)} {q : Addr} {xs ys : List Str} {E : Ent (Mem.hot m)}
theorem Rel.hotNew (r : Rel K (Mem.hot m) F H σ ρ (s, L)) (n : H q = none) (hl : xs.length ≤ sizeLine) (hs : ∀ x ∈ xs, sOk x = true) : Rel K (Mem.hot m) F (upd H q (.lst (xs.map V.str))) σ ρ (s, L ++ [(q, xs)]) := by
  have nF : F q = none := r.sub.free n
  have nR : ¬ (Mem.hot m).R (s, L) q := fun z => (Mem.hot m).there (s, L) H q r.mem z n
  have nO : ∀ i, ¬ Owns σ ρ i q := fun i ⟨⟨o, e⟩, hσ⟩ => by
    obtain ⟨p, ho, h1, h2, _⟩ := r.own_at e
    rw [hσ] at h1; cases h1
    rw [n] at h2; cases h2
  have r1 := r.hidW (ho := .lst (xs.map V.str)) nF nR nO
  obtain ⟨m1, m2, m3⟩ := r1.mem
  refine ⟨r1.sub, ⟨m1, ?_, fun p hp => ?_⟩, fun a ha => ?_, r1.len, r1.sh, r1.ow, fun i p hp => ⟨(r1.owF i p hp).1, fun z => ?_⟩, r1.uq⟩
  · show ((L ++ [(q, xs)]).map (·.1)).Nodup
    rw [List.map_append, List.nodup_append]
    refine ⟨m2, by simp, fun a ha b hb => ?_⟩
    rw [show b = q from by simpa using hb]
    rintro rfl
    obtain ⟨p, hp, e⟩ := List.mem_map.mp ha
    exact nR (.inr ⟨p, hp, e⟩)
  · rcases List.mem_append.mp hp with z | z
    · exact m3 p z
    · obtain rfl : p = (q, xs) := by simpa using z
      exact ⟨upd_same, hl, hs, fun z => nR (.inl z)⟩
  · rcases ha with ha | ⟨p, hp, rfl⟩
    · exact r1.reg a (.inl ha)
    · rcases List.mem_append.mp hp with z | z
      · exact r1.reg _ (.inr ⟨p, z, rfl⟩)
      · obtain rfl : p = (q, xs) := by simpa using z
        exact nF
  · rcases z with z | ⟨p', hp', rfl⟩
    · exact (r1.owF i p hp).2 (.inl z)
    · rcases List.mem_append.mp hp' with z | z
      · exact (r1.owF i _ hp).2 (.inr ⟨p', z, rfl⟩)
      · obtain rfl : p' = (q, xs) := by simpa using z
        exact nO i hp
theorem Own.hotNew (o : Own (Mem.hot m) E F H σ ρ (s, L)) (n : H q = none) : Own (Mem.hot m) E F (upd H q (.lst (xs.map V.str))) σ ρ (s, L ++ [(q, xs)]) := by
  have eH : E.H q = none := by
    cases z : E.H q with
    | none => rfl
    | some u => exact absurd n (o.alive q (by rw [z]; simp))
  refine ⟨o.ext, fun a x h nr => by rw [upd_ne (ne_of_none h eH)]; exact o.keep a x h nr, fun a h => ?_, o.fresh, fun a ha => ?_, o.own⟩
  · have hp : a ≠ q := fun z => h (z ▸ eH)
    rw [upd_ne hp]; exact o.alive a h
  · rcases ha with ha | ⟨p, hp, rfl⟩
    · exact o.regf a (.inl ha)
    · rcases List.mem_append.mp hp with z | z
      · exact o.regf _ (.inr ⟨p, z, rfl⟩)
      · obtain rfl : p = (q, xs) := by simpa using z
        exact .inr eH
theorem Rel.hotW (r : Rel K (Mem.hot m) F H σ ρ (s, L ++ [(q, xs)])) (hl : ys.length ≤ sizeLine) (hs : ∀ x ∈ ys, sOk x = true) : Rel K (Mem.hot m) F (upd H q (.lst (ys.map V.str))) σ ρ (s, L ++ [(q, ys)]) := by
  obtain ⟨m1, m2, m3⟩ := r.mem
  have hin : (q, xs) ∈ L ++ [(q, xs)] := by simp
  have hR : (Mem.hot m).R (s, L ++ [(q, xs)]) q := .inr ⟨_, hin, rfl⟩
  have nF : F q = none := r.reg q hR
  obtain ⟨a1, a2, a3, a4⟩ := m3 _ hin
  have same : ∀ a, (Mem.hot m).R (s, L ++ [(q, ys)]) a → (Mem.hot m).R (s, L ++ [(q, xs)]) a := fun a ha => by
    rcases ha with ha | ⟨p, hp, rfl⟩
    · exact .inl ha
    · rcases List.mem_append.mp hp with z | z
      · exact .inr ⟨p, List.mem_append_left _ z, rfl⟩
      · obtain rfl : p = (q, ys) := by simpa using z
        exact hR
  have m2' : (L.map (·.1) ++ [q]).Nodup := by rw [show L.map (·.1) ++ [q] = (L ++ [(q, xs)]).map (·.1) by rw [List.map_append]; rfl]; exact m2
  have ne : ∀ p ∈ L, p.1 ≠ q := fun p hp z => (List.nodup_append.mp m2').2.2 p.1 (List.mem_map_of_mem hp) q (by simp) z
  refine ⟨fun b x e => by rw [upd_ne (ne_of_none e nF)]; exact r.sub _ _ e, ⟨m.loc s H _ m1 fun a ha => upd_ne fun z => a4 (z ▸ ha), ?_, fun p hp => ?_⟩, fun a ha => r.reg a (same a ha), r.len, r.sh, fun i o e => ?_, fun i p hp => ⟨(r.owF i p hp).1, fun z => (r.owF i p hp).2 (same p z)⟩, r.uq⟩
  · show ((L ++ [(q, ys)]).map (·.1)).Nodup
    rw [List.map_append]; exact m2'
  · rcases List.mem_append.mp hp with z | z
    · obtain ⟨b1, b2⟩ := m3 p (List.mem_append_left _ z)
      exact ⟨(upd_ne (ne p z)).trans b1, b2⟩
    · obtain rfl : p = (q, ys) := by simpa using z
      exact ⟨upd_same, hl, hs, a4⟩
  · obtain ⟨p, ho, h1, h2, h3⟩ := r.ow i o e
    have hp : p ≠ q := fun z => (r.owF i p ⟨⟨o, e⟩, h1⟩).2 (z ▸ hR)
    exact ⟨p, ho, h1, by rw [upd_ne hp]; exact h2, h3⟩
theorem Own.hotW (o : Own (Mem.hot m) E F H σ ρ (s, L ++ [(q, xs)])) : Own (Mem.hot m) E F (upd H q (.lst (ys.map V.str))) σ ρ (s, L ++ [(q, ys)]) := by
  have hR : (Mem.hot m).R (s, L ++ [(q, xs)]) q := .inr ⟨(q, xs), by simp, rfl⟩
  refine ⟨o.ext, fun a x h nr => ?_, fun a h => ?_, o.fresh, fun a ha => ?_, o.own⟩
  · have hp : a ≠ q := fun z => by
      rcases o.regf q hR with w | w
      · exact nr (z ▸ w)
      · rw [z, w] at h; cases h
    rw [upd_ne hp]; exact o.keep a x h nr
  · by_cases hp : a = q
    · rw [hp, upd_same]; simp
    · rw [upd_ne hp]; exact o.alive a h
  · rcases ha with ha | ⟨p, hp, rfl⟩
    · exact o.regf a (.inl ha)
    · rcases List.mem_append.mp hp with z | z
      · exact o.regf _ (.inr ⟨p, List.mem_append_left _ z, rfl⟩)
      · obtain rfl : p = (q, ys) := by simpa using z
        exact o.regf _ hR
end
section
variable {X : Cx} {m : Mem} {E : Ent (Mem.hot m)} {e b : Expr} {te tb : DT (Mem.hot m)} {pos : Pos}
end
section
variable {X : Cx} {m : Mem} {E : Ent m} {e : Expr} {te : DT m} {pos : Pos}
end
end DL

set_option Elab.async false
set_option linter.all false
set_option maxRecDepth 100000
/-! EL5: tuple(x) of a list of texts beside; x, y = list(e), [] -/
namespace DL
open PySem PySem.Spec PyProof.Rows L2 TL
section
variable {X : Cx} {m : Mem} {pos : Pos}
end
section
variable {X : Cx} {m : Mem} {E : Ent m} {pos : Pos}
theorem seq_at {K : PySem.W.Frag} {F H : Hp} {d : D} {xs : List D} {v : V} (sub : Same F H) (rv : Rep K F d v) (e : seqD d = some xs) : ∃ a ws, v = .ref a ∧ (SqL K H a ws ∨ SqT K H a ws) ∧ ws.length ≤ sizeLine ∧ Reps K F xs ws := by
  cases d with
  | lst ys => cases e; obtain ⟨a, ws, rfl, h1, hl, r⟩ := rv; exact ⟨a, ws, rfl, .inl (.inl (.inl (sub _ _ h1))), hl, r⟩
  | tup ys => cases e; obtain ⟨a, ws, rfl, h1, hl, r⟩ := rv; exact ⟨a, ws, rfl, .inr (Same.seqT sub h1), hl, r⟩
  | fz ys => cases e; obtain ⟨a, ws, rfl, h1, hl, r⟩ := rv; exact ⟨a, ws, rfl, .inl (Same.seq sub h1), hl, r⟩
  | _ => cases e
end
end DL
namespace DL
open PySem PySem.Spec PyProof.Rows L2 TL
end DL

set_option Elab.async false
set_option linter.all false
set_option maxRecDepth 100000
/-! EL6: behind a test, or a value that holds no object, what a slot owned is its own again -/
namespace DL
open PySem PySem.Spec PyProof.Rows L2 TL
section
variable {K : PySem.W.Frag} {m : Mem} {F H F' H' : Hp} {σ : L2.St} {ρ ρ' : List Sl} {s s' : m.S}
theorem Rel.back (r : Rel K m F H σ ρ s) (r' : Rel K m F' H' σ ρ' s') (st : Stp m F H σ ρ s F' H' ρ' s') : Rel K m F H' σ ρ s' ∧ Stp m F H σ ρ s F H' ρ s' := by
  have keep : ∀ (i : Nat) o p ho, ρ[i]? = some (Sl.ow o) → σ[i]? = some (some (V.ref p)) → H p = some ho → H' p = some ho := fun i o p ho e h1 h2 => st.keep p ho h2 (r.owF i p ⟨⟨o, e⟩, h1⟩).2
  refine ⟨⟨fun b x e => r'.sub _ _ (st.ext _ _ e), r'.mem, fun a ha => ?_, r.len, r.sh, fun i o e => ?_, fun i p hp => ⟨(r.owF i p hp).1, fun z => ?_⟩, r.uq⟩, ⟨Same.refl F, st.keep, st.alive, fun a o h => .inl h, st.regf, fun _ _ h => h⟩⟩
  · cases q : F a with
    | none => rfl
    | some u =>
      have := r'.reg a ha
      rw [st.ext _ _ q] at this
      cases this
  · obtain ⟨p, ho, h1, h2, h3⟩ := r.ow i o e
    exact ⟨p, ho, h1, keep i o p ho e h1 h2, h3⟩
  · rcases st.regf p z with z | z
    · exact (r.owF i p hp).2 z
    · obtain ⟨⟨o, e⟩, hσ⟩ := hp
      obtain ⟨p', ho, h1, h2, h3⟩ := r.ow i o e
      rw [hσ] at h1; cases h1
      rw [z] at h2; cases h2
end
section
variable {X : Cx} {m : Mem} {e : Expr} {t : DTT m} {te : DT m}
def dBackT {m : Mem} (t : DTT m) : DTT m := fun ρ s Q => t ρ s fun b _ s1 => Q b ρ s1
theorem dt_back (h : PT X e (upT X.K m t)) : PT X e (upT X.K m (dBackT t)) := PT.imp h fun σ H Q h => by
  obtain ⟨F, ρ, s, Qd, r, ht, hQ⟩ := h
  exact ⟨F, ρ, s, _, r, ht, fun b ρ1 s1 F1 H1 q1 r1 st1 => by
    obtain ⟨r2, st2⟩ := r.back r1 st1
    exact hQ b ρ s1 F H1 q1 r2 st2⟩
end
end DL

set_option Elab.async false
set_option linter.all false
set_option maxRecDepth 100000
/-! EL7: fields and properties of instances that are data -/
namespace DL
open PySem PySem.Spec PyProof.Rows L2 TL
theorem fld_rep {K : PySem.W.Frag} {F : Hp} {f : Str} {d : D} : ∀ {fs : List (Str × V)} {ds : List D}, Reps K F ds (fs.map (·.2)) → ((fs.map (·.1)).zip ds).lookup f = some d → ∃ v, fs.lookup f = some v ∧ Rep K F d v
  | [], ds, h, e => by cases e
  | (g, x) :: fs, [], h, e => by cases e
  | (g, x) :: fs, y :: ds, ⟨v, r, e1, h1, h2⟩, e => by
    rw [List.map_cons] at e1
    injection e1 with e1 e2
    subst e1 e2
    rw [List.map_cons, List.zip_cons_cons, List.lookup_cons] at e
    rw [List.lookup_cons]
    cases q : f == g with
    | true => rw [q] at e; cases e; exact ⟨x, rfl, h1⟩
    | false => rw [q] at e; exact fld_rep h2 e
section
variable {X : Cx} {m : Mem} {e : Expr} {te : DT m} {pos : Pos}
/-- e.f, a field of an instance of C -/
def dFld {m : Mem} (C : Addr) (f : Str) (te : DT m) : DT m := fun ρ s Q => te ρ s fun x ρ1 s1 => ∃ ns ds d, x = .ins C ns ds ∧ (ns.zip ds).lookup f = some d ∧ Q d ρ1 s1
theorem de_fld {C : Addr} {f : Str} (cl : Cls X.K C) (na : NoAttr X.K C f) (he : PE X e (up X.K m te)) (hb : attributeBase e f X.env (eval e X.env) = eval e X.env := by rfl) : PE X (.Attribute e f pos) (up X.K m (dFld C f te)) :=
  PE.imp (pe_fld he hb) fun σ H Q h => by
    obtain ⟨F, ρ, s, Qd, r, ht, hQ⟩ := h
    refine ⟨F, ρ, s, _, r, ht, fun x ρ1 s1 v F1 H1 ⟨ns, ds, d, ex, el, q1⟩ r1 st1 rv => ?_⟩
    subst ex
    obtain ⟨a, dx, fs, rfl, h1, h2, h3⟩ := rv
    subst h2
    obtain ⟨w, hl, rw'⟩ := fld_rep h3 el
    exact ⟨a, C, dx, fs, w, rfl, r1.sub _ _ h1, cl, na, hl, hQ d ρ1 s1 w F1 H1 q1 r1 st1 rw'⟩
/-- a property read: its getter is called at the object -/
theorem pe_propG {C p g : Addr} {k : Nat} {f : Str} {fd : FuncData} {ps : List Str} {sp : Sp} {ta : TE} (he : PE X e ta) (c : Cls X.K C) (hp : PropOf X.K C f p g) (G : FnG X.prog X.w X.K X.mg X.base CX0 k g fd ps sp) (hr : RoomG (k + 1) X.A) (hb : Binds X.K fd ps [])
    (hab : attributeBase e f X.env (eval e X.env) = eval e X.env) : PE X (.Attribute e f pos) (tProp C sp [] E0 ta) := by
  refine ⟨fun pins s σ H Q I h => ?_⟩
  refine attr_of hab (thn (he.run pins s σ H _ I h) fun u s1 ⟨x, H1, I1, rx, a, dx, fs, ex, ea, q⟩ => ?_)
  subst ex
  obtain rfl : u = Value.ref a := rx
  obtain ⟨_, O, _⟩ := ins_get I1.hok ea
  obtain ⟨od, J, _⟩ := O.look
  obtain ⟨rest, hrec⟩ := hp.rec_
  have I2 := I1.tok (s1.toks + 1)
  have hl : ([Value.ref a] : List Value).length = ps.length := (G.len _ _ _ _ q).symm ▸ rfl
  have bd := hb _ [Value.ref a] I2.kIn hl
  have hc : (PySem.W.clsIn X.K C).isSome = true := by
    obtain ⟨cd, hc, _⟩ := PySem.W.any_some c.hd
    rw [hc]; rfl
  have pl := PySem.W.plainGet_of (c.get f)
  refine PySem.W.get_bind I1.kIn J pl.1 (PySem.W.findObj_data hc hp.at_ hp.get hp.tak) pl.2 (wpAny_call (PySem.W.prop_get (s := { s1 with toks := s1.toks + 1 }) I1.kIn hrec ?_))
  refine codeAny_mono (G.run X.A.in1 X.stack { s1 with toks := s1.toks + 1 } H1 ⟨[.ref a], []⟩ [.ref a] [.ref a] Q E0 hr.in1 I2.env0.in1 bd (.cons rfl .nil) q) fun r s' z => ?_
  rcases r with er | (_ | _ | _ | u)
  · exact z.elim
  · exact z.elim
  · exact z.elim
  · exact z.elim
  · obtain ⟨v, H', I3, rv, q3⟩ := I2.after z
    show wpAny _ _ (handedOut u) _ _ _
    rw [PySem.W.handedOut_of (handed_of rv)]
    exact wpAny_pure ⟨v, H', I3, rv, q3⟩
def dProp {m : Mem} (C : Addr) (sp : DSp m) (te : DT m) : DT m := fun ρ s Q => te ρ s fun x ρ1 s1 => (∃ ns ds, x = .ins C ns ds) ∧ sp [x] s1 fun d s' => Q d ρ1 s'
theorem de_prop {C p g : Addr} {k : Nat} {f : Str} {fd : FuncData} {ps : List Str} {sp : DSp m} (c : Cls X.K C) (hp : PropOf X.K C f p g) (G : FnG X.prog X.w X.K X.mg X.base CX0 k g fd ps (lift X.K m 1 sp)) (hr : RoomG (k + 1) X.A) (hb : Binds X.K fd ps []) (he : PE X e (up X.K m te))
    (hab : attributeBase e f X.env (eval e X.env) = eval e X.env := by rfl) : PE X (.Attribute e f pos) (up X.K m (dProp C sp te)) :=
  PE.imp (pe_propG he c hp G hr hb hab) fun σ H Q h => by
    obtain ⟨F, ρ, s, Qd, r, ht, hQ⟩ := h
    refine ⟨F, ρ, s, _, r, ht, fun x ρ1 s1 v F1 H1 ⟨⟨ns, ds, ex⟩, q1⟩ r1 st1 rv => ?_⟩
    subst ex
    have rv' := rv
    obtain ⟨a, dx, fs, rfl, h1, h2, h3⟩ := rv
    refine ⟨a, dx, fs, rfl, r1.sub _ _ h1, rfl, F1, [.ins C ns ds], s1, _, r1.sub, r1.mem, r1.reg, .one rv', q1, fun d s' w F2 H2 q2 c2 rw' => hQ d ρ1 s' w F2 H2 q2 (r1.call c2) (st1.trans c2.stp) rw'⟩
end
end DL

set_option Elab.async false
set_option linter.all false
set_option maxRecDepth 100000
/-! EL8: own operators and own comparisons of instances of one class, over data -/
namespace DL
open PySem PySem.Spec PyProof.Rows L2 TL
/-- x op y, both instances of C, whose operator is a def -/
def rOwn (C : Addr) (sp : Sp) : R2 := fun x y H Q => ∃ a b dx dy fs gs, x = V.ref a ∧ y = V.ref b ∧ H a = some (.ins C dx fs) ∧ H b = some (.ins C dy gs) ∧ sp [.ref a, .ref b] H (fun v H' => ((∃ k, v = .bl k) ∨ ∃ c, v = .ref c) ∧ Q v H') E0
section
variable {X : Cx} {k : Nat} {C f : Addr} {fd : FuncData} {ps : List Str} {sp : Sp}
theorem own_call (G : FnG X.prog X.w X.K X.mg X.base CX0 k f fd ps sp) (hr : RoomG k X.A) (hb : Binds X.K fd ps []) {pins : List (Addr × Obj)} {σ : L2.St} {H : Hp} {s : Shared} {Q : VK} {a b : Addr} (I : Inv X pins σ H s)
    (h : sp [.ref a, .ref b] H (fun v H' => ((∃ k, v = .bl k) ∨ ∃ c, v = .ref c) ∧ Q v H') E0) {E : Value → Shared → Prop} : wpAny (model X.prog X.w) X.A (call (.ref f) [.ref a, .ref b]) (PySem.W.CmpBack (EP X pins σ Q)) E s := by
  have hl : ([Value.ref a, .ref b] : List Value).length = ps.length := (G.len _ _ _ _ h).symm ▸ rfl
  have bd := hb s [.ref a, .ref b] I.kIn hl
  refine wpAny_call (codeAny_mono (G.run X.A X.stack s H ⟨[.ref a, .ref b], []⟩ [.ref a, .ref b] [.ref a, .ref b] _ E0 hr I.env0 bd (.cons rfl (.cons rfl .nil)) h) fun r s' z => ?_)
  rcases r with er | (_ | _ | _ | u)
  · exact z.elim
  · exact z.elim
  · exact z.elim
  · exact z.elim
  · obtain ⟨v, H', I', rv, kd, q⟩ := I.after z
    rcases kd with ⟨k, rfl⟩ | ⟨c, rfl⟩
    · cases rv
      exact ⟨.bl k, H', I', rfl, q⟩
    · cases rv
      exact ⟨.ref c, H', I', rfl, q⟩
theorem op_own {op : Operator} (G : FnG X.prog X.w X.K X.mg X.base CX0 k f fd ps sp) (hr : RoomG k X.A) (hb : Binds X.K fd ps []) (hc : PySem.W.selfFirst X.K C = true) (hs : PySem.W.findIn X.K (.ref C) (PySem.dunder op.info.2) = some (some (.ref f))) (hf : PySem.W.isFn X.K (.ref f) = true) :
    OpR X (binaryOp op) (rOwn C sp) := by
  intro pins s σ H x y v u Q I rx ry h
  obtain ⟨a, b, dx, dy, fs, gs, rfl, rfl, ha, hb', q⟩ := h
  cases rx
  cases ry
  obtain ⟨mA, J, _⟩ := ins_get I.hok ha
  obtain ⟨mB, J', _⟩ := ins_get I.hok hb'
  obtain ⟨od, J, _⟩ := J.look
  obtain ⟨od', J', _⟩ := J'.look
  obtain ⟨m, hF⟩ := I.fr
  exact PySem.W.binop_K hF I.ok.mod.kin J J'.type hc hs hf (own_call G hr hb I q)
end
end DL
namespace DL
open PySem PySem.Spec PyProof.Rows L2 TL
section
variable {X : Cx} {m : Mem} {k : Nat} {C f : Addr} {fd : FuncData} {ps : List Str} {sp : DSp m} {a b : Expr} {ta tb : DT m} {pos : Pos}
/-- a value that an own operator may give: a bool or an instance -/
def bOrI (d : D) : Prop := (∃ k, d = .bl k) ∨ ∃ C ns ds, d = .ins C ns ds
def dOwn2 {m : Mem} (C : Addr) (sp : DSp m) (ta tb : DT m) : DT m := fun ρ s Q => ta ρ s fun x ρ1 s1 => tb ρ1 s1 fun y ρ2 s2 => (∃ ns ds ns' ds', x = .ins C ns ds ∧ y = .ins C ns' ds') ∧ sp [x, y] s2 fun d s' => bOrI d ∧ Q d ρ2 s'
theorem up_own {K : PySem.W.Frag} {σ : L2.St} {H : Hp} {Q : VK} (h : up K m (dOwn2 C sp ta tb) σ H Q) : tOp (rOwn C (lift K m 2 sp)) (up K m ta) (up K m tb) σ H Q := by
  obtain ⟨F, ρ, s, Qd, rl, ht, hQ⟩ := h
  refine up2 (R := fun x y H2 => rOwn C (lift K m 2 sp) x y H2 Q) rl ht fun dx dy x y F2 H2 ρ2 s2 ⟨⟨ns, ds, ns', ds', ex, ey⟩, q⟩ r2 st rx ry => ?_
  subst ex ey
  have rx' := rx
  have ry' := ry
  obtain ⟨p, dp, fs, rfl, h1, _, _⟩ := rx
  obtain ⟨p', dp', gs, rfl, h1', _, _⟩ := ry
  refine ⟨p, p', dp, dp', fs, gs, rfl, rfl, r2.sub _ _ h1, r2.sub _ _ h1', rfl, F2, _, s2, _, r2.sub, r2.mem, r2.reg, .cons rx' (.one ry'), q, fun d s' v F' H' ⟨kd, q2⟩ c rv => ⟨?_, hQ d ρ2 s' v F' H' q2 (r2.call c) (st.trans c.stp) rv⟩⟩
  rcases kd with ⟨k, rfl⟩ | ⟨C', ns, ds, rfl⟩
  · exact .inl ⟨k, rv⟩
  · obtain ⟨z, _, _, rfl, _⟩ := rv
    exact .inr ⟨z, rfl⟩
theorem de_own {op : Operator} (G : FnG X.prog X.w X.K X.mg X.base CX0 k f fd ps (lift X.K m 2 sp)) (hr : RoomG k X.A) (hb : Binds X.K fd ps []) (hc : PySem.W.selfFirst X.K C = true) (hs : PySem.W.findIn X.K (.ref C) (PySem.dunder op.info.2) = some (some (.ref f))) (hf : PySem.W.isFn X.K (.ref f) = true)
    (ha : PE X a (up X.K m ta)) (hb2 : PE X b (up X.K m tb)) : PE X (.BinOp a op b pos) (up X.K m (dOwn2 C sp ta tb)) := PE.imp (pe_op (op_own G hr hb hc hs hf) ha hb2) fun _ _ _ h => up_own h
end
end DL
namespace DL
open PySem PySem.Spec PyProof.Rows L2 TL
section
variable {X : Cx} {m : Mem} {k : Nat} {C f : Addr} {fd : FuncData} {ps : List Str} {sp : DSp m} {a b : Expr} {ta tb : DT m} {pos : Pos}
end
end DL

set_option Elab.async false
set_option linter.all false
set_option maxRecDepth 100000
/-! EL9: (*a, *b), f'..' over data -/
namespace DL
open PySem PySem.Spec PyProof.Rows L2 TL
section
variable {X : Cx} {m : Mem} {e : Expr} {es : List Expr} {te : DT m} {u : DTA m} {pos p : Pos}
/-- *e among the items of a display -/
def daStar {m : Mem} (te : DT m) (u : DTA m) : DTA m := fun ρ s Q => te ρ s fun d ρ1 s1 => ∃ xs, seqD d = some xs ∧ u ρ1 s1 fun ds ρ2 s2 => Q (xs ++ ds) ρ2 s2
theorem da_star (he : PE X e (up X.K m te)) (hr : PA X es (upA X.K m u)) (hs : starEach (.Starred e p :: es) X.env = (true, eval e X.env) :: starEach es X.env := by rfl) : PA X (.Starred e p :: es) (upA X.K m (daStar te u)) :=
  PA.imp (StX.pa_star he hr hs) fun σ H Q h => by
    obtain ⟨F, ρ, s, Qd, r, ht, hQ⟩ := h
    refine ⟨F, ρ, s, _, r, ht, fun d ρ1 s1 v F1 H1 ⟨xs, ed, q1⟩ r1 st1 rv => ?_⟩
    obtain ⟨a, ws, rfl, hsq, hl, rs⟩ := seq_at r1.sub rv ed
    exact ⟨a, ws, rfl, hsq.symm, F1, ρ1, s1, _, r1, q1, fun ds ρ2 s2 vs F2 H2 q2 r2 st2 rs2 => hQ (xs ++ ds) ρ2 s2 (ws ++ vs) F2 H2 q2 r2 (st1.trans st2) ((Reps.mono st2.ext _ _ rs).append rs2)⟩
end
end DL

set_option Elab.async false
set_option linter.all false
set_option maxRecDepth 100000
/-! EL10: an instance with an own ==, compared with data of a built-in type or with one of its class -/
namespace DL
open PySem PySem.Spec PyProof.Rows L2 TL
section
variable {X : Cx} {k : Nat} {C f : Addr} {fd : FuncData} {ps : List Str} {sp : Sp}
end
section
variable {X : Cx} {m : Mem} {k : Nat} {C f : Addr} {fd : FuncData} {ps : List Str} {sp : DSp m} {a b : Expr} {ta tb : DT m} {pos : Pos}
/-- no built-in type stands above the class -/
def NoFirst (K : PySem.W.Frag) (C : Addr) : Prop := ∀ t : Tg, PySem.W.notFirst K C (.type (tgS t)) = true
end
end DL

set_option Elab.async false
set_option linter.all false
set_option maxRecDepth 100000
/-! EL11: len(x) and v in x, x an instance whose class has them as defs -/
namespace DL
open PySem PySem.Spec PyProof.Rows L2 TL
section
variable {X : Cx} {k : Nat} {C f : Addr} {fd : FuncData} {ps : List Str} {sp : Sp}
end
section
variable {X : Cx} {m : Mem} {k : Nat} {C f : Addr} {fd : FuncData} {ps : List Str} {sp : DSp m} {a b e : Expr} {ta tb te : DT m} {pos p : Pos}
end
end DL

set_option Elab.async false
set_option linter.all false
set_option maxRecDepth 100000
/-! EL12: str(x) by an own __str__; isinstance(x, C), C an own class -/
namespace DL
open PySem PySem.Spec PyProof.Rows L2 TL
section
variable {X : Cx} {k : Nat} {C f : Addr} {fd : FuncData} {ps : List Str} {sp : Sp}
end
section
variable {X : Cx} {m : Mem} {k : Nat} {C f : Addr} {fd : FuncData} {ps : List Str} {sp : DSp m} {e : Expr} {te : DT m} {pos p : Pos}
end
end DL

set_option Elab.async false
set_option linter.all false
set_option maxRecDepth 100000
/-! EL13: x in t, t a tuple of plain data -/
namespace DL
open PySem PySem.Spec PyProof.Rows L2 TL
def rInTP (K : PySem.W.Frag) (neg : Bool) : R2 := fun x y H Q => ∃ d ds, Dp K H x d ∧ Dp K H y (.tuple ds) ∧ SeqAt.shaped d = true ∧ SeqAt.shaped (.tuple ds) = true ∧ Q (.bl (neg ^^ ds.any fun z => PyData.eqv z d)) H
section
variable {X : Cx}
theorem op_inTP (hu : X.A.units + 65 < cLine) : OpR X (compareOp .In) (rInTP X.K false) := by
  intro pins s σ H x y v u Q I rx ry h
  obtain ⟨d, ds, hd, he, sd, se, q⟩ := h
  obtain ⟨as, r1⟩ := Dp.reads I d x v hd rx
  obtain ⟨bs, r2⟩ := Dp.reads I (.tuple ds) y u he ry
  rw [Bool.false_xor] at q
  exact SeqAt.in_tuple_reads r2 r1 (SeqAt.canLay_of_shaped se) (SeqAt.canLay_of_shaped sd) (room_in_shaped sd hu) ⟨.bl _, H, I, rfl, q⟩
theorem op_notInTP (hu : X.A.units + 65 < cLine) : OpR X (compareOp .NotIn) (rInTP X.K true) := by
  intro pins s σ H x y v u Q I rx ry h
  obtain ⟨d, ds, hd, he, sd, se, q⟩ := h
  obtain ⟨as, r1⟩ := Dp.reads I d x v hd rx
  obtain ⟨bs, r2⟩ := Dp.reads I (.tuple ds) y u he ry
  rw [Bool.true_xor] at q
  exact SeqAt.notIn_tuple_reads r2 r1 (SeqAt.canLay_of_shaped se) (SeqAt.canLay_of_shaped sd) (room_in_shaped sd hu) ⟨.bl _, H, I, rfl, q⟩
end
def inTD (neg : Bool) : D → D → (Bool → Prop) → Prop := fun x y Q => ∃ ys, y = .tup ys ∧ plainD 58 x = true ∧ plainDs 58 ys = true ∧ Q (neg ^^ ys.any fun y => eqD y x)
theorem o_inTP {K : PySem.W.Frag} {neg : Bool} : Cm2 K (rInTP K neg) (inTD neg) := by
  intro F H dx dy x y Qd Q sub rx ry h hQ
  obtain ⟨ys, rfl, p1, p2, q⟩ := h
  have q1 := plain_mono 58 60 dx (by omega) p1
  have q2 : plainD 60 (.tup ys) = true := by
    have := plain_monos 58 59 ys (by omega) p2
    simpa [plainD] using this
  exact ⟨toPy dx, toPys ys, rep_dp sub 60 dx x q1 rx, rep_dp sub 60 _ y q2 ry, shaped_of q1 rx, shaped_of q2 ry, by rw [any_eqv 58 58 dx p1 ys p2]; exact hQ _ F H q (Grow.refl sub)⟩
end DL

set_option Elab.async false
set_option linter.all false
set_option maxRecDepth 100000
/-! PS: sets whose items are tuples of texts: what `in` and `add` do (how the table lies is the library's, by the hashes alone) -/
namespace PS
open PySem PySem.Spec PyProof.Rows L2
section
variable {P : Program} {w : World} {A : Around} {E : Value → Shared → Prop} {s : Shared}
/-- at b stands a tuple of just these texts -/
abbrev Tt (P : Program) (w : World) (h : Heap) (xs : List Str) (b : Addr) : Prop := IsTupleKey (strKind P w) h xs b
def hT (w : World) (xs : List Str) : Int := reduceHash (Builtin.Tuple.tupleHashOf (xs.map (hashStr w)))
theorem texts_in : ∀ {xs : List Str} {vs : List Value}, ItemsAre (strKind P w) xs vs → ∀ v ∈ vs, ∃ y t, v = Value.str y t
  | _, _, .nil, v, hv => absurd hv List.not_mem_nil
  | _, _, .cons h1 h2, v, hv => by
    rcases List.mem_cons.mp hv with rfl | hv
    · obtain ⟨t, e⟩ := Value.isStrOf_shape h1
      exact ⟨_, t, e⟩
    · exact texts_in h2 v hv
theorem ownClass_no {xs : List Str} {b : Addr} {Q : Bool → Shared → Prop} (hb : Tt P w s.heap xs b) (q : Q false s) : wpAny (model P w) A (ofAClassStatement 8 (.ref b)) Q E s := by
  have isT := hb.typeIs
  obtain ⟨o, its, n, ho, _, hd, hi⟩ := hb
  unfold ofAClassStatement
  refine wpAny_bind (wpAny_typeOf isT ?_)
  simp only [show (("tuple" : String) == "tuple") = true by decide, if_true]
  refine wpAny_bind (wpAny_pure ?_)
  simp only [Bool.not_true, Bool.false_eq_true, if_false]
  show wpAny _ _ (seqItems? (.ref b) >>= _) _ _ s
  refine wpAny_bind (wpAny_seqItems ho hd ?_)
  dsimp only
  refine wpAny_bind ?_
  show wpAny _ _ (forIn its _ _) _ _ s
  rw [← Array.forIn_toList]
  refine wpAny_forIn_list _ (fun left r s' => (∀ v ∈ left, ∃ y t, v = Value.str y t) ∧ r.1 = none ∧ s' = s) _ (fun v left r s' z => ?_) (fun r s' z => ?_) _ _ ⟨texts_in hi, rfl, rfl⟩
  · obtain ⟨all, h1, h2⟩ := z
    obtain ⟨y, t, rfl⟩ := all v List.mem_cons_self
    rw [show ofAClassStatement 7 (Value.str y t) = pure false from rfl]
    refine wpAny_bind (wpAny_pure ?_)
    simp only [Bool.false_eq_true, if_false]
    exact wpAny_pure ⟨fun u hu => all u (List.mem_cons_of_mem _ hu), rfl, h2⟩
  · obtain ⟨r1, r2⟩ := r
    obtain ⟨_, h1, rfl⟩ := z
    cases h1
    exact wpAny_pure q
/-- the question whether the hash is told by the value has some answer -/
theorem hashQ {xs : List Str} {b : Addr} {Q : Bool → Shared → Prop} (hb : Tt P w s.heap xs b) (q : ∀ k, Q k s) : wpAny (model P w) A (hashByValue 8 (.ref b)) Q E s := by
  have isT := hb.typeIs
  obtain ⟨o, its, n, ho, _, hd, hi⟩ := hb
  unfold hashByValue
  refine wpAny_bind (wpAny_specialOf isT F.slot_tuple_hash.lookup ?_)
  show wpAny _ _ (seqItems? (.ref b) >>= _) _ _ s
  refine wpAny_bind (wpAny_seqItems ho hd (wpAny_bind ?_))
  show wpAny _ _ (forIn its _ _) _ _ s
  rw [← Array.forIn_toList]
  refine wpAny_forIn_list _ (fun left r s' => (∀ v ∈ left, ∃ y t, v = Value.str y t) ∧ s' = s) _ (fun v left r s' z => ?_) (fun r s' z => ?_) _ _ ⟨texts_in hi, rfl⟩
  · obtain ⟨all, h2⟩ := z
    obtain ⟨y, t, rfl⟩ := all v List.mem_cons_self
    rw [show hashByValue 7 (Value.str y t) = pure false from rfl]
    refine wpAny_bind (wpAny_pure ?_)
    simp only [Bool.not_false, if_true]
    subst h2
    exact wpAny_pure (wpAny_pure (q _))
  · obtain ⟨r1, r2⟩ := r
    obtain ⟨_, rfl⟩ := z
    cases r1 with
    | none => exact wpAny_pure (q _)
    | some k => exact wpAny_pure (q _)
/-- a search that meets tuples of texts alone is not seen -/
theorem unseen {xs : List Str} {b : Addr} {Q : Bool → Shared → Prop} {ys : List Value} (hb : Tt P w s.heap xs b) (hy : ∀ y ∈ ys, ∃ zs c, y = Value.ref c ∧ Tt P w s.heap zs c) (q : Q false s) :
    wpAny (model P w) A (searchCouldBeSeen (.ref b) ys) Q E s := by
  unfold searchCouldBeSeen
  refine wpAny_bind (wpAny_forIn_list _ (fun left r s' => (∀ y ∈ left, ∃ zs c, y = Value.ref c ∧ Tt P w s'.heap zs c) ∧ Tt P w s'.heap xs b ∧ r.1 = none ∧ s' = s) _ (fun v left r s' z => ?_) (fun r s' z => ?_) _ _ ⟨hy, hb, rfl, rfl⟩)
  · obtain ⟨all, hb', h1, h2⟩ := z
    obtain ⟨zs, c, rfl, hc⟩ := all v List.mem_cons_self
    have keep : (∀ y ∈ left, ∃ zs c, y = Value.ref c ∧ Tt P w s'.heap zs c) ∧ Tt P w s'.heap xs b ∧ r.1 = none ∧ s' = s := ⟨fun u hu => all u (List.mem_cons_of_mem _ hu), hb', h1, h2⟩
    dsimp only
    cases q0 : (b == c || (carriedByValue (.ref b) && carriedByValue (.ref c))) with
    | true => exact wp_if_pos rfl (wpAny_pure ⟨keep.1, keep.2.1, rfl, keep.2.2.2⟩)
    | false =>
      refine wp_if_neg (by decide) ?_
      refine wpAny_bind (wpAny_eqIsQuiet_tuple hb' ?_)
      refine wp_if_neg (by decide) (wpAny_bind (wpAny_eqIsQuiet_tuple hc ?_))
      refine wp_if_neg (by decide) (wpAny_bind (ownClass_no hb' ?_))
      refine wp_if_neg (by decide) (wpAny_bind (ownClass_no hc ?_))
      exact wp_if_neg (by decide) (wpAny_pure ⟨keep.1, keep.2.1, rfl, keep.2.2.2⟩)
  · obtain ⟨r1, r2⟩ := r
    obtain ⟨_, _, h1, rfl⟩ := z
    cases h1
    exact wpAny_pure q
/-! ### the set -/
def rows (w : World) (L : List (Addr × List Str)) : List (Int × Value) := L.map fun q => (hT w q.2, Value.ref q.1)
/-- at a stands the set with the tuples L, in the order in which they lie there -/
structure At (w : World) (h : Heap) (a : Addr) (L : List (Addr × List Str)) (es : Array (Int × Value)) (ep : Nat) (t : SetTable) : Prop where
  obj : ∃ o, h.get? a = some o ∧ o.ExactSet ∧ o.data = .set es ep t
  lies : es.toList = rows w L
  tab : TabOk t (L.map fun q => hT w q.2)
  once : (L.map (·.2)).Nodup
  room : L.length * 5 < t.mask * 3
variable {a : Addr} {L : List (Addr × List Str)} {es : Array (Int × Value)} {ep : Nat} {t : SetTable}
theorem rows_len {l : List (Int × Value)} (h : l = rows w L) : l.length = L.length := by rw [h]; exact List.length_map ..
theorem At.many (T : At w s.heap a L es ep t) : es.size = L.length := (Array.length_toList).symm.trans (rows_len T.lies)
theorem fits_by {n : Nat} (h1 : t.place.size = n) (h2 : t.dummies = #[]) (h3 : n ≤ t.mask) : t.fits n = true := by
  unfold SetTable.fits SetTable.fill
  rw [h2, h1, Bool.and_eq_true]
  exact ⟨beq_self_eq_true _, decide_eq_true (by show n + 0 ≤ t.mask; omega)⟩
theorem At.fit (T : At w s.heap a L es ep t) : t.fits es.size = true := by
  have h1 := T.tab.sz
  rw [List.length_map] at h1
  have h2 := T.room
  rw [T.many]
  exact fits_by h1 T.tab.dm (by omega)
theorem At.row (T : At w s.heap a L es ep t) {i : Nat} {q : Addr × List Str} (h : L[i]? = some q) : es[i]? = some (hT w q.2, Value.ref q.1) := by
  have e : (rows w L)[i]? = some (hT w q.2, Value.ref q.1) := by
    unfold rows
    rw [List.getElem?_map, h]; rfl
  rw [← T.lies, Array.getElem?_toList] at e
  exact e
abbrev prb (t : SetTable) (h : Int) (c : Nat) : SetTable.Probe := nth t.mask (runAt t.mask (SetTable.bits h % (t.mask + 1)) (SetTable.bits h)) c
theorem prb_dummy (m : Nat) : ∀ (n : Nat) (p : SetTable.Probe), p.dummy = none → (nth m p n).dummy = none
  | 0, _, h => h
  | n + 1, p, h => prb_dummy m n (adv m p) (by
      unfold adv
      split <;> exact h)
/-- the search, from its c-th step on -/
theorem look (add : Bool) (T : At w s.heap a L es ep t) (hL : ∀ q ∈ L, Tt P w s.heap q.2 q.1) {x : Addr} {xs : List Str} (hx : Tt P w s.heap xs x) (hu : A.units < cLine) {K : Nat} (hK1 : K < 10 * SetTable.turns t.mask)
    (hK2 : way t.mask (hT w xs) K ∉ t.place.toList) (hK3 : ∀ c, c < K → way t.mask (hT w xs) c ∈ t.place.toList) {Q : SetFound → Shared → Prop}
    (yes : ∀ i, xs ∈ L.map (·.2) → Q (.there (if add then none else some i)) s) (no : xs ∉ L.map (·.2) → Q (.free (way t.mask (hT w xs) K) false) s) :
    ∀ (f c : Nat) (st : Option SetTable.Probe), st.getD (t.probeStart (hT w xs)) = prb t (hT w xs) c → c ≤ K → K < f + c →
      (∀ (i : Nat) q, L[i]? = some q → q.2 = xs → ∃ c', c ≤ c' ∧ c' < K ∧ t.place.toList[i]? = some (way t.mask (hT w xs) c')) →
      wpAny (model P w) A (setSearchFrom a (.ref x) (hT w xs) add f st) Q E s := by
  intro f
  induction f with
  | zero => intro c st _ h1 h2 _; omega
  | succ f ih =>
    intro c st hst hcK hf ahead
    obtain ⟨o, ho, hex, hd⟩ := T.obj
    rw [setSearchFrom_succ]
    refine wpAny_bind (wpAny_setState_of ho hd T.fit (wp_if_neg ?_ ?_))
    · unfold SetTable.gaveWay
      rw [mask_odd T.tab.mok]; decide
    have step : ∀ k, nth t.mask (prb t (hT w xs) c) k = prb t (hT w xs) (c + k) := fun k => (nth_add t.mask c _ k).symm
    have stepj : ∀ k, (nth t.mask (prb t (hT w xs) c) k).j = way t.mask (hT w xs) (c + k) := fun k => congrArg SetTable.Probe.j (step k)
    have atRow : ∀ (i : Nat) q, L[i]? = some q → (es[i]?.map (·.1)).getD 0 = hT w q.2 := fun i q hq => by rw [T.row hq]; rfl
    rcases go_spec t T.tab.ris T.tab.dm (fun i => (es[i]?.map (·.1)).getD 0) (hT w xs) (10 * SetTable.turns t.mask) (K - c) (prb t (hT w xs) c) (prb_dummy _ _ _ rfl) (by omega)
      (fun k hk => by rw [stepj]; exact hK3 _ (by omega)) (by rw [stepj, show c + (K - c) = K by omega]; exact hK2) with ⟨k, i, hk, hi, hh, hbefore, hgo⟩ | ⟨hnone, hgo⟩
    · have found : t.probe (fun i => (es[i]?.map (·.1)).getD 0) (hT w xs) (st.getD (t.probeStart (hT w xs))) = some (.candidate (way t.mask (hT w xs) (c + k)) i (prb t (hT w xs) (c + (k + 1)))) := by
        rw [hst, ← stepj, ← step]; exact hgo
      rw [found]
      rw [stepj] at hi
      have iL : i < L.length := by
        have h1 := (List.getElem?_eq_some_iff.mp hi).1
        have h2 := T.tab.sz
        rw [List.length_map] at h2
        rw [Array.length_toList, h2] at h1; exact h1
      obtain ⟨q, hq⟩ : ∃ q, L[i]? = some q := ⟨_, List.getElem?_eq_getElem iL⟩
      have qL : q ∈ L := List.mem_of_getElem? hq
      have hsl : t.slot (way t.mask (hT w xs) (c + k)) = .live i := slot_live T.tab.ris hi
      have behind : wpAny (model P w) A (searchRest a (.ref x) (hT w xs) add f es t (way t.mask (hT w xs) (c + k)) i (prb t (hT w xs) (c + (k + 1)))) Q E s := by
        unfold searchRest
        rw [T.row hq]
        refine wpAny_bind (wpAny_holding (wpAny_eqBool_tuple hu (hL q qL) hx (wpAny_bind (wpAny_setState_of ho hd T.fit ?_))))
        by_cases same : q.2 = xs
        · have mem : xs ∈ L.map (·.2) := List.mem_map.mpr ⟨q, qL, same⟩
          rw [decide_eq_true same]
          cases add with
          | true => exact wp_if_pos rfl (wpAny_pure (yes i mem))
          | false =>
            refine wp_if_neg (by decide) ?_
            rw [sameMem]
            dsimp only
            simp only [if_true, hsl, T.row hq]
            exact wpAny_bind (wpAny_isSame_ref_self (wpAny_bind (wpAny_pure (wpAny_pure (yes i mem)))))
        · rw [decide_eq_false same]
          refine wp_if_neg (by cases add <;> decide) ?_
          rw [sameMem]
          dsimp only
          simp only [if_true, hsl, T.row hq]
          refine wpAny_bind (wpAny_isSame_ref_self (wpAny_bind (wpAny_pure (wp_if_neg (by decide) ?_))))
          refine ih (c + (k + 1)) _ rfl (by omega) (by omega) fun i0 q0 h0 e0 => ?_
          obtain ⟨c', h1, h2, h3⟩ := ahead i0 q0 h0 e0
          refine ⟨c', ?_, h2, h3⟩
          have n1 : ¬ c' < c + k := fun z => hbefore (c' - c) i0 (by omega) (by rw [stepj, show c + (c' - c) = c' by omega]; exact h3) ((atRow i0 q0 h0).trans (by rw [e0]))
          have n2 : c' ≠ c + k := fun z => by
            rw [z] at h3
            have s2 := slot_live T.tab.ris h3
            rw [hsl] at s2
            injection s2 with s2
            rw [← s2, hq] at h0
            exact same (by rw [Option.some.inj h0]; exact e0)
          omega
      by_cases led : t.led = true
      · exact wp_if_neg (by rw [led]; decide) behind
      · refine wp_if_pos (by rw [eq_false_of_ne_true led]; decide) (wpAny_bind (unseen hx (fun y hy => ?_) (wp_if_neg (by decide) behind)))
        obtain ⟨r, hr, rfl⟩ := List.mem_map.mp hy
        have hr' : r ∈ es.toList := by
          have z : r ∈ es ∧ r.1 = hT w xs := by simpa using hr
          simpa using z.1
        rw [T.lies] at hr'
        obtain ⟨q', hq', rfl⟩ := List.mem_map.mp hr'
        exact ⟨q'.2, q'.1, rfl, hL q' hq'⟩
    · have found : t.probe (fun i => (es[i]?.map (·.1)).getD 0) (hT w xs) (st.getD (t.probeStart (hT w xs))) = some (.empty (way t.mask (hT w xs) K) none) := by
        have e : way t.mask (hT w xs) K = (nth t.mask (prb t (hT w xs) c) (K - c)).j := by rw [stepj, show c + (K - c) = K by omega]
        rw [hst, e]; exact hgo
      rw [found]
      refine wpAny_pure (no fun mem => ?_)
      obtain ⟨q, qL, e⟩ := List.mem_map.mp mem
      obtain ⟨i, hi, e2⟩ := List.getElem_of_mem qL
      have hq : L[i]? = some q := by rw [List.getElem?_eq_getElem hi, e2]
      obtain ⟨c', h1, h2, h3⟩ := ahead i q hq e
      exact hnone (c' - c) i (by omega) (by rw [stepj, show c + (c' - c) = c' by omega]; exact h3) ((atRow i q hq).trans (by rw [e]))
theorem find_at (add : Bool) (T : At w s.heap a L es ep t) (hL : ∀ q ∈ L, Tt P w s.heap q.2 q.1) {x : Addr} {xs : List Str} (hx : Tt P w s.heap xs x) (hu : A.units < cLine) {Q : SetFound → Shared → Prop}
    (yes : ∀ i, xs ∈ L.map (·.2) → Q (.there (if add then none else some i)) s)
    (no : ∀ K, xs ∉ L.map (·.2) → way t.mask (hT w xs) K ∉ t.place.toList → (∀ c, c < K → way t.mask (hT w xs) c ∈ t.place.toList) → Q (.free (way t.mask (hT w xs) K) false) s) :
    wpAny (model P w) A (setSearch a (.ref x) (hT w xs) add) Q E s := by
  have hr := T.room
  obtain ⟨K, h1, h2, h3⟩ := T.tab.first (by rw [List.length_map]; omega) (hT w xs)
  have small : K < 100000 := by
    have : SetTable.turns t.mask ≤ 142 := by
      unfold SetTable.turns
      rcases T.tab.mok with e | e | e <;> omega
    omega
  unfold setSearch
  refine look add T hL hx hu h1 h2 h3 yes (fun n => no K n h2 h3) 100000 0 none rfl (Nat.zero_le _) (by omega) fun i q hq e => ?_
  have hh : (L.map fun q => hT w q.2)[i]? = some (hT w xs) := by rw [List.getElem?_map, hq, ← e]; rfl
  have hlt : i < t.place.toList.length := by
    have z := T.tab.sz
    rw [List.length_map] at z
    rw [Array.length_toList, z]
    exact (List.getElem?_eq_some_iff.mp hq).1
  have hj := List.getElem?_eq_getElem hlt
  obtain ⟨c, c1, c2⟩ := T.tab.before h2 hh hj
  exact ⟨c, Nat.zero_le _, c1, by rw [hj, c2]⟩
theorem find_plain (T : At w s.heap a L es ep t) (hL : ∀ q ∈ L, Tt P w s.heap q.2 q.1) {x : Addr} {xs : List Str} (hx : Tt P w s.heap xs x) (hu : A.units < cLine) {Q : Option Nat → Shared → Prop} (q : ∀ r : Option Nat, r.isSome = decide (xs ∈ L.map (·.2)) → Q r s) :
    wpAny (model P w) A (setFind a (.ref x) (hT w xs)) Q E s := by
  obtain ⟨o, ho, hex, hd⟩ := T.obj
  unfold setFind
  rw [show (100000 : Nat) = 99999 + 1 from rfl]
  unfold setFindIn
  refine wpAny_bind (wpAny_setState_of ho hd T.fit (wp_if_neg (by simp [byScan, Value.scannable]) ?_))
  refine wpAny_bind (find_at false T hL hx hu (fun i m => ?_) fun K n _ _ => ?_)
  · exact wpAny_pure (q _ (by rw [decide_eq_true m]; rfl))
  · exact wpAny_pure (q _ (by rw [decide_eq_false n]; rfl))
theorem range_get : ∀ (L : List (Addr × List Str)) (n : Nat), n ≤ L.length → (List.range n).filterMap (fun i => L[i]?) = L.take n
  | _, 0, _ => by rw [List.take_zero]; rfl
  | L, n + 1, h => by
    rw [List.range_succ, List.filterMap_append, range_get L n (by omega), List.filterMap_cons, List.getElem?_eq_getElem (show n < L.length by omega), List.take_add_one, List.getElem?_eq_getElem (show n < L.length by omega)]
    rfl
/-- the rows in another order -/
theorem reorder {es : Array (Int × Value)} {order : Array Nat} (h : es.toList = rows w L) (hp : order.toList.Perm (List.range L.length)) :
    ∃ L2, (order.filterMap (es[·]?)).toList = rows w L2 ∧ L2.Perm L ∧ (L2.map fun q => hT w q.2) = order.toList.map fun i => (es.map (·.1)).getD i 0 := by
  have at_ : ∀ i : Nat, es[i]? = L[i]?.map fun q => (hT w q.2, Value.ref q.1) := fun i => by
    rw [← Array.getElem?_toList, h]
    unfold rows
    rw [List.getElem?_map]
  have inn : ∀ i ∈ order.toList, i < L.length := fun i hi => List.mem_range.mp (hp.mem_iff.mp hi)
  have whole : (List.range L.length).filterMap (fun i => L[i]?) = L := by rw [range_get L L.length (Nat.le_refl _), List.take_length]
  refine ⟨order.toList.filterMap fun i => L[i]?, ?_, ?_, ?_⟩
  · rw [Array.toList_filterMap]
    unfold rows
    rw [List.map_filterMap]
    exact congrFun (congrArg List.filterMap (funext at_)) _
  · have z := hp.filterMap fun i => L[i]?
    rw [whole] at z; exact z
  · have key : ∀ l : List Nat, (∀ i ∈ l, i < L.length) → (l.filterMap fun i => L[i]?).map (fun q => hT w q.2) = l.map fun i => (es.map (·.1)).getD i 0 := by
      intro l
      induction l with
      | nil => intro _; rfl
      | cons i l ih =>
        intro hl
        have hi := hl i List.mem_cons_self
        have e1 : (es.map (·.1))[i]? = some (hT w (L[i]).2) := by rw [Array.getElem?_map, at_ i, List.getElem?_eq_getElem hi]; rfl
        rw [List.filterMap_cons_some (List.getElem?_eq_getElem hi), List.map_cons, List.map_cons, ih fun j hj => hl j (List.mem_cons_of_mem _ hj)]
        simp [Array.getD_eq_getD_getElem?, e1]
    exact key _ inn
/-- more room -/
theorem widen {o : Obj} (ho : s.heap.get? a = some o) (hex : o.ExactSet) (hd : o.data = .set es ep t) (lies : es.toList = rows w L) (hsz : t.place.size = es.size) (hdm : t.dummies = #[]) (hle : es.size ≤ t.mask) (once : (L.map (·.2)).Nodup) {wanted M : Nat}
    (hM : SetTable.sizeAbove wanted - 1 = M) (mok : MaskOk M) (h128 : SetTable.sizeAbove wanted ≤ 128) (room : L.length * 5 < M * 3) {Q : Unit → Shared → Prop}
    (q : ∀ h' L' es' ep' t', Heap.SameBut a s.heap h' → At w h' a L' es' ep' t' → L'.Perm L → Q () { s with heap := h' }) : wpAny (model P w) A (setRelay a wanted) Q E s := by
  have many : es.size = L.length := (Array.length_toList).symm.trans (rows_len lies)
  obtain ⟨t', order, e, hp, T, em, _, _, _⟩ := relaid_ok t (hs := es.map (·.1)) hM mok (by rw [Array.size_map, many]; omega)
  rw [Array.size_map, many] at hp
  obtain ⟨L2, r1, r2, r3⟩ := reorder lies hp
  rw [← r3] at T
  have many2 : (order.filterMap (es[·]?)).size = es.size := by
    rw [many, ← r2.length_eq]
    exact (Array.length_toList).symm.trans (rows_len r1)
  rw [setRelay_eq]
  refine wpAny_bind (wpAny_setState_of ho hd (fits_by hsz hdm hle) (wp_if_neg (by rw [sizeLine_eq]; omega) ?_))
  rw [e]
  refine wpAny_bind (wp_if_neg (by rw [many2]; simp) (wpAny_pure ?_))
  refine wpAny_storeSet_of ho hd ?_ (by rw [many2, many, sizeLine_eq]; omega)
  have sb : Heap.SameBut a s.heap (s.heap.update a (Obj.putSet (order.filterMap (es[·]?)) t')) := Heap.SameBut.update ..
  exact q _ L2 _ (ep + 1) t' sb ⟨⟨_, store_at ho hd, ⟨hex.1, hex.2.1, hex.2.2⟩, rfl⟩, r1, T, (r2.map (·.2)).nodup_iff.mpr once, by rw [r2.length_eq, em]; exact room⟩ r2
theorem tab_dull {hs : List Int} (T : TabOk t hs) (b : Bool) : TabOk (if b = true then t else { t with plain := false }) hs := by
  cases b with
  | true => exact T
  | false => exact ⟨T.ris, T.dm, T.sz, T.mok, T.bd, T.reach⟩
theorem dull_mask (b : Bool) : (if b = true then t else { t with plain := false }).mask = t.mask ∧ (if b = true then t else { t with plain := false }).fill = t.fill := by cases b <;> exact ⟨rfl, rfl⟩
/-- one put in -/
theorem add_to (T : At w s.heap a L es ep t) (hL : ∀ q ∈ L, Tt P w s.heap q.2 q.1) {x : Addr} {xs : List Str} (hx : Tt P w s.heap xs x) (hu : A.units < cLine) (few : L.length < 76) {Q : Bool → Shared → Prop}
    (q : ∀ b h' L' es' ep' t', Heap.SameBut a s.heap h' → At w h' a L' es' ep' t' → (xs ∈ L.map (·.2) → L' = L) → (xs ∉ L.map (·.2) → L'.Perm ((x, xs) :: L)) → Q b { s with heap := h' }) :
    wpAny (model P w) A (setAddHashed a (.ref x) (hT w xs)) Q E s := by
  obtain ⟨o, ho, hex, hd⟩ := T.obj
  have many := T.many
  have room := T.room
  unfold setAddHashed
  refine wpAny_holding ?_
  rw [show (100000 : Nat) = 99999 + 1 from rfl, setAddHashedIn_succ]
  refine wpAny_bind (wpAny_setState_of ho hd T.fit (wp_if_neg (by simp [byScan, Value.scannable]) ?_))
  refine wpAny_bind (find_at true T hL hx hu (fun i m => ?_) fun K out hK hb => ?_)
  · exact wpAny_pure (q false s.heap L es ep t (Heap.SameBut.refl a s.heap) T (fun _ => rfl) fun z => absurd m z)
  · refine wpAny_bind (wpAny_setState_of ho hd T.fit ?_)
    obtain ⟨p1, p2, p3, p4, _, _, _, _, p9⟩ := T.tab.put hK hb
    generalize way t.mask (hT w xs) K = j at p1 p2 p3 p4 p9 hK ⊢
    dsimp only
    generalize t.put j = pt at p1 p3 p4 p9 ⊢
    obtain ⟨t1, pos⟩ := pt
    dsimp only at p1 p3 p4 p9 ⊢
    subst p1
    generalize SetTable.below t.place j = pos at p2 p3 ⊢
    have behind : ∀ b : Bool, wpAny (model P w) A (do
        storeSet a (SetTable.insertAt es pos (hT w xs, Value.ref x)) (if b = true then t1 else { t1 with plain := false })
        if (!false && (if b = true then t1 else { t1 with plain := false }).tooFull) = true then setRelay a (SetTable.grown (es.size + 1))
        return true) Q E s := fun b => by
      have T1 := tab_dull p3 b
      obtain ⟨m1, m2⟩ := dull_mask (t := t1) b
      generalize (if b = true then t1 else { t1 with plain := false }) = t2 at T1 m1 m2 ⊢
      have lies1 : (SetTable.insertAt es pos (hT w xs, Value.ref x)).toList = rows w (L.take pos ++ (x, xs) :: L.drop pos) := by
        rw [SetTable.toList_insertAt, T.lies]
        unfold rows
        rw [List.map_append, List.map_cons, List.map_take, List.map_drop]
      have pm : (L.take pos ++ (x, xs) :: L.drop pos).Perm ((x, xs) :: L) := put_perm L pos (x, xs)
      have hs1 : (L.take pos ++ (x, xs) :: L.drop pos).map (fun q => hT w q.2) = (L.map fun q => hT w q.2).take pos ++ hT w xs :: (L.map fun q => hT w q.2).drop pos := by
        rw [List.map_append, List.map_cons, List.map_take, List.map_drop]
      rw [← hs1] at T1
      generalize L.take pos ++ (x, xs) :: L.drop pos = L1 at lies1 pm T1
      generalize SetTable.insertAt es pos (hT w xs, Value.ref x) = es1 at lies1 ⊢
      have len1 : L1.length = L.length + 1 := pm.length_eq
      have many1 : es1.size = L.length + 1 := ((Array.length_toList).symm.trans (rows_len lies1)).trans len1
      have once1 : (L1.map (·.2)).Nodup := (pm.map (·.2)).nodup_iff.mpr (List.nodup_cons.mpr ⟨out, T.once⟩)
      refine wpAny_bind (wpAny_storeSet_of ho hd ?_ (by rw [many1, sizeLine_eq]; omega))
      have sb : Heap.SameBut a s.heap (s.heap.update a (Obj.putSet es1 t2)) := Heap.SameBut.update ..
      have ho1 := store_at (es' := es1) (t' := t2) ho hd
      generalize s.heap.update a (Obj.putSet es1 t2) = h1 at sb ho1 ⊢
      have ex1 : Obj.ExactSet { o with data := .set es1 (ep + 1) t2 } := ⟨hex.1, hex.2.1, hex.2.2⟩
      have fill : t2.fill = L.length + 1 := by rw [m2, p9, List.length_map]
      by_cases hf : t2.tooFull = true
      · have full : (L.length + 1) * 5 ≥ t.mask * 3 := by
          have z := hf
          unfold SetTable.tooFull at z
          rw [decide_eq_true_eq, fill, m1, p4] at z; exact z
        refine wp_if_pos (by rw [hf]; decide) (wpAny_bind ?_)
        rw [many]
        have which : (t.mask = 7 ∧ L.length = 4) ∨ (t.mask = 31 ∧ L.length = 18) := by
          rcases T.tab.mok with e | e | e <;> rw [e] at full room
          · exact .inl ⟨e, by omega⟩
          · exact .inr ⟨e, by omega⟩
          · omega
        have go : ∀ M, SetTable.sizeAbove (SetTable.grown (L.length + 1)) - 1 = M → MaskOk M → SetTable.sizeAbove (SetTable.grown (L.length + 1)) ≤ 128 → (L.length + 1) * 5 < M * 3 →
            wpAny (model P w) A (setRelay a (SetTable.grown (L.length + 1))) (fun _ s' => wpAny (model P w) A (pure true) Q E s') E { s with heap := h1 } := fun M g1 g2 g3 g4 => by
          refine widen (s := { s with heap := h1 }) (L := L1) ho1 ex1 rfl lies1 ?_ T1.dm ?_ once1 g1 g2 g3 (by rw [len1]; exact g4) fun h2 L2 es2 ep2 t3 sb2 R2 pm2 => ?_
          · have z := T1.sz
            rw [List.length_map, len1] at z
            rw [z, many1]
          · rw [many1, m1, p4]
            rcases which with ⟨e, e2⟩ | ⟨e, e2⟩ <;> omega
          · exact wpAny_pure (q true h2 L2 es2 ep2 t3 (sb.trans sb2) R2 (fun z => absurd z out) fun _ => pm2.trans pm)
        rcases which with ⟨_, e2⟩ | ⟨_, e2⟩
        · exact go 31 (by rw [e2, size_20]) (.inr (.inl rfl)) (by rw [e2, size_20]; decide) (by omega)
        · exact go 127 (by rw [e2, size_76]) (.inr (.inr rfl)) (by rw [e2, size_76]; decide) (by omega)
      · refine wp_if_neg (by rw [eq_false_of_ne_true hf]; decide) (wpAny_pure (q true h1 L1 es1 (ep + 1) t2 sb ⟨⟨_, ho1, ex1, rfl⟩, lies1, T1, once1, ?_⟩ (fun z => absurd z out) fun _ => pm))
        have z := hf
        unfold SetTable.tooFull at z
        rw [decide_eq_true_eq, fill, m1, p4] at z
        rw [len1, m1, p4]; omega
    by_cases hp : t1.plain = true
    · refine wp_if_pos hp (wpAny_bind (hashQ hx fun b => behind b))
    · exact wp_if_neg hp (behind true)
end
end PS

set_option Elab.async false
set_option linter.all false
set_option maxRecDepth 100000
/-! TX: sets of texts that can be walked; the orders of texts and of pairs of texts -/
namespace TX
open PySem PySem.Spec PyProof.Rows L2 PySem.Froz
/-- at a stands a set with just the texts xs -/
def Tset (w : World) (h : Heap) (a : Addr) (xs : List Str) : Prop :=
  ∃ D : SD, h.get? a = some (sObj "set" D) ∧ (∀ P, TxOk P w D xs) ∧ xs.Nodup ∧ Ris D.2.2.place.toList ∧ (w.params.followText "set-order" = true ∨ D.2.2.led = true)
theorem Tset.keep {w : World} {h h' : Heap} {a : Addr} {xs : List Str} (R : Tset w h a xs) (k : ∀ o, h.get? a = some o → h'.get? a = some o) : Tset w h' a xs := by
  obtain ⟨D, e, r⟩ := R
  exact ⟨D, k _ e, r⟩
theorem Tset.setOf {P : Program} {w : World} {h : Heap} {a : Addr} {xs : List Str} (R : Tset w h a xs) (room : xs.length < scanBound) : h.SetOf (strKind P w) a (fun k => decide (k ∈ xs)) xs.length := by
  obtain ⟨D, e, T, _⟩ := R
  obtain ⟨el, mem, sz, fit⟩ := T P
  exact ⟨_, _, _, _, e, ⟨rfl, rfl, rfl⟩, rfl, el, fun k => (decide_eq_true_iff).trans (mem k), by rw [sz]; exact room, fit, sz⟩
section
variable {P : Program} {w : World} {A : Around} {E : Value → Shared → Prop} {s : Shared} {a : Addr} {xs : List Str}
theorem add_ris {h : Int} {v : Value} {D : SD} (r : Ris D.2.2.place.toList) : Ris (addTx h v D).2.2.place.toList ∧ (addTx h v D).2.2.led = D.2.2.led := by
  obtain ⟨es, ep, t⟩ := D
  have r1 := layNew_ris t es h v r
  have l1 := layNew_led t es h v
  unfold addTx
  dsimp only at r1 l1 ⊢
  have both : Ris (if (layNew t es h v).2.1.plain = true then { (layNew t es h v).2.1 with plain := false } else (layNew t es h v).2.1).place.toList ∧ (if (layNew t es h v).2.1.plain = true then { (layNew t es h v).2.1 with plain := false } else (layNew t es h v).2.1).led = t.led := by
    by_cases c : (layNew t es h v).2.1.plain = true
    · rw [if_pos c]; exact ⟨r1, l1⟩
    · rw [if_neg c]; exact ⟨r1, l1⟩
  generalize (if (layNew t es h v).2.1.plain = true then { (layNew t es h v).2.1 with plain := false } else (layNew t es h v).2.1) = t2 at both ⊢
  unfold tailTx
  by_cases c : (!(layNew t es h v).2.2.1 && t2.tooFull) = true
  · rw [if_pos c]
    exact ⟨relayAll_ris _ _ _, (relayAll_led _ _ _).trans both.2⟩
  · rw [if_neg c]; exact both
/-- what is there already is not put in again -/
theorem there_tx {k : Str} {u : Tok} {Q : Bool → Shared → Prop} (R : Tset w s.heap a xs) (hk : k ∈ xs) (room : xs.length < scanBound) (q : Q false s) : wpAny (model P w) A (setAddHashed a (.str k u) (hashStr w k)) Q E s := by
  obtain ⟨⟨es, ep, t⟩, e, T, _⟩ := R
  obtain ⟨el, mem, sz, fit⟩ := T P
  have hd : (sObj "set" (es, ep, t)).data = .set es ep t := rfl
  unfold setAddHashed setAddHashedIn
  refine wpAny_holding (wpAny_bind (wpAny_setState_of e hd fit ?_))
  dsimp only at el mem sz fit ⊢
  rw [byScan_of (knd := strKind P w) rfl (by rw [sz]; exact room) el]
  refine wp_if_pos rfl ?_
  unfold setAddByScan
  refine wpAny_bind (wpAny_bind (wpAny_rule (wpAny_bind (wpAny_setScan_of (knd := strKind P w) (k := k) (is_str k u) e hd fit el ?_))))
  cases hf : List.findIdx? (fun e => (strKind P w).is k e.2) es.toList with
  | none =>
    obtain ⟨e0, h0, i0⟩ := (mem k).mp hk
    have z := List.findIdx?_eq_none_iff.mp hf e0 h0
    rw [i0] at z
    cases z
  | some j => exact wpAny_pure (wpAny_pure q)
theorem add_tx {k : Str} {u : Tok} {Q : Value → Shared → Prop} (R : Tset w s.heap a xs) (room : xs.length + 1 < scanBound)
    (q : ∀ h', Heap.SameBut a s.heap h' → Tset w h' a (if k ∈ xs then xs else k :: xs) → Q .none { s with heap := h', toks := s.toks + 1 }) : wpAny (model P w) A (call (.builtin "set.add") [.ref a, .str k u]) Q E s := by
  have S := R.setOf (P := P) (Nat.lt_of_succ_lt room)
  refine wpAny_call_entry F.slot_set_add S.typeIs F.entry_set_add ?_ (F.args_set_add_2 _ _)
  unfold Builtin.«set.add» Builtin.Frozenset.oneOther
  simp only [List.isEmpty_nil, bind_assoc]
  unfold Builtin.Frozenset.addrOf setAdd
  refine wpAny_bind (wpAny_pure (wpAny_bind (wpAny_pure (wpAny_bind (wpAny_holding (wpAny_bind ((strKind P w).pyHash (is_str (P := P) (w := w) k u) ?_)))))))
  have R1 : Tset w { s with toks := s.toks + 1 }.heap a xs := R
  by_cases hk : k ∈ xs
  · rw [if_pos hk] at q
    refine there_tx (s := { s with toks := s.toks + 1 }) R1 hk (Nat.lt_of_succ_lt room) ?_
    exact wpAny_pure ⟨_, rfl, q _ (Heap.SameBut.refl a s.heap) R⟩
  · rw [if_neg hk] at q
    obtain ⟨D, e, T, nd, ri, le⟩ := R
    refine add_x (s := { s with toks := s.toks + 1 }) (l := xs) (D := D) (T := "set") e (T P) hk room ?_
    have z := add_ris (h := hashStr w k) (v := .str k u) ri
    refine wpAny_pure ⟨_, rfl, q _ (Heap.SameBut.update ..) ⟨addTx (hashStr w k) (.str k u) D, get_upd _ e rfl, fun P' => add_ok u (T P'), List.nodup_cons.mpr ⟨hk, nd⟩, z.1, le.imp id fun y => z.2.trans y⟩⟩
theorem tset_new (h : Heap) : Tset w (h.push { cls := .type "set", dict := none, data := .set #[] 0 (.fresh 0 0 (!w.params.followText "set-order")) }) h.objs.size [] :=
  ⟨(#[], 0, .fresh 0 0 (!w.params.followText "set-order")), Heap.get?_push_size _ rfl, fun P => TxOk.nil rfl, List.nodup_nil, List.Pairwise.nil, by
    cases w.params.followText "set-order" with
    | true => exact .inl rfl
    | false => exact .inr rfl⟩
end
end TX

set_option Elab.async false
set_option linter.all false
set_option maxRecDepth 100000
/-! TO: the orders of texts and of pairs of texts, what sorting by them gives -/
namespace TO
open PySem PySem.Spec PyProof.Rows L2
/-! ### total orders -/
structure Lin {α : Type} (lt : α → α → Bool) : Prop where
  irr : ∀ x, lt x x = false
  tr : ∀ x y z, lt x y = true → lt y z = true → lt x z = true
  tri : ∀ x y, lt x y = false → lt y x = false → x = y
section
variable {α : Type} {lt : α → α → Bool}
theorem Lin.asym (L : Lin lt) {x y : α} (h : lt x y = true) : lt y x = false := by
  cases q : lt y x with
  | false => rfl
  | true => rw [← L.irr x, L.tr x y x h q]
theorem Lin.swo (L : Lin lt) : SrtO.Swo lt := ⟨fun x y h => L.asym h, fun x y z h1 h2 => by
  cases q : lt z x with
  | false => rfl
  | true =>
    cases q2 : lt x y with
    | true => rw [← h2, L.tr z x y q q2]
    | false =>
      have e := L.tri x y q2 h1
      rw [e] at q
      rw [← h2, q]⟩
/-- sorted by lt -/
def srt (lt : α → α → Bool) (l : List α) : List α := l.mergeSort fun a b => !lt b a
theorem srt_perm (l : List α) : (srt lt l).Perm l := List.mergeSort_perm ..
theorem srt_pw (L : Lin lt) (l : List α) : (srt lt l).Pairwise fun a b => lt b a = false := by
  refine List.Pairwise.imp (fun {a b} h => by simpa using h) (List.pairwise_mergeSort (le := fun a b => !lt b a) (fun a b c h1 h2 => ?_) (fun a b => ?_) l)
  · have := L.swo.tr a b c (by simpa using h1) (by simpa using h2)
    simpa using this
  · cases q : lt a b with
    | true => simp [L.asym q]
    | false => simp
theorem srt_eq (L : Lin lt) {out l : List α} (p : out.Perm l) (s : out.Pairwise fun a b => lt b a = false) : out = srt lt l :=
  List.Perm.eq_of_pairwise (le := fun a b => lt b a = false) (fun a b _ _ h1 h2 => L.tri a b h2 h1) s (srt_pw L l) (p.trans (srt_perm l).symm)
theorem srt_congr (L : Lin lt) {l m : List α} (p : l.Perm m) : srt lt l = srt lt m := srt_eq L ((srt_perm l).trans p) (srt_pw L l)
theorem srt_strict (L : Lin lt) {l : List α} (h : l.Nodup) : (srt lt l).Pairwise fun a b => lt a b = true := by
  have nd : (srt lt l).Nodup := (srt_perm l).nodup_iff.mpr h
  refine List.Pairwise.imp₂ (fun {a b} h1 h2 => ?_) (srt_pw L l) nd
  cases q : lt a b with
  | true => rfl
  | false => exact absurd (L.tri a b q h1) h2
theorem srt_mem {l : List α} {x : α} : x ∈ srt lt l ↔ x ∈ l := (srt_perm l).mem_iff
theorem srt_len (l : List α) : (srt lt l).length = l.length := (srt_perm l).length_eq
theorem srt_nodup {l : List α} (h : l.Nodup) : (srt lt l).Nodup := (srt_perm l).nodup_iff.mpr h
/-- first by the first -/
def lexP (lt : α → α → Bool) [DecidableEq α] (p q : α × α) : Bool := if p.1 = q.1 then lt p.2 q.2 else lt p.1 q.1
theorem Lin.lex [DecidableEq α] (L : Lin lt) : Lin (lexP lt) := by
  refine ⟨fun x => ?_, fun x y z h1 h2 => ?_, fun x y h1 h2 => ?_⟩
  · unfold lexP
    rw [if_pos rfl]; exact L.irr _
  · unfold lexP at h1 h2 ⊢
    by_cases e1 : x.1 = y.1
    · rw [if_pos e1] at h1
      by_cases e2 : y.1 = z.1
      · rw [if_pos e2] at h2
        rw [if_pos (e1.trans e2)]; exact L.tr _ _ _ h1 h2
      · rw [if_neg e2] at h2
        rw [if_neg (by rw [e1]; exact e2), e1]; exact h2
    · rw [if_neg e1] at h1
      by_cases e2 : y.1 = z.1
      · rw [if_pos e2] at h2
        rw [← e2, if_neg e1]; exact h1
      · rw [if_neg e2] at h2
        have z1 := L.tr _ _ _ h1 h2
        rw [if_neg fun e => by rw [e, L.irr] at z1; cases z1]; exact z1
  · unfold lexP at h1 h2
    by_cases e1 : x.1 = y.1
    · rw [if_pos e1] at h1
      rw [if_pos e1.symm] at h2
      exact Prod.ext e1 (L.tri _ _ h1 h2)
    · rw [if_neg e1] at h1
      rw [if_neg fun e => e1 e.symm] at h2
      exact absurd (L.tri _ _ h1 h2) e1
end
/-! ### texts, pairs of texts -/
def lessS (a b : Str) : Bool := decide (a.cps.toList < b.cps.toList)
theorem linS : Lin lessS := by
  refine ⟨fun x => ?_, fun x y z h1 h2 => ?_, fun x y h1 h2 => ?_⟩
  · exact decide_eq_false (List.lt_irrefl _)
  · exact decide_eq_true (List.lt_trans (of_decide_eq_true h1) (of_decide_eq_true h2))
  · have e := List.le_antisymm (List.not_lt.mp (of_decide_eq_false h2)) (List.not_lt.mp (of_decide_eq_false h1))
    cases x; cases y
    exact congrArg Str.mk (Array.toList_inj.mp e)
abbrev lessP : Str × Str → Str × Str → Bool := lexP lessS
theorem linP : Lin lessP := linS.lex
def sv : Value → Str
  | .str x _ => x
  | _ => Str.empty
section
variable {P : Program} {w : World} {A : Around} {E : Value → Shared → Prop} {s : Shared}
theorem swo_by {α β : Type} {lt : α → α → Bool} (L : Lin lt) (f : β → α) : SrtO.Swo fun v u => lt (f v) (f u) := ⟨fun x y => L.swo.asym _ _, fun x y z => L.swo.tr _ _ _⟩
theorem text_cmp {vs : List Value} {xs : List Str} (h : StrsAre vs xs) : SrtO.Cmp P w A s oneType' (fun p => p.1 ∈ vs) (SrtO.lt2 fun v u => lessS (sv v) (sv u)) := by
  intro p q hp hq
  obtain ⟨x, t, e⟩ := h.all _ hp
  obtain ⟨y, u, e'⟩ := h.all _ hq
  show wpAny (model P w) A (keyLt' oneType' p.1 q.1) (fun r s' => s' = s ∧ r = lessS (sv p.1) (sv q.1)) (fun _ _ => False) s
  rw [e, e', keyLt'_oneType]
  exact oneLt_str ⟨rfl, rfl⟩
theorem texts_sortable {a : Addr} {vs : List Value} {xs : List Str} (h : StrsAre vs xs) (h2 : 2 ≤ vs.length) : SrtO.SortableO P w A s a vs fun v u => lessS (sv v) (sv u) := by
  intro h' _
  refine ⟨oneType', fun Q E q => ?_, text_cmp h⟩
  match vs, h, h2 with
  | v1 :: v2 :: r, h, _ => rw [keyKind_strs h]; exact wpAny_pure q
/-- v is the tuple of two texts -/
def Pr (h : Heap) (v : Value) (p : Str × Str) : Prop := ∃ a o t u n, v = .ref a ∧ h.get? a = some o ∧ o.cls = .type "tuple" ∧ o.data = .seq #[.str p.1 t, .str p.2 u] n
theorem Pr.keep {h h' : Heap} {v : Value} {p : Str × Str} (q : Pr h v p) (k : ∀ b o, h.get? b = some o → o.cls = .type "tuple" → h'.get? b = some o) : Pr h' v p := by
  obtain ⟨a, o, t, u, n, e1, e2, e3, e4⟩ := q
  exact ⟨a, o, t, u, n, e1, k _ _ e2 e3, e3, e4⟩
theorem pr_lt {v v' : Value} {p q : Str × Str} (h : Pr s.heap v p) (h' : Pr s.heap v' q) {Q : Bool → Shared → Prop} {E : Value → Shared → Prop} (hQ : Q (lessP p q) s) : wpAny (model P w) A (keyLt' (tuples' true) v v') Q E s := by
  obtain ⟨a, o, t, u, n, rfl, ho, _, hd⟩ := h
  obtain ⟨a', o', t', u', n', rfl, ho', _, hd'⟩ := h'
  unfold lessP lexP at hQ
  refine PySem.W.kat_lt ho hd ho' hd' (PySem.W.kat_cons (SeqAt.EqAt.str_str p.1 t q.1 t' P w _ _ (PySem.W.kat_go (fun e => PySem.W.kat_yes ?_) fun e => PySem.W.kat_no ?_)))
  · have e1 : p.1 = q.1 := eq_of_beq e
    rw [if_pos e1] at hQ
    refine PySem.W.kat_cons (SeqAt.EqAt.str_str p.2 u q.2 u' P w _ _ (PySem.W.kat_go (fun e2 => PySem.W.kat_yes (PySem.W.kat_nil ?_)) fun e2 => PySem.W.kat_no (PySem.W.kat_one _ _ (lt_str hQ))))
    have e3 : p.2 = q.2 := eq_of_beq e2
    rw [e3, linS.irr] at hQ
    exact hQ
  · have e1 : ¬ p.1 = q.1 := fun z => by rw [z] at e; simp at e
    rw [if_neg e1] at hQ
    exact oneLt_str hQ
theorem prs_firsts {h : Heap} {k : Value → Str × Str} : ∀ {vs : List Value}, (∀ v ∈ vs, Pr h v (k v)) → ∃ fs : List Value, PySem.W.KatTups h vs fs ∧ fs.length = vs.length ∧ ∀ f ∈ fs, ∃ x t, f = Value.str x t
  | [], _ => ⟨[], .nil, rfl, fun _ z => absurd z List.not_mem_nil⟩
  | v :: vs, hp => by
    obtain ⟨fs, f1, f2, f3⟩ := prs_firsts (vs := vs) fun u hu => hp u (List.mem_cons_of_mem _ hu)
    obtain ⟨a, o, t, u, n, e, ho, hc, hd⟩ := hp v List.mem_cons_self
    subst e
    refine ⟨.str (k (.ref a)).1 t :: fs, ?_, congrArg (· + 1) f2, fun f hf => ?_⟩
    · first | exact .cons ho hc hd (by decide) rfl f1 | exact .cons ho hc hd rfl f1 | skip
    · rcases List.mem_cons.mp hf with rfl | hf
      · exact ⟨_, _, rfl⟩
      · exact f3 f hf
theorem prs_sortable {a : Addr} {vs : List Value} {k : Value → Str × Str} (h0 : 0 < vs.length) (hp : ∀ v ∈ vs, Pr s.heap v (k v)) (ha : ∀ o, s.heap.get? a = some o → o.cls ≠ .type "tuple") : SrtO.SortableO P w A s a vs fun v u => lessP (k v) (k u) := by
  intro h' keep
  have hp' : ∀ v ∈ vs, Pr h' v (k v) := fun v hm => (hp v hm).keep fun b o e c => keep b o (fun z => ha o (z ▸ e) c) e
  obtain ⟨fs, h1, h2, h3⟩ := prs_firsts hp'
  refine ⟨tuples' true, fun Q E hq => ?_, fun p q hm hm' => pr_lt (s := { s with heap := h' }) (hp' _ hm) (hp' _ hm') ⟨rfl, rfl⟩⟩
  refine PySem.W.kat_kind (T := .type "str") h1 (by omega) (fun f hm => ?_) (by rfl) ?_
  · obtain ⟨x, t, rfl⟩ := h3 f hm
    exact PySem.W.Looks.now
  · rw [show (Value.type "str" != Value.type "tuple") = true by decide]
    exact hq
end
end TO

set_option Elab.async false
set_option linter.all false
set_option maxRecDepth 100000
/-! EL14: a def's own sets of texts and of tuples of texts; sorted(..) of texts and of pairs of texts -/
namespace DL
open PySem PySem.Spec PyProof.Rows L2 TL TX TO
/-! ### the sets as tracked things -/
def txO (w : World) (xs : List Str) (a : Addr) : HO := .ext fun h => Tset w h a xs
def psO (w : World) (L : List (Addr × List Str)) (a : Addr) : HO := .ext fun h => ∃ es ep t, PS.At w h a L es ep t
theorem txO_new {w : World} {P : Program} {H : Hp} {h : Heap} {a : Addr} {xs : List Str} (R : Tset w h a xs) : ObjOk P w H h a (txO w xs a) :=
  ⟨R, (let ⟨_, e, _⟩ := R; ⟨_, e⟩), fun _ _ p k => p.keep k⟩
theorem psO_new {w : World} {P : Program} {H : Hp} {h : Heap} {a : Addr} {L : List (Addr × List Str)} (R : ∃ es ep t, PS.At w h a L es ep t) : ObjOk P w H h a (psO w L a) :=
  ⟨R, (let ⟨_, _, _, T⟩ := R; let ⟨_, e, _⟩ := T.obj; ⟨_, e⟩), fun _ _ ⟨es, ep, t, T⟩ k => ⟨es, ep, t, (let ⟨o, e, r⟩ := T.obj; ⟨o, k o e, r⟩), T.lies, T.tab, T.once, T.room⟩⟩
section
variable {X : Cx} {pins : List (Addr × Obj)} {σ : L2.St} {H : Hp} {s : Shared} {a : Addr} {xs : List Str} {L : List (Addr × List Str)}
theorem txO_get (I : Inv X pins σ H s) (e : H a = some (txO X.w xs a)) : Tset X.w s.heap a xs := (I.hok a _ e).1
theorem psO_get (I : Inv X pins σ H s) (e : H a = some (psO X.w L a)) : ∃ es ep t, PS.At X.w s.heap a L es ep t := (I.hok a _ e).1
theorem items_txt {P : Program} {w : World} : ∀ {ks : List Str} {us : List Value}, Vals (ks.map V.str) us → ItemsAre (PySem.strKind P w) ks us
  | [], us, r => by cases r; exact .nil
  | k :: ks, us, r => by
    cases r with
    | cons r1 r2 =>
      obtain ⟨t, rfl⟩ := r1
      exact .cons (Froz.is_str (P := P) (w := w) k t) (items_txt r2)
theorem tt_of (I : Inv X pins σ H s) {ks : List Str} {b : Addr} (h : SqT X.K H b (ks.map V.str)) : PS.Tt X.prog X.w s.heap ks b := by
  obtain ⟨its, rv, ⟨o, e1, e2, n, e3⟩, _⟩ := I.tuple h
  exact ⟨o, _, n, e1, e2, e3, by simpa using items_txt rv⟩
/-- a set stands there -/
def SetThere (H : Hp) (a : Addr) : Prop := (∃ w xs, H a = some (txO w xs a)) ∨ ∃ w L, H a = some (psO w L a)
theorem set_there {I : Inv X pins σ H s} (h : SetThere H a) : ∃ o, s.heap.get? a = some o ∧ o.ExactSet := by
  rcases h with ⟨w, xs, e⟩ | ⟨w, L, e⟩
  · obtain ⟨⟨D, e1, _⟩, _⟩ := I.hok a _ e
    exact ⟨_, e1, rfl, rfl, rfl⟩
  · obtain ⟨⟨_, _, _, T⟩, _⟩ := I.hok a _ e
    obtain ⟨o, e1, e2, _⟩ := T.obj
    exact ⟨o, e1, e2⟩
/-! ### set() -/
def rTx0 (w : World) : List V → Hp → VK → Prop := fun xs H Q => xs = [] ∧ ∀ p, H p = none → Q (.ref p) (upd H p (txO w [] p))
theorem cr_tx0 : CallR X (.type "set") (rTx0 X.w) := by
  intro pins s σ H xs us Q I r h
  obtain ⟨rfl, q⟩ := h
  cases r
  exact setR_new fun _ => ⟨.ref _, upd H s.heap.objs.size (txO X.w [] s.heap.objs.size), I.laid (t' := s.toks) (fun b u e => Heap.get?_push_of_some _ e) (Nat.le_refl _) (txO_new (tset_new s.heap)), rfl, q _ (I.hok.fresh (Nat.le_refl _))⟩
def rPs0 (w : World) : List V → Hp → VK → Prop := fun xs H Q => xs = [] ∧ ∀ p, H p = none → Q (.ref p) (upd H p (psO w [] p))
theorem ps_new {w : World} (h : Heap) : PS.At w (h.push { cls := .type "set", dict := none, data := .set #[] 0 (.fresh 0 0 (!w.params.followText "set-order")) }) h.objs.size [] #[] 0 (.fresh 0 0 (!w.params.followText "set-order")) :=
  ⟨⟨_, Heap.get?_push_size _ rfl, ⟨rfl, rfl, rfl⟩, rfl⟩, rfl, ⟨List.Pairwise.nil, rfl, rfl, .inl rfl, fun x hx => absurd hx (by simp [SetTable.fresh]), fun i h j e => absurd e (by simp)⟩, List.nodup_nil, (by show 0 * 5 < 7 * 3; decide)⟩
theorem cr_ps0 : CallR X (.type "set") (rPs0 X.w) := by
  intro pins s σ H xs us Q I r h
  obtain ⟨rfl, q⟩ := h
  cases r
  exact setR_new fun _ => ⟨.ref _, upd H s.heap.objs.size (psO X.w [] s.heap.objs.size), I.laid (t' := s.toks) (fun b u e => Heap.get?_push_of_some _ e) (Nat.le_refl _) (psO_new ⟨_, _, _, ps_new s.heap⟩), rfl, q _ (I.hok.fresh (Nat.le_refl _))⟩
/-! ### x.add(e) -/
def rTxAdd (w : World) : V → List V → Hp → VK → Prop := fun x ys H Q => ∃ a k xs, x = V.ref a ∧ ys = [V.str k] ∧ H a = some (txO w xs a) ∧ xs.length + 1 < 4096 ∧ Q .non (upd H a (txO w (if k ∈ xs then xs else k :: xs) a))
theorem mt_txAdd : MtR X "set.add" (rTxAdd X.w) := by
  intro pins s σ H x ys v us Q I rx rys h
  obtain ⟨a, k, xs, rfl, rfl, ha, room, q⟩ := h
  cases rx
  cases rys with
  | cons ry rt =>
    cases rt
    obtain ⟨t, rfl⟩ := ry
    refine add_tx (txO_get I ha) room fun h' sb new => ?_
    have he : ∃ u, h'.get? a = some u := let ⟨_, e, _⟩ := new; ⟨_, e⟩
    exact ⟨.non, _, I.write (e := a) (t' := s.toks + 1) (by rw [ha]; trivial) (.inl rfl) (fun b u hb hu => (sb.2 b hb).trans hu) he (txO_new new), rfl, q⟩
def rPsAdd (K : PySem.W.Frag) (w : World) : V → List V → Hp → VK → Prop := fun x ys H Q => ∃ a b k L, x = V.ref a ∧ ys = [V.ref b] ∧ H a = some (psO w L a) ∧ SqT K H b (k.map V.str) ∧ (∀ q ∈ L, SqT K H q.1 (q.2.map V.str)) ∧ L.length < 76 ∧
  ∀ L', (k ∈ L.map (·.2) → L' = L) → (k ∉ L.map (·.2) → L'.Perm ((b, k) :: L)) → Q .non (upd H a (psO w L' a))
theorem mt_psAdd (hu : X.A.units + 64 < cLine) : MtR X "set.add" (rPsAdd X.K X.w) := by
  intro pins s σ H x ys v us Q I rx rys h
  obtain ⟨a, b, k, L, rfl, rfl, ha, hb, hL, few, q⟩ := h
  cases rx
  cases rys with
  | cons ry rt =>
    cases rt
    cases ry
    obtain ⟨es, ep, t, T⟩ := psO_get I ha
    have hk := tt_of I hb
    obtain ⟨o, ho, hex, hd⟩ := id T.obj
    have isS : s.TypeIs (.ref a) "set" := ⟨o, ho, hex.1⟩
    refine wpAny_call_entry PySem.F.slot_set_add isS PySem.F.entry_set_add ?_ (PySem.F.args_set_add_2 _ _)
    unfold Builtin.«set.add» Builtin.Frozenset.oneOther
    simp only [List.isEmpty_nil, bind_assoc]
    unfold Builtin.Frozenset.addrOf setAdd
    refine wpAny_bind (wpAny_pure (wpAny_bind (wpAny_pure (wpAny_bind (wpAny_holding (wpAny_bind (wpAny_pyHash_tuple (by first | (show X.A.units + _ < cLine; omega) | (simp [Around.in1]; omega) | omega) hk ?_)))))))
    have I1 := I.tok (s.toks + (k.length + 1))
    refine PS.add_to (s := { s with toks := s.toks + (k.length + 1) }) T (fun q hq => tt_of I (hL q hq)) hk (by first | (show X.A.units + _ < cLine; omega) | omega) few fun r h' L' es' ep' t' sb T' k1 k2 => ?_
    have he : ∃ u, h'.get? a = some u := let ⟨_, e, _⟩ := T'.obj; ⟨_, e⟩
    exact wpAny_pure ⟨_, rfl, .non, _, I.write (e := a) (t' := s.toks + (k.length + 1)) (by rw [ha]; trivial) (.inl rfl) (fun b u hb hu => (sb.2 b hb).trans hu) he (psO_new ⟨_, _, _, T'⟩), rfl, q L' k1 k2⟩
def tSetAdd (r : V → List V → Hp → VK → Prop) (to : TE) (t : TA) : TE := fun σ H Q => to σ H fun x H1 => (∃ a, x = V.ref a ∧ SetThere H1 a) ∧ t σ H1 fun xs H2 => r x xs H2 Q
theorem pe_setAdd {r : V → List V → Hp → VK → Prop} (hm : MtR X "set.add" r) {o e : Expr} {es : List Expr} {to : TE} {t : TA} {apos cpos : Pos} (ho : PE X o to) (ha : PA X (e :: es) t)
    (hbase : attributeBase o "add" X.env (eval o X.env) = eval o X.env := by rfl)
    (hfew : ((backTo cpos (starEach (e :: es) X.env)).all (fun x => !x.1) && (backToKw cpos (keywordEach [] X.env)).all (fun x => x.1.isSome) && decide ((e :: es).length + ([] : List Keyword).length + (if ([] : List Keyword).isEmpty then 0 else 1) < 30)) = true := by rfl)
    (hline : (apos.endLine == cpos.line) = true := by rfl) (hs : starEach (e :: es) X.env = (false, eval e X.env) :: starEach es X.env := by rfl) (hpl : (backTo cpos (starEach es X.env)).any (·.1) = false := by rfl) :
    PE X (.Call (.Attribute o "add" apos) (e :: es) [] cpos) (tSetAdd r to t) := by
  refine ⟨fun pins s σ H Q I h => wpAny_Call_method_late hbase hfew hline rfl (thn (ho.run pins s σ H _ I h) fun v s1 ⟨x, H1, I1, r1, ⟨a, ex, th⟩, q1⟩ => ?_)⟩
  subst ex
  obtain ⟨ob, e1, e2⟩ := set_there (I := I1) th
  cases r1
  refine ⟨"set", "set.add", PySem.F.plainAttrs_set, PySem.F.slot_set_add, PySem.F.type_set_add, ⟨ob, e1, e2.1⟩, fun b eb => by cases eb; exact ⟨ob, e1, e2.2.1⟩, ?_⟩
  have run := ha.run cpos pins s1 σ H1 _ I1 q1
  rw [hs] at run ⊢
  exact Calls.callWith_builtin (by show (false || (backTo cpos (starEach es X.env)).any (·.1)) = false; rw [hpl]; rfl) (Calls.evalArgs_plain (thn run fun us s2 ⟨vs, H2, I2, r2, q2⟩ => hm pins s2 σ H2 (.ref a) vs (.ref a) us Q I2 rfl r2 q2))
/-! ### e in x, e not in x, x a set of tuples of texts -/
theorem holds_ps (hu : X.A.units + 64 < cLine) (I : Inv X pins σ H s) {b : Addr} {k : List Str} (ha : H a = some (psO X.w L a)) (hb : SqT X.K H b (k.map V.str)) (hL : ∀ q ∈ L, SqT X.K H q.1 (q.2.map V.str)) {Q : Bool → Shared → Prop} {E : Value → Shared → Prop}
    (q : ∀ n, Q (decide (k ∈ L.map (·.2))) { s with toks := n }) : wpAny (model X.prog X.w) X.A (contains (.ref a) (.ref b)) Q E s := by
  obtain ⟨es, ep, t, T⟩ := psO_get I ha
  have hk := tt_of I hb
  obtain ⟨o, ho, hex, hd⟩ := id T.obj
  have isS : s.TypeIs (.ref a) "set" := ⟨o, ho, hex.1⟩
  unfold contains
  refine wpAny_holding (wpAny_bind (wpAny_specialOf isS PySem.F.slot_set_contains.lookup (wp_if_neg (by rw [beq_builtin_none]; exact Bool.false_ne_true) ?_)))
  refine wpAny_bind (wpAny_callSpecialUnlessNone?_slot (name := Str.ofString "__contains__") isS PySem.F.slot_set_contains (wpAny_call_entry PySem.F.slot_set_contains isS entry_set_contains ?_ (PySem.F.args_set_contains_2 _ _)))
  unfold Builtin.«frozenset.__contains__» Builtin.Frozenset.oneOther
  simp only [List.isEmpty_nil, bind_assoc]
  unfold Builtin.Frozenset.addrOf Builtin.Frozenset.withSetAsKey setContains
  refine wpAny_bind (wpAny_pure (wpAny_bind (wpAny_pure (wpAny_bind (wpAny_tryCatch (wpAny_holding (wpAny_bind (wpAny_pyHash_tuple (by first | (show X.A.units + _ < cLine; omega) | (simp [Around.in1]; omega) | omega) hk ?_))))))))
  refine wpAny_bind (PS.find_plain (s := { s with toks := s.toks + (k.length + 1) }) T (fun q hq => tt_of I (hL q hq)) hk (by first | (show X.A.units + _ < cLine; omega) | omega) fun r hr => wpAny_pure ?_)
  show wpAny _ _ (ret (Value.bool r.isSome)) _ _ _
  rw [hr]
  exact wpAny_pure ⟨_, rfl, wpAny_truthy_bool (q _)⟩
def rPsIn (K : PySem.W.Frag) (w : World) (neg : Bool) : R2 := fun x y H Q => ∃ a b k L, x = V.ref b ∧ y = V.ref a ∧ H a = some (psO w L a) ∧ SqT K H b (k.map V.str) ∧ (∀ q ∈ L, SqT K H q.1 (q.2.map V.str)) ∧ Q (.bl (neg ^^ decide (k ∈ L.map (·.2)))) H
theorem op_psIn (hu : X.A.units + 64 < cLine) : OpR X (compareOp .In) (rPsIn X.K X.w false) := by
  intro pins s σ H x y v u Q I rx ry h
  obtain ⟨a, b, k, L, rfl, rfl, ha, hb, hL, q⟩ := h
  cases rx
  cases ry
  rw [Bool.false_xor] at q
  show wpAny _ _ (do return Value.bool (← contains (.ref a) (.ref b))) _ _ s
  exact wpAny_bind (holds_ps hu I ha hb hL fun n => wpAny_pure ⟨.bl _, H, I.tok n, rfl, q⟩)
/-! ### sorted(x), x a set of texts -/
theorem strs_of : ∀ (vs : List Value), (∀ v ∈ vs, ∃ x t, v = Value.str x t) → StrsAre vs (vs.map sv)
  | [], _ => .nil
  | v :: vs, h => by
    obtain ⟨x, t, rfl⟩ := h v List.mem_cons_self
    exact .cons x t (strs_of vs fun u hu => h u (List.mem_cons_of_mem _ hu))
theorem vals_strs : ∀ {vs : List Value} {xs : List Str}, StrsAre vs xs → Vals (xs.map V.str) vs
  | _, _, .nil => .nil
  | _, _, .cons y t r => .cons ⟨t, rfl⟩ (vals_strs r)
theorem strs_vals : ∀ {xs : List Str} {vs : List Value}, Vals (xs.map V.str) vs → StrsAre vs xs
  | [], vs, r => by cases r; exact .nil
  | x :: xs, vs, r => by
    cases r with
    | cons r1 r2 =>
      obtain ⟨t, rfl⟩ := r1
      exact .cons x t (strs_vals r2)
theorem sv_strs : ∀ {vs : List Value} {xs : List Str}, StrsAre vs xs → vs.map sv = xs
  | _, _, .nil => rfl
  | _, _, .cons y t r => congrArg (y :: ·) (sv_strs r)
theorem out_texts {vs out : List Value} {xs : List Str} (h : StrsAre vs xs) (hs : SrtO.Srtd (fun v u => lessS (sv v) (sv u)) out) (hb : SrtO.Stb (fun v u => lessS (sv v) (sv u)) out vs) : StrsAre out (srt lessS xs) := by
  have st : ∀ v ∈ out, ∃ x t, v = Value.str x t := fun v hv => h.all v (hb.perm.mem_iff.mp hv)
  have e : out.map sv = srt lessS xs := by
    refine srt_eq linS ?_ (List.pairwise_map.mpr hs)
    have z := hb.perm.map sv
    rw [sv_strs h] at z; exact z
  rw [← e]; exact strs_of out st
theorem perm_sub {α : Type} [DecidableEq α] : ∀ {xs ys : List α}, xs.Nodup → (∀ k ∈ xs, k ∈ ys) → ys.length ≤ xs.length → ys.Perm xs
  | [], ys, _, _, h => by rw [List.eq_nil_of_length_eq_zero (Nat.le_zero.mp h)]
  | x :: xs, ys, nd, sub, h => by
    obtain ⟨n1, n2⟩ := List.nodup_cons.mp nd
    have hx := sub x List.mem_cons_self
    have pe := List.perm_cons_erase hx
    refine pe.trans ((perm_sub n2 (fun k hk => ?_) ?_).cons x)
    · have z := pe.mem_iff.mp (sub k (List.mem_cons_of_mem _ hk))
      rcases List.mem_cons.mp z with e | z
      · exact absurd (e ▸ hk) n1
      · exact z
    · have l := pe.length_eq
      rw [List.length_cons] at l h; omega
def rTxSorted (w : World) : List V → Hp → VK → Prop := fun vs H Q => ∃ a xs, vs = [V.ref a] ∧ H a = some (txO w xs a) ∧ xs.length < 4096 ∧ ∀ p, H p = none → Q (.ref p) (upd H p (.lst ((srt lessS xs).map V.str)))
theorem cr_txSorted (hc : X.calm = true) : CallR X (.builtin "sorted") (rTxSorted X.w) := by
  intro pins s σ H vs us Q I r h
  obtain ⟨a, xs, rfl, ha, few, q⟩ := h
  rw [Vals.ref1 r]
  obtain ⟨⟨es, ep, t⟩, e, T, nd, ri, le⟩ := txO_get I ha
  obtain ⟨el, mem, sz, fit⟩ := T X.prog
  dsimp only at el mem sz fit ri le
  refine Calls.call_function_entry kind_sorted plain_sorted entry_sorted (args_sorted1 _) ?_
  unfold Builtin.«sorted»
  refine wpAny_bind (m := checkCount "sorted" 1 1 _) (wpAny_pure (wpAny_bind (collect_set (A := X.A.in1) (I.ok.hd hc) ⟨_, e, rfl, rfl⟩ fit (by rw [sz]; exact few) ri le fun s1 vs k1 hz g1 o1 pm => ?_)))
  have all : ∀ v ∈ vs, ∃ x t, v = Value.str x t := fun v hv => by
    obtain ⟨e0, h0, rfl⟩ := List.mem_map.mp (pm.mem_iff.mp hv)
    obtain ⟨⟨k, hk, _⟩, _⟩ := el e0 h0
    obtain ⟨t, e⟩ := Value.isStrOf_shape hk
    exact ⟨k, t, e⟩
  have len : vs.length = xs.length := by rw [pm.length_eq, List.length_map, Array.length_toList]; exact sz
  have mm : ∀ k, k ∈ vs.map sv ↔ k ∈ xs := fun k => by
    rw [mem k, List.mem_map]
    constructor
    · rintro ⟨v, hv, rfl⟩
      obtain ⟨e0, h0, rfl⟩ := List.mem_map.mp (pm.mem_iff.mp hv)
      obtain ⟨x, t, ex⟩ := all _ hv
      exact ⟨e0, h0, by rw [ex]; exact Froz.is_str (P := X.prog) (w := X.w) x t⟩
    · rintro ⟨e0, h0, hk⟩
      obtain ⟨t, ex⟩ := Value.isStrOf_shape hk
      exact ⟨e0.2, pm.mem_iff.mpr (List.mem_map.mpr ⟨e0, h0, rfl⟩), by rw [ex]; rfl⟩
  have pmx : (vs.map sv).Perm xs := by
    refine perm_sub nd (fun k hk => (mm k).mpr hk) ?_
    rw [List.length_map, len]; exact Nat.le_refl _
  have hS := strs_of vs all
  refine wpAny_bind (wpAny_newList ?_ (by rw [len, sizeLine_eq]; omega))
  have hoL : (s1.heap.push (seqObj "list" vs.toArray 0)).get? s1.heap.objs.size = some (seqObj "list" vs.toArray 0) := Heap.get?_push_size _ rfl
  refine wpAny_bind (wpAny_holding (wpAny_call_entry slot_list_sort ⟨_, hoL, rfl⟩ entry_list_sort (SrtO.list_sort_ord (s := { s1 with heap := s1.heap.push (seqObj "list" vs.toArray 0) }) (swo_by linS sv) hoL (by rw [len, sizeLine_eq]; omega) (fun h2 => texts_sortable hS h2) fun out h1 h2 => ⟨_, rfl, ?_⟩) (args_list_sort _)))
  obtain ⟨c, hc'⟩ := sortedHeap_at (vs := vs) (out := out.toArray) hoL
  have fin := out_texts hS h1 h2
  rw [srt_congr linS pmx] at fin
  have hn : H s1.heap.objs.size = none := I.hok.fresh hz
  have old : ∀ b u, s.heap.get? b = some u → (sortedHeap (s1.heap.push (seqObj "list" vs.toArray 0)) s1.heap.objs.size vs out.toArray).get? b = some u := fun b u eb => by
    have z := k1 b u eb
    have lt := Heap.lt_size z
    rw [sortedHeap_old (Nat.ne_of_lt lt) (by rw [size_push']; exact Nat.lt_succ_of_lt lt)]
    exact Heap.get?_push_of_some _ z
  have J : Inv X pins σ (upd H s1.heap.objs.size (.lst ((srt lessS xs).map V.str))) { s with heap := sortedHeap (s1.heap.push (seqObj "list" vs.toArray 0)) s1.heap.objs.size vs out.toArray, gens := s1.gens, drawn := s1.drawn, toks := s1.toks } :=
    I.call (ch := []) (Un.laid old hz hn) (I.hok.laid old hz ⟨by rw [List.length_map, srt_len, sizeLine_eq]; omega, out, c, vals_strs fin, hc'⟩) (by rw [g1]; exact I.bare) (fun _ z => nomatch z)
  refine wpAny_pure ⟨_, rfl, .ref s1.heap.objs.size, _, ?_, rfl, q _ hn⟩
  have e2 : ({ s1 with heap := sortedHeap (s1.heap.push (seqObj "list" vs.toArray 0)) s1.heap.objs.size vs out.toArray } : Shared) = { s with heap := sortedHeap (s1.heap.push (seqObj "list" vs.toArray 0)) s1.heap.objs.size vs out.toArray, gens := s1.gens, drawn := s1.drawn, toks := s1.toks } := by
    cases s1; cases s; cases o1; rfl
  first | exact e2 ▸ J | (show Inv X pins σ _ _; rw [← e2] at J; exact J)
end
end DL

set_option Elab.async false
set_option linter.all false
set_option maxRecDepth 100000
set_option maxHeartbeats 3200000
/-! SF: set(xs) of a list or a tuple, by what stands behind each item -/
namespace SF
open PySem PySem.Spec PyProof.Rows L2
/-- a new set -/
abbrev ns0 (w : World) : Obj := { cls := .type "set", dict := none, data := .set #[] 0 (.fresh 0 0 (!w.params.followText "set-order")) }
section
variable {P : Program} {w : World} {A : Around} {E : Value → Shared → Prop}
/-- what is asked of the states behind each item: S the set's place, h0 the heap ahead of all -/
structure Grows (P : Program) (w : World) (A : Around) (E : Value → Shared → Prop) (h0 : Heap) (S : Addr) (items : Array Value) (R : Nat → Heap → Prop) : Prop where
  keep : ∀ i h h', R i h → (∀ o, h.get? S = some o → h'.get? S = some o) → R i h'
  step : ∀ (i : Nat) (v : Value) (s' : Shared) (Q : Bool → Shared → Prop), items[i]? = some v → (∀ b o, h0.get? b = some o → s'.heap.get? b = some o) → R i s'.heap →
    (∀ b h' tk, Heap.SameBut S s'.heap h' → s'.toks ≤ tk → R (i + 1) h' → Q b { s' with heap := h', toks := tk }) → wpAny (model P w) A (setAdd S v) Q E s'
variable {h0 : Heap} {S I : Addr} {items : Array Value} {R : Nat → Heap → Prop} {fp wr : List Addr} {G : Array GenState → Array GenState → Prop} {St : Nat → Shared → Prop} {Z : Result → Shared → Prop}
theorem loop_by (W : WalksS P w A.in1 I fp wr G items.size (fun i v => items[i]? = some v) St) (g : Grows P w A.in1 (fun _ _ => False) h0 S items R) (out : S ∉ fp) (low : ∀ b o, h0.get? b = some o → b ≠ S ∧ b ∉ wr) (fine : ∀ e s', False → Z (.error e) s') :
    ∀ (left i : Nat) (s : Shared), i + left = items.size → St i s → (∀ b o, h0.get? b = some o → s.heap.get? b = some o) → R i s.heap →
      (∀ s', Moved (S :: wr) G s s' → R items.size s'.heap → Z (.ok (.ret .none)) s') → codeAny (model P w) A (.builtin "set.update.loop" ⟨[.ref S, .ref I], []⟩) Z s
  | left, i, s, hi, hst, old, hR, fin => by
    have Sw : S ∉ wr := fun z => out (W.sub _ z)
    have sub : ∀ b ∈ wr, b ∈ S :: wr := fun b hb => List.mem_cons_of_mem _ hb
    refine codeAny_builtin PyProof.Rows.F.entry_set_update_loop ?_
    rw [Around.under_plainId PyProof.Rows.F.plain_set_update_loop _]
    match left, hi with
    | 0, hi =>
      have e : i = items.size := hi
      subst e
      refine wpAny_bind (W.done s _ _ hst fun s' hm => ?_)
      exact wpAny_pure (fin s' (hm.mono sub) (g.keep _ _ _ hR fun o e => hm.heap S o Sw e))
    | left + 1, hi =>
      refine wpAny_bind (W.item i s _ _ (by omega) hst fun v s' hv hst' hm => ?_)
      have hR' := g.keep _ _ _ hR fun o e => hm.heap S o Sw e
      have old' : ∀ b o, h0.get? b = some o → s'.heap.get? b = some o := fun b o e => hm.heap b o (low b o e).2 (old b o e)
      refine wpAny_bind (wpAny_holding (wpAny_mono (g.step i v s' (fun b s2 => ∃ h' tk, s2 = { s' with heap := h', toks := tk } ∧ Heap.SameBut S s'.heap h' ∧ s'.toks ≤ tk ∧ R (i + 1) h') hv old' hR' fun b h' tk sb ht r => ⟨h', tk, rfl, sb, ht, r⟩) (fun b s2 z => ?_) fun e s2 z => fine e s2 z))
      obtain ⟨h', tk, rfl, sb, ht, r⟩ := z
      refine wpAny_pure ⟨plainId_quiet PyProof.Rows.F.plain_set_update_loop _, loop_by W g out low fine left (i + 1) _ (by omega) (W.frame _ s' _ _ hst' ht fun b hb o e => ?_) (fun b o e => ?_) r fun s'' hm'' r'' => ?_⟩
      · rw [sb.2 b fun z => out (z ▸ hb)]; exact e
      · show h'.get? b = some o
        rw [sb.2 b (low b o e).1]; exact old' b o e
      · refine fin s'' (Moved.trans W.gtrans ((hm.mono sub).then_heap ht fun b o hb e => ?_) hm'') r''
        rw [sb.2 b fun z => hb (z ▸ List.mem_cons_self)]; exact e
/-- set(l): the set stands at a new place -/
theorem made {s : Shared} {l : Addr} {tn : String} (htn : tn = "list" ∨ tn = "tuple") (hh : A.handled = none) (hl : ∃ o n, s.heap.get? l = some o ∧ o.cls = .type tn ∧ o.data = .seq items n) (g : Grows P w A.in1.in1.in1 (fun _ _ => False) s.heap s.heap.objs.size items R)
    (r0 : ∀ h : Heap, h.get? s.heap.objs.size = some (ns0 w) → R 0 h) {Q : Value → Shared → Prop}
    (q : ∀ h' tk, R items.size h' → (∀ b o, s.heap.get? b = some o → h'.get? b = some o) → Q (.ref s.heap.objs.size) { s with heap := h', toks := tk }) : wpAny (model P w) A (call (.type "set") [.ref l]) Q E s := by
  obtain ⟨c, tl, hmro⟩ := PySem.F.called_set.mro
  have f1 := PySem.F.called_set.made
  have f2 := PySem.F.called_set.sub
  refine wpAny_call (codeAny_of_tree ?_)
  show wpAny _ _ (callAny (.type "set") _) _ _ _
  refine wpAny_pure ⟨Code.quiet_builtin _ (by decide +kernel), codeAny_builtin PySem.F.entry_type_call ?_⟩
  rw [Around.under_plain (weight_type_call_type "set" [.ref l] []) rfl]
  have f3 := PySem.F.called_set.notType
  have f4 := PySem.F.called_set.canCreate
  have f5 := PySem.F.typeCall_set_1 (.ref l)
  repeat (any_goals (first | assumption | wp_step))
  refine codeAny_mono (code_set_led1 (.ref l) (E := E) (Q₁ := fun obj s₁ => obj = .ref s.heap.objs.size ∧ s₁ = { s with heap := s.heap.push (ns0 w) }) ⟨rfl, rfl⟩) fun r s₁ hr => ?_
  rcases r with e | (_ | _ | _ | obj)
  · exact hr
  · exact hr.elim
  · exact hr.elim
  · exact hr.elim
  · obtain ⟨rfl, rfl⟩ := hr
    have atS : (s.heap.push (ns0 w)).get? s.heap.objs.size = some (ns0 w) := Heap.get?_push_size _ rfl
    have tyS : Shared.TypeIs { s with heap := s.heap.push (ns0 w) } (.ref s.heap.objs.size) "set" := ⟨_, atS, rfl⟩
    have f6 := PySem.F.called_set.init.lookup
    have f7 := PySem.F.called_set.init.bind (.ref s.heap.objs.size)
    repeat (any_goals (first | assumption | wp_step))
    refine codeAny_mono (codeAny_call_builtin (R := wants (fun r s₂ => r = .none ∧ ∃ h' tk, s₂ = { s with heap := h', toks := tk } ∧ R items.size h' ∧ (∀ b o, s.heap.get? b = some o → h'.get? b = some o)) E) PySem.F.called_set.init.plain PySem.F.entry_set_init (check_set_init_1 tyS ?_)) fun r₂ s₂ hr₂ => ?_
    · obtain ⟨ol, nl, hol, hcl, hdl⟩ := hl
      have lS : l < s.heap.objs.size := Heap.lt_size hol
      obtain ⟨ocls, odict, odata, oslots⟩ := ol
      dsimp only at hcl hdl
      subst hcl
      subst hdl
      have hol2 : (s.heap.push (ns0 w)).get? l = some { cls := .type tn, dict := odict, data := .seq items nl, slots := oslots } := Heap.get?_push_of_some _ hol
      have sz : (s.heap.push (ns0 w)).objs.size = s.heap.objs.size + 1 := Heap.size_push ..
      have neI : l ≠ (s.heap.push (ns0 w)).objs.size := by rw [sz]; exact Nat.ne_of_lt (Nat.lt_succ_of_lt lS)
      have out : s.heap.objs.size ∉ [(s.heap.push (ns0 w)).objs.size, l] := by
        rw [sz]
        intro z
        rcases List.mem_cons.mp z with z | z
        · exact absurd z (Nat.ne_of_lt (Nat.lt_succ_self _))
        · exact absurd (List.mem_singleton.mp z) (Nat.ne_of_gt lS)
      have h3 : A.in1.in1.in1.handled = none := by simp [hh]
      have low : ∀ b o, s.heap.get? b = some o → b ≠ s.heap.objs.size ∧ b ∉ [(s.heap.push (ns0 w)).objs.size] := fun b o e => by
        have lb := Heap.lt_size e
        rw [sz]
        exact ⟨Nat.ne_of_lt lb, fun z => absurd (List.mem_singleton.mp z) (Nat.ne_of_lt (Nat.lt_succ_of_lt lb))⟩
      have fin : ∀ (itn : Obj) (s' : Shared), Moved [s.heap.objs.size, (s.heap.push (ns0 w)).objs.size] Eq { s with heap := (s.heap.push (ns0 w)).push itn } s' → R items.size s'.heap →
          ∃ h' tk, s' = { s with heap := h', toks := tk } ∧ R items.size h' ∧ (∀ b o, s.heap.get? b = some o → h'.get? b = some o) := fun itn s' hm r => by
        obtain ⟨h', g2, d', tk', os'⟩ := s'
        have e1 : s.gens = g2 := hm.gens
        have e2 : d' = s.drawn := hm.drawn
        have e3 : os' = s.os := hm.os
        subst e1; subst e2; subst e3
        refine ⟨h', tk', rfl, r, fun b o e => hm.heap b o ?_ (Heap.get?_push_of_some _ (Heap.get?_push_of_some _ e))⟩
        have lb := Heap.lt_size e
        rw [sz]
        intro z
        rcases List.mem_cons.mp z with z | z
        · exact absurd z (Nat.ne_of_lt lb)
        · exact absurd (List.mem_singleton.mp z) (Nat.ne_of_lt (Nat.lt_succ_of_lt lb))
      have g' : Grows P w A.in1.in1.in1 (fun _ _ => False) s.heap s.heap.objs.size items R := g
      have sub1 : isSubtype (.type tn) (.type "set") = pure false := by
        rcases htn with rfl | rfl
        · exact PySem.F.sub_list_set
        · exact PySem.F.sub_tuple_set
      have sub2 : isSubtype (.type tn) (.type "frozenset") = pure false := by
        rcases htn with rfl | rfl
        · exact PySem.F.sub_list_frozenset
        · exact PySem.F.sub_tuple_frozenset
      have ne1 : (Value.type tn == Value.type "dict") = false := by rcases htn with rfl | rfl <;> decide
      unfold Builtin.«set.__init__» noKeywords Builtin.Frozenset.updateFrom
      generalize hPI : pyIter = PI
      wp_walk
      subst hPI
      rcases htn with rfl | rfl
      · have hl1 : (s.heap.push (ns0 w)).IsList l items := ⟨_, hol2, rfl, nl, rfl⟩
        refine wpAny_pyIter_list hl1 (wpAny_bind (wpAny_runValue ?_))
        refine loop_by ((Walks.list h3 _ l neI items).toS) g' out low (fun e s' z => z.elim) items.size 0 _ (by omega) ⟨⟨_, Heap.get?_push_size _ rfl, rfl, rfl⟩, (hl1.push _)⟩ (fun b o e => Heap.get?_push_of_some _ (Heap.get?_push_of_some _ e)) (r0 _ (Heap.get?_push_of_some _ atS)) fun s' hm r => ?_
        obtain ⟨h', tk', rfl, r', old⟩ := fin _ s' ⟨hm.heap, hm.gens.symm, hm.drawn, hm.os, hm.toks⟩ r
        exact wpAny_pure (wpAny_pure ⟨rfl, h', tk', rfl, r', old⟩)
      · have hl1 : (s.heap.push (ns0 w)).IsTuple l items := ⟨_, hol2, rfl, nl, rfl⟩
        refine wpAny_pyIter_tuple hl1 (wpAny_bind (wpAny_runValue ?_))
        refine loop_by ((Walks.tuple h3 _ l neI items).toS) g' out low (fun e s' z => z.elim) items.size 0 _ (by omega) ⟨⟨_, Heap.get?_push_size _ rfl, rfl, rfl⟩, (hl1.push _)⟩ (fun b o e => Heap.get?_push_of_some _ (Heap.get?_push_of_some _ e)) (r0 _ (Heap.get?_push_of_some _ atS)) fun s' hm r => ?_
        obtain ⟨h', tk', rfl, r', old⟩ := fin _ s' ⟨hm.heap, hm.gens.symm, hm.drawn, hm.os, hm.toks⟩ r
        exact wpAny_pure (wpAny_pure ⟨rfl, h', tk', rfl, r', old⟩)
    · rcases r₂ with e | (_ | _ | _ | r)
      · exact hr₂
      · exact hr₂.elim
      · exact hr₂.elim
      · exact hr₂.elim
      · obtain ⟨rfl, h', tk, rfl, r, old⟩ := hr₂
        repeat (any_goals (first | assumption | wp_step))
        exact q _ _ r old
end
end SF

set_option Elab.async false
set_option linter.all false
set_option maxRecDepth 100000
/-! EL15: sorted(..) of lists and tuples of texts and of pairs of texts; the rules for own sets, over data -/
namespace DL
open PySem PySem.Spec PyProof.Rows L2 TL TX TO
section
variable {X : Cx} {pins : List (Addr × Obj)} {σ : L2.St} {H : Hp} {s : Shared}
/-- a list or a tuple -/
def SqA (K : PySem.W.Frag) (H : Hp) (a : Addr) (xs : List V) : Prop := SqL K H a xs ∨ SqT K H a xs
theorem sorted_any2 {A : Around} {E : Value → Shared → Prop} {a : Addr} {ys : List V} {its : List Value} {ltv : Value → Value → Bool} {Q : Value → Shared → Prop} (O : SrtO.Swo ltv)
    (h : (s.heap.IsList a its.toArray) ∨ IsTup s.heap a its.toArray) (hz : its.length ≤ sizeLine)
    (cmp : 2 ≤ its.length → ∀ (h₁ : Heap) (a : Addr), h₁.get? a = some (seqObj "list" its.toArray 0) → (∀ b o, s.heap.get? b = some o → b ≠ a ∧ h₁.get? b = some o) → SrtO.SortableO X.prog X.w A.in1.in1 { s with heap := h₁ } a its ltv)
    (q : ∀ out : List Value, SrtO.Srtd ltv out → SrtO.Stb ltv out its → Q (.ref (s.heap.objs.size + 1)) { s with heap := sortedAll s.heap its out.toArray }) : wpAny (model X.prog X.w) A (call (.builtin "sorted") [.ref a]) Q E s := by
  rcases h with h | h
  · exact SrtO.sorted_ord O h hz cmp q
  · exact ELR.list_made O h hz cmp q
theorem sqa_at (I : Inv X pins σ H s) {a : Addr} {ys : List V} (h : SqA X.K H a ys) : ∃ its, Vals ys its ∧ (s.heap.IsList a its.toArray ∨ IsTup s.heap a its.toArray) ∧ its.length ≤ sizeLine := by
  rcases h with h | h
  · obtain ⟨its, rv, hl, hz⟩ := I.list h
    exact ⟨its, rv, .inl hl.isList, by rw [← rv.length]; exact hz⟩
  · obtain ⟨its, rv, hl, hz⟩ := I.tuple h
    exact ⟨its, rv, .inr hl, by rw [← rv.length]; exact hz⟩
def rSrtS (K : PySem.W.Frag) : List V → Hp → VK → Prop := fun vs H Q => ∃ a xs, vs = [V.ref a] ∧ SqA K H a (xs.map V.str) ∧ ∀ p, H p = none → Q (.ref p) (upd H p (.lst ((srt lessS xs).map V.str)))
theorem cr_srtS : CallR X (.builtin "sorted") (rSrtS X.K) := by
  intro pins s σ H vs us Q I r h
  obtain ⟨a, xs, rfl, hs, q⟩ := h
  obtain ⟨its, rv, hl, hz⟩ := sqa_at I hs
  rw [Vals.ref1 r]
  have st := strs_vals rv
  refine sorted_any2 (ys := xs.map V.str) (swo_by linS sv) hl hz (fun h2 h₁ b _ _ => texts_sortable st h2) fun out h1 h2 => ?_
  have fin := out_texts st h1 h2
  obtain ⟨n, hn⟩ := sortedAll_at s.heap its out.toArray
  have len : (xs.map V.str).length = its.length := rv.length
  rw [List.length_map] at len
  exact ⟨.ref _, upd H (s.heap.objs.size + 1) (.lst ((srt lessS xs).map V.str)), I.laid (t' := s.toks) (fun _ _ => sortedAll_old) (Nat.le_succ _) ⟨by rw [List.length_map, srt_len, len]; exact hz, out, n, vals_strs fin, hn⟩, rfl, q _ (I.hok.fresh (Nat.le_succ _))⟩
/-! ### pairs -/
def PrV (K : PySem.W.Frag) (H : Hp) (y : V) (p : Str × Str) : Prop := ∃ t, y = .ref t ∧ SqT K H t [V.str p.1, V.str p.2]
theorem pr_of (I : Inv X pins σ H s) {y : V} {p : Str × Str} {u : Value} (h : PrV X.K H y p) (r : RelV y u) : Pr s.heap u p := by
  obtain ⟨t, rfl, h⟩ := h
  cases r
  obtain ⟨its, rv, ⟨o, e1, e2, n, e3⟩, _⟩ := I.tuple h
  match its, rv with
  | [x1, x2], .cons r1 (.cons r2 .nil) =>
    obtain ⟨t1, rfl⟩ := r1
    obtain ⟨t2, rfl⟩ := r2
    exact ⟨t, o, t1, t2, n, rfl, e1, e2, e3⟩
theorem pr_one {h : Heap} {v : Value} {p q : Str × Str} (a : Pr h v p) (b : Pr h v q) : p = q := by
  obtain ⟨a, o, t, u, n, rfl, h1, _, h2⟩ := a
  obtain ⟨a', o', t', u', n', e, h1', _, h2'⟩ := b
  cases e
  rw [h1] at h1'; cases h1'
  rw [h2] at h2'
  injection h2' with e _
  have e := congrArg Array.toList e
  simp at e
  exact Prod.ext e.1.1 e.2.1
/-- side by side -/
def PrsV (K : PySem.W.Frag) (H : Hp) : List V → List (Str × Str) → Prop
  | [], ps => ps = []
  | y :: ys, ps => ∃ p qs, ps = p :: qs ∧ PrV K H y p ∧ PrsV K H ys qs
theorem prs_of (I : Inv X pins σ H s) : ∀ {ys : List V} {ps : List (Str × Str)} {us : List Value}, PrsV X.K H ys ps → Vals ys us → ∀ k : Value → Str × Str, (∀ u p, Pr s.heap u p → k u = p) → us.map k = ps ∧ ∀ u ∈ us, Pr s.heap u (k u)
  | [], ps, us, h, r, k, hk => by
    cases r
    cases h
    exact ⟨rfl, fun _ z => absurd z List.not_mem_nil⟩
  | y :: ys, ps, us, ⟨p, qs, e, h1, h2⟩, r, k, hk => by
    subst e
    cases r with
    | cons r1 r2 =>
      obtain ⟨e1, e2⟩ := prs_of I h2 r2 k hk
      have z := pr_of I h1 r1
      refine ⟨by rw [List.map_cons, e1, hk _ _ z], fun u hu => ?_⟩
      rcases List.mem_cons.mp hu with rfl | hu
      · rw [hk _ _ z]; exact z
      · exact e2 u hu
theorem prs_refs {K : PySem.W.Frag} : ∀ {ys : List V} {ps : List (Str × Str)}, PrsV K H ys ps → ∀ y ∈ ys, ∃ a, y = V.ref a
  | [], _, _, y, hy => absurd hy List.not_mem_nil
  | z :: ys, _, ⟨p, qs, _, ⟨t, e, _⟩, h2⟩, y, hy => by
    rcases List.mem_cons.mp hy with rfl | hy
    · exact ⟨t, e⟩
    · exact prs_refs h2 y hy
/-- sorted(xs), pairs of texts -/
def rSrtP (K : PySem.W.Frag) : List V → Hp → VK → Prop := fun vs H Q => ∃ a ys ps, vs = [V.ref a] ∧ SqA K H a ys ∧ PrsV K H ys ps ∧ ∀ zs p, zs.length = ps.length → (zs.zip (srt lessP ps)).Perm (ys.zip ps) → H p = none → Q (.ref p) (upd H p (.lst zs))
theorem cr_srtP : CallR X (.builtin "sorted") (rSrtP X.K) := by
  intro pins s σ H vs us Q I r h
  obtain ⟨a, ys, ps, rfl, hs, hp, q⟩ := h
  obtain ⟨its, rv, hl, hz⟩ := sqa_at I hs
  rw [Vals.ref1 r]
  obtain ⟨k, hk⟩ : ∃ k : Value → Str × Str, ∀ u p, Pr s.heap u p → k u = p := by
    have each : ∀ u : Value, ∃ x : Str × Str, ∀ p, Pr s.heap u p → x = p := fun u => by
      by_cases ex : ∃ p, Pr s.heap u p
      · obtain ⟨x, hx⟩ := ex
        exact ⟨x, fun p hp => pr_one hx hp⟩
      · exact ⟨(Str.empty, Str.empty), fun p hp => absurd ⟨p, hp⟩ ex⟩
    exact ⟨fun u => Classical.choose (each u), fun u => Classical.choose_spec (each u)⟩
  obtain ⟨ek, all⟩ := prs_of I hp rv k hk
  obtain ⟨ey, _⟩ := bkV_refs rv (prs_refs hp)
  refine sorted_any2 (ys := ys) (swo_by linP k) hl hz (fun h2 h₁ b hb kk => ?_) fun out h1 h2 => ?_
  · refine prs_sortable (s := { s with heap := h₁ }) (by omega) (fun v hv => (all v hv).keep fun b o e _ => (kk b o e).2) fun o e c => ?_
    have e' : some o = some (seqObj "list" its.toArray 0) := e.symm.trans hb
    cases e'
    exact absurd (Value.type.inj c) (by decide)
  · have eo : out.map k = srt lessP ps := by
      refine srt_eq linP ?_ (List.pairwise_map.mpr h1)
      have z := h2.perm.map k
      rw [ek] at z; exact z
    have vo : ∀ v ∈ out, ∃ a, v = Value.ref a := fun v hv => by
      obtain ⟨a, _, _, _, _, e, _⟩ := all v (h2.perm.mem_iff.mp hv)
      exact ⟨a, e⟩
    obtain ⟨n, hn⟩ := sortedAll_at s.heap its out.toArray
    have len : ys.length = its.length := rv.length
    have lo : out.length = its.length := h2.perm.length_eq
    have lp : ps.length = its.length := by rw [← ek, List.length_map]
    refine ⟨.ref _, upd H (s.heap.objs.size + 1) (.lst (out.map bkV)), I.laid (t' := s.toks) (fun _ _ => sortedAll_old) (Nat.le_succ _) ⟨by rw [List.length_map, lo]; exact hz, out, n, bkV_vals vo, hn⟩, rfl, q _ _ (by rw [List.length_map, lo, lp]) ?_ (I.hok.fresh (Nat.le_succ _))⟩
    have z : ∀ l : List Value, (l.map bkV).zip (l.map k) = l.map fun u => (bkV u, k u) := fun l => by
      induction l with
      | nil => rfl
      | cons x l ih => rw [List.map_cons, List.map_cons, List.zip_cons_cons, ih, List.map_cons]
    rw [← eo, ey, ← ek, z, z]
    exact h2.perm.map _
end
/-! ### over data -/
/-- a tuple of texts, a pair of texts as data -/
def tpD (xs : List Str) : D := .tup (xs.map D.str)
def ptD (p : Str × Str) : D := tpD [p.1, p.2]
def sortD (ds : List D) (Q : D → Prop) : Prop := (∃ x xs, ds = [x] ∧ seqD x = some (xs.map D.str) ∧ Q (.lst ((srt lessS xs).map D.str))) ∨ ∃ x ps, ds = [x] ∧ seqD x = some (ps.map ptD) ∧ Q (.lst ((srt lessP ps).map ptD))
theorem prs_rep {K : PySem.W.Frag} {F H : Hp} (sub : Same F H) : ∀ {ps : List (Str × Str)} {vs : List V}, Reps K F (ps.map ptD) vs → PrsV K H vs ps
  | [], vs, h => by cases h; rfl
  | p :: ps, vs, ⟨v, r, e, h1, h2⟩ => by
    subst e
    obtain ⟨t, ws, rfl, h3, _, h4⟩ := h1
    obtain ⟨ew, _⟩ := reps_strs (ns := [p.1, p.2]) h4
    subst ew
    exact ⟨p, ps, rfl, ⟨t, rfl, Same.seqT sub h3⟩, prs_rep sub h2⟩
theorem reps_zip {K : PySem.W.Frag} {F : Hp} : ∀ {ds : List D} {vs : List V}, Reps K F ds vs → ∀ q ∈ vs.zip ds, Rep K F q.2 q.1
  | [], vs, h, q, hq => by simp at hq
  | d :: ds, _, ⟨v, r, e, h1, h2⟩, q, hq => by
    subst e
    rw [List.zip_cons_cons] at hq
    rcases List.mem_cons.mp hq with rfl | hq
    · exact h1
    · exact reps_zip h2 q hq
theorem zip_reps {K : PySem.W.Frag} {F : Hp} : ∀ {ds : List D} {vs : List V}, vs.length = ds.length → (∀ q ∈ vs.zip ds, Rep K F q.2 q.1) → Reps K F ds vs
  | [], vs, h, _ => List.eq_nil_of_length_eq_zero h
  | d :: ds, [], h, _ => by cases h
  | d :: ds, v :: vs, h, a => .cons (a (v, d) (by rw [List.zip_cons_cons]; exact List.mem_cons_self)) (zip_reps (by simpa using h) fun q hq => a q (by rw [List.zip_cons_cons]; exact List.mem_cons_of_mem _ hq))
def rSortT (K : PySem.W.Frag) : List V → Hp → VK → Prop := fun vs H Q => rSrtS K vs H Q ∨ rSrtP K vs H Q
theorem cr_sortT2 {X : Cx} : CallR X (.builtin "sorted") (rSortT X.K) := fun pins s σ H vs us Q I r h => by
  rcases h with h | h
  · exact cr_srtS pins s σ H vs us Q I r h
  · exact cr_srtP pins s σ H vs us Q I r h
theorem o_sortT {K : PySem.W.Frag} : OpN K (rSortT K) sortD := by
  intro F H ds vs Qd Q sub rs h hQ
  rcases h with ⟨x, xs, rfl, e, q⟩ | ⟨x, ps, rfl, e, q⟩
  · obtain ⟨v, _, rfl, rv, rn⟩ := rs
    cases rn
    obtain ⟨a, ws, rfl, h1, h2, h3⟩ := seq_at sub rv e
    obtain ⟨ew, ok⟩ := reps_strs h3
    subst ew
    refine .inl ⟨a, xs, rfl, h1, fun p np => ?_⟩
    have g : Grow F H (upd F p (.lst ((srt lessS xs).map V.str))) (upd H p (.lst ((srt lessS xs).map V.str))) := Grow.new sub np
    exact hQ _ _ _ _ q g ⟨p, _, rfl, upd_same, by rw [List.length_map, srt_len]; rw [List.length_map] at h2; exact h2, reps_of_strs _ fun y hy => ok y (srt_mem.mp hy)⟩
  · obtain ⟨v, _, rfl, rv, rn⟩ := rs
    cases rn
    obtain ⟨a, ws, rfl, h1, h2, h3⟩ := seq_at sub rv e
    have len := h3.length
    rw [List.length_map] at len
    refine .inr ⟨a, ws, ps, rfl, h1, prs_rep sub h3, fun zs p lz pm np => ?_⟩
    have g : Grow F H (upd F p (.lst zs)) (upd H p (.lst zs)) := Grow.new sub np
    refine hQ _ _ _ _ q g ⟨p, zs, rfl, upd_same, by rw [lz, ← len]; exact h2, ?_⟩
    refine Reps.mono g.fF _ _ (zip_reps (by rw [List.length_map, srt_len, lz]) fun q hq => ?_)
    rw [List.zip_map_right] at hq
    obtain ⟨q0, hq0, rfl⟩ := List.mem_map.mp hq
    have z := pm.mem_iff.mp hq0
    exact reps_zip h3 (q0.1, ptD q0.2) (by rw [List.zip_map_right]; exact List.mem_map.mpr ⟨q0, z, rfl⟩)
end DL

set_option Elab.async false
set_option linter.all false
set_option maxRecDepth 100000
/-! EL16: the rules for a def's own sets of texts and of tuples of texts, over data -/
namespace DL
open PySem PySem.Spec PyProof.Rows L2 TL TX TO
section
variable {X : Cx} {m : Mem} {E : Ent m} {e : Expr} {te : DT m} {pos : Pos}
/-- x = set(), then for texts -/
def dSetT {m : Mem} (w : World) (i : Nat) : DTS m := fun dd ρ s => dd.nx (ρ.set i (.ow (.box (txO w [])))) s
/-- x = set(), then for tuples of texts -/
def dSetP {m : Mem} (w : World) (i : Nat) : DTS m := fun dd ρ s => dd.nx (ρ.set i (.ow (.bag (psO w) []))) s
theorem ds_setT (i : Nat) {x : Str} {pos' cp np : Pos} (hN : X.N.Nodup) (hg : Gl X "set") (hm : X.mg "set" = none) (hi : X.N[i]? = some x := by rfl) (hx : Loc X.env.scope x := by first | exact Or.inl rfl | exact Or.inr rfl)
    (hs : swapsWith (.Call (.Name "set" np) [] [] cp) (some (.Name x pos')) pos.line X.env = pure false := by rfl) (hf : X.fn x = true ∨ X.env.scope.names.lookup x = some .local := by first | exact .inl rfl | exact .inr rfl) :
    PS X (.Assign [.Name x pos'] (.Call (.Name "set" np) [] [] cp) pos) (upS X.K m E (dSetT X.w i)) := PS.imp (ps_set hN hi hx (pe_callTy0 cr_tx0 hg hm (by decide +kernel)) hs hf) fun DD σ H h => by
  obtain ⟨F, ρ, s, dd, r, o, ht, f⟩ := h
  exact ⟨rfl, fun p np => f.nx F _ _ _ s (Same.refl F) (r.putO (o := .box (txO X.w [])) np rfl) (Own.putO r o np) ht⟩
theorem ds_setP (i : Nat) {x : Str} {pos' cp np : Pos} (hN : X.N.Nodup) (hg : Gl X "set") (hm : X.mg "set" = none) (hi : X.N[i]? = some x := by rfl) (hx : Loc X.env.scope x := by first | exact Or.inl rfl | exact Or.inr rfl)
    (hs : swapsWith (.Call (.Name "set" np) [] [] cp) (some (.Name x pos')) pos.line X.env = pure false := by rfl) (hf : X.fn x = true ∨ X.env.scope.names.lookup x = some .local := by first | exact .inl rfl | exact .inr rfl) :
    PS X (.Assign [.Name x pos'] (.Call (.Name "set" np) [] [] cp) pos) (upS X.K m E (dSetP X.w i)) := PS.imp (ps_set hN hi hx (pe_callTy0 cr_ps0 hg hm (by decide +kernel)) hs hf) fun DD σ H h => by
  obtain ⟨F, ρ, s, dd, r, o, ht, f⟩ := h
  exact ⟨rfl, fun p np => f.nx F _ _ _ s (Same.refl F) (r.putO (o := .bag (psO X.w) []) np ⟨[], rfl, .nil, fun _ z => absurd z List.not_mem_nil⟩) (Own.putO r o np) ht⟩
/-- x.add(e), texts -/
def dAddT {m : Mem} (w : World) (i : Nat) (te : DT m) : DTS m := fun dd ρ s => (∃ xs, ρ[i]? = some (.ow (.box (txO w xs)))) ∧ te ρ s fun d ρ1 s1 => ∃ k xs, d = .str k ∧ ρ1[i]? = some (.ow (.box (txO w xs))) ∧ xs.length + 1 < 4096 ∧ dd.nx (ρ1.set i (.ow (.box (txO w (if k ∈ xs then xs else k :: xs))))) s1
/-- x.add(e), tuples of texts -/
def dAddP {m : Mem} (w : World) (i : Nat) (te : DT m) : DTS m := fun dd ρ s => (∃ ks, ρ[i]? = some (.ow (.bag (psO w) ks))) ∧ te ρ s fun d ρ1 s1 => ∃ k ks, d = tpD k ∧ ρ1[i]? = some (.ow (.bag (psO w) ks)) ∧ ks.length < 76 ∧ dd.nx (ρ1.set i (.ow (.bag (psO w) (if k ∈ ks then ks else k :: ks)))) s1
theorem ds_addT (i : Nat) {x : Str} {xpos apos cpos : Pos} (he : PE X e (up X.K m te)) (hN : X.N[i]? = some x := by rfl) (hv : Vis X.env.scope x := by first | exact Or.inl rfl | exact Or.inr (Or.inl rfl) | exact Or.inr (Or.inr rfl))
    (hd : (x == ("__debug__" : Str)) = false := by decide) (hcd : (x == ("__classdict__" : Str)) = false := by decide)
    (hbase : attributeBase (.Name x xpos) "add" X.env (eval (.Name x xpos) X.env) = eval (.Name x xpos) X.env := by rfl)
    (hfew : ((backTo cpos (starEach [e] X.env)).all (fun x => !x.1) && (backToKw cpos (keywordEach [] X.env)).all (fun x => x.1.isSome)
      && decide ([e].length + ([] : List Keyword).length + (if ([] : List Keyword).isEmpty then 0 else 1) < 30)) = true := by rfl)
    (hline : (apos.endLine == cpos.line) = true := by rfl) (hs : starEach [e] X.env = [(false, eval e X.env)] := by rfl)
    (hsw : swapsWith (.Call (.Attribute (.Name x xpos) "add" apos) [e] [] cpos) none pos.line X.env = pure false := by rfl) :
    PS X (.Expr (.Call (.Attribute (.Name x xpos) "add" apos) [e] [] cpos) pos) (upS X.K m E (dAddT X.w i te)) :=
  PS.imp (ps_expr (pe_setAdd mt_txAdd (pv i hN hv hd hcd) (pa_cons he pa_nil (by rw [hs]; rfl)) hbase hfew hline (by rw [hs]; rfl) rfl) hsw) fun DD σ H h => by
  obtain ⟨F, ρ, s, dd, r, o, ⟨⟨xs0, e0⟩, ht⟩, f⟩ := h
  obtain ⟨p, ho, h1, h2, h3, h4, h5⟩ := r.own_at e0
  have h3 : ho = txO X.w xs0 p := h3
  subst h3
  refine ⟨_, h1, ⟨p, rfl, .inl ⟨_, _, h2⟩⟩, F, ρ, s, _, r, ht, fun d ρ1 s1 v F1 H1 ⟨k, xs, ed, e1, few, q1⟩ r1 st1 rv => ?_⟩
  subst ed
  obtain ⟨rfl, _⟩ := rv
  obtain ⟨p', ho, g1, g2, g3, g4, g5⟩ := r1.own_at e1
  have g3 : ho = txO X.w xs p' := g3
  subst g3
  rw [h1] at g1; cases g1
  refine ⟨p, k, xs, rfl, rfl, g2, few, ?_⟩
  exact f.nx F1 _ σ _ s1 st1.ext (r1.write (o' := .box (txO X.w (if k ∈ xs then xs else k :: xs))) e1 h1 rfl) ((o.stp st1).write (K := X.K) e1 h1) q1
theorem ds_addP (i : Nat) {x : Str} {xpos apos cpos : Pos} (hu : X.A.units + 64 < cLine) (he : PE X e (up X.K m te)) (hN : X.N[i]? = some x := by rfl) (hv : Vis X.env.scope x := by first | exact Or.inl rfl | exact Or.inr (Or.inl rfl) | exact Or.inr (Or.inr rfl))
    (hd : (x == ("__debug__" : Str)) = false := by decide) (hcd : (x == ("__classdict__" : Str)) = false := by decide)
    (hbase : attributeBase (.Name x xpos) "add" X.env (eval (.Name x xpos) X.env) = eval (.Name x xpos) X.env := by rfl)
    (hfew : ((backTo cpos (starEach [e] X.env)).all (fun x => !x.1) && (backToKw cpos (keywordEach [] X.env)).all (fun x => x.1.isSome)
      && decide ([e].length + ([] : List Keyword).length + (if ([] : List Keyword).isEmpty then 0 else 1) < 30)) = true := by rfl)
    (hline : (apos.endLine == cpos.line) = true := by rfl) (hs : starEach [e] X.env = [(false, eval e X.env)] := by rfl)
    (hsw : swapsWith (.Call (.Attribute (.Name x xpos) "add" apos) [e] [] cpos) none pos.line X.env = pure false := by rfl) :
    PS X (.Expr (.Call (.Attribute (.Name x xpos) "add" apos) [e] [] cpos) pos) (upS X.K m E (dAddP X.w i te)) :=
  PS.imp (ps_expr (pe_setAdd (mt_psAdd hu) (pv i hN hv hd hcd) (pa_cons he pa_nil (by rw [hs]; rfl)) hbase hfew hline (by rw [hs]; rfl) rfl) hsw) fun DD σ H h => by
  obtain ⟨F, ρ, s, dd, r, o, ⟨⟨ks0, e0⟩, ht⟩, f⟩ := h
  obtain ⟨p, ho, h1, h2, ⟨L0, rfl, _, _⟩, h4, h5⟩ := r.own_at e0
  refine ⟨_, h1, ⟨p, rfl, .inr ⟨_, _, h2⟩⟩, F, ρ, s, _, r, ht, fun d ρ1 s1 v F1 H1 ⟨k, ks, ed, e1, few, q1⟩ r1 st1 rv => ?_⟩
  subst ed
  obtain ⟨t, ws, rfl, t1, _, t2⟩ := rv
  obtain ⟨ew, _⟩ := reps_strs t2
  subst ew
  obtain ⟨p', ho, g1, g2, ⟨L, rfl, pm, al⟩, g4, g5⟩ := r1.own_at e1
  rw [h1] at g1; cases g1
  have lenL : L.length = ks.length := by rw [← pm.length_eq, List.length_map]
  refine ⟨p, t, k, L, rfl, rfl, g2, Same.seqT r1.sub t1, fun q hq => Same.seqT r1.sub (al q hq), by omega, fun L' k1 k2 => ?_⟩
  refine f.nx F1 _ σ _ s1 st1.ext (r1.write (o' := .bag (psO X.w) (if k ∈ ks then ks else k :: ks)) e1 h1 ⟨L', rfl, ?_, ?_⟩) ((o.stp st1).write (K := X.K) e1 h1) q1
  · by_cases hk : k ∈ ks
    · rw [if_pos hk, k1 (pm.mem_iff.mpr hk)]; exact pm
    · rw [if_neg hk]
      have z := (k2 fun z => hk (pm.mem_iff.mp z)).map (·.2)
      exact z.trans (pm.cons k)
  · by_cases hk : k ∈ ks
    · rw [k1 (pm.mem_iff.mpr hk)]; exact al
    · intro q hq
      have z := (k2 fun z => hk (pm.mem_iff.mp z)).mem_iff.mp hq
      rcases List.mem_cons.mp z with rfl | z
      · exact t1
      · exact al q z
/-- sorted(x) -/
def dSortT {m : Mem} (w : World) (i : Nat) : DT m := fun ρ s Q => ∃ xs, ρ[i]? = some (.ow (.box (txO w xs))) ∧ xs.length < 4096 ∧ (∀ x ∈ xs, sOk x = true) ∧ Q (.lst ((srt lessS xs).map D.str)) ρ s
theorem de_sortT (i : Nat) {x : Str} {xpos p : Pos} (hc : X.calm = true) (hg : Gl X "sorted") (hm : X.mg "sorted" = none) (hN : X.N[i]? = some x := by rfl) (hv : Vis X.env.scope x := by first | exact Or.inl rfl | exact Or.inr (Or.inl rfl) | exact Or.inr (Or.inr rfl))
    (hd : (x == ("__debug__" : Str)) = false := by decide) (hcd : (x == ("__classdict__" : Str)) = false := by decide)
    (hs : starEach [.Name x xpos] X.env = [(false, eval (.Name x xpos) X.env)] := by rfl) : PE X (.Call (.Name "sorted" p) [.Name x xpos] [] pos) (up X.K m (dSortT X.w i)) :=
  PE.imp (pe_callB (cr_txSorted hc) hg hm (by decide +kernel) (pa_cons (pv i hN hv hd hcd) pa_nil (by rw [hs]; rfl)) (by decide) (by decide) (by rw [hs]; rfl) rfl) fun σ H Q h => by
    obtain ⟨F, ρ, s, Qd, r, ⟨xs, e0, few, ok, q⟩, hQ⟩ := h
    obtain ⟨a, ho, h1, h2, h3, h4, h5⟩ := r.own_at e0
    have h3 : ho = txO X.w xs a := h3
    subst h3
    refine ⟨_, h1, a, xs, rfl, h2, few, fun p np => ?_⟩
    have g : Grow F H (upd F p (.lst ((srt lessS xs).map V.str))) (upd H p (.lst ((srt lessS xs).map V.str))) := Grow.new r.sub np
    exact hQ _ ρ s _ _ _ q (r.grow g) g.stp ⟨p, _, rfl, upd_same, by rw [List.length_map, srt_len, sizeLine_eq]; omega, reps_of_strs _ fun y hy => ok y (srt_mem.mp hy)⟩
/-- e in x, e not in x -/
def dInP {m : Mem} (w : World) (neg : Bool) (te : DT m) (i : Nat) : DTT m := fun ρ s Q => te ρ s fun d ρ1 s1 => ∃ k ks, d = tpD k ∧ ρ1[i]? = some (.ow (.bag (psO w) ks)) ∧ Q (neg ^^ decide (k ∈ ks)) ρ1 s1
theorem up_inP {K : PySem.W.Frag} {w : World} {i : Nat} {neg : Bool} {σ : L2.St} {H : Hp} {Q : Bool → Hp → Prop} (h : upT K m (dInP w neg te i) σ H Q) :
    up K m te σ H fun x H1 => tVar i σ H1 fun y H2 => rPsIn K w neg x y H2 fun v H3 => ∃ b, v = .bl b ∧ Q b H3 := by
  obtain ⟨F, ρ, s, Qd, r, ht, hQ⟩ := h
  refine ⟨F, ρ, s, _, r, ht, fun d ρ1 s1 v F1 H1 ⟨k, ks, ed, e1, q1⟩ r1 st1 rv => ?_⟩
  subst ed
  obtain ⟨t, ws, rfl, t1, _, t2⟩ := rv
  obtain ⟨ew, _⟩ := reps_strs t2
  subst ew
  obtain ⟨p, ho, g1, g2, ⟨L, rfl, pm, al⟩, g4, g5⟩ := r1.own_at e1
  refine ⟨.ref p, g1, p, t, k, L, rfl, rfl, g2, Same.seqT r1.sub t1, fun q hq => Same.seqT r1.sub (al q hq), _, rfl, ?_⟩
  rw [show decide (k ∈ L.map (·.2)) = decide (k ∈ ks) from decide_eq_decide.mpr pm.mem_iff]
  exact hQ _ ρ1 s1 F1 H1 q1 r1 st1
theorem dt_inP (i : Nat) {x : Str} {xpos : Pos} (hu : X.A.units + 64 < cLine) (he : PE X e (up X.K m te)) (hN : X.N[i]? = some x := by rfl) (hv : Vis X.env.scope x := by first | exact Or.inl rfl | exact Or.inr (Or.inl rfl) | exact Or.inr (Or.inr rfl))
    (hd : (x == ("__debug__" : Str)) = false := by decide) (hcd : (x == ("__classdict__" : Str)) = false := by decide) (hm : behindInMarks .In (.Name x xpos) = false := by first | exact nobehind _ (by decide) (by decide) | rfl) : PT X (.Compare e [.In] [.Name x xpos] pos) (upT X.K m (dInP X.w false te i)) :=
  PT.imp (pt_cmpR (op_psIn hu) he (pv i hN hv hd hcd) hm) fun _ _ _ h => up_inP h
end
end DL

set_option Elab.async false
set_option linter.all false
set_option maxRecDepth 100000
/-! EL17: what is asked of an own class by one Bool over K; isinstance of it; its properties by facts -/
namespace DL
open PySem PySem.Spec PyProof.Rows L2 TL
def allTg : List Tg := [.non, .bl, .int, .str, .lst, .tup, .dic]
theorem allTg_mem (t : Tg) : t ∈ allTg := by cases t <;> simp [allTg]
structure OwnC (K : PySem.W.Frag) (C : Addr) : Prop where
  nf : NoFirst K C
  kt : ∀ t, PySem.W.kitOne K (.type (tgS t)) (.ref C) = some false
  ks : PySem.W.kitOne K (.ref C) (.ref C) = some true
  sf : PySem.W.selfFirst K C = true
def ownB (K : PySem.W.Frag) (C : Addr) : Bool := (allTg.all fun t => PySem.W.notFirst K C (.type (tgS t)) && (PySem.W.kitOne K (.type (tgS t)) (.ref C) == some false)) && (PySem.W.kitOne K (.ref C) (.ref C) == some true) && PySem.W.selfFirst K C
theorem ownC_of {K : PySem.W.Frag} {C : Addr} (h : ownB K C = true) : OwnC K C := by
  unfold ownB at h
  rw [Bool.and_eq_true, Bool.and_eq_true, List.all_eq_true] at h
  obtain ⟨⟨h1, h2⟩, h3⟩ := h
  refine ⟨fun t => ?_, fun t => ?_, eq_of_beq h2, h3⟩
  · have z := h1 t (allTg_mem t)
    rw [Bool.and_eq_true] at z; exact z.1
  · have z := h1 t (allTg_mem t)
    rw [Bool.and_eq_true] at z; exact eq_of_beq z.2
theorem propOf_mk {K : PySem.W.Frag} {C p g : Addr} {f : Str} {rest : List Value} (h1 : PySem.W.findIn K (.ref C) f = some (some (.ref p))) (h2 : PySem.W.specialIn K (.ref p) "__get__" = some (some (.builtin "property.__get__")))
    (h3 : PySem.W.takesIn K (.ref p) = some true) (h4 : PySem.W.recIn K p "property" = some (.ref g :: rest)) : PropOf K C f p g := ⟨h1, h2, h3, rest, h4⟩
end DL

set_option Elab.async false
set_option linter.all false
set_option maxRecDepth 100000
/-! EL18: sorted(set(xs)), xs a list or a tuple of texts -/
namespace DL
open PySem PySem.Spec PyProof.Rows L2 TL TX TO
/-- each once -/
def once {α : Type} [DecidableEq α] (xs : List α) : List α := xs.foldl (fun acc k => if k ∈ acc then acc else k :: acc) []
section
variable {α : Type} [DecidableEq α]
theorem once_snoc (xs : List α) (k : α) : once (xs ++ [k]) = if k ∈ once xs then once xs else k :: once xs := by
  unfold once
  rw [List.foldl_append]; rfl
theorem once_both : ∀ (xs acc : List α), acc.Nodup → (xs.foldl (fun acc k => if k ∈ acc then acc else k :: acc) acc).Nodup ∧ ∀ x, x ∈ xs.foldl (fun acc k => if k ∈ acc then acc else k :: acc) acc ↔ x ∈ xs ∨ x ∈ acc
  | [], acc, h => ⟨h, fun x => by simp⟩
  | k :: xs, acc, h => by
    rw [List.foldl_cons]
    by_cases hk : k ∈ acc
    · rw [if_pos hk]
      obtain ⟨h1, h2⟩ := once_both xs acc h
      refine ⟨h1, fun x => (h2 x).trans ⟨fun z => z.elim (fun y => .inl (List.mem_cons_of_mem _ y)) .inr, fun z => z.elim (fun y => ?_) .inr⟩⟩
      rcases List.mem_cons.mp y with rfl | y
      · exact .inr hk
      · exact .inl y
    · rw [if_neg hk]
      obtain ⟨h1, h2⟩ := once_both xs (k :: acc) (List.nodup_cons.mpr ⟨hk, h⟩)
      refine ⟨h1, fun x => (h2 x).trans ?_⟩
      rw [List.mem_cons, List.mem_cons]
      constructor
      · rintro (z | z | z)
        · exact .inl (.inr z)
        · exact .inl (.inl z)
        · exact .inr z
      · rintro ((z | z) | z)
        · exact .inr (.inl z)
        · exact .inl z
        · exact .inr (.inr z)
theorem once_nodup (xs : List α) : (once xs).Nodup := (once_both xs [] List.nodup_nil).1
theorem once_mem {xs : List α} {x : α} : x ∈ once xs ↔ x ∈ xs := ((once_both xs [] List.nodup_nil).2 x).trans (by simp)
theorem once_len : ∀ (xs : List α), (once xs).length ≤ xs.length := fun xs => by
  have key : ∀ (xs acc : List α), (xs.foldl (fun acc k => if k ∈ acc then acc else k :: acc) acc).length ≤ xs.length + acc.length := by
    intro xs
    induction xs with
    | nil => intro acc; simp
    | cons k xs ih =>
      intro acc
      rw [List.foldl_cons, List.length_cons]
      by_cases hk : k ∈ acc
      · rw [if_pos hk]; have := ih acc; omega
      · rw [if_neg hk]
        have := ih (k :: acc)
        rw [List.length_cons] at this; omega
  exact key xs []
theorem once_next {xs : List α} {i : Nat} {k : α} (h : xs[i]? = some k) : once (xs.take (i + 1)) = if k ∈ once (xs.take i) then once (xs.take i) else k :: once (xs.take i) := by
  have e : xs.take (i + 1) = xs.take i ++ [k] := by rw [List.take_add_one, h]; rfl
  rw [e, once_snoc]
end
section
variable {P : Program} {w : World} {A : Around} {E : Value → Shared → Prop} {s : Shared} {a : Addr} {xs : List Str}
theorem sadd_tx {k : Str} {u : Tok} {Q : Bool → Shared → Prop} (R : Tset w s.heap a xs) (room : xs.length + 1 < scanBound)
    (q : ∀ b h', Heap.SameBut a s.heap h' → Tset w h' a (if k ∈ xs then xs else k :: xs) → Q b { s with heap := h', toks := s.toks + 1 }) : wpAny (model P w) A (setAdd a (.str k u)) Q E s := by
  unfold setAdd
  refine wpAny_holding (wpAny_bind ((PySem.strKind P w).pyHash (Froz.is_str (P := P) (w := w) k u) ?_))
  have R1 : Tset w { s with toks := s.toks + 1 }.heap a xs := R
  by_cases hk : k ∈ xs
  · rw [if_pos hk] at q
    exact there_tx (s := { s with toks := s.toks + 1 }) R1 hk (Nat.lt_of_succ_lt room) (q _ _ (Heap.SameBut.refl a s.heap) R)
  · rw [if_neg hk] at q
    obtain ⟨D, e, T, nd, ri, le⟩ := R
    refine Froz.add_x (s := { s with toks := s.toks + 1 }) (l := xs) (D := D) (T := "set") e (T P) hk room ?_
    have z := add_ris (h := hashStr w k) (v := .str k u) ri
    exact q _ _ (Heap.SameBut.update ..) ⟨Froz.addTx (hashStr w k) (.str k u) D, Froz.get_upd _ e rfl, fun P' => Froz.add_ok u (T P'), List.nodup_cons.mpr ⟨hk, nd⟩, z.1, le.imp id fun y => z.2.trans y⟩
theorem strs_get : ∀ {vs : List Value} {xs : List Str}, StrsAre vs xs → ∀ (i : Nat) (v : Value), vs[i]? = some v → ∃ k t, xs[i]? = some k ∧ v = .str k t
  | _, _, .nil, i, v, h => by simp at h
  | _, _, .cons y t r, 0, v, h => ⟨y, t, rfl, by simpa using h.symm⟩
  | _, _, .cons y t r, i + 1, v, h => by
    obtain ⟨k, t', h1, h2⟩ := strs_get r i v (by simpa using h)
    exact ⟨k, t', by simpa using h1, h2⟩
end
section
variable {X : Cx}
def rSetTx (K : PySem.W.Frag) (w : World) : List V → Hp → VK → Prop := fun vs H Q => ∃ a xs, vs = [V.ref a] ∧ SqA K H a (xs.map V.str) ∧ xs.length < 4000 ∧ ∀ p, H p = none → Q (.ref p) (upd H p (txO w (once xs) p))
theorem cr_setTx (hc : X.calm = true) : CallR X (.type "set") (rSetTx X.K X.w) := by
  intro pins s σ H vs us Q I r h
  obtain ⟨a, xs, rfl, hs, few, q⟩ := h
  rw [Vals.ref1 r]
  have hl : ∃ (its : List Value) (tn : String) (o : Obj) (n : Nat), StrsAre its xs ∧ (tn = "list" ∨ tn = "tuple") ∧ s.heap.get? a = some o ∧ o.cls = .type tn ∧ o.data = .seq its.toArray n := by
    rcases hs with hs | hs
    · obtain ⟨its, rv, hl, hz⟩ := I.list hs
      obtain ⟨o, e1, e2, n, e3⟩ := hl.isList
      exact ⟨its, "list", o, n, strs_vals rv, .inl rfl, e1, e2, e3⟩
    · obtain ⟨its, rv, ⟨o, e1, e2, n, e3⟩, hz⟩ := I.tuple hs
      exact ⟨its, "tuple", o, n, strs_vals rv, .inr rfl, e1, e2, e3⟩
  obtain ⟨its, tn, o, n, st, htn, e1, e2, e3⟩ := hl
  have len : its.length = xs.length := StrsAre.len_eq st
  refine SF.made (items := its.toArray) (R := fun i h => Tset X.w h s.heap.objs.size (once (xs.take i))) htn (I.ok.hd hc) ⟨o, n, e1, e2, e3⟩ ⟨fun i h h' R k => R.keep k, fun i v s' Q hv old R hQ => ?_⟩ (fun h e => ?_) fun h' tk R old => ?_
  · obtain ⟨k, t, hk, rfl⟩ := strs_get st i v (by simpa using hv)
    refine sadd_tx R ?_ fun b h' sb R' => hQ b h' _ sb (Nat.le_succ _) ?_
    · have := once_len (xs.take i)
      rw [List.length_take] at this
      unfold scanBound; omega
    · show Tset X.w h' s.heap.objs.size (once (xs.take (i + 1)))
      rw [once_next hk]; exact R'
  · exact ⟨(#[], 0, .fresh 0 0 (!X.w.params.followText "set-order")), e, fun P => Froz.TxOk.nil rfl, List.nodup_nil, List.Pairwise.nil, by
      cases X.w.params.followText "set-order" with
      | true => exact .inl rfl
      | false => exact .inr rfl⟩
  · have fin : Tset X.w h' s.heap.objs.size (once xs) := by
      have z : its.toArray.size = xs.length := by rw [List.size_toArray, len]
      rw [z, List.take_length] at R; exact R
    have hn : H s.heap.objs.size = none := I.hok.fresh (Nat.le_refl _)
    exact ⟨.ref _, upd H s.heap.objs.size (txO X.w (once xs) s.heap.objs.size), I.laid (t' := tk) old (Nat.le_refl _) (txO_new fin), rfl, q _ hn⟩
variable {m : Mem} {e : Expr} {te : DT m} {pos p p2 cp : Pos}
end
end DL

set_option Elab.async false
set_option linter.all false
set_option maxRecDepth 100000
/-! EL19: o.m(e, ..), o an instance, m a def of its class -/
namespace DL
open PySem PySem.Spec PyProof.Rows L2 TL
section
variable {X : Cx} {m : Mem} {o e : Expr} {es : List Expr} {to : DT m} {u : DTA m} {pos apos : Pos} {C f : Addr} {k n : Nat} {fd : FuncData} {ps : List Str} {mn : Str}
end
end DL

set_option Elab.async false
set_option linter.all false
set_option maxRecDepth 100000
set_option maxHeartbeats 1000000
namespace RP
open PySem PySem.Spec PyProof.Rows L2 TL DL TX TO
theorem line_of2 {n : Nat} (h : n ≤ 1000000) : n ≤ sizeLine := Nat.le_trans h (by rw [sizeLine_eq]; decide)
theorem lz {n : Nat} (h : Nat.ble n 1000000 = true) : n ≤ sizeLine := line_of2 (Nat.le_of_ble_eq_true h)
theorem len_add (a b : Str) : (a ++ b).length = a.length + b.length := by rw [len_tl, tl_append, List.length_append, ← len_tl, ← len_tl]
/-- data that is like itself in all parts -/
def smD : Nat → D → Prop
  | _, .non => True
  | _, .bl _ => True
  | _, .int _ => True
  | _, .str _ => True
  | 0, .lst _ => False
  | n + 1, .lst xs => xs.length ≤ 1000 ∧ ∀ x ∈ xs, smD n x
  | 0, .tup _ => False
  | n + 1, .tup xs => xs.length ≤ 1000 ∧ ∀ x ∈ xs, smD n x
  | _, .dic ks xs => repOk (.dic ks xs) = true
  | _, _ => False
end RP

set_option Elab.async false
set_option linter.all false
set_option maxRecDepth 100000
set_option maxHeartbeats 1000000
/-! LP1: paths, modules, uses, programs: what is said of them over data -/
namespace RP
open PySem PySem.Spec PyProof.Rows L2 TL DL TX TO
/-! ### equality of texts and pairs -/
theorem eqD_pr (p q : Str × Str) : eqD (ptD p) (ptD q) = decide (p = q) := by
  show eqDs [.str p.1, .str p.2] [.str q.1, .str q.2] = _
  rw [show ([.str p.1, .str p.2] : List D) = [p.1, p.2].map .str from rfl, show ([.str q.1, .str q.2] : List D) = [q.1, q.2].map .str from rfl, eqss]
  by_cases h : p = q
  · subst h; simp
  · rw [decide_eq_false h]
    refine beq_eq_false_iff_ne.mpr fun z => h ?_
    injection z with z1 z2
    injection z2 with z2 _
    exact Prod.ext z1 z2
theorem eqDs_str (xs ys : List Str) : eqDs (xs.map .str) (ys.map .str) = decide (xs = ys) := by
  rw [eqss]
  by_cases h : xs = ys
  · subst h; simp
  · rw [decide_eq_false h]; exact beq_eq_false_iff_ne.mpr h
theorem plain_prs : ∀ (n : Nat) (ps : List (Str × Str)), plainDs (n + 1) (ps.map ptD) = true
  | n, [] => rfl
  | n, p :: ps => by
    show (plainD (n + 1) (ptD p) && plainDs (n + 1) (ps.map ptD)) = true
    rw [plain_prs n ps, Bool.and_true]
    exact plain_strs n [p.1, p.2]
theorem any_str (xs : List Str) (z : Str) : (xs.map D.str).any (fun y => eqD y (.str z)) = decide (z ∈ xs) := by
  induction xs with
  | nil => rfl
  | cons x xs ih =>
    rw [List.map_cons, List.any_cons, ih, eqs, show decide (x = z) = decide (z = x) from decide_eq_decide.mpr eq_comm, ← Bool.decide_or]
    exact decide_eq_decide.mpr List.mem_cons.symm
theorem any_pr (ps : List (Str × Str)) (z : Str × Str) : (ps.map ptD).any (fun y => eqD y (ptD z)) = decide (z ∈ ps) := by
  induction ps with
  | nil => rfl
  | cons x xs ih =>
    rw [List.map_cons, List.any_cons, ih, eqD_pr, show decide (x = z) = decide (z = x) from decide_eq_decide.mpr eq_comm, ← Bool.decide_or]
    exact decide_eq_decide.mpr List.mem_cons.symm
theorem sm_strs (n : Nat) (xs : List Str) : ∀ d ∈ xs.map D.str, smD n d := fun d hd => by
  obtain ⟨x, _, rfl⟩ := List.mem_map.mp hd
  cases n <;> exact trivial
theorem sm_tup (n : Nat) {xs : List Str} (h : xs.length ≤ 1000) : smD (n + 1) (.tup (xs.map .str)) := ⟨by rw [List.length_map]; exact h, sm_strs n xs⟩
/-! ### paths -/
def ovS (p o : Str) : Bool := coversS p o || coversS o p
theorem ovS_comm (p o : Str) : ovS p o = ovS o p := Bool.or_comm ..
theorem cov_self (p : Str) : coversS p p = true := by
  unfold coversS
  rw [beq_self_eq_true, Bool.true_or]
theorem ovS_self (p : Str) : ovS p p = true := by unfold ovS; rw [cov_self, Bool.true_or]
theorem ovS_lcov (p o : Str) : (lcov p o || lcov o p) = ovS p o := by unfold ovS; rw [cov_eq, cov_eq]
theorem okName_of {x : Str} (h : NameOk x) : okName x = true := by
  unfold okName okLen
  rw [Bool.and_eq_true, Bool.and_eq_true, List.all_eq_true]
  refine ⟨⟨decide_eq_true h.1, decide_eq_true h.2.1⟩, fun c hc => ?_⟩
  unfold okc
  rw [Bool.and_eq_true]
  have := h.2.2 c hc
  exact ⟨decide_eq_true this.1, decide_eq_true this.2⟩
theorem okName_free {x : Str} (h : okName x = true) : 46 ∉ tl x := fun hm => by
  unfold okName at h
  rw [Bool.and_eq_true, List.all_eq_true] at h
  have z := h.2 46 hm
  unfold okc at z
  exact absurd z (by decide)
/-- a path, of a length that is known -/
def PathS (x : Str) : Prop := isPathS x = true ∧ x.length ≤ 100
theorem PathS.names {x : Str} (h : PathS x) : (splS 46 x).length ≤ 6 ∧ ∀ n ∈ splS 46 x, okName n = true := by
  have z := h.1
  unfold isPathS at z
  rw [Bool.and_eq_true, List.all_eq_true] at z
  exact ⟨of_decide_eq_true z.1, z.2⟩
theorem spl_names {ns : List Str} (h0 : ns ≠ []) (h : ∀ n ∈ ns, okName n = true) : splS 46 (joinS dot ns) = ns := splS_join h0 fun x hx => okName_free (h x hx)
theorem pathS_names {ns : List Str} (h0 : ns ≠ []) (h6 : ns.length ≤ 6) (h : ∀ n ∈ ns, okName n = true) : PathS (joinS dot ns) := by
  refine ⟨?_, ?_⟩
  · unfold isPathS
    rw [spl_names h0 h, decide_eq_true h6, Bool.true_and, List.all_eq_true]
    exact h
  · have q1 := joinS_len (z := dot) (ns := ns)
    have q2 := sum_le8 (ns := ns) fun y hy => by
      have z := h y hy
      unfold okName okLen at z
      rw [Bool.and_eq_true, Bool.and_eq_true] at z
      exact of_decide_eq_true z.1.2
    rw [show dot.length = 1 from rfl] at q1
    omega
theorem pathS_of {pool : List Str} {x : Str} (h : PathOf pool 6 x) (hp : ∀ y ∈ pool, NameOk y) : PathS x := by
  obtain ⟨ns, h1, h2, h3, rfl⟩ := h
  exact pathS_names (by intro z; rw [z] at h1; exact absurd h1 (by decide)) (by omega) fun n hn => okName_of (hp n (h3 n hn))
theorem PathS.ok {x : Str} (h : PathS x) : sOk x = true := by
  refine sOk_of (Nat.le_trans h.2 (by decide)) fun c hc => ?_
  have e := join_splS 46 x
  have hm : c ∈ tl (joinS dot (splS 46 x)) := by rw [show joinS dot (splS 46 x) = x from e]; exact hc
  have hm : c ∈ joinL [46] ((splS 46 x).map tl) := by
    have e2 : tl (joinS dot (splS 46 x)) = joinL [46] ((splS 46 x).map tl) := tl_join _ _
    rw [e2] at hm; exact hm
  have key : ∀ (ls : List (List Nat)), (∀ l ∈ ls, ∀ c ∈ l, c ≤ 122) → ∀ c ∈ joinL [46] ls, c ≤ 122 := by
    intro ls
    induction ls with
    | nil => intro _ c hc; cases hc
    | cons l ls ih =>
      intro h c hc
      cases ls with
      | nil => exact h l List.mem_cons_self c hc
      | cons l2 r =>
        rw [joinL_cons _ _ (by simp)] at hc
        rcases List.mem_append.mp hc with z | z
        · exact h l List.mem_cons_self c z
        · rcases List.mem_append.mp z with z | z
          · rw [List.mem_singleton.mp z]; decide
          · exact ih (fun l hl => h l (List.mem_cons_of_mem _ hl)) c z
  have := key _ (fun l hl c hc => by
    obtain ⟨n, hn, rfl⟩ := List.mem_map.mp hl
    have z := h.names.2 n hn
    unfold okName at z
    rw [Bool.and_eq_true, List.all_eq_true] at z
    have y := z.2 c hc
    unfold okc at y
    rw [Bool.and_eq_true] at y
    exact of_decide_eq_true y.2) c hm
  omega
/-! ### the beginnings of a path -/
def begs (x : Str) : List Str := (List.range (splS 46 x).length).map fun k => joinS dot ((splS 46 x).take (k + 1))
/-- from the whole path up -/
def ups (x : Str) : List Str := (begs x).reverse
theorem ups_step {x : Str} (h : PathS x) : ups x = x :: (match parentS x with
  | none => []
  | some p => ups p) := by
  have hn := h.names.2
  have h0 := splS_ne 46 x
  have ej : joinS dot (splS 46 x) = x := join_splS 46 x
  generalize hns : splS 46 x = ns at hn h0 ej
  obtain ⟨l, k, e⟩ : ∃ l k, ns = l ++ [k] := ⟨ns.dropLast, ns.getLast h0, (List.dropLast_concat_getLast h0).symm⟩
  subst e
  have eb : begs x = (List.range l.length).map (fun k => joinS dot (l.take (k + 1))) ++ [x] := by
    unfold begs
    rw [hns, List.length_append, List.length_singleton, List.range_succ, List.map_append, List.map_singleton]
    have e1 : (List.range l.length).map (fun i => joinS dot ((l ++ [k]).take (i + 1))) = (List.range l.length).map (fun i => joinS dot (l.take (i + 1))) := List.map_congr_left fun i hi => by
      have := List.mem_range.mp hi
      rw [List.take_append_of_le_length (by omega)]
    have e2 : joinS dot ((l ++ [k]).take (l.length + 1)) = x := by rw [show l.length + 1 = (l ++ [k]).length by simp, List.take_length, ej]
    rw [e1, e2]
  unfold ups
  rw [eb, List.reverse_append]
  show x :: _ = _
  unfold parentS
  rw [hns, List.length_append, List.length_singleton, List.dropLast_concat]
  cases l with
  | nil => rfl
  | cons a r =>
    rw [if_pos (show 1 < (a :: r).length + 1 by simp)]
    show x :: _ = x :: (begs (joinS dot (a :: r))).reverse
    have e2 : splS 46 (joinS dot (a :: r)) = a :: r := spl_names (by simp) fun n hn' => hn n (List.mem_append_left _ hn')
    unfold begs
    rw [e2]; rfl
theorem ups_paths {x : Str} (h : PathS x) : ∀ y ∈ ups x, PathS y := fun y hy => by
  obtain ⟨k, hk, rfl⟩ := List.mem_map.mp (List.mem_reverse.mp hy)
  have hk := List.mem_range.mp hk
  have hn := h.names
  refine pathS_names (fun z => ?_) (by rw [List.length_take]; omega) fun n hn' => hn.2 n (List.mem_of_mem_take hn')
  have := congrArg List.length z
  rw [List.length_take, List.length_nil] at this
  omega
theorem parent_path {x p : Str} (h : PathS x) (e : parentS x = some p) : PathS p ∧ (splS 46 p).length < (splS 46 x).length := by
  have z := ups_step h
  rw [e] at z
  have hp : p ∈ ups x := by
    rw [z]
    unfold parentS at e
    split at e
    · rename_i h1
      cases e
      refine List.mem_cons_of_mem _ ?_
      have hn : (splS 46 x).dropLast ≠ [] := fun z => by
        have := congrArg List.length z
        rw [List.length_dropLast, List.length_nil] at this
        omega
      have e2 : splS 46 (joinS dot (splS 46 x).dropLast) = (splS 46 x).dropLast := spl_names hn fun n hn' => h.names.2 n (List.dropLast_subset _ hn')
      show joinS dot (splS 46 x).dropLast ∈ ups (joinS dot (splS 46 x).dropLast)
      unfold ups begs
      rw [e2, List.mem_reverse]
      refine List.mem_map.mpr ⟨(splS 46 x).dropLast.length - 1, List.mem_range.mpr ?_, ?_⟩
      · have := List.length_pos_iff.mpr hn; omega
      · have := List.length_pos_iff.mpr hn
        rw [show (splS 46 x).dropLast.length - 1 + 1 = (splS 46 x).dropLast.length by omega, List.take_length]
    · cases e
  refine ⟨ups_paths h p hp, ?_⟩
  unfold parentS at e
  split at e
  · rename_i h1
    cases e
    have hn : (splS 46 x).dropLast ≠ [] := fun z => by
      have := congrArg List.length z
      rw [List.length_dropLast, List.length_nil] at this
      omega
    rw [spl_names hn fun n hn' => h.names.2 n (List.dropLast_subset _ hn'), List.length_dropLast]
    have := List.length_pos_iff.mpr (splS_ne 46 x)
    omega
  · cases e
theorem ups_len {x : Str} (h : PathS x) : (ups x).length ≤ 6 := by
  unfold ups begs
  rw [List.length_reverse, List.length_map, List.length_range]
  exact h.names.1
/-! ### programs -/
structure Mods (ms : List Str) : Prop where
  path : ∀ x ∈ ms, PathS x
  alone : ms.Pairwise fun x y => ovS x y = false
theorem Mods.nd {ms : List Str} (h : Mods ms) : ms.Nodup := h.alone.imp fun {x y} z e => by rw [e, ovS_self] at z; cases z
theorem Mods.perm {ms ns : List Str} (h : Mods ms) (p : ns.Perm ms) : Mods ns := ⟨fun x hx => h.path x (p.mem_iff.mp hx), p.symm.pairwise h.alone fun {x y} z => by rw [ovS_comm]; exact z⟩
structure Uses (ms : List Str) (us : List (Str × Str)) : Prop where
  nd : us.Nodup
  ok : ∀ u ∈ us, u.1 ∈ ms ∧ u.2 ∈ ms ∧ u.1 ≠ u.2
theorem Uses.perm {ms ns : List Str} {us vs : List (Str × Str)} (h : Uses ms us) (pm : ns.Perm ms) (p : vs.Perm us) : Uses ns vs := ⟨p.nodup_iff.mpr h.nd, fun u hu => by
  have z := h.ok u (p.mem_iff.mp hu)
  exact ⟨pm.mem_iff.mpr z.1, pm.mem_iff.mpr z.2.1, z.2.2⟩⟩
def partsS (ms : List Str) : List Str := srt lessS (once (ms.flatMap ups))
abbrev pFields : List Str := [Str.ofString "_modules", Str.ofString "_uses", Str.ofString "_parts"]
/-- a program of these modules and uses -/
def progD (C : Addr) (ms : List Str) (us : List (Str × Str)) : D := .ins C pFields [.tup ((srt lessS ms).map .str), .tup ((srt lessP us).map ptD), .tup ((partsS ms).map .str)]
theorem parts_perm {ms ns : List Str} (p : ms.Perm ns) : partsS ms = partsS ns :=
  srt_congr linS ((List.perm_ext_iff_of_nodup (once_nodup _) (once_nodup _)).mpr fun x => by rw [once_mem, once_mem, (p.flatMap_right ups).mem_iff])
theorem prog_perm {C : Addr} {ms ns : List Str} {us vs : List (Str × Str)} (p : ms.Perm ns) (q : us.Perm vs) : progD C ms us = progD C ns vs := by
  unfold progD
  rw [srt_congr linS p, srt_congr linP q, parts_perm p]
/-! ### promises -/
def spModules : DSp Mem.deck := fun ds s Q => ∃ a b c pool most, ds = [.any (.ref a), .lst ((pool : List Str).map .str), .int most] ∧ s.adr = some (a, b, c) ∧ 1 ≤ most ∧ most ≤ 30 ∧ 0 < pool.length ∧ pool.length ≤ 100 ∧ (∀ x ∈ pool, NameOk x) ∧ s.n + 700 < drawLim ∧ ∀ ms k, Mods ms → (ms.length : Int) ≤ most → k ≤ s.n + 700 → Q (.lst (ms.map .str)) ⟨s.adr, k⟩
theorem spModules_len : ∀ ds s Qd, (spModules : DSp Mem.deck) ds s Qd → ds.length = 3 := fun ds s Qd ⟨_, _, _, _, _, e, _⟩ => by rw [e]; rfl
def spUses : DSp Mem.deck := fun ds s Q => ∃ a b c ms most, ds = [.any (.ref a), .lst ((ms : List Str).map .str), .int most] ∧ s.adr = some (a, b, c) ∧ 1 ≤ most ∧ most ≤ 100 ∧ ms.length ≤ 1000 ∧ s.n + 300 < drawLim ∧ ∀ us k, Uses ms us → (us.length : Int) ≤ most → k ≤ s.n + 300 → Q (.lst (us.map ptD)) ⟨s.adr, k⟩
theorem spUses_len : ∀ ds s Qd, (spUses : DSp Mem.deck) ds s Qd → ds.length = 3 := fun ds s Qd ⟨_, _, _, _, _, e, _⟩ => by rw [e]; rfl
def spIsPair {m : Mem} : DSp m := fun ds s Q => ∃ p ms, ds = [ptD p, .tup ((ms : List Str).map .str)] ∧ p.1 ≠ p.2 ∧ p.1 ∈ ms ∧ p.2 ∈ ms ∧ ms.length ≤ 1000 ∧ Q (.bl true) s
theorem spIsPair_len {m : Mem} : ∀ ds s Qd, (spIsPair : DSp m) ds s Qd → ds.length = 2 := fun ds s Qd ⟨_, _, e, _⟩ => by rw [e]; rfl
def spModErr {m : Mem} : DSp m := fun ds s Q => ∃ ms, ds = [.tup ((ms : List Str).map .str)] ∧ Mods ms ∧ ms.length ≤ 24 ∧ Q .non s
theorem spModErr_len {m : Mem} : ∀ ds s Qd, (spModErr : DSp m) ds s Qd → ds.length = 1 := fun ds s Qd ⟨_, e, _⟩ => by rw [e]; rfl
def spUseErr {m : Mem} : DSp m := fun ds s Q => ∃ ms us, ds = [.tup ((ms : List Str).map .str), .tup ((us : List (Str × Str)).map ptD)] ∧ Uses ms us ∧ ms.length ≤ 24 ∧ us.length ≤ 75 ∧ Q .non s
theorem spUseErr_len {m : Mem} : ∀ ds s Qd, (spUseErr : DSp m) ds s Qd → ds.length = 2 := fun ds s Qd ⟨_, _, e, _⟩ => by rw [e]; rfl
def spProgErr {m : Mem} : DSp m := fun ds s Q => ∃ ms us, ds = [.tup ((ms : List Str).map .str), .tup ((us : List (Str × Str)).map ptD)] ∧ Mods ms ∧ Uses ms us ∧ ms.length ≤ 24 ∧ us.length ≤ 75 ∧ Q .non s
theorem spProgErr_len {m : Mem} : ∀ ds s Qd, (spProgErr : DSp m) ds s Qd → ds.length = 2 := fun ds s Qd ⟨_, _, e, _⟩ => by rw [e]; rfl
def spParts {m : Mem} : DSp m := fun ds s Q => ∃ ms, ds = [.tup ((ms : List Str).map .str)] ∧ Mods ms ∧ ms.length ≤ 24 ∧ Q (.tup ((partsS ms).map .str)) s
theorem spParts_len {m : Mem} : ∀ ds s Qd, (spParts : DSp m) ds s Qd → ds.length = 1 := fun ds s Qd ⟨_, e, _⟩ => by rw [e]; rfl
def spProgI {m : Mem} : ISp m := fun ds s Q => ∃ ms us, ds = [.tup ((ms : List Str).map .str), .tup ((us : List (Str × Str)).map ptD)] ∧ Mods ms ∧ Uses ms us ∧ ms.length ≤ 24 ∧ us.length ≤ 75 ∧ Q pFields [.tup ((srt lessS ms).map .str), .tup ((srt lessP us).map ptD), .tup ((partsS ms).map .str)] s
theorem spProgI_len {m : Mem} : ∀ ds s Qd, (spProgI : ISp m) ds s Qd → ds.length = 2 := fun ds s Qd ⟨_, _, e, _⟩ => by rw [e]; rfl
def spGetM {m : Mem} (C : Addr) : DSp m := fun ds s Q => ∃ ms us, ds = [progD C ms us] ∧ Q (.tup ((srt lessS ms).map .str)) s
theorem spGetM_len {m : Mem} {C : Addr} : ∀ ds s Qd, (spGetM C : DSp m) ds s Qd → ds.length = 1 := fun ds s Qd ⟨_, _, e, _⟩ => by rw [e]; rfl
def spGetU {m : Mem} (C : Addr) : DSp m := fun ds s Q => ∃ ms us, ds = [progD C ms us] ∧ Q (.tup ((srt lessP us).map ptD)) s
theorem spGetU_len {m : Mem} {C : Addr} : ∀ ds s Qd, (spGetU C : DSp m) ds s Qd → ds.length = 1 := fun ds s Qd ⟨_, _, e, _⟩ => by rw [e]; rfl
/-! ### walks -/
theorem enum_split {xs : List D} {pre post : List D} {x : D} (e : enumD xs = pre ++ x :: post) : ∃ p, xs[pre.length]? = some p ∧ x = .tup [.int (pre.length : Nat), p] := by
  have h : (enumD xs)[pre.length]? = some x := by rw [e]; simp
  exact enum_get h
theorem mid_map {α : Type} {f : α → D} {xs : List α} {pre post : List D} {y : D} (e : xs.map f = pre ++ y :: post) : ∃ x, xs[pre.length]? = some x ∧ y = f x ∧ pre = (xs.take pre.length).map f := by
  have h : (xs.map f)[pre.length]? = some y := by rw [e]; simp
  rw [List.getElem?_map] at h
  obtain ⟨x, h1, h2⟩ := Option.map_eq_some_iff.mp h
  refine ⟨x, h1, h2.symm, ?_⟩
  rw [List.map_take, e, List.take_left]
theorem Mods.ov {ms : List Str} (h : Mods ms) {i j : Nat} {x y : Str} (hij : i < j) (hx : ms[i]? = some x) (hy : ms[j]? = some y) : ovS x y = false := by
  obtain ⟨hi, rfl⟩ := List.getElem?_eq_some_iff.mp hx
  obtain ⟨hj, rfl⟩ := List.getElem?_eq_some_iff.mp hy
  exact List.pairwise_iff_getElem.mp h.alone i j hi hj hij
theorem no_any (l : List D) : ((l.map fun _ => false).any id) = false := by
  rw [List.any_eq_false]
  intro x hx
  obtain ⟨_, _, rfl⟩ := List.mem_map.mp hx
  simp
theorem lst_app (f : D → Bool) (l : List D) (d : D) : ifB (f d) ((l.filter f) ++ [d] = (l ++ [d]).filter f) (l.filter f = (l ++ [d]).filter f) := by
  cases h : f d with
  | true => show _ = _; rw [List.filter_append, List.filter_cons, h]; simp
  | false => show _ = _; rw [List.filter_append, List.filter_cons, h]; simp
theorem filter_any {α : Type} {f : α → Bool} {l : List α} : (l.filter f).isEmpty = !l.any f := by
  cases h : l.any f with
  | true =>
    obtain ⟨x, hx, hf⟩ := List.any_eq_true.mp h
    cases e : l.filter f with
    | nil =>
      have : x ∈ l.filter f := List.mem_filter.mpr ⟨hx, hf⟩
      rw [e] at this
      cases this
    | cons a r => rfl
  | false =>
    have : l.filter f = [] := List.filter_eq_nil_iff.mpr fun x hx hf => by
      rw [List.any_eq_true.mpr ⟨x, hx, hf⟩] at h
      cases h
    rw [this]; rfl
def ovD (x : Str) : D → Bool
  | .str z => ovS z x
  | _ => false
theorem cut_from (xs : List D) (n : Nat) : DL.cutD xs (some (n : Int)) none = xs.drop n := by
  unfold DL.cutD
  rw [HT.sIx_none, HT.sIx_nat]
  rcases Nat.le_total n xs.length with h | h
  · rw [Nat.min_eq_left h, ← List.length_drop, List.take_length]
  · rw [Nat.min_eq_right h, List.drop_length, List.drop_eq_nil_of_le h, List.take_nil]
theorem Uses.sub {ms : List Str} {us vs : List (Str × Str)} (h : Uses ms us) (s : vs.Sublist us) : Uses ms vs := ⟨h.nd.sublist s, fun u hu => h.ok u (s.subset hu)⟩
theorem Mods.sub {ms ns : List Str} (h : Mods ms) (s : ns.Sublist ms) : Mods ns := ⟨fun x hx => h.path x (s.subset hx), h.alone.sublist s⟩
theorem Uses.none {ms : List Str} : Uses ms [] := ⟨List.nodup_nil, fun _ z => absurd z List.not_mem_nil⟩
end RP

set_option Elab.async false
set_option linter.all false
set_option maxRecDepth 100000
set_option maxHeartbeats 1000000
namespace RP
open PySem PySem.Spec PyProof.Rows L2 TL DL TX TO
def T_lmodules05 : DTS Mem.deck :=
  (dSeq (dSetL 3 daNil)
      (dSeq (dFor (diR1 (daCons (dOp ixD (dLst (daCons (dVar 2) (daCons (dCall spNext (daCons (dVar 0) (daCons (dOp addD (dVar 2) (dC (D.int 1))) daNil))) daNil))) (dCall spNext (daCons (dVar 0) (daCons (dC (D.int 2)) daNil)))) daNil)) (gN 4)
        (dSeq (dSet 5 (dCall spPath (daCons (dVar 0) (daCons (dVar 1) (daCons (dC (D.int 6)) daNil)))))
        (dIf (dBackT (dCmT (eqE false) (dLc (diSeq (dVar 3)) (gN 6) (dTr (dCall spLover (daCons (dVar 6) (daCons (dVar 5) daNil)))) (dVar 6) [6]) (dLst daNil))) (dApp 3 (dVar 5)) dNext)))
      (dRet (dVar 3))))
theorem read_lmodules05 : ∀ ds s Qd, (spModules : DSp Mem.deck) ds s Qd → (T_lmodules05 : DTS Mem.deck) (endsOf Qd) (startD ["_law_deck_here", "_law_pool_here", "_law_most", "_law_found", "_law_k", "_law_path_here", "_law_module"] ds) s := by
  intro ds s Qd h
  obtain ⟨a, b, c, pool, most, rfl, hs, h1, h30, hp0, hp100, hp, hn, hQ⟩ := h
  have zl : ∀ n, n ≤ 2000 → n ≤ sizeLine := fun n h => line_of (by omega)
  have hlim : drawLim = 1152921504606846976 := rfl
  refine ⟨Nat.zero_le _, a, b, c, most + 1, hs, rfl, by omega, by omega, by omega, fun r k g0 g1 hk => ?_⟩
  refine ⟨(by show 2 ≤ sizeLine; exact zl _ (by decide)), a, b, c, 2, hs, rfl, by decide, by decide, by show k < _; omega, fun r2 k2 g2 g3 hk2 => ?_⟩
  have hk2 : k2 = k + 1 := hk2
  obtain ⟨n, hn2, hat⟩ := pick_ints [most, r] r2 g2 g3
  have hb : 0 ≤ n ∧ n ≤ most := by
    rcases List.mem_cons.mp hn2 with rfl | z
    · omega
    · rw [List.mem_singleton.mp z]; omega
  refine ⟨_, hat, n, rfl, by omega, by omega, ?_⟩
  refine ⟨fun pre ρ s' => s'.adr = some (a, b, c) ∧ s'.n ≤ k2 + 20 * pre.length ∧ ∃ c4 c5 c6 ms, ρ = [.sh (.any (.ref a)), .sh (.lst (pool.map .str)), .sh (.int most), .ow (.lst ((ms : List Str).map .str)), c4, c5, c6] ∧ Mods ms ∧ ms.length ≤ pre.length,
    ⟨hs, (by show k2 ≤ _; omega), _, _, _, [], rfl, ⟨fun _ z => absurd z List.not_mem_nil, .nil⟩, Nat.le_refl _⟩, ?_, ?_⟩
  · rintro pre y post ρ s' e ⟨e1, e2, c4, c5, c6, ms, rfl, hm, hl⟩
    obtain ⟨hlt, rfl⟩ := rng_pre e
    refine ⟨a, b, c, pool, 6, e1, rfl, by decide, by decide, hp0, hp100, fun x hx => (hp x hx).2.1, by omega, fun x k3 hx hk3 => ?_⟩
    have px := pathS_of hx hp
    have stay : ∀ (c4 c5 c6 : Sl), ∃ d4 d5 d6 ns, ([.sh (.any (.ref a)), .sh (.lst (pool.map .str)), .sh (.int most), .ow (.lst (ms.map .str)), c4, c5, c6] : List Sl) = [.sh (.any (.ref a)), .sh (.lst (pool.map .str)), .sh (.int most), .ow (.lst ((ns : List Str).map .str)), d4, d5, d6] ∧ Mods ns ∧ ns.length ≤ (pre ++ [D.int (0 + (pre.length : Int))]).length :=
      fun c4 c5 c6 => ⟨c4, c5, c6, ms, rfl, hm, by rw [List.length_append]; omega⟩
    refine ⟨_, rfl, zl _ (by rw [List.length_map]; omega), fun pre1 acc s3 => s3 = ⟨s'.adr, k3⟩ ∧ acc = pre1.filter (ovD x), ⟨rfl, rfl⟩, ?_, ?_⟩
    · rintro pre1 z post1 acc s3 e3 - ⟨rfl, rfl⟩
      obtain ⟨m0, hm0, rfl, -⟩ := mid_map e3
      have ha := lst_app (ovD x) pre1 (.str m0)
      refine ⟨m0, x, rfl, _, rfl, rfl, ?_⟩
      rw [ovS_lcov]
      refine ifB2 (fun q => ?_) fun q => ?_
      · rw [show ovD x (.str m0) = _ from q] at ha
        exact ⟨rfl, rfl, ha⟩
      · rw [show ovD x (.str m0) = _ from q] at ha
        exact ⟨rfl, ha⟩
    · rintro acc s3 - ⟨rfl, rfl⟩
      refine ⟨Nat.zero_le _, _, rfl, rfl, ?_⟩
      rw [Bool.false_xor, filter_any]
      have ea : (ms.map D.str).any (ovD x) = ms.any fun z => ovS z x := by rw [List.any_map]; rfl
      rw [ea]
      refine ifB2 (fun q => ?_) fun q => ?_
      · have q : ∀ z ∈ ms, ovS z x = false := by simpa using q
        refine ⟨⟨_, rfl⟩, _, rfl, zl _ (by rw [List.length_map]; omega), e1, (by show k3 ≤ _; rw [List.length_append, List.length_singleton]; omega), _, _, _, ms ++ [x], by rw [List.map_append]; rfl, ⟨fun z hz => ?_, ?_⟩, by rw [List.length_append, List.length_append]; exact Nat.add_le_add_right hl _⟩
        · rcases List.mem_append.mp hz with z' | z'
          · exact hm.path z z'
          · rw [List.mem_singleton.mp z']; exact px
        · rw [List.pairwise_append]
          refine ⟨hm.alone, List.pairwise_singleton _ _, fun u hu v hv => ?_⟩
          rw [List.mem_singleton.mp hv]
          exact q u hu
      · exact ⟨e1, (by show k3 ≤ _; rw [List.length_append, List.length_singleton]; omega), stay _ _ _⟩
  · rintro ρ s' ⟨e1, e2, c4, c5, c6, ms, rfl, hm, hl⟩
    rw [rngD_length] at e2 hl
    have z := hQ ms s'.n hm (by omega) (by omega)
    rw [hs, ← e1] at z
    exact z
def T_luses05 : DTS Mem.deck :=
  (dSeq (dSetL 3 daNil)
      (dSeq (dFor (diR1 (daCons (dOp mulD (dOp ixD (dLst (daCons (dVar 2) (daCons (dCall spNext (daCons (dVar 0) (daCons (dOp addD (dVar 2) (dC (D.int 1))) daNil))) daNil))) (dCall spNext (daCons (dVar 0) (daCons (dC (D.int 2)) daNil)))) (dB intBD (daCons (dCm gtD (dB lenD (daCons (dVar 1) daNil)) (dC (D.int 1))) daNil))) daNil)) (gN 4)
        (dSeq (dSet 5 (dOp ixD (dVar 1) (dCall spNext (daCons (dVar 0) (daCons (dB lenD (daCons (dVar 1) daNil)) daNil)))))
        (dSeq (dSet 6 (dOp ixD (dVar 1) (dCall spNext (daCons (dVar 0) (daCons (dB lenD (daCons (dVar 1) daNil)) daNil)))))
        (dIf (dBackT (dAndT (dCmT neC (dVar 5) (dVar 6)) (dCmT notInD (dTup (daCons (dVar 5) (daCons (dVar 6) daNil))) (dVar 3)))) (dApp 3 (dTup (daCons (dVar 5) (daCons (dVar 6) daNil)))) dNext))))
      (dRet (dVar 3))))
theorem read_luses05 : ∀ ds s Qd, (spUses : DSp Mem.deck) ds s Qd → (T_luses05 : DTS Mem.deck) (endsOf Qd) (startD ["_law_deck_here", "_law_modules_here", "_law_most", "_law_found", "_law_k", "_law_user", "_law_used"] ds) s := by
  intro ds s Qd h
  obtain ⟨a, b, c, ms, most, rfl, hs, h1, h100, hl, hn, hQ⟩ := h
  have zl : ∀ n, n ≤ 2000 → n ≤ sizeLine := fun n h => line_of (by omega)
  have hlim : drawLim = 1152921504606846976 := rfl
  refine ⟨Nat.zero_le _, a, b, c, most + 1, hs, rfl, by omega, by omega, by omega, fun r k g0 g1 hk => ?_⟩
  refine ⟨(by show 2 ≤ sizeLine; exact zl _ (by decide)), a, b, c, 2, hs, rfl, by decide, by decide, by show k < _; omega, fun r2 k2 g2 g3 hk2 => ?_⟩
  have hk2 : k2 = k + 1 := hk2
  obtain ⟨n, hn2, hat⟩ := pick_ints [most, r] r2 g2 g3
  have hb : 0 ≤ n ∧ n ≤ most := by
    rcases List.mem_cons.mp hn2 with rfl | z
    · omega
    · rw [List.mem_singleton.mp z]; omega
  refine ⟨_, hat, _, _, rfl, rfl, _, rfl, ?_⟩
  rw [List.length_map]
  obtain ⟨v, ev, hv⟩ : ∃ v : Int, n * (if decide ((1 : Int) < (ms.length : Nat)) then 1 else 0) = v ∧ 0 ≤ v ∧ v ≤ most ∧ (0 < v → 1 < ms.length) := by
    refine ⟨_, rfl, ?_⟩
    by_cases h : 1 < ms.length
    · rw [if_pos (decide_eq_true (by omega))]; omega
    · rw [if_neg (by rw [decide_eq_false (by omega)]; decide)]; omega
  refine ⟨.inl (by omega), v, by show [D.int (n * _)] = _; rw [ev], by omega, by omega, ?_⟩
  refine ⟨fun pre ρ s' => s'.adr = some (a, b, c) ∧ s'.n ≤ k2 + 2 * pre.length ∧ ∃ c4 c5 c6 us, ρ = [.sh (.any (.ref a)), .sh (.lst (ms.map .str)), .sh (.int most), .ow (.lst ((us : List (Str × Str)).map ptD)), c4, c5, c6] ∧ Uses ms us ∧ us.length ≤ pre.length,
    ⟨hs, (by show k2 ≤ _; omega), _, _, _, [], rfl, ⟨List.nodup_nil, fun _ z => absurd z List.not_mem_nil⟩, Nat.le_refl _⟩, ?_, ?_⟩
  · rintro pre y post ρ s' e ⟨e1, e2, c4, c5, c6, us, rfl, hu, hul⟩
    obtain ⟨hlt, rfl⟩ := rng_pre e
    have big : 1 < ms.length := hv.2.2 (by omega)
    refine ⟨_, _, rfl, rfl, a, b, c, _, e1, rfl, by rw [List.length_map]; omega, by rw [List.length_map]; omega, by omega, fun r3 k3 g4 g5 hk3 => ?_⟩
    have hk3 : k3 = s'.n + 1 := hk3
    rw [List.length_map] at g5
    obtain ⟨x, hx, hat3⟩ := pick_map D.str ms r3 g4 g5
    refine ⟨_, hat3, _, _, rfl, rfl, a, b, c, _, e1, rfl, by rw [List.length_map]; omega, by rw [List.length_map]; omega, by show k3 < _; omega, fun r4 k4 g6 g7 hk4 => ?_⟩
    have hk4 : k4 = k3 + 1 := hk4
    rw [List.length_map] at g7
    obtain ⟨z, hz, hat4⟩ := pick_map D.str ms r4 g6 g7
    have nn : k4 ≤ k2 + 2 * (pre ++ [D.int (0 + (pre.length : Int))]).length := by rw [List.length_append, List.length_singleton]; omega
    refine ⟨_, hat4, rfl, rfl, ?_⟩
    rw [eqs]
    by_cases hxz : x = z
    · rw [decide_eq_true hxz]
      exact ⟨e1, nn, _, _, _, us, rfl, hu, by rw [List.length_append]; omega⟩
    · rw [decide_eq_false hxz]
      have two : 2 ≤ sizeLine := zl 2 (by decide)
      refine ⟨two, rfl, plain_prs 57 us, ?_⟩
      rw [show (us.map ptD).any (fun y => eqD y (.tup [.str x, .str z])) = decide ((x, z) ∈ us) from any_pr us (x, z)]
      by_cases hin : (x, z) ∈ us
      · rw [decide_eq_true hin]
        exact ⟨e1, nn, _, _, _, us, rfl, hu, by rw [List.length_append]; omega⟩
      · rw [decide_eq_false hin]
        refine ⟨⟨_, rfl⟩, two, _, rfl, zl _ (by rw [List.length_map]; omega), e1, nn, _, _, _, us ++ [(x, z)], by rw [List.map_append]; rfl, ⟨?_, fun u hu' => ?_⟩, by rw [List.length_append, List.length_append]; exact Nat.add_le_add_right hul _⟩
        · rw [List.nodup_append]
          exact ⟨hu.nd, List.nodup_cons.mpr ⟨List.not_mem_nil, List.nodup_nil⟩, fun u h1 v h2 e => hin (by rw [List.mem_singleton.mp h2] at e; exact e ▸ h1)⟩
        · rcases List.mem_append.mp hu' with w | w
          · exact hu.ok u w
          · rw [List.mem_singleton.mp w]; exact ⟨hx, hz, hxz⟩
  · rintro ρ s' ⟨e1, e2, c4, c5, c6, us, rfl, hu, hul⟩
    rw [rngD_length] at e2 hul
    have z := hQ us s'.n hu (by omega) (by omega)
    rw [hs, ← e1] at z
    exact z
def T_getm05 (a : Nat → Addr) {m : Mem} : DTS m :=
  (dRet (dFld (a 24) (Str.ofString "_modules") (dVar 0)))
theorem read_getm05 {a : Nat → Addr} {m : Mem} : ∀ ds s Qd, (spGetM (a 24) : DSp m) ds s Qd → (T_getm05 a : DTS m) (endsOf Qd) (startD ["self"] ds) s := by
  intro ds s Qd h
  obtain ⟨ms, us, rfl, hQ⟩ := h
  exact ⟨_, _, _, rfl, rfl, hQ⟩
def T_getu05 (a : Nat → Addr) {m : Mem} : DTS m :=
  (dRet (dFld (a 24) (Str.ofString "_uses") (dVar 0)))
theorem read_getu05 {a : Nat → Addr} {m : Mem} : ∀ ds s Qd, (spGetU (a 24) : DSp m) ds s Qd → (T_getu05 a : DTS m) (endsOf Qd) (startD ["self"] ds) s := by
  intro ds s Qd h
  obtain ⟨ms, us, rfl, hQ⟩ := h
  exact ⟨_, _, _, rfl, rfl, hQ⟩
def T_mod_error05 {m : Mem} : DTS m :=
  (dSeq (dIf (dOrT (dNotT (dTr (dB isiD (daCons (dVar 0) (daCons (dC (D.any (V.ty "tuple"))) daNil))))) (dCmT gtD (dB lenD (daCons (dVar 0) daNil)) (dC (D.int 24)))) (dRet (dTup (daCons (dC D.non) (daCons (dC (D.str (Str.ofString "modules"))) daNil)))) dNext)
      (dSeq (dFor (dEnumA (daCons (dVar 0) daNil)) (gTup' 2 (gCons' (gN 1) (gCons' (gN 2) gNil')))
        (dSeq (dIf (dNotT (dTr (dCall spIsPath (daCons (dVar 2) daNil)))) (dRet (dTup (daCons (dVar 1) (daCons (dC (D.str (Str.ofString "path"))) daNil)))) dNext)
        (dIf (dTr (dB anyD (daCons (dLc (diSeq (dSl slD (dVar 0) doNone (doSome (dVar 1)))) (gN 3) dYes (dCall spOverlap (daCons (dVar 3) (daCons (dVar 2) daNil))) [3]) daNil))) (dRet (dTup (daCons (dVar 1) (daCons (dC (D.str (Str.ofString "overlap"))) daNil)))) dNext)))
      (dRet (dC D.non))))
theorem read_mod_error05 {m : Mem} : ∀ ds s Qd, (spModErr : DSp m) ds s Qd → (T_mod_error05 : DTS m) (endsOf Qd) (startD ["modules", "index", "module", "earlier"] ds) s := by
  intro ds s Qd h
  obtain ⟨ms, rfl, h1, h2, hQ⟩ := h
  have zl : ∀ n, n ≤ 2000 → n ≤ sizeLine := fun n h => line_of (by omega)
  refine ⟨_, .tup, .tup, rfl, rfl, (by intro z; cases z), _, rfl, _, _, rfl, rfl, ?_⟩
  rw [List.length_map]
  refine ifBd (fun g => absurd g (by omega)) fun _ => ?_
  refine ⟨_, _, rfl, .inr rfl, fun pre ρ s' => s' = s ∧ ∃ c1 c2 c3, ρ = [.sh (.tup (ms.map .str)), c1, c2, c3], ⟨rfl, _, _, _, rfl⟩, ?_, ?_⟩
  · rintro pre y post ρ s' e ⟨rfl, c1, c2, c3, rfl⟩
    obtain ⟨y0, hy0, rfl⟩ := enum_split e
    rw [List.getElem?_map] at hy0
    obtain ⟨m0, hm0, rfl⟩ := Option.map_eq_some_iff.mp hy0
    have hm : m0 ∈ ms := List.mem_of_getElem? hm0
    have hlt : pre.length < ms.length := (List.getElem?_eq_some_iff.mp hm0).1
    have hp := h1.path m0 hm
    refine ⟨_, rfl, rfl, _, _, rfl, _, _, rfl, rfl, _, rfl, ⟨⟨.str, rfl⟩, fun x e => by cases e; have := hp.2; omega⟩, _, rfl, ?_⟩
    rw [show isPathD (.str m0) = true from hp.1]
    refine ⟨_, rfl, _, rfl, ?_⟩
    have ec := cut_take (ms.map D.str) pre.length
    rw [ec, ← List.map_take]
    refine ⟨zl _ (by rw [List.length_map, List.length_take]; omega), fun pre1 acc s3 => s3 = s' ∧ acc = (pre1.map fun _ => false).map D.bl, ⟨rfl, rfl⟩, ?_, ?_⟩
    · rintro pre1 z post1 acc s3 e1 - ⟨rfl, rfl⟩
      obtain ⟨m1, hm1, rfl, -⟩ := mid_map e1
      have l1 : pre1.length < pre.length := by
        have := (List.getElem?_eq_some_iff.mp hm1).1
        rw [List.length_take] at this
        omega
      rw [List.getElem?_take_of_lt l1] at hm1
      have hm1' := (h1.path m1 (List.mem_of_getElem? hm1)).2
      refine ⟨rfl, m1, m0, rfl, by omega, by have := hp.2; omega, rfl, rfl, ?_⟩
      rw [show (coversS m1 m0 || coversS m0 m1) = false from h1.ov l1 hm1 hm0, List.map_append, List.map_append]
      rfl
    · rintro acc s3 - ⟨rfl, rfl⟩
      refine ⟨_, rfl, _, rfl, ?_⟩
      rw [no_any]
      exact ⟨rfl, _, _, _, rfl⟩
  · rintro ρ s' ⟨rfl, c1, c2, c3, rfl⟩
    exact hQ
def T_is_pair05 {m : Mem} : DTS m :=
  (dRet (dAndV (dB isiD (daCons (dVar 0) (daCons (dC (D.any (V.ty "tuple"))) daNil))) (dAndV (dCm eqC (dB lenD (daCons (dVar 0) daNil)) (dC (D.int 2))) (dAndV (dCm neC (dOp ixD (dVar 0) (dC (D.int 0))) (dOp ixD (dVar 0) (dC (D.int 1)))) (dAndV (dCm (inTD false) (dOp ixD (dVar 0) (dC (D.int 0))) (dVar 1)) (dCm (inTD false) (dOp ixD (dVar 0) (dC (D.int 1))) (dVar 1)))))))
theorem read_is_pair05 {m : Mem} : ∀ ds s Qd, (spIsPair : DSp m) ds s Qd → (T_is_pair05 : DTS m) (endsOf Qd) (startD ["value", "modules"] ds) s := by
  intro ds s Qd h
  obtain ⟨p, ms, rfl, h1, h2, h3, h4, hQ⟩ := h
  refine ⟨_, .tup, .tup, rfl, rfl, (by intro z; cases z), _, rfl, ?_⟩
  refine ⟨_, _, rfl, rfl, rfl, rfl, _, rfl, ?_⟩
  refine ⟨_, atI_nat (j := 0) rfl, _, atI_nat (j := 1) rfl, rfl, rfl, _, rfl, ?_⟩
  rw [eqs, decide_eq_false h1]
  refine ⟨_, atI_nat (j := 0) rfl, _, rfl, rfl, plain_strs 58 ms, ?_⟩
  rw [Bool.false_xor, any_str, decide_eq_true h2]
  refine ⟨_, rfl, _, atI_nat (j := 1) rfl, _, rfl, rfl, plain_strs 58 ms, ?_⟩
  rw [Bool.false_xor, any_str, decide_eq_true h3]
  exact hQ
def T_use_error05 (w : World) {m : Mem} : DTS m :=
  (dSeq (dIf (dOrT (dNotT (dTr (dB isiD (daCons (dVar 1) (daCons (dC (D.any (V.ty "tuple"))) daNil))))) (dCmT gtD (dB lenD (daCons (dVar 1) daNil)) (dC (D.int 200)))) (dRet (dTup (daCons (dC D.non) (daCons (dC (D.str (Str.ofString "uses"))) daNil)))) dNext)
      (dSeq (dSetP w 2)
      (dSeq (dFor (dEnumA (daCons (dVar 1) daNil)) (gTup' 2 (gCons' (gN 3) (gCons' (gN 4) gNil')))
        (dSeq (dIf (dNotT (dTr (dCall spIsPair (daCons (dVar 4) (daCons (dVar 0) daNil))))) (dRet (dTup (daCons (dVar 3) (daCons (dC (D.str (Str.ofString "use"))) daNil)))) dNext)
        (dSeq (dIf (dInP w false (dVar 4) 2) (dRet (dTup (daCons (dVar 3) (daCons (dC (D.str (Str.ofString "again"))) daNil)))) dNext)
        (dAddP w 2 (dVar 4)))))
      (dRet (dC D.non)))))
theorem read_use_error05 {w : World} {m : Mem} : ∀ ds s Qd, (spUseErr : DSp m) ds s Qd → (T_use_error05 w : DTS m) (endsOf Qd) (startD ["modules", "uses", "seen", "index", "use"] ds) s := by
  intro ds s Qd h
  obtain ⟨ms, us, rfl, h1, h2, h3, hQ⟩ := h
  refine ⟨_, .tup, .tup, rfl, rfl, (by intro z; cases z), _, rfl, _, _, rfl, rfl, ?_⟩
  rw [List.length_map]
  refine ifBd (fun g => absurd g (by omega)) fun _ => ?_
  refine ⟨_, _, rfl, .inr rfl, fun pre ρ s' => s' = s ∧ ∃ c3 c4 ks, ρ = [.sh (.tup (ms.map .str)), .sh (.tup (us.map ptD)), .ow (.bag (psO w) ks), c3, c4] ∧ ks.length = pre.length ∧ ∀ k ∈ ks, ∃ j p, j < pre.length ∧ us[j]? = some p ∧ k = [p.1, p.2], ⟨rfl, _, _, [], rfl, rfl, fun _ z => absurd z List.not_mem_nil⟩, ?_, ?_⟩
  · rintro pre y post ρ s' e ⟨rfl, c3, c4, ks, rfl, hl, hk⟩
    obtain ⟨y0, hy0, rfl⟩ := enum_split e
    rw [List.getElem?_map] at hy0
    obtain ⟨u, hu0, rfl⟩ := Option.map_eq_some_iff.mp hy0
    have hu := h1.ok u (List.mem_of_getElem? hu0)
    have hlt : pre.length < us.length := (List.getElem?_eq_some_iff.mp hu0).1
    have new : [u.1, u.2] ∉ ks := fun z => by
      obtain ⟨j, p, hj, hp, e⟩ := hk _ z
      injection e with e1 e2
      injection e2 with e2 _
      have : u = p := Prod.ext e1 e2
      subst this
      exact absurd ((List.getElem?_inj (by omega) h1.nd).mp (hp.trans hu0.symm)) (by omega)
    refine ⟨_, rfl, rfl, _, _, rfl, _, _, rfl, rfl, u, ms, rfl, hu.2.2, hu.1, hu.2.1, by omega, _, rfl, ?_⟩
    refine ⟨[u.1, u.2], ks, rfl, rfl, ?_⟩
    rw [decide_eq_false new]
    refine ⟨⟨ks, rfl⟩, [u.1, u.2], ks, rfl, rfl, by omega, ?_⟩
    rw [if_neg new]
    refine ⟨rfl, _, _, _, rfl, by rw [List.length_cons, List.length_append, hl]; rfl, fun k hk' => ?_⟩
    rcases List.mem_cons.mp hk' with rfl | hk'
    · exact ⟨pre.length, u, by rw [List.length_append]; show _ < _ + 1; omega, hu0, rfl⟩
    · obtain ⟨j, p, hj, hp, e⟩ := hk k hk'
      exact ⟨j, p, by rw [List.length_append]; omega, hp, e⟩
  · rintro ρ s' ⟨rfl, c3, c4, ks, rfl, _, _⟩
    exact hQ
def T_prog_error05 {m : Mem} : DTS m :=
  (dSeq (dSet 2 (dCall spModErr (daCons (dVar 0) daNil)))
      (dSeq (dIf (dCmT isD' (dVar 2) (dC D.non)) (dSet 2 (dCall spUseErr (daCons (dVar 0) (daCons (dVar 1) daNil)))) dNext)
      (dRet (dVar 2))))
theorem read_prog_error05 {m : Mem} : ∀ ds s Qd, (spProgErr : DSp m) ds s Qd → (T_prog_error05 : DTS m) (endsOf Qd) (startD ["modules", "uses", "error"] ds) s := by
  intro ds s Qd h
  obtain ⟨ms, us, rfl, h1, h2, h3, h4, hQ⟩ := h
  exact ⟨ms, rfl, h1, h3, (fun _ => by intro z; cases z), ms, us, rfl, h2, h3, h4, hQ⟩
def T_parts05 (w : World) {m : Mem} : DTS m :=
  (dSeq (dSetT w 1)
      (dSeq (dFor (diSeq (dVar 0)) (gN 2)
        (dSeq (dSet 3 (dVar 2))
        (dWhile (dCmT isntD' (dVar 3) (dC D.non))
          (dSeq (dAddT w 1 (dVar 3))
          (dSet 3 (dCall spParent (daCons (dVar 3) daNil)))))))
      (dRet (dB tupD (daCons (dSortT w 1) daNil)))))
theorem read_parts05 {w : World} {m : Mem} : ∀ ds s Qd, (spParts : DSp m) ds s Qd → (T_parts05 w : DTS m) (endsOf Qd) (startD ["modules", "found", "module", "path"] ds) s := by
  intro ds s Qd h
  obtain ⟨ms, rfl, h1, h2, hQ⟩ := h
  have room : ∀ qs : List Str, (∀ q ∈ qs, q ∈ ms) → qs.length ≤ ms.length → (qs.flatMap ups).length ≤ 144 := fun qs h hl => by
    have key : ∀ qs : List Str, (∀ q ∈ qs, q ∈ ms) → (qs.flatMap ups).length ≤ 6 * qs.length := by
      intro qs
      induction qs with
      | nil => intro _; exact Nat.zero_le _
      | cons q qs ih =>
        intro h
        rw [List.flatMap_cons, List.length_append, List.length_cons]
        have := ups_len (h1.path q (h q List.mem_cons_self))
        have := ih fun y hy => h y (List.mem_cons_of_mem _ hy)
        omega
    have := key qs h
    omega
  refine ⟨_, rfl, fun pre ρ s' => s' = s ∧ ∃ c2 c3, ∃ qs : List Str, pre = qs.map D.str ∧ ρ = [.sh (.tup (ms.map .str)), .ow (.box (txO w (once (qs.flatMap ups)))), c2, c3], ⟨rfl, _, _, [], rfl, rfl⟩, ?_, ?_⟩
  · rintro pre y post ρ s' e ⟨rfl, c2, c3, qs, rfl, rfl⟩
    obtain ⟨m0, hm0, rfl, eq⟩ := mid_map e
    rw [List.length_map] at hm0
    have hm : m0 ∈ ms := List.mem_of_getElem? hm0
    have hlt : qs.length < ms.length := (List.getElem?_eq_some_iff.mp hm0).1
    have sub : ∀ q ∈ qs, q ∈ ms := fun q hq => by
      have : D.str q ∈ ms.map D.str := by rw [e]; exact List.mem_append_left _ (List.mem_map_of_mem hq)
      obtain ⟨q', h', e'⟩ := List.mem_map.mp this
      cases e'
      exact h'
    have hp := h1.path m0 hm
    refine ⟨fun n ρ s2 => s2 = s' ∧ ∃ (acc : List Str) (p : Option Str), ρ = [.sh (.tup (ms.map .str)), .ow (.box (txO w (once acc))), .sh (.str m0), .sh (optS p)] ∧ (∀ x, p = some x → PathS x) ∧ acc ++ (match p with | none => [] | some x => ups x) = (qs ++ [m0]).flatMap ups ∧
      n = (match p with | none => 0 | some x => (splS 46 x).length), ⟨_, rfl, qs.flatMap ups, some m0, rfl, fun x e => by cases e; exact hp, by rw [List.flatMap_append, List.flatMap_singleton], rfl⟩, ?_⟩
    rintro n ρ s2 ⟨rfl, acc, p, rfl, hp', hacc, rfl⟩
    cases p with
    | none =>
      refine ⟨(by intro w z; cases z), ?_⟩
      rw [List.append_nil] at hacc
      exact ⟨rfl, _, _, qs ++ [m0], by rw [List.map_append]; rfl, by rw [hacc]⟩
    | some x =>
      have hx := hp' x rfl
      refine ⟨(by intro w z; cases z), ?_⟩
      have step := ups_step hx
      have few := room (qs ++ [m0]) (fun q hq => by
        rcases List.mem_append.mp hq with z | z
        · exact sub q z
        · rw [List.mem_singleton.mp z]; exact hm) (by rw [List.length_append]; show _ + 1 ≤ _; omega)
      have la : acc.length ≤ 144 := by
        rw [← hacc, List.length_append] at few
        omega
      have lo := once_len acc
      refine ⟨⟨_, rfl⟩, x, once acc, rfl, rfl, by omega, x, rfl, ?_⟩
      rw [← once_snoc]
      refine ⟨(match parentS x with | none => 0 | some y => (splS 46 y).length), ?_, rfl, acc ++ [x], parentS x, rfl, fun y e => (parent_path hx e).1, ?_, rfl⟩
      · cases e : parentS x with
        | none => exact List.length_pos_iff.mpr (splS_ne 46 x)
        | some y => exact (parent_path hx e).2
      · rw [← hacc, List.append_assoc]
        show _ = acc ++ ups x
        rw [step]
        rfl
  · rintro ρ s' ⟨rfl, c2, c3, qs, e, rfl⟩
    have eq : qs = ms := (map_str_inj e).symm
    subst eq
    have few := room qs (fun q hq => hq) (Nat.le_refl _)
    have lo := once_len (qs.flatMap ups)
    refine ⟨_, rfl, by omega, fun x hx => ?_, _, _, rfl, rfl, hQ⟩
    obtain ⟨q, hq, hx'⟩ := List.mem_flatMap.mp (once_mem.mp hx)
    exact (ups_paths (h1.path q hq) x hx').ok
def T_prog_init05 (w : World) (a : Nat → Addr) {m : Mem} : DTS m :=
  (dSeq (dSet 3 (dCall spProgErr (daCons (dVar 1) (daCons (dVar 2) daNil))))
      (dSeq (dIf (dCmT isntD' (dVar 3) (dC D.non)) dNever dNext)
      (dSeq (dFst (a 24) 0 (Str.ofString "_modules") (dB tupD (daCons (dB sortD (daCons (dVar 1) daNil)) daNil)))
      (dSeq (dFst (a 24) 0 (Str.ofString "_uses") (dB tupD (daCons (dB sortD (daCons (dVar 2) daNil)) daNil)))
      (dFst (a 24) 0 (Str.ofString "_parts") (dCall spParts (daCons (dVar 1) daNil)))))))
theorem read_prog_init05 {w : World} {a : Nat → Addr} {m : Mem} : ∀ ds s Qd (x dx : Addr), (spProgI : ISp m) ds s Qd → (T_prog_init05 w a : DTS m) (endsI x dx (a 24) Qd) ((startD ["self", "modules", "uses", "error"] (.any (.ref x) :: ds)).set 0 (.ow (.ins x dx (a 24) [] []))) s := by
  intro ds s Qd x dx h
  obtain ⟨ms, us, rfl, h1, h2, h3, h4, hQ⟩ := h
  refine ⟨ms, us, rfl, h1, h2, h3, h4, (by intro w z; cases z), ?_⟩
  refine .inl ⟨_, ms, rfl, rfl, _, _, rfl, rfl, x, dx, [], [], rfl, (by simp), (by decide), ?_⟩
  refine .inr ⟨_, us, rfl, rfl, _, _, rfl, rfl, x, dx, _, _, rfl, (by decide +kernel), (by decide), ?_⟩
  refine ⟨ms, rfl, h1, h3, x, dx, _, _, rfl, (by decide +kernel), (by decide), ?_⟩
  exact ⟨_, _, rfl, hQ⟩
end RP

set_option Elab.async false
set_option linter.all false
set_option maxRecDepth 100000
set_option maxHeartbeats 1000000
/-! LP2: walks that keep or drop; programs and'ed, without others' uses -/
namespace RP
open PySem PySem.Spec PyProof.Rows L2 TL DL TX TO
theorem zl2 {n : Nat} (h : n ≤ 2000) : n ≤ sizeLine := line_of (by omega)
/-- [e for x in xs if p x], nothing drawn -/
theorem lcF {α : Type} {m : Mem} {f h : α → D} {p : α → Bool} {g : DG} {tt : DTT m} {te : DT m} {vs : List Nat} {ρ1 : List Sl} {s1 : m.S} {Q : DK m} (xs : List α) (hl : xs.length ≤ 2000)
    (turn : ∀ x ∈ xs, ∀ (T : D → m.S → Prop) (U : m.S → Prop), (p x = true → T (h x) s1) → (p x = false → U s1) → g (f x) (wipeD ρ1 vs) fun ρ2 => tt ρ2 s1 fun b ρ3 s3 => ρ3 = ρ2 ∧ ifB b (te ρ2 s3 fun y ρ4 s4 => ρ4 = ρ2 ∧ T y s4) (U s3))
    (fin : Q (.lst ((xs.filter p).map h)) ρ1 s1) : lcK g tt te vs Q (xs.map f) ρ1 s1 := by
  refine ⟨by rw [List.length_map]; exact zl2 hl, fun pre acc s => s = s1 ∧ acc = ((xs.take pre.length).filter p).map h, ⟨rfl, rfl⟩, ?_, ?_⟩
  · rintro pre y post acc s e - ⟨rfl, rfl⟩
    obtain ⟨x, hx, rfl, -⟩ := mid_map e
    have ht : xs.take (pre.length + 1) = xs.take pre.length ++ [x] := by
      rw [List.take_add_one, hx]; rfl
    refine turn x (List.mem_of_getElem? hx) _ _ (fun hp => ?_) fun hp => ?_
    · refine ⟨rfl, ?_⟩
      rw [List.length_append, List.length_singleton, ht, List.filter_append, List.map_append, List.filter_cons, hp]; rfl
    · refine ⟨rfl, ?_⟩
      rw [List.length_append, List.length_singleton, ht, List.filter_append, List.map_append, List.filter_cons, hp]; simp
  · rintro acc s - ⟨rfl, rfl⟩
    rw [List.length_map, List.take_length]
    exact fin
/-- [e for x in xs], nothing drawn -/
theorem filter_yes {α : Type} (xs : List α) : xs.filter (fun _ => true) = xs := List.filter_eq_self.mpr fun _ _ => rfl
theorem mem_srt {α : Type} {lt : α → α → Bool} {l : List α} {x : α} : x ∈ srt lt l ↔ x ∈ l := (srt_perm (lt := lt) l).mem_iff
theorem Uses.keep {ms ns : List Str} {us vs : List (Str × Str)} (h : Uses ms us) (k : Uses ns vs) : Uses (ms.filter fun x => decide (x ∈ ns)) (us.filter fun u => decide (u ∈ vs)) := ⟨h.nd.sublist List.filter_sublist, fun u hu => by
  obtain ⟨h1, h2⟩ := List.mem_filter.mp hu
  have h2 := of_decide_eq_true h2
  have a := h.ok u h1
  have b := k.ok u h2
  exact ⟨List.mem_filter.mpr ⟨a.1, decide_eq_true b.1⟩, List.mem_filter.mpr ⟨a.2.1, decide_eq_true b.2.1⟩, a.2.2⟩⟩
/-! ### promises -/
def spSub {m : Mem} (C : Addr) : DSp m := fun ds s Q => ∃ ms us ns vs, ds = [progD C ms us, progD C ns vs] ∧ Mods ms ∧ Uses ms us ∧ ms.length ≤ 24 ∧ us.length ≤ 75 ∧ Q (progD C ms (us.filter fun u => !decide (u ∈ vs))) s
end RP

set_option Elab.async false
set_option linter.all false
set_option maxRecDepth 100000
set_option maxHeartbeats 1000000
/-! GD: values that may be asked about and shown: few signs and items, not deep, of little weight -/
namespace RG
open PySem PySem.Spec PyProof.Rows L2 TL DL
theorem shown_int40 {i : Int} (h : i.natAbs < 10 ^ 40) : (PyData.shown (.int i)).length ≤ 41 := by
  have e := int_text_length_le10 (k := 40) (by decide) h
  show (Str.ofString (toString i)).length ≤ 41
  rw [PySem.ofString_length]; exact e
/-! ### values that may be shown: their leaves, their depth, their weight -/
mutual
def gl : D → Bool
  | .non => true
  | .bl _ => true
  | .int i => decide (i.natAbs < 10 ^ 40)
  | .str x => (tl x).all fun c => decide (c < 1114112)
  | .lst xs => gls xs
  | .tup xs => gls xs
  | .dic ks xs => glk ks xs
  | _ => false
def gls : List D → Bool
  | [] => true
  | d :: ds => gl d && gls ds
def glk : List Key → List D → Bool
  | [], [] => true
  | .inr x :: ks, d :: ds => ((tl x).all fun c => decide (c < 1114112)) && (gl d && glk ks ds)
  | _, _ => false
end
theorem str_leaf {B : Nat} {x : Str} (h : ((tl x).all fun c => decide (c < 1114112)) = true) : (PyData.str x).leavesShort B = true := by
  show (x.cps.toList.all fun c => decide (c < 16 ^ 8)) = true
  rw [List.all_eq_true] at h ⊢
  intro c hc
  have := of_decide_eq_true (h c hc)
  exact decide_eq_true (by omega)
mutual
theorem gl_leaves : ∀ d : D, gl d = true → (pyR d).leavesShort 41 = true ∧ (pyR d).showable = true
  | .non, _ => ⟨rfl, rfl⟩
  | .bl _, _ => ⟨rfl, rfl⟩
  | .int i, h => by
    have h : decide (i.natAbs < 10 ^ 40) = true := h
    have h := of_decide_eq_true h
    refine ⟨decide_eq_true (shown_int40 h), decide_eq_true ?_⟩
    have : i.natAbs.log2 < 1920 := by
      by_cases hz : i.natAbs = 0
      · rw [hz]; decide
      · have : i.natAbs.log2 < 200 := (Nat.log2_lt hz).mpr (Nat.lt_of_lt_of_le h (by decide))
        omega
    exact this
  | .str x, h => ⟨str_leaf h, rfl⟩
  | .lst xs, h => gls_leaves xs h
  | .tup xs, h => gls_leaves xs h
  | .dic ks xs, h => glk_leaves ks xs h
  | .ins _ _ _, h => by cases h
  | .any _, h => by cases h
  | .fz _, h => by cases h
  | .exc _ _ _, h => by cases h
theorem gls_leaves : ∀ ds : List D, gls ds = true → PyData.leavesShortAll 41 (pyRs ds) = true ∧ PyData.showableAll (pyRs ds) = true
  | [], _ => ⟨rfl, rfl⟩
  | d :: ds, h => by
    have h : (gl d && gls ds) = true := h
    rw [Bool.and_eq_true] at h
    obtain ⟨a1, a2⟩ := gl_leaves d h.1
    obtain ⟨b1, b2⟩ := gls_leaves ds h.2
    constructor
    · show (_ && _) = true; rw [a1, b1]; rfl
    · show (_ && _) = true; rw [a2, b2]; rfl
theorem glk_leaves : ∀ (ks : List Key) (ds : List D), glk ks ds = true → PyData.leavesShortKv 41 (pyRk ks ds) = true ∧ PyData.showableKv (pyRk ks ds) = true
  | [], [], _ => ⟨rfl, rfl⟩
  | .inl i :: ks, [], h => by cases h
  | .inl i :: ks, d :: ds, h => by cases h
  | .inr x :: ks, d :: ds, h => by
    have h : (((tl x).all fun c => decide (c < 1114112)) && (gl d && glk ks ds)) = true := h
    rw [Bool.and_eq_true, Bool.and_eq_true] at h
    obtain ⟨a1, a2⟩ := gl_leaves d h.2.1
    obtain ⟨b1, b2⟩ := glk_leaves ks ds h.2.2
    have c1 := str_leaf (B := 41) h.1
    constructor
    · show ((PyData.leavesShort 41 (.str x) && _) && _) = true
      rw [c1, a1, b1]; rfl
    · show ((PyData.showable (.str x) && _) && _) = true
      rw [a2, b2]; rfl
  | [], _ :: _, h => by cases h
  | .inr _ :: _, [], h => by cases h
end
theorem repOk_of {d : D} (h1 : repD 60 d = true) (h2 : gl d = true) (h3 : (pyR d).weight ≤ 100000) : repOk d = true := by
  obtain ⟨a1, a2⟩ := gl_leaves d h2
  have h := PyData.shown_le 41 (by decide) (pyR d) a1
  unfold repOk
  rw [h1, a2, Bool.true_and, Bool.true_and]
  refine decide_eq_true (Nat.le_trans h ?_)
  have : (4400000 : Nat) ≤ sizeLine := by rw [sizeLine_eq]; decide
  omega
mutual
/-- texts and tuples of few signs and items -/
def sm (N : Nat) : D → Bool
  | .non => true
  | .bl _ => true
  | .int _ => true
  | .lst _ => true
  | .dic _ _ => true
  | .str x => decide (x.length ≤ N)
  | .tup xs => decide (xs.length ≤ N) && sms N xs
  | _ => false
def sms (N : Nat) : List D → Bool
  | [] => true
  | d :: ds => sm N d && sms N ds
end
theorem sms_iff {N : Nat} : ∀ {xs : List D}, sms N xs = true ↔ ∀ x ∈ xs, sm N x = true
  | [] => ⟨fun _ _ h => (by cases h), fun _ => rfl⟩
  | d :: ds => by
    show (sm N d && sms N ds) = true ↔ _
    rw [Bool.and_eq_true, sms_iff, List.forall_mem_cons]
theorem gls_iff : ∀ {xs : List D}, gls xs = true ↔ ∀ x ∈ xs, gl x = true
  | [] => ⟨fun _ _ h => (by cases h), fun _ => rfl⟩
  | d :: ds => by
    show (gl d && gls ds) = true ↔ _
    rw [Bool.and_eq_true, gls_iff, List.forall_mem_cons]
theorem repDs_iff {n : Nat} : ∀ {xs : List D}, repDs n xs = true ↔ ∀ x ∈ xs, repD n x = true
  | [] => ⟨fun _ _ h => by (cases h), fun _ => by simp [repDs]⟩
  | d :: ds => by
    simp only [repDs]
    rw [Bool.and_eq_true, repDs_iff, List.forall_mem_cons]
theorem rep_tup {n : Nat} {xs : List D} : repD (n + 1) (.tup xs) = repDs n xs := by simp only [repD]
theorem rep_lst {n : Nat} {xs : List D} : repD (n + 1) (.lst xs) = repDs n xs := by simp only [repD]
mutual
theorem rep_mono : ∀ (n : Nat) (d : D), repD n d = true → repD (n + 1) d = true
  | n, .non, _ => by simp [repD]
  | n, .bl _, _ => by simp [repD]
  | n, .int _, _ => by simp [repD]
  | n, .str _, _ => by simp [repD]
  | 0, .lst _, h => by simp [repD] at h
  | n + 1, .lst xs, h => by
    simp only [repD] at h ⊢
    exact reps_mono n xs h
  | 0, .tup _, h => by simp [repD] at h
  | n + 1, .tup xs, h => by
    simp only [repD] at h ⊢
    exact reps_mono n xs h
  | 0, .dic _ _, h => by simp [repD] at h
  | n + 1, .dic _ xs, h => by
    simp only [repD] at h ⊢
    exact reps_mono n xs h
  | n, .ins _ _ _, h => by simp [repD] at h
  | n, .any _, h => by simp [repD] at h
  | n, .fz _, h => by simp [repD] at h
  | n, .exc _ _ _, h => by simp [repD] at h
theorem reps_mono : ∀ (n : Nat) (ds : List D), repDs n ds = true → repDs (n + 1) ds = true
  | n, [], _ => by simp [repDs]
  | n, d :: ds, h => by
    simp only [repDs] at h ⊢
    rw [Bool.and_eq_true] at h ⊢
    exact ⟨rep_mono n d h.1, reps_mono n ds h.2⟩
end
theorem rep_le {d : D} {n : Nat} (h : repD n d = true) : ∀ m, n ≤ m → repD m d = true
  | 0, hm => by
    have e : n = 0 := by omega
    rw [e] at h; exact h
  | m + 1, hm => by
    by_cases e : n = m + 1
    · rw [← e]; exact h
    · exact rep_mono m d (rep_le h m (by omega))
theorem sm_tup {N : Nat} {xs : List D} (h : sm N (.tup xs) = true) : xs.length ≤ N ∧ ∀ x ∈ xs, sm N x = true := by
  have h : (decide (xs.length ≤ N) && sms N xs) = true := h
  rw [Bool.and_eq_true] at h
  exact ⟨of_decide_eq_true h.1, sms_iff.mp h.2⟩
theorem tup_sm {N : Nat} {xs : List D} (h1 : xs.length ≤ N) (h2 : ∀ x ∈ xs, sm N x = true) : sm N (.tup xs) = true := by
  show (decide (xs.length ≤ N) && sms N xs) = true
  rw [decide_eq_true h1, sms_iff.mpr h2]; rfl
mutual
theorem sm_mono {N M : Nat} (hN : N ≤ M) : ∀ d : D, sm N d = true → sm M d = true
  | .non, _ => rfl
  | .bl _, _ => rfl
  | .int _, _ => rfl
  | .lst _, _ => rfl
  | .dic _ _, _ => rfl
  | .str _, h => decide_eq_true (Nat.le_trans (of_decide_eq_true h) hN)
  | .tup xs, h => by
    have h : (decide (xs.length ≤ N) && sms N xs) = true := h
    rw [Bool.and_eq_true] at h
    show (decide (xs.length ≤ M) && sms M xs) = true
    rw [decide_eq_true (Nat.le_trans (of_decide_eq_true h.1) hN), sms_mono hN xs h.2]; rfl
  | .ins _ _ _, h => by cases h
  | .any _, h => by cases h
  | .fz _, h => by cases h
  | .exc _ _ _, h => by cases h
theorem sms_mono {N M : Nat} (hN : N ≤ M) : ∀ ds : List D, sms N ds = true → sms M ds = true
  | [], _ => rfl
  | d :: ds, h => by
    have h : (sm N d && sms N ds) = true := h
    rw [Bool.and_eq_true] at h
    show (sm M d && sms M ds) = true
    rw [sm_mono hN d h.1, sms_mono hN ds h.2]; rfl
end
def wt (d : D) : Nat := (pyR d).weight
def wl (xs : List D) : Nat := PyData.weightAll (pyRs xs)
theorem wl_cons (d : D) (ds : List D) : wl (d :: ds) = wt d + 1 + wl ds := by
  show PyData.weightAll (pyR d :: pyRs ds) = _
  simp only [PyData.weightAll]; rfl
theorem wl_nil : wl [] = 0 := by show PyData.weightAll [] = 0; simp only [PyData.weightAll]
theorem wt_tup (xs : List D) : wt (.tup xs) = wl xs := by
  show (PyData.tuple (pyRs xs)).weight = _
  simp only [PyData.weight]; rfl
theorem wt_lst (xs : List D) : wt (.lst xs) = wl xs := by
  show (PyData.list (pyRs xs)).weight = _
  simp only [PyData.weight]; rfl
theorem wt_str (x : Str) : wt (.str x) = x.length := by
  show (PyData.str x).weight = _
  simp only [PyData.weight]; rfl
theorem wl_app (xs ys : List D) : wl (xs ++ ys) = wl xs + wl ys := by
  induction xs with
  | nil => rw [List.nil_append, wl_nil]; omega
  | cons d ds ih => rw [List.cons_append, wl_cons, wl_cons, ih]; omega
theorem wl_take (n : Nat) (xs : List D) : wl (xs.take n) ≤ wl xs := by
  have h := wl_app (xs.take n) (xs.drop n)
  rw [List.take_append_drop] at h
  omega
theorem wl_drop (n : Nat) (xs : List D) : wl (xs.drop n) ≤ wl xs := by
  have h := wl_app (xs.take n) (xs.drop n)
  rw [List.take_append_drop] at h
  omega
theorem wl_mem {x : D} {xs : List D} (h : x ∈ xs) : wt x + 1 ≤ wl xs := by
  induction xs with
  | nil => cases h
  | cons d ds ih =>
    rw [wl_cons]
    rcases List.mem_cons.mp h with rfl | h
    · omega
    · have := ih h; omega
/-- what the drawing defs give: asked about and shown -/
structure Gd (N W n : Nat) (d : D) : Prop where
  s : sm N d = true
  r : repD n d = true
  g : gl d = true
  w : wt d ≤ W
structure Gs (N W n : Nat) (xs : List D) : Prop where
  s : ∀ x ∈ xs, sm N x = true
  r : ∀ x ∈ xs, repD n x = true
  g : ∀ x ∈ xs, gl x = true
  w : wl xs ≤ W
theorem Gd.mono {N W n N' W' n' : Nat} {d : D} (h : Gd N W n d) (h1 : N ≤ N') (h2 : W ≤ W') (h3 : n ≤ n') : Gd N' W' n' d := ⟨sm_mono h1 d h.s, rep_le h.r _ h3, h.g, Nat.le_trans h.w h2⟩
theorem Gs.mono {N W n N' W' n' : Nat} {d : List D} (h : Gs N W n d) (h1 : N ≤ N') (h2 : W ≤ W') (h3 : n ≤ n') : Gs N' W' n' d := ⟨fun x hx => sm_mono h1 x (h.s x hx), fun x hx => rep_le (h.r x hx) _ h3, h.g, Nat.le_trans h.w h2⟩
theorem Gd.items {N W n : Nat} {xs : List D} (h : Gd N W (n + 1) (.tup xs)) : Gs N W n xs ∧ xs.length ≤ N := by
  obtain ⟨h1, h2⟩ := sm_tup h.s
  have hr := h.r
  rw [rep_tup] at hr
  have hw := h.w
  rw [wt_tup] at hw
  exact ⟨⟨h2, repDs_iff.mp hr, gls_iff.mp h.g, hw⟩, h1⟩
theorem Gs.tup {N W n : Nat} {xs : List D} (h : Gs N W n xs) (hl : xs.length ≤ N) : Gd N W (n + 1) (.tup xs) :=
  ⟨tup_sm hl h.s, by rw [rep_tup]; exact repDs_iff.mpr h.r, gls_iff.mpr h.g, by rw [wt_tup]; exact h.w⟩
theorem Gs.lst {N W n : Nat} {xs : List D} (h : Gs N W n xs) : Gd N W (n + 1) (.lst xs) :=
  ⟨rfl, by rw [rep_lst]; exact repDs_iff.mpr h.r, gls_iff.mpr h.g, by rw [wt_lst]; exact h.w⟩
theorem Gs.app {N W W' n : Nat} {xs ys : List D} (h : Gs N W n xs) (h' : Gs N W' n ys) : Gs N (W + W') n (xs ++ ys) :=
  ⟨fun x hx => (List.mem_append.mp hx).elim (h.s x) (h'.s x), fun x hx => (List.mem_append.mp hx).elim (h.r x) (h'.r x), fun x hx => (List.mem_append.mp hx).elim (h.g x) (h'.g x), by rw [wl_app]; have := h.w; have := h'.w; omega⟩
theorem Gs.one {N W n : Nat} {x : D} (h : Gd N W n x) : Gs N (W + 1) n [x] :=
  ⟨fun y hy => by rw [List.mem_singleton.mp hy]; exact h.s, fun y hy => by rw [List.mem_singleton.mp hy]; exact h.r, fun y hy => by rw [List.mem_singleton.mp hy]; exact h.g, by rw [wl_cons, wl_nil]; have := h.w; omega⟩
theorem Gs.cut {N W n : Nat} {xs : List D} (h : Gs N W n xs) (lo hi : Option Int) : Gs N W n (DL.cutD xs lo hi) := by
  have sub : ∀ x ∈ DL.cutD xs lo hi, x ∈ xs := fun x hx => List.mem_of_mem_drop (List.mem_of_mem_take hx)
  exact ⟨fun x hx => h.s x (sub x hx), fun x hx => h.r x (sub x hx), fun x hx => h.g x (sub x hx), Nat.le_trans (wl_take _ _) (Nat.le_trans (wl_drop _ _) h.w)⟩
theorem Gs.mem {N W n : Nat} {xs : List D} (h : Gs N W n xs) {x : D} (hx : x ∈ xs) : Gd N W n x := ⟨h.s x hx, h.r x hx, h.g x hx, by have := wl_mem hx; have := h.w; omega⟩
theorem gd_str {x : Str} {N : Nat} (h : x.length ≤ N) (hc : ∀ c ∈ tl x, c < 1114112) (n : Nat) : Gd N N n (.str x) :=
  ⟨decide_eq_true h, by simp [repD], List.all_eq_true.mpr fun c hx => decide_eq_true (hc c hx), by rw [wt_str]; exact h⟩
theorem Gd.ok {N W n : Nat} {d : D} (h : Gd N W n d) (h2 : W ≤ 100000) (h3 : n ≤ 60) : repOk d = true := repOk_of (rep_le h.r _ h3) h.g (Nat.le_trans h.w h2)
theorem sm_ty {N : Nat} {d : D} (h : sm N d = true) : (tyT d).isSome = true := by
  cases d with
  | ins _ _ _ => cases h
  | any _ => cases h
  | fz _ => cases h
  | exc _ _ _ => cases h
  | cau _ _ _ _ => cases h
  | _ => rfl
theorem Gd.ty {N W n : Nat} {d : D} (h : Gd N W n d) : ∃ t, tyT d = some t := Option.isSome_iff_exists.mp (sm_ty h.s)
end RG

set_option Elab.async false
set_option linter.all false
set_option maxRecDepth 100000
/-! EL20: a, b, .. = a list of that length, over data -/
namespace DL
open PySem PySem.Spec PyProof.Rows L2 TL
section
variable {X : Cx} {m : Mem} {pos : Pos}
end
end DL

set_option Elab.async false
set_option linter.all false
set_option maxRecDepth 100000
/-! EL21: len(set(xs)), xs a list or a tuple of texts -/
namespace DL
open PySem PySem.Spec PyProof.Rows L2 TL TX TO
section
variable {X : Cx}
theorem cr_lenSetTx : CallR X (.builtin "len") (fun xs H Q => ∃ a ys, xs = [V.ref a] ∧ H a = some (txO X.w ys a) ∧ ys.length < 4096 ∧ Q (.int ys.length) H) := by
  intro pins s σ H vs us Q I r h
  obtain ⟨a, ys, rfl, ha, hl, q⟩ := h
  rw [Vals.ref1 r]
  obtain ⟨D, e, T, _⟩ := txO_get I ha
  have t := T X.prog
  have hz : D.1.size = ys.length := t.sz
  exact call_len_set (o := PySem.Froz.sObj "set" D) (es := D.1) (ep := D.2.1) (t := D.2.2) e ⟨rfl, rfl, rfl⟩ rfl t.fit (by rw [hz]; omega) ⟨.int ys.length, H, I.tok _, ⟨_, by rw [hz]⟩, q⟩
variable {m : Mem} {e : Expr} {te : DT m} {pos p p2 cp : Pos}
/-- len(set(e)) -/
def dLenSet {m : Mem} (te : DT m) : DT m := fun ρ s Q => te ρ s fun d ρ1 s1 => ∃ xs, seqD d = some (xs.map D.str) ∧ xs.length < 4000 ∧ Q (.int ((once xs).length : Nat)) ρ1 s1
theorem de_lenSet (hc : X.calm = true) (hg : Gl X "len") (hm : X.mg "len" = none) (hg2 : Gl X "set") (hm2 : X.mg "set" = none) (he : PE X e (up X.K m te)) (hs : starEach [e] X.env = [(false, eval e X.env)] := by rfl)
    (hs2 : starEach [.Call (.Name "set" p2) [e] [] cp] X.env = [(false, eval (.Call (.Name "set" p2) [e] [] cp) X.env)] := by rfl) :
    PE X (.Call (.Name "len" p) [.Call (.Name "set" p2) [e] [] cp] [] pos) (up X.K m (dLenSet te)) :=
  PE.imp (pe_callB cr_lenSetTx hg hm (by decide +kernel) (pa_cons (pe_callTy (cr_setTx hc) hg2 hm2 (by decide +kernel) (pa_cons he pa_nil (by rw [hs]; rfl)) (by decide) (by decide) (by rw [hs]; rfl) rfl) pa_nil (by rw [hs2]; rfl)) (by decide) (by decide) (by rw [hs2]; rfl) rfl) fun σ H Q h => by
    obtain ⟨F, ρ, s, Qd, r, ht, hQ⟩ := h
    refine ⟨F, ρ, s, _, r, ht, fun d ρ1 s1 v F1 H1 ⟨xs, ed, few, q1⟩ r1 st1 rv => ?_⟩
    obtain ⟨a, ws, rfl, hsq, hl, rs⟩ := seq_at r1.sub rv ed
    obtain ⟨ew, ok⟩ := reps_strs rs
    subst ew
    refine ⟨a, xs, rfl, hsq, few, fun p0 np => ⟨p0, once xs, rfl, upd_same, by have := once_len xs; omega, ?_⟩⟩
    have g0 : Grow F1 H1 F1 (upd H1 p0 (txO X.w (once xs) p0)) := ⟨Same.refl _, same_upd np, fun b o z => by rw [upd_ne (ne_of_none (r1.sub b o z) np)]; exact r1.sub b o z, fun _ _ z => .inl z⟩
    exact hQ _ ρ1 s1 _ _ _ q1 (r1.grow g0) (st1.trans g0.stp) rfl
end
end DL

set_option Elab.async false
set_option linter.all false
set_option maxRecDepth 100000
set_option maxHeartbeats 1000000
/-! ZN: zip of two tuples, its pairs under one name: whether the zip finds its last pair alive or not, a new pair is handed out -/
namespace ZN
open PySem PySem.Spec PyProof.Rows L2 RZ
open PySem.Sem (wp)
abbrev IsZ (h : Heap) (z TI TO : Addr) (f0 f1 : Value) : Prop :=
  h.get? z = some { cls := .type "zip", dict := none, data := .fields #[f0, f1, .bool false, .ref TI, .ref TO], slots := #[] }
/-- what the zip remembers of its last pair -/
def Mark (v : Value) : Prop := v = .none ∨ ∃ r : Nat, v = rawInt r
section
variable {prog : Program} {w : World} {A : Around} {E : Value → Shared → Prop} {s : Shared}
theorem look {a : Addr} {Q : Option Obj → Shared → Prop} (h : Q (s.heap.get? a) s) : wpAny (model prog w) A (loadIfAlive a) Q E s := fun Γ p hΓ => by
  unfold loadIfAlive
  rw [Sem.wp_loadIfAlive]
  exact h
theorem free {z TI TO : Addr} {f0 f1 : Value} {Q : Bool → Shared → Prop} (hz : IsZ s.heap z TI TO f0 f1) (hf : Mark f0)
    (q : ∀ b g1 h', IsZ h' z TI TO f0 g1 → Heap.SameBut z s.heap h' → Q b { s with heap := h' }) : wpAny (model prog w) A (Builtin.SmallTypes.ownedTupleIsFree (.ref z)) Q E s := by
  unfold Builtin.SmallTypes.ownedTupleIsFree
  refine wpAny_bind (wpAny_field hz rfl (x := f0) rfl ?_)
  rcases hf with rfl | ⟨r, rfl⟩
  · exact wpAny_pure (q true f1 s.heap hz (Heap.SameBut.refl ..))
  · show wpAny _ _ (loadIfAlive (Int.toNat r) >>= _) _ _ _
    refine wpAny_bind (look ?_)
    cases s.heap.get? (Int.toNat r) with
    | none => exact wpAny_pure (q true f1 s.heap hz (Heap.SameBut.refl ..))
    | some o =>
      show wpAny _ _ (field (.ref z) 1 >>= _) _ _ _
      refine wpAny_bind (wpAny_field hz rfl (x := f1) rfl ?_)
      by_cases c : (f1 != .bool true) = true
      · simp only [c, if_true]
        refine wpAny_bind (wpAny_setField_rec hz (by simp) fun h' hz' sb => wpAny_pure ?_)
        exact q false (.bool true) h' hz' sb
      · simp only [c, if_false]
        exact wpAny_pure (q false f1 s.heap hz (Heap.SameBut.refl ..))

theorem nextZ {z TI TO i1 i2 l1 l2 : Addr} {k1 k2 : Nat} {xs ys : Array Value} {x y a b f0 f1 : Value} {Q : Value → Shared → Prop} (D : ZipApart z TI TO i1 i2 l1 l2)
    (hz : IsZ s.heap z TI TO f0 f1) (hf : Mark f0) (hTI : IsPair s.heap TI (.ref i1) (.ref i2)) (hTO : IsPair s.heap TO a b)
    (h1 : s.heap.IsTupleIter i1 l1 k1) (h2 : s.heap.IsTupleIter i2 l2 k2) (hl1 : s.heap.IsTuple l1 xs) (hl2 : s.heap.IsTuple l2 ys) (hx : xs[k1]? = some x) (hy : ys[k2]? = some y)
    (hQ : ∀ h', (∃ g0 g1, IsZ h' z TI TO g0 g1 ∧ Mark g0) → (∃ a b, IsPair h' TO a b) → h'.IsTupleIter i1 l1 (k1 + 1) → h'.IsTupleIter i2 l2 (k2 + 1) → IsPair h' s.heap.objs.size x y →
      (∀ c o, c ≠ z → c ≠ TO → c ≠ i1 → c ≠ i2 → s.heap.get? c = some o → h'.get? c = some o) → Q (.ref s.heap.objs.size) { s with heap := h' }) :
    wpAny (model prog w) A (Builtin.«zip.__next__» ⟨[.ref z], []⟩) (fun fin s' => ∃ v, fin = .done (.ret v) ∧ Q v s') E s := by
  show wpAny _ _ (field (.ref z) 2 >>= _) _ _ _
  refine wpAny_bind (wpAny_field hz rfl (x := .bool false) rfl ?_)
  show wpAny _ _ (field (.ref z) 3 >>= _) _ _ _
  refine wpAny_bind (wpAny_field hz rfl (x := .ref TI) rfl ?_)
  refine wpAny_bind (wpAny_seqItems hTI rfl ?_)
  show wpAny _ _ (Builtin.SmallTypes.ownedTupleIsFree (.ref z) >>= _) _ _ _
  refine wpAny_bind (free hz hf fun fr g1 h0 hz0 hs0 => ?_)
  have hTO0 : IsPair h0 TO a b := hs0.extBut _ _ D.TOz hTO
  have a1 := h1.extBut hs0.extBut D.i1z
  have a2 := h2.extBut hs0.extBut D.i2z
  have c1 := hl1.extBut hs0.extBut D.l1z
  have c2 := hl2.extBut hs0.extBut D.l2z
  cases fr with
  | true =>
    simp only [if_true]
    refine wpAny_bind (wpAny_rule ?_)
    refine wpAny_bind (wpAny_field hz0 rfl (x := .ref TO) rfl ?_)
    dsimp only
    refine wpAny_bind (wpAny_setField_rec hz0 (by simp) fun j1 z1 b1 => ?_)
    replace z1 : IsZ j1 z TI TO .ellipsis g1 := z1
    refine wpAny_bind ?_
    simp only [List.zipIdx_cons, List.zipIdx_nil, List.forIn_cons, List.forIn_nil]
    refine wpAny_bind (wpAny_bind (wpAny_onRaise ?_))
    show wpAny _ _ (Builtin.SmallTypes.nextOf (.ref i1) >>= _) _ _ _
    refine wpAny_bind (nextOf_tuple_item (a1.extBut b1.extBut D.i1z) (c1.extBut b1.extBut D.l1z) hx fun j2 n1 b2 => wpAny_pure ?_)
    have t2 : IsPair j2 TO a b := b2.extBut _ _ D.TOi1 (b1.extBut _ _ D.TOz hTO0)
    refine wpAny_bind (wpAny_seqItems t2 rfl ?_)
    refine wpAny_bind (wpAny_updateSeq_pair t2 fun j3 t3 b3 => ?_)
    replace t3 : IsPair j3 TO x b := t3
    refine wpAny_bind (wpAny_letGo (wpAny_pure ?_))
    refine wpAny_bind (wpAny_bind (wpAny_onRaise ?_))
    show wpAny _ _ (Builtin.SmallTypes.nextOf (.ref i2) >>= _) _ _ _
    refine wpAny_bind (nextOf_tuple_item (((a2.extBut b1.extBut D.i2z).extBut b2.extBut D.i12.symm).extBut b3.extBut D.TOi2.symm) (((c2.extBut b1.extBut D.l2z).extBut b2.extBut D.l2i1).extBut b3.extBut D.l2TO) hy fun j4 n2 b4 => wpAny_pure ?_)
    have t4 : IsPair j4 TO x b := b4.extBut _ _ D.TOi2 t3
    refine wpAny_bind (wpAny_seqItems t4 rfl ?_)
    refine wpAny_bind (wpAny_updateSeq_pair t4 fun j5 t5 b5 => ?_)
    replace t5 : IsPair j5 TO x y := t5
    refine wpAny_bind (wpAny_letGo (wpAny_pure (wpAny_pure ?_)))
    refine wpAny_bind (wpAny_seqItems t5 rfl ?_)
    refine wpAny_bind (wpAny_newTuple ?_)
    have hsz : j5.objs.size = s.heap.objs.size := by rw [b5.1, b4.1, b3.1, b2.1, b1.1, hs0.1]
    have z5 : IsZ j5 z TI TO .ellipsis g1 := b5.extBut _ _ D.TOz.symm (b4.extBut _ _ D.i2z.symm (b3.extBut _ _ D.TOz.symm (b2.extBut _ _ D.i1z.symm z1)))
    have k5 : ∀ c o, c ≠ z → c ≠ TO → c ≠ i1 → c ≠ i2 → s.heap.get? c = some o → j5.get? c = some o := fun c o d1 d2 d3 d4 e =>
      b5.extBut _ _ d2 (b4.extBut _ _ d4 (b3.extBut _ _ d2 (b2.extBut _ _ d3 (b1.extBut _ _ d1 (hs0.extBut _ _ d1 e)))))
    have m1 : j5.IsTupleIter i1 l1 (k1 + 1) := ((n1.extBut b3.extBut D.TOi1.symm).extBut b4.extBut D.i12).extBut b5.extBut D.TOi1.symm
    have m2 : j5.IsTupleIter i2 l2 (k2 + 1) := n2.extBut b5.extBut D.TOi2.symm
    have zlt : z < j5.objs.size := Heap.lt_size z5
    show wpAny _ _ (Builtin.SmallTypes.ownedTupleHandOut (.ref z) (.ref j5.objs.size) >>= _) _ _ _
    refine wpAny_bind ?_
    unfold Builtin.SmallTypes.ownedTupleHandOut
    have z6 : IsZ (j5.push { cls := .type "tuple", data := .seq #[x, y] }) z TI TO .ellipsis g1 := Heap.get?_push_of_some _ z5
    refine wpAny_bind (wpAny_setField_rec z6 (by simp) fun j7 z7 b7 => ?_)
    replace z7 : IsZ j7 z TI TO (rawInt j5.objs.size) g1 := z7
    refine wpAny_setField_rec z7 (by simp) fun j8 z8 b8 => ?_
    replace z8 : IsZ j8 z TI TO (rawInt j5.objs.size) (.bool false) := z8
    have up : ∀ c o, c ≠ z → j5.get? c = some o → j8.get? c = some o := fun c o d1 e => b8.extBut _ _ d1 (b7.extBut _ _ d1 (Heap.get?_push_of_some _ e))
    have T8 : IsPair j8 j5.objs.size x y := b8.extBut _ _ (Nat.ne_of_gt zlt) (b7.extBut _ _ (Nat.ne_of_gt zlt) (Heap.get?_push_size _ rfl))
    rw [hsz] at T8
    refine wpAny_pure ⟨_, rfl, ?_⟩
    show Q (.ref j5.objs.size) _
    rw [hsz]
    exact hQ j8 ⟨_, _, z8, .inr ⟨_, rfl⟩⟩ ⟨x, y, up _ _ D.TOz t5⟩ (m1.at fun o e => up _ o D.i1z e) (m2.at fun o e => up _ o D.i2z e) T8 fun c o d1 d2 d3 d4 e => up c o d1 (k5 c o d1 d2 d3 d4 e)
  | false =>
    dsimp only
    rw [if_neg Bool.false_ne_true]
    refine wpAny_bind ?_
    simp only [List.forIn_toArray, List.forIn_cons, List.forIn_nil]
    refine wpAny_bind (wpAny_bind (wpAny_holding ?_))
    show wpAny _ _ (Builtin.SmallTypes.nextOf (.ref i1) >>= _) _ _ _
    refine wpAny_bind (nextOf_tuple_item a1 c1 hx fun j2 n1 b2 => wpAny_pure ?_)
    refine wpAny_pure ?_
    refine wpAny_bind (wpAny_bind (wpAny_holding ?_))
    show wpAny _ _ (Builtin.SmallTypes.nextOf (.ref i2) >>= _) _ _ _
    refine wpAny_bind (nextOf_tuple_item (a2.extBut b2.extBut D.i12.symm) (c2.extBut b2.extBut D.l2i1) hy fun j4 n2 b4 => wpAny_pure ?_)
    refine wpAny_pure (wpAny_pure ?_)
    refine wpAny_bind (wpAny_newTuple ?_ (by show 2 ≤ sizeLine; decide))
    have hsz : j4.objs.size = s.heap.objs.size := by rw [b4.1, b2.1, hs0.1]
    have k4 : ∀ c o, c ≠ z → c ≠ i1 → c ≠ i2 → s.heap.get? c = some o → j4.get? c = some o := fun c o d1 d3 d4 e => b4.extBut _ _ d4 (b2.extBut _ _ d3 (hs0.extBut _ _ d1 e))
    refine wpAny_pure ⟨_, rfl, ?_⟩
    show Q (.ref j4.objs.size) _
    have T : IsPair (j4.push { cls := .type "tuple", data := .seq #[x, y] }) j4.objs.size x y := Heap.get?_push_size _ rfl
    rw [hsz] at T ⊢
    exact hQ _ ⟨f0, g1, Heap.get?_push_of_some _ (b4.extBut _ _ D.i2z.symm (b2.extBut _ _ D.i1z.symm hz0)), hf⟩ ⟨a, b, Heap.get?_push_of_some _ (b4.extBut _ _ D.TOi2 (b2.extBut _ _ D.TOi1 hTO0))⟩
      ((n1.extBut b4.extBut D.i12).at fun o e => Heap.get?_push_of_some _ e) (n2.at fun o e => Heap.get?_push_of_some _ e) T fun c o d1 d2 d3 d4 e => Heap.get?_push_of_some _ (k4 c o d1 d3 d4 e)
theorem endZ {z TI TO i1 i2 l1 l2 : Addr} {k1 k2 : Nat} {xs ys : Array Value} {a b f0 f1 : Value} {Q : Fin → Shared → Prop} (hh : A.handled = none) (D : ZipApart z TI TO i1 i2 l1 l2)
    (hz : IsZ s.heap z TI TO f0 f1) (hf : Mark f0) (hTI : IsPair s.heap TI (.ref i1) (.ref i2)) (hTO : IsPair s.heap TO a b)
    (h1 : s.heap.IsTupleIter i1 l1 k1) (h2 : s.heap.IsTupleIter i2 l2 k2) (hl1 : s.heap.IsTuple l1 xs) (hl2 : s.heap.IsTuple l2 ys) (hend : xs[k1]? = none ∨ ys[k2]? = none)
    (hE : ∀ h' e, (∀ c o, c ≠ z → c ≠ TO → c ≠ i1 → c ≠ i2 → s.heap.get? c = some o → h'.get? c = some o) → (∃ o, h'.get? e = some o ∧ o.cls = .type "StopIteration") → E (.ref e) { s with heap := h' }) :
    wpAny (model prog w) A (Builtin.«zip.__next__» ⟨[.ref z], []⟩) Q E s := by
  show wpAny _ _ (field (.ref z) 2 >>= _) _ _ _
  refine wpAny_bind (wpAny_field hz rfl (x := .bool false) rfl ?_)
  show wpAny _ _ (field (.ref z) 3 >>= _) _ _ _
  refine wpAny_bind (wpAny_field hz rfl (x := .ref TI) rfl ?_)
  refine wpAny_bind (wpAny_seqItems hTI rfl ?_)
  show wpAny _ _ (Builtin.SmallTypes.ownedTupleIsFree (.ref z) >>= _) _ _ _
  refine wpAny_bind (free hz hf fun fr g1 h0 hz0 hs0 => ?_)
  have hTO0 : IsPair h0 TO a b := hs0.extBut _ _ D.TOz hTO
  have a1 := h1.extBut hs0.extBut D.i1z
  have a2 := h2.extBut hs0.extBut D.i2z
  have c1 := hl1.extBut hs0.extBut D.l1z
  have c2 := hl2.extBut hs0.extBut D.l2z
  cases fr with
  | true =>
    simp only [if_true]
    refine wpAny_bind (wpAny_rule ?_)
    refine wpAny_bind (wpAny_field hz0 rfl (x := .ref TO) rfl ?_)
    dsimp only
    refine wpAny_bind (wpAny_setField_rec hz0 (by simp) fun j1 z1 b1 => ?_)
    replace z1 : IsZ j1 z TI TO .ellipsis g1 := z1
    refine wpAny_bind ?_
    simp only [List.zipIdx_cons, List.zipIdx_nil, List.forIn_cons, List.forIn_nil]
    refine wpAny_bind (wpAny_bind (wpAny_onRaise ?_))
    show wpAny _ _ (Builtin.SmallTypes.nextOf (.ref i1) >>= _) _ _ _
    cases hx : xs[k1]? with
    | none =>
      refine wpAny_bind (nextOf_tuple_end hh (a1.extBut b1.extBut D.i1z) (c1.extBut b1.extBut D.l1z) hx fun j2 e b2 he => ?_)
      obtain ⟨oe, hoe, hce⟩ := he
      have z2 : IsZ j2 z TI TO .ellipsis g1 := b2 _ _ D.i1z.symm z1
      have hez : e ≠ z := fun q => by subst q; rw [z2] at hoe; cases hoe; simp at hce
      refine wpAny_setField_rec z2 (by simp) fun j3 _ b3 => hE j3 e (fun c o d1 _ d3 _ q => b3.extBut _ _ d1 (b2 _ _ d3 (b1.extBut _ _ d1 (hs0.extBut _ _ d1 q)))) ⟨oe, b3.extBut _ _ hez hoe, hce⟩
    | some x =>
      have hy : ys[k2]? = none := by rcases hend with h | h; rw [hx] at h; cases h; exact h
      refine wpAny_bind (nextOf_tuple_item (a1.extBut b1.extBut D.i1z) (c1.extBut b1.extBut D.l1z) hx fun j2 n1 b2 => wpAny_pure ?_)
      have t2 : IsPair j2 TO a b := b2.extBut _ _ D.TOi1 (b1.extBut _ _ D.TOz hTO0)
      refine wpAny_bind (wpAny_seqItems t2 rfl ?_)
      refine wpAny_bind (wpAny_updateSeq_pair t2 fun j3 t3 b3 => ?_)
      refine wpAny_bind (wpAny_letGo (wpAny_pure ?_))
      refine wpAny_bind (wpAny_bind (wpAny_onRaise ?_))
      show wpAny _ _ (Builtin.SmallTypes.nextOf (.ref i2) >>= _) _ _ _
      refine wpAny_bind (nextOf_tuple_end hh (((a2.extBut b1.extBut D.i2z).extBut b2.extBut D.i12.symm).extBut b3.extBut D.TOi2.symm) (((c2.extBut b1.extBut D.l2z).extBut b2.extBut D.l2i1).extBut b3.extBut D.l2TO) hy fun j4 e b4 he => ?_)
      obtain ⟨oe, hoe, hce⟩ := he
      have z4 : IsZ j4 z TI TO .ellipsis g1 := b4 _ _ D.i2z.symm (b3.extBut _ _ D.TOz.symm (b2.extBut _ _ D.i1z.symm z1))
      have hez : e ≠ z := fun q => by subst q; rw [z4] at hoe; cases hoe; simp at hce
      refine wpAny_setField_rec z4 (by simp) fun j5 _ b5 => hE j5 e (fun c o d1 d2 d3 d4 q => b5.extBut _ _ d1 (b4 _ _ d4 (b3.extBut _ _ d2 (b2.extBut _ _ d3 (b1.extBut _ _ d1 (hs0.extBut _ _ d1 q)))))) ⟨oe, b5.extBut _ _ hez hoe, hce⟩
  | false =>
    dsimp only
    rw [if_neg Bool.false_ne_true]
    refine wpAny_bind ?_
    simp only [List.forIn_toArray, List.forIn_cons, List.forIn_nil]
    refine wpAny_bind (wpAny_bind (wpAny_holding ?_))
    show wpAny _ _ (Builtin.SmallTypes.nextOf (.ref i1) >>= _) _ _ _
    cases hx : xs[k1]? with
    | none =>
      refine wpAny_bind (nextOf_tuple_end hh a1 c1 hx fun j2 e b2 he => hE j2 e (fun c o d1 _ d3 _ q => b2 _ _ d3 (hs0.extBut _ _ d1 q)) he)
    | some x =>
      have hy : ys[k2]? = none := by rcases hend with h | h; rw [hx] at h; cases h; exact h
      refine wpAny_bind (nextOf_tuple_item a1 c1 hx fun j2 n1 b2 => wpAny_pure ?_)
      refine wpAny_pure ?_
      refine wpAny_bind (wpAny_bind (wpAny_holding ?_))
      show wpAny _ _ (Builtin.SmallTypes.nextOf (.ref i2) >>= _) _ _ _
      refine wpAny_bind (nextOf_tuple_end hh (a2.extBut b2.extBut D.i12.symm) (c2.extBut b2.extBut D.l2i1) hy fun j4 e b4 he => hE j4 e (fun c o d1 d2 d3 d4 q => b4 _ _ d4 (b2.extBut _ _ d3 (hs0.extBut _ _ d1 q))) he)
theorem pyNextZ {z TI TO i1 i2 l1 l2 : Addr} {k1 k2 : Nat} {xs ys : Array Value} {x y a b f0 f1 : Value} {Q : Option Value → Shared → Prop} (D : ZipApart z TI TO i1 i2 l1 l2)
    (hz : IsZ s.heap z TI TO f0 f1) (hf : Mark f0) (hTI : IsPair s.heap TI (.ref i1) (.ref i2)) (hTO : IsPair s.heap TO a b)
    (h1 : s.heap.IsTupleIter i1 l1 k1) (h2 : s.heap.IsTupleIter i2 l2 k2) (hl1 : s.heap.IsTuple l1 xs) (hl2 : s.heap.IsTuple l2 ys) (hx : xs[k1]? = some x) (hy : ys[k2]? = some y)
    (hQ : ∀ h', (∃ g0 g1, IsZ h' z TI TO g0 g1 ∧ Mark g0) → (∃ a b, IsPair h' TO a b) → h'.IsTupleIter i1 l1 (k1 + 1) → h'.IsTupleIter i2 l2 (k2 + 1) → IsPair h' s.heap.objs.size x y →
      (∀ c o, c ≠ z → c ≠ TO → c ≠ i1 → c ≠ i2 → s.heap.get? c = some o → h'.get? c = some o) → Q (some (.ref s.heap.objs.size)) { s with heap := h' }) :
    wpAny (model prog w) A (pyNext (.ref z)) Q E s := by
  have hT : s.TypeIs (.ref z) "zip" := ⟨_, hz, rfl⟩
  unfold pyNext
  exact wpAny_bind (wpAny_attempt (wpAny_callSpecial?_slot (name := Str.ofString "__next__") hT F.slot_zip_next
    (wpAny_call_entry F.slot_zip_next hT F.entry_zip_next
      (nextZ D hz hf hTI hTO h1 h2 hl1 hl2 hx hy fun h' a1 a2 a3 a4 a5 a6 => wpAny_pure (hQ h' a1 a2 a3 a4 a5 a6)) (F.args_zip_next_1 _))))
theorem pyNextEnd {z TI TO i1 i2 l1 l2 : Addr} {k1 k2 : Nat} {xs ys : Array Value} {a b f0 f1 : Value} {Q : Option Value → Shared → Prop} (hh : A.handled = none) (D : ZipApart z TI TO i1 i2 l1 l2)
    (hz : IsZ s.heap z TI TO f0 f1) (hf : Mark f0) (hTI : IsPair s.heap TI (.ref i1) (.ref i2)) (hTO : IsPair s.heap TO a b)
    (h1 : s.heap.IsTupleIter i1 l1 k1) (h2 : s.heap.IsTupleIter i2 l2 k2) (hl1 : s.heap.IsTuple l1 xs) (hl2 : s.heap.IsTuple l2 ys) (hend : xs[k1]? = none ∨ ys[k2]? = none)
    (hQ : ∀ h', (∀ c o, c ≠ z → c ≠ TO → c ≠ i1 → c ≠ i2 → s.heap.get? c = some o → h'.get? c = some o) → Q none { s with heap := h' }) : wpAny (model prog w) A (pyNext (.ref z)) Q E s := by
  have hT : s.TypeIs (.ref z) "zip" := ⟨_, hz, rfl⟩
  unfold pyNext
  refine wpAny_bind (wpAny_attempt (wpAny_callSpecial?_slot (name := Str.ofString "__next__") hT F.slot_zip_next
    (wpAny_call_entry F.slot_zip_next hT F.entry_zip_next (endZ hh D hz hf hTI hTO h1 h2 hl1 hl2 hend fun h' e hk he => ?_) (F.args_zip_next_1 _))))
  obtain ⟨o, ho, hc⟩ := he
  refine wpAny_bind (wpAny_isInstance (T := "StopIteration") (b := true) ⟨o, ho, hc⟩ isSubtype_stop ?_)
  exact wpAny_pure (hQ _ hk)
end
section
variable {prog : Program} {w : World} {A : Around} {E : Value → Shared → Prop} {s : Shared}
theorem iterZ {z TI TO : Addr} {f0 f1 : Value} {Q : Value → Shared → Prop} (hz : IsZ s.heap z TI TO f0 f1) (h : Q (.ref z) s) : wpAny (model prog w) A (pyIter (.ref z)) Q E s := by
  have hT : s.TypeIs (.ref z) "zip" := ⟨_, hz, rfl⟩
  refine wpAny_pyIter_slot hT F.slot_zip_iter (wpAny_call_entry F.slot_zip_iter hT F.entry_zip_iter ?_ (F.args_zip_iter_1 _))
  show wpAny _ _ (ret (.ref z)) _ _ s
  exact wpAny_pure ⟨_, rfl, "zip", _, hT, F.slot_zip_next.lookup, h⟩
end
theorem turnZ {P : Program} {w : World} {K : PySem.W.Frag} {y : Str} {tpos : Pos} {a b z TI TO i1 i2 : Addr} (D : ZipApart z TI TO i1 i2 a b) :
    Turn P w K (.Name y tpos) (ItzT K a b) [z, TI, TO, i1, i2] z (fun i h => (∃ f0 f1, IsZ h z TI TO f0 f1 ∧ Mark f0) ∧ IsPair h TI (.ref i1) (.ref i2) ∧ (∃ x y, IsPair h TO x y) ∧ h.IsTupleIter i1 a i ∧ h.IsTupleIter i2 b i) where
  mem := by simp
  obj := fun i h st c hc => by
    obtain ⟨⟨f0, f1, hz, _⟩, hTI, ⟨x, y, hTO⟩, ⟨o1, e1, _, d1⟩, ⟨o2, e2, _, d2⟩⟩ := st
    have e' : c = z ∨ c = TI ∨ c = TO ∨ c = i1 ∨ c = i2 := by simpa using hc
    rcases e' with q | q | q | q | q
    · rw [q]; exact ⟨_, hz, fun v q => nomatch q⟩
    · rw [q]; exact ⟨_, hTI, fun v q => nomatch q⟩
    · rw [q]; exact ⟨_, hTO, fun v q => nomatch q⟩
    · rw [q]; exact ⟨o1, e1, fun v q => by rw [d1] at q; cases q⟩
    · rw [q]; exact ⟨o2, e2, fun v q => by rw [d2] at q; cases q⟩
  keep := fun i h h' st k => by
    obtain ⟨⟨f0, f1, hz, m⟩, hTI, ⟨x, y, hTO⟩, h1, h2⟩ := st
    exact ⟨⟨f0, f1, k z (by simp) _ hz, m⟩, k TI (by simp) _ hTI, ⟨x, y, k TO (by simp) _ hTO⟩, h1.at fun o q => k i1 (by simp) o q, h2.at fun o q => k i2 (by simp) o q⟩
  item := by
    intro X hP hw hK hc i pins s σ H E I hf st hg
    subst hP hw hK
    obtain ⟨⟨f0, f1, hz, m⟩, hTI, ⟨x0, y0, hTO⟩, h1, h2⟩ := st
    obtain ⟨xs, ys, x, y, hqx, hqy, hx, hy⟩ := hg
    obtain ⟨its, rv, p, _⟩ := I.tuple hqx
    obtain ⟨its2, rv2, p2, _⟩ := I.tuple hqy
    obtain ⟨u, hu, ru⟩ := rv.get hx
    obtain ⟨u2, hu2, ru2⟩ := rv2.get hy
    have hzl : z < s.heap.objs.size := Heap.lt_size hz
    refine pyNextZ D hz m hTI hTO h1 h2 p p2 (x := u) (y := u2) (by simpa using hu) (by simpa using hu2) fun h' z' TO' h1' h2' hT hk => ?_
    refine ⟨_, rfl, wpAny_pure ?_⟩
    have new : ObjOk X.prog X.w (upd H s.heap.objs.size (.tup [x, y])) h' s.heap.objs.size (.tup [x, y]) :=
      ⟨by show 2 ≤ sizeLine; decide, [u, u2], .cons ru (.cons ru2 .nil), ⟨_, hT, rfl, _, rfl⟩⟩
    have I1 : Inv X pins σ (upd H s.heap.objs.size (.tup [x, y])) { s with heap := h' } :=
      I.turnedNew (t' := s.toks) (ch := [z, TI, TO, i1, i2]) (fun c o hb q => hk c o (fun q' => hb (by simp [q'])) (fun q' => hb (by simp [q'])) (fun q' => hb (by simp [q'])) (fun q' => hb (by simp [q'])) q) hf (Nat.le_refl _) new
    refine ⟨.ref s.heap.objs.size, _, I1, rfl, ⟨_, x, y, rfl, I.hok.fresh (Nat.le_refl _), rfl, fun l hl => by rw [I.tuple_inj hl hqx]; exact hx, fun l hl => by rw [I.tuple_inj hl hqy]; exact hy⟩, ⟨z', ?_, TO', h1', h2'⟩, fun c hcm => ?_⟩
    · exact hk _ _ D.TIz D.TITO D.TIi1 D.TIi2 hTI
    · have hlt : c < s.heap.objs.size := by
        have e' : c = z ∨ c = TI ∨ c = TO ∨ c = i1 ∨ c = i2 := by simpa using hcm
        rcases e' with q | q | q | q | q
        · rw [q]; exact hzl
        · rw [q]; exact Heap.lt_size hTI
        · rw [q]; exact Heap.lt_size hTO
        · rw [q]; obtain ⟨_, e1, _⟩ := h1; exact Heap.lt_size e1
        · rw [q]; obtain ⟨_, e2, _⟩ := h2; exact Heap.lt_size e2
      rw [upd_ne (Nat.ne_of_lt hlt)]
      exact (hf c hcm).1
  done := by
    intro X hP hw hK hc i pins s σ H E I hf st hg
    subst hP hw hK
    obtain ⟨⟨f0, f1, hz, m⟩, hTI, ⟨x0, y0, hTO⟩, h1, h2⟩ := st
    obtain ⟨xs, ys, hqx, hqy, hend⟩ := hg
    obtain ⟨its, rv, p, _⟩ := I.tuple hqx
    obtain ⟨its2, rv2, p2, _⟩ := I.tuple hqy
    have l1 := rv.length
    have l2 := rv2.length
    have he : its.toArray[i]? = none ∨ its2.toArray[i]? = none := by
      rcases hend with q | q
      · exact .inl (by simp; omega)
      · exact .inr (by simp; omega)
    exact pyNextEnd (I.ok.hd hc) D hz m hTI hTO h1 h2 p p2 he fun h' hk => ⟨rfl, I.turnedL (t' := s.toks) (ch := [z, TI, TO, i1, i2]) (fun c o hb q =>
      hk c o (fun q' => hb (by simp [q'])) (fun q' => hb (by simp [q'])) (fun q' => hb (by simp [q'])) (fun q' => hb (by simp [q'])) q) hf⟩
  self := fun A i s Q E st h => by
    obtain ⟨⟨f0, f1, hz, m⟩, _⟩ := st
    exact iterZ hz h
def iZipN (K : PySem.W.Frag) (ta : TA) : TI := fun σ H R => ta σ H fun vs H1 => ∃ a b xs ys, vs = [.ref a, .ref b] ∧ SqT K H1 a xs ∧ SqT K H1 b ys ∧ R (ItzT K a b) H1
theorem pi_zipN {X : Cx} {e e2 : Expr} {ta : TA} {p pos tpos : Pos} {y : Str} (hg : Gl X "zip") (hm : X.mg "zip" = none) (ha : PA X [e, e2] ta)
    (hs : starEach [e, e2] X.env = (false, eval e X.env) :: starEach [e2] X.env := by rfl) (hpl : (backTo pos (starEach [e2] X.env)).any (·.1) = false := by rfl) :
    PI X (.Name y tpos) (.Call (.Name "zip" p) [e, e2] [] pos) (iZipN X.K ta) := by
  refine ⟨fun pins s σ H R I h => ?_⟩
  refine Call_ (ld_blt I hg hm PyProof.Rows.boot_zip (PyProof.Rows.callWith_type1 (thn (ha.run pos pins s σ H _ I h) fun us s1 ⟨vs, H1, I1, r1, q1⟩ => ?_) hs hpl))
  obtain ⟨a, b, xs, ys, ex, hqx, hqy, q⟩ := q1
  subst ex
  cases r1 with
  | cons r rr =>
    cases rr with
    | cons r' rr =>
      cases rr
      cases r
      cases r'
      have fresh5 : ∀ c, c ∈ [s1.heap.objs.size + 4, s1.heap.objs.size + 2, s1.heap.objs.size + 3, s1.heap.objs.size, s1.heap.objs.size + 1] → FpOk X pins H1 c := fun c hcm => by
        have e' : c = s1.heap.objs.size + 4 ∨ c = s1.heap.objs.size + 2 ∨ c = s1.heap.objs.size + 3 ∨ c = s1.heap.objs.size ∨ c = s1.heap.objs.size + 1 := by simpa using hcm
        have hle : s1.heap.objs.size ≤ c := by
          rcases e' with z | z | z | z | z
          · rw [z]; exact Nat.le_add_right _ _
          · rw [z]; exact Nat.le_add_right _ _
          · rw [z]; exact Nat.le_add_right _ _
          · rw [z]; exact Nat.le_refl _
          · rw [z]; exact Nat.le_add_right _ _
        exact I1.fpOk hle (I1.hok.fresh hle)
      obtain ⟨its, rv, p1, _⟩ := I1.tuple hqx
      obtain ⟨its2, rv2, p2, _⟩ := I1.tuple hqy
      obtain ⟨o1, ho1, _⟩ := id p1
      obtain ⟨o2, ho2, _⟩ := id p2
      refine call_zipT (show s1.heap.IsTuple a its.toArray from p1) (show s1.heap.IsTuple b its2.toArray from p2) fun h' hz hTI hTO h1 h2 hsz hk => wpAny_pyIter_zip hz ?_
      have I2 : Inv X pins σ H1 { s1 with heap := h' } := I1.kept (t' := s1.toks) hk
      exact ⟨s1.heap.objs.size + 4, [s1.heap.objs.size + 4, s1.heap.objs.size + 2, s1.heap.objs.size + 3, s1.heap.objs.size, s1.heap.objs.size + 1], _, _, H1, rfl, I2, turnZ (PySem.W.ktu_apart s1.heap.objs.size a b (Heap.lt_size ho1) (Heap.lt_size ho2)), ⟨⟨_, _, hz, .inl rfl⟩, hTI, ⟨_, _, hTO⟩, h1, h2⟩, fresh5, q⟩
end ZN
namespace DL
open PySem PySem.Spec PyProof.Rows L2 TL
section
variable {X : Cx} {m : Mem} {ta : DTA m} {p pos : Pos}
/-- zip of two tuples, its pairs under one name -/
def diZipN {m : Mem} (ta : DTA m) : DTI m := fun ρ s Q => ta ρ s fun ds ρ1 s1 => ∃ xs ys, ds = [.tup xs, .tup ys] ∧ Q (pairsD xs ys) ρ1 s1
theorem di_zipN {a b : Expr} {y : Str} {tpos : Pos} (hg : Gl X "zip") (hm : X.mg "zip" = none) (ha : PA X [a, b] (upA X.K m ta))
    (hs : starEach [a, b] X.env = (false, eval a X.env) :: starEach [b] X.env := by rfl) (hpl : (backTo pos (starEach [b] X.env)).any (·.1) = false := by rfl) :
    PI X (.Name y tpos) (.Call (.Name "zip" p) [a, b] [] pos) (upI X.K m (diZipN ta)) := PI.imp (ZN.pi_zipN hg hm ha hs hpl) fun σ H R h => by
  obtain ⟨F, ρ, s, Qd, r, ht, hQ⟩ := h
  refine ⟨F, ρ, s, _, r, ht, fun ds ρ1 s1 vs F1 H1 ⟨xs, ys, ed, q1⟩ r1 st1 rs => ?_⟩
  subst ed
  obtain ⟨v, _, rfl, rv, w, _, rfl, rw', rn⟩ := rs
  cases rn
  obtain ⟨a, vs, rfl, h1, _, k1⟩ := rv
  obtain ⟨b, ws, rfl, h2, _, k2⟩ := rw'
  exact ⟨a, b, vs, ws, rfl, Same.seqT r1.sub h1, Same.seqT r1.sub h2, hQ _ ρ1 s1 _ F1 H1 q1 r1 st1 (walks_zipT h1 k1 h2 k2)⟩
end
end DL

set_option Elab.async false
set_option linter.all false
set_option maxRecDepth 100000
set_option maxHeartbeats 1000000
/-! LP3: rows of modules: chains or not -/
namespace RP
open PySem PySem.Spec PyProof.Rows L2 TL DL TX TO RG
/-- [e for x in xs if p x], nothing drawn, the items as they are -/
theorem lcA {m : Mem} {h : D → D} {p : D → Bool} {g : DG} {tt : DTT m} {te : DT m} {vs : List Nat} {ρ1 : List Sl} {s1 : m.S} {Q : DK m} (xs : List D) (hl : xs.length ≤ 2000)
    (turn : ∀ x ∈ xs, ∀ (T : D → m.S → Prop) (U : m.S → Prop), (p x = true → T (h x) s1) → (p x = false → U s1) → g x (wipeD ρ1 vs) fun ρ2 => tt ρ2 s1 fun b ρ3 s3 => ρ3 = ρ2 ∧ ifB b (te ρ2 s3 fun y ρ4 s4 => ρ4 = ρ2 ∧ T y s4) (U s3))
    (fin : Q (.lst ((xs.filter p).map h)) ρ1 s1) : lcK g tt te vs Q xs ρ1 s1 := by
  have z := lcF (f := fun x : D => x) (h := h) (p := p) (g := g) (tt := tt) (te := te) (vs := vs) (ρ1 := ρ1) (s1 := s1) (Q := Q) xs hl turn fin
  rwa [List.map_id''] at z
  intro x; rfl
/-! ### rows -/
def txts : List D → Option (List Str)
  | [] => some []
  | .str x :: r => (txts r).map (x :: ·)
  | _ :: _ => none
theorem txts_map : ∀ xs : List Str, txts (xs.map .str) = some xs
  | [] => rfl
  | x :: xs => by
    show (txts (xs.map .str)).map (x :: ·) = _
    rw [txts_map xs]; rfl
theorem txts_some : ∀ {ds : List D} {xs : List Str}, txts ds = some xs → ds = xs.map .str
  | [], xs, h => by cases h; rfl
  | d :: ds, xs, h => by
    cases d with
    | str x =>
      have h : (txts ds).map (x :: ·) = some xs := h
      obtain ⟨ys, e, rfl⟩ := Option.map_eq_some_iff.mp h
      rw [txts_some e]; rfl
    | _ => cases h
theorem inTx_str (x : Str) (ys : List Str) : inTx (.str x) ys = decide (x ∈ ys) := by
  show (ys.any fun y => decide (y = x)) = _
  induction ys with
  | nil => rfl
  | cons y ys ih =>
    rw [List.any_cons, ih, ← Bool.decide_or]
    exact decide_eq_decide.mpr ((or_congr_left eq_comm).trans List.mem_cons.symm)
theorem inTx_all (ys : List Str) : ∀ ds : List D, (ds.map fun d => inTx d ys).all id = (match txts ds with
  | some xs => xs.all fun x => decide (x ∈ ys)
  | none => false)
  | [] => rfl
  | d :: ds => by
    rw [List.map_cons, List.all_cons, inTx_all ys ds]
    cases d with
    | str x =>
      show (inTx (.str x) ys && _) = (match (txts ds).map (x :: ·) with
        | some xs => xs.all fun x => decide (x ∈ ys)
        | none => false)
      cases txts ds with
      | none => rw [Bool.and_false]; rfl
      | some xs =>
        rw [inTx_str]
        show _ = (x :: xs).all _
        rw [List.all_cons]
    | _ => rfl
def rowB (ms : List Str) (us : List (Str × Str)) (xs : List Str) : Bool := decide (2 ≤ xs.length) && (xs.all (fun x => decide (x ∈ ms)) && (decide ((once xs).length = xs.length) && (xs.zip (xs.drop 1)).all fun u => decide (u ∈ us)))
def rowD (ms : List Str) (us : List (Str × Str)) : D → Bool
  | .tup ds => (match txts ds with
    | some xs => rowB ms us xs
    | none => false)
  | _ => false
theorem rowD_map (ms : List Str) (us : List (Str × Str)) (xs : List Str) : rowD ms us (.tup (xs.map .str)) = rowB ms us xs := by
  show (match txts (xs.map .str) with
    | some xs => rowB ms us xs
    | none => false) = _
  rw [txts_map]
theorem rowD_yes {ms : List Str} {us : List (Str × Str)} {d : D} (h : rowD ms us d = true) : ∃ xs : List Str, d = .tup (xs.map .str) ∧ 2 ≤ xs.length ∧ ∀ x ∈ xs, x ∈ ms := by
  cases d with
  | tup ds =>
    have h : (match txts ds with
      | some xs => rowB ms us xs
      | none => false) = true := h
    cases e : txts ds with
    | none => rw [e] at h; cases h
    | some xs =>
      rw [e] at h
      have h : rowB ms us xs = true := h
      unfold rowB at h
      rw [Bool.and_eq_true, Bool.and_eq_true, List.all_eq_true] at h
      exact ⟨xs, by rw [txts_some e], of_decide_eq_true h.1, fun x hx => of_decide_eq_true (h.2.1 x hx)⟩
  | _ => cases h
theorem eqD_nat (n m : Nat) : eqD (.int n) (.int m) = decide (n = m) := by
  show ((n : Int) == (m : Int)) = _
  by_cases h : n = m
  · rw [h]; simp
  · rw [decide_eq_false h]
    exact beq_eq_false_iff_ne.mpr fun z => h (by omega)
theorem pairs_str : ∀ (xs ys : List Str), pairsD (xs.map .str) (ys.map .str) = (xs.zip ys).map ptD
  | [], ys => by simp [pairsD]
  | x :: xs, [] => by simp [pairsD]
  | x :: xs, y :: ys => by
    have := pairs_str xs ys
    simp only [pairsD, List.map_cons, List.zip_cons_cons] at this ⊢
    rw [List.zipWith_cons_cons, this]; rfl
/-! ### promises -/
def spChain {m : Mem} (C : Addr) : DSp m := fun ds s Q => ∃ ms us d N W n, ds = [progD C ms us, d] ∧ Gd N W n d ∧ N ≤ 1000 ∧ Q (.bl (rowD ms us d)) s
theorem spChain_len {m : Mem} {C : Addr} : ∀ ds s Qd, (spChain C : DSp m) ds s Qd → ds.length = 2 := fun ds s Qd ⟨_, _, _, _, _, _, e, _⟩ => by rw [e]; rfl
def spData : DSp Mem.deck := fun ds s Q => ∃ a b c x y, ds = [.any (.ref a), .int x, .int y] ∧ s.adr = some (a, b, c) ∧ 1 ≤ x ∧ x ≤ 30 ∧ 1 ≤ y ∧ y ≤ 100 ∧ s.n + 1300 < drawLim ∧ ∀ ms us k, Mods ms → Uses ms us → (ms.length : Int) ≤ x → (us.length : Int) ≤ y → k ≤ s.n + 1300 → Q (.tup [.lst (ms.map .str), .lst (us.map ptD)]) ⟨s.adr, k⟩
theorem spData_len : ∀ ds s Qd, (spData : DSp Mem.deck) ds s Qd → ds.length = 3 := fun ds s Qd ⟨_, _, _, _, _, e, _⟩ => by rw [e]; rfl
theorem path_gd {x : Str} (h : PathS x) (n : Nat) : Gd 150 100 n (.str x) := (gd_str h.2 (fun c hc => sOk_cps h.ok c hc) n).mono (by omega) (Nat.le_refl _) (Nat.le_refl _)
theorem at_head {xs : List Str} (h : xs ≠ []) : atI (xs.map D.str) 0 = some (.str (xs.headD Str.empty)) := by
  cases xs with
  | nil => exact absurd rfl h
  | cons x xs => exact atI_nat (j := 0) rfl
theorem at_last {xs : List Str} (h : xs ≠ []) : atI (xs.map D.str) (-1) = some (.str (xs.getLastD Str.empty)) := by
  obtain ⟨l, v, e⟩ : ∃ l v, xs = l ++ [v] := ⟨xs.dropLast, xs.getLast h, (List.dropLast_concat_getLast h).symm⟩
  subst e
  rw [List.map_append, List.getLastD_concat]
  exact L2.atI_last (xs := l.map D.str) (v := .str v)
def ringD (ms : List Str) (us : List (Str × Str)) : D → Bool
  | .tup ds => (match txts ds with
    | some xs => rowB ms us xs && decide ((xs.getLastD Str.empty, xs.headD Str.empty) ∈ us)
    | none => false)
  | _ => false
theorem ringD_no {ms : List Str} {us : List (Str × Str)} {d : D} (h : rowD ms us d = false) : ringD ms us d = false := by
  cases d with
  | tup ds =>
    have h : (match txts ds with
      | some xs => rowB ms us xs
      | none => false) = false := h
    show (match txts ds with
      | some xs => rowB ms us xs && decide ((xs.getLastD Str.empty, xs.headD Str.empty) ∈ us)
      | none => false) = false
    cases e : txts ds with
    | none => rfl
    | some xs =>
      rw [e] at h
      have h : rowB ms us xs = false := h
      show (rowB ms us xs && _) = false
      rw [h]; rfl
  | _ => rfl
theorem ringD_map (ms : List Str) (us : List (Str × Str)) (xs : List Str) : ringD ms us (.tup (xs.map .str)) = (rowB ms us xs && decide ((xs.getLastD Str.empty, xs.headD Str.empty) ∈ us)) := by
  show (match txts (xs.map .str) with
    | some xs => rowB ms us xs && decide ((xs.getLastD Str.empty, xs.headD Str.empty) ∈ us)
    | none => false) = _
  rw [txts_map]
def spRing {m : Mem} (C : Addr) : DSp m := fun ds s Q => ∃ ms us d N W n, ds = [progD C ms us, d] ∧ Gd N W n d ∧ N ≤ 1000 ∧ Q (.bl (ringD ms us d)) s
theorem spRing_len {m : Mem} {C : Addr} : ∀ ds s Qd, (spRing C : DSp m) ds s Qd → ds.length = 2 := fun ds s Qd ⟨_, _, _, _, _, _, e, _⟩ => by rw [e]; rfl
end RP

set_option Elab.async false
set_option linter.all false
set_option maxRecDepth 100000
set_option maxHeartbeats 1000000
namespace RP
open PySem PySem.Spec PyProof.Rows L2 TL DL TX TO RG

def T_chain11 (a : Nat → Addr) {m : Mem} : DTS m :=
  (dSeq (dIf (dOrT (dNotT (dTr (dB isiD (daCons (dVar 1) (daCons (dC (D.any (V.ty "tuple"))) daNil))))) (dCmT ltD (dB lenD (daCons (dVar 1) daNil)) (dC (D.int 2)))) (dRet (dC (D.bl false))) dNext)
      (dSeq (dIf (dNotT (dTr (dB allD (daCons (dLc (diSeq (dVar 1)) (gN 2) dYes (dCm inTxD (dVar 2) (dProp (a 25) (spGetM (a 25)) (dVar 0))) [2]) daNil)))) (dRet (dC (D.bl false))) dNext)
      (dRet (dAndV (dCm eqC (dLenSet (dVar 1)) (dB lenD (daCons (dVar 1) daNil))) (dB allD (daCons (dLc (diZipN (daCons (dVar 1) (daCons (dSl slD (dVar 1) (doSome (dC (D.int 1))) doNone) daNil))) (gN 3) dYes (dCm (inTD false) (dVar 3) (dProp (a 25) (spGetU (a 25)) (dVar 0))) [3]) daNil))))))
theorem read_chain11 {a : Nat → Addr} {m : Mem} : ∀ ds s Qd, (spChain (a 25) : DSp m) ds s Qd → (T_chain11 a : DTS m) (endsOf Qd) (startD ["program", "value", "module", "use"] ds) s := by
  intro ds s Qd h
  obtain ⟨ms, us, d, N, W, n, rfl, hd, hN, hQ⟩ := h
  obtain ⟨t, ht⟩ := hd.ty
  cases d with
  | ins _ _ _ => cases ht
  | any _ => cases ht
  | fz _ => cases ht
  | exc _ _ _ => cases ht
  | cau _ _ _ _ => cases ht
  | tup ds =>
    obtain ⟨hl, hs⟩ := RG.sm_tup hd.s
    have hp : (srt lessS ms).length = ms.length := srt_len _
    have tyd : ∀ x ∈ ds, (tyT x).isSome = true := fun x hx => RG.sm_ty (hs x hx)
    have er : rowD ms us (.tup ds) = (match txts ds with
      | some xs => rowB ms us xs
      | none => false) := rfl
    refine ⟨_, .tup, _, rfl, rfl, (by intro z; cases z), _, rfl, _, _, rfl, rfl, ifBd (fun h2 => ?_) fun h2 => ?_⟩
    · have : rowD ms us (.tup ds) = false := by
        rw [er]
        cases e : txts ds with
        | none => rfl
        | some xs =>
          have := congrArg List.length (txts_some e)
          rw [List.length_map] at this
          show rowB ms us xs = false
          unfold rowB
          rw [decide_eq_false (by omega), Bool.false_and]
      rw [this] at hQ
      exact hQ
    refine ⟨_, rfl, lcA (p := fun _ => true) (h := fun d => .bl (inTx d (srt lessS ms))) ds (by omega) (fun x hx T U t f => ?_) ?_⟩
    · exact ⟨rfl, ⟨_, _, rfl⟩, ms, us, rfl, _, tyd x hx, rfl, rfl, t rfl⟩
    have ha := inTx_all (srt lessS ms) ds
    refine ⟨ds.map fun d => inTx d (srt lessS ms), by rw [filter_yes, List.map_map]; rfl, _, rfl, ?_⟩
    rw [ha]
    cases e : txts ds with
    | none =>
      have : rowD ms us (.tup ds) = false := by rw [er, e]
      rw [this] at hQ
      exact hQ
    | some xs =>
      have ed := txts_some e
      subst ed
      rw [rowD_map] at hQ
      have em : (xs.all fun x => decide (x ∈ srt lessS ms)) = xs.all fun x => decide (x ∈ ms) := by
        congr 1
        funext x
        exact decide_eq_decide.mpr mem_srt
      show ifB (!(xs.all fun x => decide (x ∈ srt lessS ms))) _ _
      rw [em]
      rw [List.length_map] at hl h2
      refine ifB2 (fun h3 => ?_) fun h3 => ?_
      · have h3 : (xs.all fun x => decide (x ∈ ms)) = false := by rw [← Bool.not_not (xs.all _), h3]; rfl
        have : rowB ms us xs = false := by unfold rowB; rw [h3, Bool.false_and, Bool.and_false]
        rw [this] at hQ
        exact hQ
      have h3 : (xs.all fun x => decide (x ∈ ms)) = true := by rw [← Bool.not_not (xs.all _), h3]; rfl
      have hr : rowB ms us xs = (decide ((once xs).length = xs.length) && (xs.zip (xs.drop 1)).all fun u => decide (u ∈ us)) := by
        unfold rowB
        rw [h3, Bool.true_and, decide_eq_true (by omega), Bool.true_and]
      rw [hr] at hQ
      refine ⟨xs, rfl, by omega, _, _, rfl, rfl, rfl, rfl, _, rfl, ?_⟩
      rw [List.length_map, eqD_nat]
      refine ifB2 (fun h4 => ?_) fun h4 => ?_
      · rw [h4, Bool.true_and] at hQ
        refine ⟨_, rfl, ?_⟩
        simp only [slD, daNil, doNone]
        rw [show (1 : Int) = ((1 : Nat) : Int) from rfl, cut_from, ← List.map_drop]
        refine ⟨_, _, rfl, ?_⟩
        rw [pairs_str]
        refine lcF (f := ptD) (p := fun _ => true) (h := fun u => .bl (decide (u ∈ us))) _ (by rw [List.length_zip]; omega) (fun x hx T U t f => ?_) ?_
        · refine ⟨rfl, ⟨_, _, rfl⟩, ms, us, rfl, _, rfl, rfl, plain_prs 57 _, ?_⟩
          rw [any_pr, Bool.false_xor, decide_eq_decide.mpr (mem_srt (lt := lessP) (l := us) (x := x))]
          exact ⟨rfl, t rfl⟩
        refine ⟨(xs.zip (xs.drop 1)).map fun u => decide (u ∈ us), by rw [filter_yes, List.map_map]; rfl, ?_⟩
        rw [List.all_map]
        exact hQ
      · rw [h4, Bool.false_and] at hQ
        rw [h4]
        exact hQ
  | _ => exact ⟨_, .tup, _, rfl, rfl, (by intro z; cases z), _, rfl, hQ⟩
def T_data11 : DTS Mem.deck :=
  (dSeq (dSet 3 (dCall spModules (daCons (dVar 0) (daCons (dCall spPool (daCons (dVar 0) (daCons (dC (D.int 5)) daNil))) (daCons (dVar 1) daNil)))))
      (dRet (dTup (daCons (dVar 3) (daCons (dCall spUses (daCons (dVar 0) (daCons (dVar 3) (daCons (dVar 2) daNil)))) daNil)))))
theorem read_data11 : ∀ ds s Qd, (spData : DSp Mem.deck) ds s Qd → (T_data11 : DTS Mem.deck) (endsOf Qd) (startD ["_law_deck_here", "_law_most", "_law_uses_here", "_law_modules_here"] ds) s := by
  intro ds s Qd h
  obtain ⟨a, b, c, x, y, rfl, hs, h1, h30, h3, h100, hn, hQ⟩ := h
  have hlim : drawLim = 1152921504606846976 := rfl
  refine ⟨a, b, c, 5, hs, rfl, by decide, by decide, by omega, fun pool k1 hpl hpool hk1 => ?_⟩
  have hpl : pool.length = 5 := hpl
  refine ⟨a, b, c, pool, x, rfl, hs, h1, h30, by omega, by omega, hpool, (by show k1 + _ < _; omega), fun ms k2 hm hml hk2 => ?_⟩
  have hk2 : k2 ≤ k1 + 700 := hk2
  refine ⟨a, b, c, ms, y, rfl, hs, h3, h100, by omega, (by show k2 + _ < _; omega), fun us k3 hu hul hk3 => ?_⟩
  have hk3 : k3 ≤ k2 + 300 := hk3
  exact ⟨lz rfl, hQ ms us k3 hm hu hml hul (by omega)⟩
end RP

set_option Elab.async false
set_option linter.all false
set_option maxRecDepth 100000
/-! EL22: x, y = f(..), y a list that the def will change: f is asked with nothing known but its arguments, so what it gives is new -/
namespace DL
open PySem PySem.Spec PyProof.Rows L2 TL TX TO
/-- data that says nothing of any place -/
def bare : D → Bool
  | .non => true
  | .bl _ => true
  | .int _ => true
  | .str _ => true
  | .any _ => true
  | _ => false
theorem bare_rep {K : PySem.W.Frag} {F F' : Hp} {d : D} {v : V} (h : bare d = true) (r : Rep K F d v) : Rep K F' d v := by
  cases d with
  | non => exact r
  | bl _ => exact r
  | int _ => exact r
  | str _ => exact r
  | any _ => exact r
  | _ => cases h
theorem bare_reps {K : PySem.W.Frag} {F F' : Hp} : ∀ {ds : List D} {vs : List V}, ds.all bare = true → Reps K F ds vs → Reps K F' ds vs
  | [], _, _, r => r
  | d :: ds, vs, h, r => by
    rw [List.all_cons, Bool.and_eq_true] at h
    obtain ⟨v, w, rfl, r1, r2⟩ := r
    exact ⟨v, w, rfl, bare_rep h.1 r1, bare_reps h.2 r2⟩
def orH (F G : Hp) : Hp := fun b => match F b with
  | some o => some o
  | none => G b
def offH (F : Hp) (p : Addr) : Hp := fun b => if b = p then none else F b
theorem same_or {F G : Hp} : Same F (orH F G) := fun a o h => by
  unfold orH
  rw [h]
theorem same_off {F : Hp} {p : Addr} : Same (offH F p) F := fun a o h => by
  unfold offH at h
  split at h
  · cases h
  · exact h
theorem off_at {F : Hp} {p b : Addr} {o : HO} (h : F b = some o) (n : b ≠ p) : offH F p b = some o := by
  unfold offH
  rw [if_neg n]
  exact h
section
variable {m : Mem} {K : PySem.W.Frag} {F1 F2 F3 H1 H2 : Hp} {σ : L2.St} {ρ1 : List Sl} {s1 s' : m.S}
theorem join (r1 : Rel K m F1 H1 σ ρ1 s1) (c : CStp m (fun _ => none) H1 s1 F2 H2 s') (h3 : Same F3 F2) : CStp m F1 H1 s1 (orH F1 F3) H2 s' ∧ Same F3 (orH F1 F3) := by
  have new : ∀ a o, F3 a = some o → H1 a = none := fun a o h => (c.fresh a o (h3 a o h)).elim (fun z => by cases z) id
  have cs : ∀ a o, orH F1 F3 a = some o → F1 a = some o ∨ (F1 a = none ∧ F3 a = some o) := fun a o h => by
    unfold orH at h
    cases q : F1 a with
    | some u => rw [q] at h; exact .inl h
    | none => rw [q] at h; exact .inr ⟨rfl, h⟩
  refine ⟨⟨same_or, c.keep, c.alive, fun a o h => ?_, c.regf, fun a o h => ?_, c.mem, fun a h => ?_⟩, fun a o h => ?_⟩
  · rcases cs a o h with z | ⟨_, z⟩
    · exact .inl z
    · exact .inr (new a o z)
  · rcases cs a o h with z | ⟨_, z⟩
    · refine c.keep a o (r1.sub a o z) fun y => ?_
      rw [r1.reg a y] at z
      cases z
    · exact c.sub a o (h3 a o z)
  · cases q : orH F1 F3 a with
    | none => rfl
    | some o =>
      rcases cs a o q with z | ⟨_, z⟩
      · rcases c.regf a h with y | y
        · rw [r1.reg a y] at z; cases z
        · rw [r1.sub a o z] at y; cases y
      · have := h3 a o z
        rw [c.reg a h] at this
        cases this
  · unfold orH
    cases q : F1 a with
    | none => exact h
    | some u =>
      have := new a o h
      rw [r1.sub a u q] at this
      cases this
end
section
variable {X : Cx} {m : Mem} {e : Expr} {es : List Expr} {u : DTA m} {E : Ent m}
end
end DL

set_option Elab.async false
set_option linter.all false
set_option maxRecDepth 100000
/-! EL23: behind a value that is a tuple of texts, too, the own lists are the slots' own again -/
namespace DL
open PySem PySem.Spec PyProof.Rows L2 TL TX TO
section
variable {K : PySem.W.Frag} {m : Mem} {F H F' H' : Hp} {σ : L2.St} {ρ ρ' : List Sl} {s s' : m.S}
end
section
variable {X : Cx} {m : Mem} {e : Expr} {te : DT m}
end
end DL

set_option Elab.async false
set_option linter.all false
set_option maxRecDepth 100000
set_option maxHeartbeats 1000000
namespace RP
open PySem PySem.Spec PyProof.Rows L2 TL DL TX TO RG
theorem gs_paths : ∀ l : List Str, (∀ x ∈ l, PathS x) → Gs 150 (101 * l.length) 5 (l.map .str)
  | [], _ => ⟨by simp, by simp, by simp, by rw [List.map_nil, wl_nil]; exact Nat.zero_le _⟩
  | y :: l, h => by
    have z := (Gs.one (path_gd (h y List.mem_cons_self) 5)).app (gs_paths l fun w hw => h w (List.mem_cons_of_mem _ hw))
    exact z.mono (Nat.le_refl _) (by rw [List.length_cons, Nat.mul_succ]; omega) (Nat.le_refl _)

def T_ring16 (a : Nat → Addr) {m : Mem} : DTS m :=
  (dRet (dAndV (dCall (spChain (a 24)) (daCons (dVar 0) (daCons (dVar 1) daNil))) (dCm (inTD false) (dTup (daCons (dOp ixD (dVar 1) (dUn negD (dC (D.int 1)))) (daCons (dOp ixD (dVar 1) (dC (D.int 0))) daNil))) (dProp (a 24) (spGetU (a 24)) (dVar 0)))))
theorem read_ring16 {a : Nat → Addr} {m : Mem} : ∀ ds s Qd, (spRing (a 24) : DSp m) ds s Qd → (T_ring16 a : DTS m) (endsOf Qd) (startD ["program", "value"] ds) s := by
  intro ds s Qd h
  obtain ⟨ms, us, d, N, W, n, rfl, hd, hN, hQ⟩ := h
  refine ⟨ms, us, d, N, W, n, rfl, hd, hN, _, rfl, ifB2 (fun h => ?_) fun h => ?_⟩
  · obtain ⟨xs, rfl, l2, hx⟩ := rowD_yes h
    have ne : xs ≠ [] := fun z => by rw [z] at l2; exact absurd l2 (by decide)
    rw [rowD_map] at h
    rw [ringD_map, h, Bool.true_and] at hQ
    refine ⟨_, at_last ne, _, at_head ne, lz rfl, ⟨_, _, rfl⟩, ms, us, rfl, _, rfl, rfl, plain_prs 57 _, ?_⟩
    rw [show ((srt lessP us).map ptD).any (fun y => eqD y (.tup [.str (xs.getLastD Str.empty), .str (xs.headD Str.empty)])) = decide ((xs.getLastD Str.empty, xs.headD Str.empty) ∈ srt lessP us) from any_pr _ (xs.getLastD Str.empty, xs.headD Str.empty), Bool.false_xor, decide_eq_decide.mpr mem_srt]
    exact hQ
  · rw [ringD_no h] at hQ
    rw [h]
    exact hQ
end RP

set_option Elab.async false
set_option linter.all false
set_option maxRecDepth 100000
/-! EL24: a def's own dict written; a dict of lists that are changed where they lie (next_table) -/
namespace DL
open PySem PySem.Spec PyProof.Rows L2 TL
section
variable {K : PySem.W.Frag} {m : Mem} {F H : Hp} {σ : L2.St} {ρ : List Sl} {s : m.S} {L L' A B : List (Addr × List Str)} {q : Addr} {xs ys : List Str} {E : Ent (Mem.hot m)}
/-- the order of the lists beside is nothing -/
theorem hot_perm (p : L.Perm L') (a : Addr) : (Mem.hot m).R (s, L) a ↔ (Mem.hot m).R (s, L') a := by
  constructor
  · rintro (h | ⟨x, hx, e⟩)
    · exact .inl h
    · exact .inr ⟨x, p.mem_iff.mp hx, e⟩
  · rintro (h | ⟨x, hx, e⟩)
    · exact .inl h
    · exact .inr ⟨x, p.mem_iff.mpr hx, e⟩
theorem Rel.hotPerm (r : Rel K (Mem.hot m) F H σ ρ (s, L)) (p : L.Perm L') : Rel K (Mem.hot m) F H σ ρ (s, L') := by
  obtain ⟨m1, m2, m3⟩ := r.mem
  exact ⟨r.sub, ⟨m1, (p.map Prod.fst).nodup_iff.mp m2, fun x hx => m3 x (p.mem_iff.mpr hx)⟩, fun a h => r.reg a ((hot_perm p a).mpr h), r.len, r.sh, r.ow, fun i a h => ⟨(r.owF i a h).1, fun z => (r.owF i a h).2 ((hot_perm p a).mpr z)⟩, r.uq⟩
theorem Own.hotPerm (o : Own (Mem.hot m) E F H σ ρ (s, L)) (p : L.Perm L') : Own (Mem.hot m) E F H σ ρ (s, L') := ⟨o.ext, o.keep, o.alive, o.fresh, fun a h => o.regf a ((hot_perm p a).mpr h), o.own⟩
theorem mid_perm {α : Type} {A B : List α} {x : α} : (A ++ x :: B).Perm ((A ++ B) ++ [x]) := (List.perm_middle).trans (List.perm_append_singleton x (A ++ B)).symm
theorem Rel.hotWA (r : Rel K (Mem.hot m) F H σ ρ (s, A ++ (q, xs) :: B)) (hl : ys.length ≤ sizeLine) (hs : ∀ x ∈ ys, sOk x = true) : Rel K (Mem.hot m) F (upd H q (.lst (ys.map V.str))) σ ρ (s, A ++ (q, ys) :: B) :=
  ((r.hotPerm mid_perm).hotW hl hs).hotPerm mid_perm.symm
theorem Own.hotWA (o : Own (Mem.hot m) E F H σ ρ (s, A ++ (q, xs) :: B)) : Own (Mem.hot m) E F (upd H q (.lst (ys.map V.str))) σ ρ (s, A ++ (q, ys) :: B) :=
  ((o.hotPerm mid_perm).hotW).hotPerm mid_perm.symm
/-- the lists beside are known from now on, and changed no more -/
def coolH (F H : Hp) (L : List (Addr × List Str)) : Hp := fun b => match F b with
  | some o => some o
  | none => if b ∈ L.map Prod.fst then H b else none
theorem cool_cases {a : Addr} {o : HO} (h : coolH F H L a = some o) : F a = some o ∨ (F a = none ∧ a ∈ L.map Prod.fst ∧ H a = some o) := by
  unfold coolH at h
  cases q : F a with
  | some u => rw [q] at h; exact .inl h
  | none =>
    rw [q] at h
    by_cases c : a ∈ L.map Prod.fst
    · rw [if_pos c] at h; exact .inr ⟨rfl, c, h⟩
    · rw [if_neg c] at h; cases h
theorem cool_ext : Same F (coolH F H L) := fun a o h => by
  unfold coolH
  rw [h]
theorem Rel.cool (r : Rel K (Mem.hot m) F H σ ρ (s, L)) : Rel K (Mem.hot m) (coolH F H L) H σ ρ (s, []) ∧ ∀ p ∈ L, coolH F H L p.1 = some (.lst (p.2.map V.str)) := by
  obtain ⟨m1, m2, m3⟩ := r.mem
  have sub : Same (coolH F H L) H := fun a o h => by
    rcases cool_cases h with z | ⟨_, _, z⟩
    · exact r.sub a o z
    · exact z
  refine ⟨⟨sub, ⟨m1, List.nodup_nil, fun p hp => by cases hp⟩, fun a ha => ?_, r.len, fun i d e => ?_, fun i o e => ?_, fun i p hp => ⟨?_, fun z => ?_⟩, r.uq⟩, fun p hp => ?_⟩
  · have ha : m.R s a := ha.elim id fun ⟨p, hp, _⟩ => by cases hp
    cases q : coolH F H L a with
    | none => rfl
    | some o =>
      rcases cool_cases q with z | ⟨_, z, _⟩
      · rw [r.reg a (.inl ha)] at z; cases z
      · obtain ⟨p, hp, rfl⟩ := List.mem_map.mp z
        exact absurd ha (m3 p hp).2.2.2
  · obtain ⟨v, h1, h2⟩ := r.sh i d e
    exact ⟨v, h1, Rep.mono cool_ext _ _ h2⟩
  · obtain ⟨p, ho, h1, h2, h3⟩ := r.ow i o e
    exact ⟨p, ho, h1, h2, h3.mono cool_ext⟩
  · cases q : coolH F H L p with
    | none => rfl
    | some o =>
      rcases cool_cases q with z | ⟨_, z, _⟩
      · rw [(r.owF i p hp).1] at z; cases z
      · obtain ⟨p', hp', rfl⟩ := List.mem_map.mp z
        exact absurd (.inr ⟨p', hp', rfl⟩) (r.owF i _ hp).2
  · have z : m.R s p := z.elim id fun ⟨p, hp, _⟩ => by cases hp
    exact (r.owF i p hp).2 (.inl z)
  · have nF : F p.1 = none := r.reg p.1 (.inr ⟨p, hp, rfl⟩)
    unfold coolH
    rw [nF]
    show (if p.1 ∈ L.map Prod.fst then H p.1 else none) = _
    rw [if_pos (List.mem_map_of_mem hp)]
    exact (m3 p hp).1
theorem Own.cool (o : Own (Mem.hot m) E F H σ ρ (s, L)) (new : ∀ p ∈ L, E.H p.1 = none) : Own (Mem.hot m) E (coolH F H L) H σ ρ (s, []) := by
  refine ⟨o.ext.trans cool_ext, o.keep, o.alive, fun a x h => ?_, fun a h => ?_, o.own⟩
  · rcases cool_cases h with z | ⟨_, z, _⟩
    · exact o.fresh a x z
    · obtain ⟨p, hp, rfl⟩ := List.mem_map.mp z
      exact .inr (new p hp)
  · rcases h with h | ⟨p, hp, _⟩
    · exact o.regf a (.inl h)
    · cases hp
end
section
variable {X : Cx} {m : Mem} {pos : Pos} {e b : Expr}
/-- x[k] = e, a new key of a def's own dict -/
def dDicPut {m : Mem} (i : Nat) (te tb : DT m) : DTS m := fun dd ρ s => te ρ s fun d ρ1 s1 => (∃ ks0 ds0, ρ1[i]? = some (.ow (.dic ks0 ds0))) ∧ tb ρ1 s1 fun y ρ2 s2 => ∃ ks ds z, y = .str z ∧ ρ2[i]? = some (.ow (.dic ks ds)) ∧ (.inr z ∉ ks) ∧ ks.length + 1 ≤ 1000 ∧
  dd.nx (ρ2.set i (.ow (.dic (ks ++ [.inr z]) (ds ++ [d])))) s2
theorem ds_dicPut {E : Ent m} {te tb : DT m} (i : Nat) {x : Str} {xpos spos : Pos} (hu : X.A.units + 1 < cLine) (he : PE X e (up X.K m te)) (hb : PE X b (up X.K m tb)) (hN : X.N[i]? = some x := by rfl) (hv : Vis X.env.scope x := by first | exact Or.inl rfl | exact Or.inr (Or.inl rfl) | exact Or.inr (Or.inr rfl))
    (hd : (x == ("__debug__" : Str)) = false := by decide) (hcd : (x == ("__classdict__" : Str)) = false := by decide) (hs : swapsWith e (some (.Subscript (.Name x xpos) b spos)) pos.line X.env = pure false := by rfl) :
    PS X (.Assign [.Subscript (.Name x xpos) b spos] e pos) (upS X.K m E (dDicPut i te tb)) := PS.imp (ps_dput hu (pv i hN hv hd hcd) hb he hs) fun DD σ H h => by
  obtain ⟨F, ρ, s, dd, r, o, ht, f⟩ := h
  refine ⟨F, ρ, s, _, r, ht, fun d ρ1 s1 v F1 H1 ⟨⟨ks0, ds0, e0⟩, q1⟩ r1 st1 rv => ?_⟩
  obtain ⟨p, ho, h1, h2, ⟨kv0, rfl, hl0, _, rs0⟩, h4, h5⟩ := r1.own_at e0
  refine ⟨_, h1, F1, ρ1, s1, _, r1, q1, fun y ρ2 s2 u F2 H2 ⟨ks, ds, z, ey, e2, nk, hz, q2⟩ r2 st2 ru => ?_⟩
  subst ey
  obtain ⟨rfl, _⟩ := ru
  obtain ⟨p', ho, g1, g2, ⟨kvs, rfl, hl, hk, rs⟩, g4, g5⟩ := r2.own_at e2
  rw [h1] at g1; cases g1
  have hlen : kvs.length = ks.length := by rw [← hk, List.length_map]
  have m1 : ∀ q ∈ kvs, q.1 ≠ Sum.inr z := fun q hq e => nk (by rw [← hk, ← e]; exact List.mem_map_of_mem hq)
  have z1000 : 1000 ≤ sizeLine := by rw [sizeLine_eq]; decide
  refine ⟨p, _, rfl, DPut.k (k := .inr z) g2 (by omega), ?_⟩
  rw [putK_new m1]
  refine f.nx F2 _ σ _ s2 (st1.ext.trans st2.ext) (r2.write (o' := .dic (ks ++ [.inr z]) (ds ++ [d])) e2 h1 ⟨_, rfl, by rw [List.length_append]; simp; omega, ?_, ?_⟩) (((o.stp st1).stp st2).write (K := X.K) e2 h1) q2
  · rw [List.map_append, hk]; rfl
  · rw [List.map_append]
    exact rs.append (.one (Rep.mono st2.ext _ _ rv))
/-- x = {}, a dict that this def will change -/
def dSetD0 {m : Mem} (i : Nat) : DTS m := fun dd ρ s => dd.nx (ρ.set i (.ow (.dic [] []))) s
theorem ds_setD0 {E : Ent m} (i : Nat) {x : Str} {pos' dpos : Pos} (hN : X.N.Nodup) (hi : X.N[i]? = some x := by rfl) (hx : Loc X.env.scope x := by first | exact Or.inl rfl | exact Or.inr rfl)
    (hs : swapsWith (.Dict [] [] dpos) (some (.Name x pos')) pos.line X.env = pure false := by rfl) (hf : X.fn x = true ∨ X.env.scope.names.lookup x = some .local := by first | exact .inl rfl | exact .inr rfl) :
    PS X (.Assign [.Name x pos'] (.Dict [] [] dpos) pos) (upS X.K m E (dSetD0 i)) := PS.imp (ps_set hN hi hx pe_dnewK hs hf) fun DD σ H h => by
  obtain ⟨F, ρ, s, dd, r, o, ht, f⟩ := h
  intro p np
  have r2 := r.putO (i := i) (o := .dic [] []) np ⟨[], rfl, Nat.zero_le _, rfl, rfl⟩
  exact f.nx F _ _ _ s (Same.refl F) r2 (Own.putO r o np) ht
variable {te tb : DT (Mem.hot m)} {E : Ent (Mem.hot m)}
/-- x[k] = [], a list that is changed where it lies -/
def dTabNew {m : Mem} (i : Nat) (tb : DT (Mem.hot m)) : DTS (Mem.hot m) := fun dd ρ s => (∃ ks0 ds0, ρ[i]? = some (.ow (.dic ks0 ds0))) ∧ ∀ q, tb ρ (s.1, s.2 ++ [(q, [])]) fun y ρ2 s2 => ∃ ks ds z, y = .str z ∧ ρ2[i]? = some (.ow (.dic ks ds)) ∧ (.inr z ∉ ks) ∧ ks.length + 1 ≤ 1000 ∧
  dd.nx (ρ2.set i (.ow (.dic (ks ++ [.inr z]) (ds ++ [.any (.ref q)])))) s2
theorem ds_tabNew (i : Nat) {x : Str} {xpos spos lpos : Pos} (hu : X.A.units + 1 < cLine) (hb : PE X b (up X.K (Mem.hot m) tb)) (hN : X.N[i]? = some x := by rfl) (hv : Vis X.env.scope x := by first | exact Or.inl rfl | exact Or.inr (Or.inl rfl) | exact Or.inr (Or.inr rfl))
    (hd : (x == ("__debug__" : Str)) = false := by decide) (hcd : (x == ("__classdict__" : Str)) = false := by decide) (hs : swapsWith (.List [] lpos) (some (.Subscript (.Name x xpos) b spos)) pos.line X.env = pure false := by rfl) :
    PS X (.Assign [.Subscript (.Name x xpos) b spos] (.List [] lpos) pos) (upS X.K (Mem.hot m) E (dTabNew i tb)) := PS.imp (ps_dput hu (pv i hN hv hd hcd) hb (pe_lst pa_nil) hs) fun DD σ H h => by
  obtain ⟨F, ρ, ⟨s1, L⟩, dd, r, o, ⟨⟨ks0, ds0, e0⟩, ht⟩, f⟩ := h
  obtain ⟨p, ho, h1, h2, ⟨kv0, rfl, hl0, _, rs0⟩, h4, h5⟩ := r.own_at e0
  refine ⟨by show 0 ≤ sizeLine; exact Nat.zero_le _, fun q nq => ?_⟩
  have r1 : Rel X.K (Mem.hot m) F (upd H q (.lst ([].map V.str))) σ ρ (s1, L ++ [(q, [])]) := Rel.hotNew (xs := []) r nq (Nat.zero_le _) (by simp)
  have o1 : Own (Mem.hot m) E F (upd H q (.lst ([].map V.str))) σ ρ (s1, L ++ [(q, [])]) := Own.hotNew (xs := []) o nq
  refine ⟨_, h1, F, ρ, (s1, L ++ [(q, [])]), _, r1, ht q, fun y ρ2 s2 u F2 H2 ⟨ks, ds, z, ey, e2, nk, hz, q2⟩ r2 st2 ru => ?_⟩
  subst ey
  obtain ⟨rfl, _⟩ := ru
  obtain ⟨p', ho, g1, g2, ⟨kvs, rfl, hl, hk, rs⟩, g4, g5⟩ := r2.own_at e2
  rw [h1] at g1; cases g1
  have hlen : kvs.length = ks.length := by rw [← hk, List.length_map]
  have m1 : ∀ q ∈ kvs, q.1 ≠ Sum.inr z := fun q hq e => nk (by rw [← hk, ← e]; exact List.mem_map_of_mem hq)
  have z1000 : 1000 ≤ sizeLine := by rw [sizeLine_eq]; decide
  refine ⟨p, _, rfl, DPut.k (k := .inr z) g2 (by omega), ?_⟩
  rw [putK_new m1]
  refine f.nx F2 _ σ _ s2 st2.ext (r2.write (o' := .dic (ks ++ [.inr z]) (ds ++ [.any (.ref q)])) e2 h1 ⟨_, rfl, by rw [List.length_append]; simp; omega, ?_, ?_⟩) ((o1.stp st2).write (K := X.K) e2 h1) q2
  · rw [List.map_append, hk]; rfl
  · rw [List.map_append]
    exact rs.append (Reps.one (d := .any (.ref q)) (v := .ref q) rfl)
/-- x[k].append(e), x a dict of lists that are changed where they lie -/
def dTabApp {m : Mem} (i : Nat) (tb te : DT (Mem.hot m)) : DTS (Mem.hot m) := fun dd ρ s => (∃ ks0 ds0, ρ[i]? = some (.ow (.dic ks0 ds0))) ∧ tb ρ s fun y ρ1 s1 => ∃ ks ds z q, y = .str z ∧ ρ1[i]? = some (.ow (.dic ks ds)) ∧ dicGet ks ds (.inr z) = some (.any (.ref q)) ∧ (∃ xs, (q, xs) ∈ s1.2) ∧
  te ρ1 s1 fun d ρ2 s2 => ∃ A B xs t, d = .str t ∧ s2.2 = A ++ (q, xs) :: B ∧ xs.length < sizeLine ∧ dd.nx ρ2 (s2.1, A ++ (q, xs ++ [t]) :: B)
theorem ds_tabApp (i : Nat) {x : Str} {xpos spos apos cpos : Pos} (hu : X.A.units + 1 < cLine) (hb : PE X b (up X.K (Mem.hot m) tb)) (he : PE X e (up X.K (Mem.hot m) te)) (hN : X.N[i]? = some x := by rfl) (hv : Vis X.env.scope x := by first | exact Or.inl rfl | exact Or.inr (Or.inl rfl) | exact Or.inr (Or.inr rfl))
    (hd : (x == ("__debug__" : Str)) = false := by decide) (hcd : (x == ("__classdict__" : Str)) = false := by decide) (hix : NoSl b := by exact fun _ _ => rfl)
    (hbase : attributeBase (.Subscript (.Name x xpos) b spos) "append" X.env (eval (.Subscript (.Name x xpos) b spos) X.env) = eval (.Subscript (.Name x xpos) b spos) X.env := by rfl)
    (hfew : ((backTo cpos (starEach [e] X.env)).all (fun x => !x.1) && (backToKw cpos (keywordEach [] X.env)).all (fun x => x.1.isSome)
      && decide ([e].length + ([] : List Keyword).length + (if ([] : List Keyword).isEmpty then 0 else 1) < 30)) = true := by rfl)
    (hline : (apos.endLine == cpos.line) = true := by rfl) (hs : starEach [e] X.env = [(false, eval e X.env)] := by rfl)
    (hsw : swapsWith (.Call (.Attribute (.Subscript (.Name x xpos) b spos) "append" apos) [e] [] cpos) none pos.line X.env = pure false := by rfl) :
    PS X (.Expr (.Call (.Attribute (.Subscript (.Name x xpos) b spos) "append" apos) [e] [] cpos) pos) (upS X.K (Mem.hot m) E (dTabApp i tb te)) :=
  PS.imp (ps_expr (pe_bm PySem.F.plainAttrs_list PySem.F.slot_list_append PySem.F.type_list_append mt_append (pe_dget hu (pv i hN hv hd hcd) hb hix) (pa_cons he pa_nil (by rw [hs]; rfl)) hbase hfew hline (by rw [hs]; rfl) rfl) hsw) fun DD σ H h => by
  obtain ⟨F, ρ, s, dd, r, o, ⟨⟨ks0, ds0, e0⟩, ht⟩, f⟩ := h
  obtain ⟨p, ho, h1, h2, ⟨kv0, rfl, hl0, _, rs0⟩, h4, h5⟩ := r.own_at e0
  refine ⟨_, h1, F, ρ, s, _, r, ht, fun y ρ1 s1 v F1 H1 ⟨ks, ds, z, q, ey, e1, eg, ⟨xs0, hin⟩, q1⟩ r1 st1 rv => ?_⟩
  subst ey
  obtain ⟨rfl, _⟩ := rv
  obtain ⟨p', ho, g1, g2, ⟨kvs, rfl, hl, hk, rs⟩, g4, g5⟩ := r1.own_at e1
  rw [h1] at g1; cases g1
  obtain ⟨w, ew, rw'⟩ := (val_rep hk rs).1 _ eg
  obtain rfl : w = .ref q := rw'
  have a1 := (r1.mem.2.2 _ hin).1
  refine ⟨p, .ref q, rfl, by rw [← ew]; exact DGet.k (k := .inr z) g2, .inl ⟨rfl, _, .inl (.inl a1)⟩, F1, ρ1, s1, _, r1, q1, fun d ρ2 s2 v F2 H2 ⟨A, B, xs, t, ed, es, hz, q2⟩ r2 st2 rv => ?_⟩
  subst ed
  obtain ⟨rfl, hok⟩ := rv
  obtain ⟨s2a, s2b⟩ := s2
  obtain rfl : s2b = A ++ (q, xs) :: B := es
  obtain ⟨b1, b2, b3, b4⟩ := r2.mem.2.2 (q, xs) (by simp)
  have b1 : H2 q = some (.lst (xs.map V.str)) := b1
  refine ⟨q, xs.map V.str, .str t, rfl, rfl, b1, by rw [List.length_map]; omega, ?_⟩
  have es : xs.map V.str ++ [V.str t] = (xs ++ [t]).map V.str := by rw [List.map_append]; rfl
  rw [es]
  exact f.nx F2 _ σ _ _ (st1.ext.trans st2.ext) (r2.hotWA (by rw [List.length_append, List.length_singleton]; omega) fun x hx => (List.mem_append.mp hx).elim (b3 x) fun z => by rw [List.mem_singleton.mp z]; exact hok) (((o.stp st1).stp st2).hotWA) q2
end
section
variable {X : Cx} {pos : Pos}
theorem tab_lists {K : PySem.W.Frag} {F G : Hp} : ∀ (L : List (Addr × List Str)) (vs : List V), (∀ p ∈ L, G p.1 = some (.lst (p.2.map V.str)) ∧ p.2.length ≤ sizeLine ∧ ∀ x ∈ p.2, sOk x = true) → Reps K F (L.map fun p => .any (.ref p.1)) vs → Reps K G (L.map fun p => .lst (p.2.map .str)) vs
  | [], _, _, r => r
  | p :: L, vs, h, r => by
    obtain ⟨v, w, rfl, r1, r2⟩ := r
    obtain rfl : v = .ref p.1 := r1
    obtain ⟨h1, h2, h3⟩ := h p List.mem_cons_self
    exact ⟨_, w, rfl, ⟨p.1, _, rfl, h1, by rw [List.length_map]; exact h2, reps_of_strs _ h3⟩, tab_lists L w (fun q hq => h q (List.mem_cons_of_mem _ hq)) r2⟩
/-- return x, a dict of lists that were changed where they lie -/
def dRetTab (i : Nat) : DTS (Mem.hot Mem.nil) := fun dd ρ s => ∃ ks, ρ[i]? = some (.ow (.dic ks (s.2.map fun p => .any (.ref p.1)))) ∧ dd.rt (.dic ks (s.2.map fun p => .lst (p.2.map .str))) (s.1, [])
theorem ds_retTab {E : Ent (Mem.hot Mem.nil)} (hE : E.s.2 = []) (i : Nat) {x : Str} {xpos : Pos} (hN : X.N[i]? = some x := by rfl) (hv : Vis X.env.scope x := by first | exact Or.inl rfl | exact Or.inr (Or.inl rfl) | exact Or.inr (Or.inr rfl))
    (hd : (x == ("__debug__" : Str)) = false := by decide) (hcd : (x == ("__classdict__" : Str)) = false := by decide) : PS X (.Return (some (.Name x xpos)) pos) (upS X.K (Mem.hot Mem.nil) E (dRetTab i)) := PS.imp (ps_ret (pv i hN hv hd hcd)) fun DD σ H h => by
  obtain ⟨F, ρ, ⟨s1, L⟩, dd, r, o, ⟨ks, e0, hrt⟩, f⟩ := h
  obtain ⟨p, ho, h1, h2, ob, h4, h5⟩ := r.own_at e0
  obtain ⟨r1, st1, rp⟩ := r.share rfl e0 h1 h2 ob
  obtain ⟨r2, at2⟩ := Rel.cool (L := L) r1
  have o1 := o.stp st1
  have new : ∀ q ∈ L, E.H q.1 = none := fun q hq => by
    rcases o1.regf q.1 (.inr ⟨q, hq, rfl⟩) with z | z
    · rcases z with z | ⟨p', hp', _⟩
      · exact z.elim
      · rw [hE] at hp'; cases hp'
    · exact z
  refine ⟨_, h1, f.rt _ H σ _ (s1, []) _ _ (st1.ext.trans cool_ext) r2 (Own.cool o1 new) ?_ hrt⟩
  obtain ⟨a, kvs, e1, ha, hl, hk, rs⟩ := rp
  cases e1
  exact ⟨p, kvs, rfl, cool_ext _ _ ha, hl, hk, tab_lists L _ (fun q hq => ⟨at2 q hq, (r.mem.2.2 q hq).2.1, (r.mem.2.2 q hq).2.2.1⟩) rs⟩
end
section
variable {P : Program} {w : World} {K : PySem.W.Frag} {mg : Str → Option Value} {base : Heap} {m : Mem}
/-- a promise that says nothing of the state -/
abbrev PSp := List D → (D → Prop) → Prop
def pur {m : Mem} (p : PSp) : DSp m := fun ds s Q => p ds fun d => Q d s
/-- .. kept by a def that has lists beside, none at its entry and none at its end -/
def purH (p : PSp) : DSp (Mem.hot Mem.nil) := fun ds s Q => s.2 = [] ∧ p ds fun d => Q d (s.1, [])
theorem lift_nil {n : Nat} {p : PSp} {vs : List V} {H : Hp} {Q : VK} {E : XK} (h : lift K m n (pur p) vs H Q E) : lift K Mem.nil n (pur p) vs H Q E := by
  obtain ⟨hl, F, ds, s, Qd, sub, hm, hr, rs, hsp, hQ⟩ := h
  refine ⟨hl, F, ds, (), fun d _ => Qd d s, sub, trivial, fun _ z => z.elim, rs, hsp, fun d s' v F' H' q c rv => hQ d s v F' H' q ⟨c.ext, fun a o e _ => c.keep a o e fun z => z.elim, c.alive, c.fresh, fun a e => .inl e, c.sub, m.loc s H H' hm fun a ha => ?_, fun a ha => ?_⟩ rv⟩
  · cases e : H a with
    | none => exact absurd e (m.there s H a hm ha)
    | some o => exact c.keep a o e fun z => z.elim
  · cases e : F' a with
    | none => rfl
    | some o =>
      rcases c.fresh a o e with z | z
      · rw [hr a ha] at z; cases z
      · exact absurd z (m.there s H a hm ha)
theorem lift_tab {n : Nat} {p : PSp} {vs : List V} {H : Hp} {Q : VK} {E : XK} (h : lift K m n (pur p) vs H Q E) : lift K (Mem.hot Mem.nil) n (purH p) vs H Q E :=
  lift_cold (sp := pur p) (fun _ _ _ h => ⟨rfl, h⟩) (lift_nil h)
end
/-- x += y of ints -/
def iaddD : D → D → (D → Prop) → Prop := fun x y Q => ∃ i j, x = .int i ∧ y = .int j ∧ Q (.int (i + j))
theorem o_iadd {K : PySem.W.Frag} : Op2 K (rI0 fun i j => .int (i + j)) iaddD := o_ints0 fun x y Qd h => h
end DL

set_option Elab.async false
set_option linter.all false
set_option maxRecDepth 100000
/-! EL25: defs with a default: made, bound with all arguments or without the last, called without it -/
namespace DL
open PySem PySem.Spec PyProof.Rows L2 TL
/-- a def as it stands behind the top, whatever its defaults -/
structure FunE (K : PySem.W.Frag) (x qual : Str) (st : Stmt) (f : Addr) (fd : FuncData) : Prop where
  ex : ∃ (oc : Value) (od : Option Addr) (dV kV doc pm : Value) (an : Option Addr) (cdv ct : Value) (osl : Array (Option Value)),
    fd = PySem.W.fnOf x qual (defArgs st) (defBody st) (defScope st) dV kV doc pm an cdv ct ∧ K.lookup f = some ⟨oc, od, .func fd, osl⟩ ∧ PySem.W.codeIn K cdv qual = true
  kp : PySem.W.keepIn K (.ref f) = true
section
variable {P : Program} {w : World} {K : PySem.W.Frag} {mg : Str → Option Value} {base : Heap} {m : Mem}
theorem FunE.okG {CX : CXT} {x qual : Str} {st : Stmt} {f : Addr} {fd : FuncData} {N ps : List Str} {k : Nat} {sp : Sp} (F : FunE K x qual st f fd) (S : FnScope N ps (defScope st)) (len : ∀ vs H Q E, sp vs H Q E → vs.length = ps.length)
    (body : ∀ (cdv : Value) (A : Around) (outer : List Env) (s : Shared) (H : Hp) (vs : List V) (Q : VK) (E : XK), RoomG k (A.deeper (envOfC qual (defScope st) s.heap.objs.size f cdv)) → sp vs H Q E →
      ∃ t, PSs (cxOf CX P w K mg base N qual (defScope st) f cdv A outer s H E) (defBody st) t ∧ t { nx := fun _ H' => Q .non H', rt := Q } (start N vs) H) : FnG P w K mg base CX (k + 1) f fd ps sp := by
  obtain ⟨oc, od, dV, kV, doc, pm, an, cdv, ct, osl, rfl, lk, code⟩ := F.ex
  refine ⟨len, fun A outer s H args us vs Q E hr e0 hb rv hsp => ?_⟩
  have Kin : K.In s.heap := e0.mod.kin.keeps fun b o z => (e0.bs b o z).1
  have nl : s.heap.NoLimit := e0.mod.nolimit.keeps fun b o z => (e0.bs b o z).1
  have places : ∀ y ∈ ps.zip us, (defScope st).names.lookup y.1 = some .local ∨ ((defScope st).names.lookup y.1 = some .cell ∧ ((cellsFrom (s.heap.objs.size + 1) (defScope st).names []).lookup y.1).isSome = true) := fun y hy =>
    (S.par y.1 (List.of_mem_zip (show (y.1, y.2) ∈ ps.zip us from hy)).1).elim .inl fun q => .inr ⟨q, PySem.W.cellsFrom_some _ _ _ (.inl q)⟩
  refine codeAny_call_function hr.r.depth (Kin _ _ lk) rfl S.co S.gen rfl (PySem.W.codeRec_of Kin code) (hb _ _ _ _ (wpAny_newFunctionEnv_cells S.kind places fun env he s1 new => ?_))
  subst he
  obtain ⟨t, ht, hq⟩ := body cdv A outer s H vs Q E (hr.deeper _) hsp
  have J : Inv (cxOf CX P w K mg base N qual (defScope st) f cdv A outer s H E) [] (start N vs) H s1 := inv_start S hr.r.hd e0 (len _ _ _ _ hsp) rv new
  refine ⟨nl.keeps new.toInCall.keep, codeAny_func (wpAny_mono (ht.run [] s1 (start N vs) H _ J hq) (fun fl s' z => ?_) fun _ _ z => z)⟩
  rcases fl with _ | _ | _ | u
  · obtain ⟨σ', H', J', q⟩ := z
    exact ⟨V.non, H', J'.os, J'.bare, J'.base, J'.hok, rfl, q⟩
  · obtain ⟨_, _, _, q⟩ := z
    exact q.elim
  · obtain ⟨_, _, _, q⟩ := z
    exact q.elim
  · obtain ⟨v, σ', H', J', r', q⟩ := z
    exact ⟨v, H', J'.os, J'.bare, J'.base, J'.hok, r', q⟩
/-- THE RULE for such a def, its state at the entry of a kind that the promise tells -/
theorem dfnED {x qual : Str} {st : Stmt} {f : Addr} {fd : FuncData} {N ps : List Str} {k n : Nat} {sp : DSp m} (P' : m.S → Prop) (hP : ∀ ds s Qd, sp ds s Qd → P' s) (F : FunE K x qual st f fd) (S : FnScope N ps (defScope st)) (hn : n = ps.length)
    (hb : ∀ (cdv : Value) (A : Around) (outer : List Env) (s : Shared) (H : Hp) (E : XK) (En : Ent m), P' En.s → RoomG k (A.deeper (envOfC qual (defScope st) s.heap.objs.size f cdv)) →
      ∃ t, PSs (cxOf CX0 P w K mg base N qual (defScope st) f cdv A outer s H E).nox (defBody st) (upS K m En t) ∧ ∀ ds s Qd, sp ds s Qd → t (endsOf Qd) (startD N ds) s) : FnG P w K mg base CX0 (k + 1) f fd ps (lift K m n sp) := by
  subst hn
  refine FunE.okG F S (fun vs H Q E h => h.1) (fun cdv A outer s H vs Q E hr h => ?_)
  obtain ⟨hl, F0, ds, s0, Qd, sub, hm, hreg, rs, hsp, hQ⟩ := h
  obtain ⟨t, ht, hq⟩ := hb cdv A outer s H E ⟨F0, H, s0, fun _ _ _ _ => False⟩ (hP ds s0 Qd hsp) hr
  refine ⟨_, ht.nox, F0, startD N ds, s0, _, rel_start sub hm hreg rs, ⟨Same.refl _, fun _ _ h _ => h, fun _ h => h, fun _ _ h => .inl h, fun _ h => .inl h, fun i p ⟨⟨o, e⟩, _⟩ => ?_⟩, hq ds s0 Qd hsp, ?_⟩
  · unfold startD at e
    by_cases hi : i < ds.length
    · rw [List.getElem?_append_left (by simpa using hi), List.getElem?_map, List.getElem?_eq_getElem hi] at e; cases e
    · rw [List.getElem?_append_right (by simpa using hi), List.getElem?_replicate] at e
      split at e <;> cases e
  · have cs : ∀ F' H' σ ρ s, Rel K m F' H' σ ρ s → Own m ⟨F0, H, s0, fun _ _ _ _ => False⟩ F' H' σ ρ s → CStp m F0 H s0 F' H' s := fun F' H' σ ρ s r o => ⟨o.ext, o.keep, o.alive, o.fresh, o.regf, r.sub, r.mem, r.reg⟩
    exact ⟨fun F' H' σ ρ s _ r o q => hQ .non s _ F' H' q (cs F' H' σ ρ s r o) rfl, fun F' H' σ ρ s d v _ r o rv q => hQ d s v F' H' q (cs F' H' σ ρ s r o) rv, fun _ _ _ _ _ _ _ _ q => q.elim, fun _ _ _ _ _ _ _ _ q => q.elim, fun _ _ _ _ _ _ _ _ _ _ _ _ _ _ _ _ _ _ _ _ q => q.elim⟩
end
section
variable {K : PySem.W.Frag} {x qual : Str} {st : Stmt} {f : Addr} {oc : Value} {od an : Option Addr} {osl : Array (Option Value)} {kV doc pm cdv ct : Value} {T : Addr} {oT : Obj} {n : Nat} {ps : List Str} {b : Bool}
/-- a def with one default, True or False: its facts -/
theorem funE_mk (l : K.lookup f = some ⟨oc, od, .func (PySem.W.fnOf x qual (defArgs st) (defBody st) (defScope st) (.ref T) kV doc pm an cdv ct), osl⟩) (c : PySem.W.codeIn K cdv qual = true) (k : PySem.W.keepIn K (.ref f) = true) :
    FunE K x qual st f (PySem.W.fnOf x qual (defArgs st) (defBody st) (defScope st) (.ref T) kV doc pm an cdv ct) := ⟨⟨oc, od, _, kV, doc, pm, an, cdv, ct, osl, rfl, l, c⟩, k⟩
theorem funD_mk (l : K.lookup f = some ⟨oc, od, .func (PySem.W.fnOf x qual (defArgs st) (defBody st) (defScope st) (.ref T) kV doc pm an cdv ct), osl⟩) (c : PySem.W.codeIn K cdv qual = true) (k : PySem.W.keepIn K (.ref f) = true) (lT : K.lookup T = some oT) (dT : oT.data = .seq #[.bool b] n) :
    FunD K x qual (defArgs st) (defBody st) (defScope st) [.bl b] [] f (PySem.W.fnOf x qual (defArgs st) (defBody st) (defScope st) (.ref T) kV doc pm an cdv ct) :=
  ⟨⟨oc, od, _, kV, doc, pm, an, cdv, ct, osl, rfl, l, c, .inr ⟨by simp, T, oT, [.bool b], n, rfl, lT, dT, .cons rfl .nil⟩, .inl rfl⟩, k⟩
/-- all arguments given -/
theorem bindE {fd : FuncData} (F : FunD K x qual (defArgs st) (defBody st) (defScope st) [.bl b] [] f fd) (m : Nat) (hm : m = ps.length)
    (h : ∀ (T : Addr) (kV doc pm : Value) (an : Option Addr) (cdv ct : Value) (us its : List Value), us.length = m → its.length = 1 →
      ∃ k, bindArgs (PySem.W.fnOf x qual (defArgs st) (defBody st) (defScope st) (.ref T) kV doc pm an cdv ct) ⟨us, []⟩ = seqItems? (.ref T) >>= k ∧ k (some its.toArray) = pure (ps.zip (us ++ its.drop 1))) : Binds K fd ps [] := by
  obtain ⟨ds, r, B⟩ := F.binds1 m 1 (by simp) (by simpa using hm) h
  cases r
  exact B
/-- without the last, for which the default stands -/
theorem bindD {fd : FuncData} (F : FunD K x qual (defArgs st) (defBody st) (defScope st) [.bl b] [] f fd) (m : Nat) (hm : m + 1 = ps.length)
    (h : ∀ (T : Addr) (kV doc pm : Value) (an : Option Addr) (cdv ct : Value) (us its : List Value), us.length = m → its.length = 1 →
      ∃ k, bindArgs (PySem.W.fnOf x qual (defArgs st) (defBody st) (defScope st) (.ref T) kV doc pm an cdv ct) ⟨us, []⟩ = seqItems? (.ref T) >>= k ∧ k (some its.toArray) = pure (ps.zip (us ++ its.drop 0))) : Binds K fd ps [.bool b] := by
  obtain ⟨ds, r, B⟩ := F.binds1 m 0 (by simp) (by simpa using hm) h
  cases r with
  | cons r1 r2 =>
    cases r2
    cases r1
    exact B
end
section
variable {X : Cx} {m : Mem} {u : DTA m} {x : Str} {p pos : Pos} {e : Expr} {es : List Expr}
/-- a call without the last argument -/
def dCallD {m : Mem} (sp : DSp m) (d : D) (t : DTA m) : DT m := fun ρ s Q => t ρ s fun ds ρ1 s1 => sp (ds ++ [d]) s1 fun d s' => Q d ρ1 s'
theorem de_callD {k n : Nat} {fa : Addr} {fd : FuncData} {ps : List Str} {sp : DSp m} (b : Bool) (G : FnG X.prog X.w X.K X.mg X.base CX0 k fa fd ps (lift X.K m n sp)) (hn : ∀ ds s Qd, sp ds s Qd → ds.length = n) (hr : RoomG k X.A) (hg : Gl X x) (hm : X.mg x = some (.ref fa)) (hk : PySem.W.keepIn X.K (.ref fa) = true) (hb : Binds X.K fd ps [.bool b])
    (ha : PA X (e :: es) (upA X.K m u)) (hdb : (x == ("__debug__" : Str)) = false := by decide) (he : starEach (e :: es) X.env = (false, eval e X.env) :: starEach es X.env := by rfl) (hpl : (backTo pos (starEach es X.env)).any (·.1) = false := by rfl) :
    PE X (.Call (.Name x p) (e :: es) [] pos) (up X.K m (dCallD sp (.bl b) u)) := PE.imp (pg_call (dvs := [.bl b]) G hr hg hm hk hb (.cons rfl .nil) pass0 ha hdb he hpl) fun σ H Q h => by
  obtain ⟨F, ρ, s, Qd, rl, ht, hQ⟩ := h
  refine ⟨F, ρ, s, _, rl, ht, fun ds ρ1 s1 vs F1 H1 q1 r1 st1 rs => ?_⟩
  have rs' : Reps X.K F1 (ds ++ [.bl b]) (vs ++ [.bl b]) := rs.append (Reps.one (d := .bl b) (v := .bl b) rfl)
  show lift X.K m n sp (vs ++ [.bl b]) H1 Q _
  exact ⟨by rw [rs'.length]; exact hn _ _ _ q1, F1, _, s1, _, r1.sub, r1.mem, r1.reg, rs', q1, fun d s' v F2 H2 q2 c rv => hQ d ρ1 s' v F2 H2 q2 (r1.call c) (st1.trans c.stp) rv⟩
end
section
variable {X : Cx} {m : Mem} {te td : DT m} {pos : Pos} {e o : Expr}
/-- e in d, d a dict -/
def dInD {m : Mem} (neg : Bool) (te td : DT m) : DT m := fun ρ s Q => te ρ s fun y ρ1 s1 => td ρ1 s1 fun x ρ2 s2 => ∃ ks ds z, y = .str z ∧ x = .dic ks ds ∧ Q (.bl (neg ^^ (dicGet ks ds (.inr z)).isSome)) ρ2 s2
theorem de_inD (hu : X.A.units + 1 < cLine) (he : PE X e (up X.K m te)) (ho : PE X o (up X.K m td)) (h1 : behindInMarks .In o = false := by first | exact nobehind _ (by decide) (by decide) | rfl) : PE X (.Compare e [.In] [o] pos) (up X.K m (dInD false te td)) :=
  PE.imp (pe_cmp (pc_din hu he ho) h1) fun σ H Q h => by
    obtain ⟨F, ρ, s, Qd, r, ht, hQ⟩ := h
    refine up2 (R := fun y x H2 => ∃ a ov, x = .ref a ∧ DGet H2 a y ov ∧ Q (.bl ov.isSome) H2) r ht fun dy dx y x F2 H2 ρ2 s2 ⟨ks, ds, z, ey, ex, q⟩ r2 st ry rx => ?_
    subst ex
    subst ey
    obtain ⟨a, kvs, rfl, ha, _, hk, rs⟩ := rx
    obtain ⟨rfl, _⟩ := ry
    refine ⟨a, _, rfl, DGet.k (k := .inr z) (r2.sub _ _ ha), ?_⟩
    rw [(val_rep hk rs).2]
    rw [Bool.false_xor] at q
    exact hQ _ ρ2 s2 _ F2 H2 q r2 st rfl
end
end DL

set_option Elab.async false
set_option linter.all false
set_option maxRecDepth 100000
/-! EL26: a dict handed out that is new: its place is in the state beside, so that it may be locked and walked -/
namespace DL
open PySem PySem.Spec PyProof.Rows L2 TL
/-- beside the state of m: new dicts, told by their keys -/
def Mem.dk (m : Mem) : Mem where
  S := m.S × List (Addr × List Key)
  M := fun s H => m.M s.1 H ∧ (s.2.map Prod.fst).Nodup ∧ ∀ p ∈ s.2, (∃ kvs : List (Key × V), H p.1 = some (.dK kvs) ∧ kvs.map (·.1) = p.2 ∧ kvs.length ≤ sizeLine) ∧ ¬ m.R s.1 p.1
  R := fun s a => m.R s.1 a ∨ ∃ p ∈ s.2, p.1 = a
  loc := fun s H H' h k => ⟨m.loc s.1 H H' h.1 fun a ha => k a (.inl ha), h.2.1, fun p hp => by
    obtain ⟨⟨kvs, h1, h2⟩, h3⟩ := h.2.2 p hp
    exact ⟨⟨kvs, (k p.1 (.inr ⟨p, hp, rfl⟩)).trans h1, h2⟩, h3⟩⟩
  there := fun s H a h ha => by
    rcases ha with ha | ⟨p, hp, rfl⟩
    · exact m.there s.1 H a h.1 ha
    · obtain ⟨⟨kvs, h1, _⟩, _⟩ := h.2.2 p hp
      rw [h1]; simp
section
variable {X : Cx} {tg e : Expr} {td : TE}
end
def keyD : Key → D
  | .inl i => .int i
  | .inr x => .str x
theorem key_rep {K : PySem.W.Frag} {F : Hp} {k : Key} (h : ∀ z, k = .inr z → sOk z = true) : Rep K F (keyD k) (kV k) := by
  cases k with
  | inl i => rfl
  | inr x => exact ⟨rfl, h x rfl⟩
section
variable {X : Cx} {m : Mem} {te : DT (Mem.dk m)} {tg e : Expr} {pos : Pos} {E : Ent (Mem.dk m)}
end
end DL

set_option Elab.async false
set_option linter.all false
set_option maxRecDepth 100000
set_option maxHeartbeats 1000000
/-! LP4: what is used by what: next_table -/
namespace RP
open PySem PySem.Spec PyProof.Rows L2 TL DL TX TO
/-- user and used, or the other way round -/
def fl (b : Bool) (u : Str × Str) : Str × Str := if b then (u.2, u.1) else u
/-- what m uses, in the order of the uses -/
def nextsS (b : Bool) (us : List (Str × Str)) (m : Str) : List Str := ((us.map (fl b)).filter fun u => decide (u.1 = m)).map (·.2)
def keyI (ms : List Str) : List Key := ms.map Sum.inr
/-- the table of these modules, these uses -/
def tabD (b : Bool) (ms : List Str) (us : List (Str × Str)) : D := .dic (keyI ms) (ms.map fun m => .lst ((nextsS b us m).map .str))
def pTable (C : Addr) : PSp := fun ds Q => ∃ ms us b, ds = [progD C ms us, .bl b] ∧ ms.Nodup ∧ ms.length ≤ 200 ∧ us.length ≤ 400 ∧ (∀ u ∈ us, u.1 ∈ ms ∧ u.2 ∈ ms) ∧ Q (tabD b (srt lessS ms) (srt lessP us))
def spTable {m : Mem} (C : Addr) : DSp m := pur (pTable C)
theorem spTable_len {m : Mem} {C : Addr} : ∀ ds s Qd, (spTable C : DSp m) ds s Qd → ds.length = 2 := fun ds s Qd ⟨_, _, _, e, _⟩ => by rw [e]; rfl
theorem dicGet_at : ∀ {ms : List Str} {ds : List D} {i : Nat} {z : Str} {d : D}, ms.Nodup → ms[i]? = some z → ds[i]? = some d → dicGet (keyI ms) ds (.inr z) = some d
  | [], _, _, _, _, _, h, _ => by simp at h
  | m :: ms, [], i, _, _, _, _, h => by simp at h
  | m :: ms, d0 :: ds, 0, z, d, _, h1, h2 => by
    have h1 : m = z := by simpa using h1
    have h2 : d0 = d := by simpa using h2
    subst h1 h2
    show (if (Sum.inr m : Key) = .inr m then some d0 else _) = _
    rw [if_pos rfl]
  | m :: ms, d0 :: ds, i + 1, z, d, nd, h1, h2 => by
    have h1 : ms[i]? = some z := by simpa using h1
    have h2 : ds[i]? = some d := by simpa using h2
    obtain ⟨n1, n2⟩ := List.nodup_cons.mp nd
    show (if (Sum.inr m : Key) = .inr z then some d0 else dicGet (keyI ms) ds (.inr z)) = _
    rw [if_neg fun e => n1 (by rw [Sum.inr.inj e]; exact List.mem_of_getElem? h1)]
    exact dicGet_at n2 h1 h2
theorem nexts_snoc (b : Bool) (us : List (Str × Str)) (u : Str × Str) (m : Str) : nextsS b (us ++ [u]) m = nextsS b us m ++ (if (fl b u).1 = m then [(fl b u).2] else []) := by
  unfold nextsS
  rw [List.map_append, List.filter_append, List.map_append, List.map_singleton]
  congr 1
  by_cases h : (fl b u).1 = m
  · rw [if_pos h, List.filter_cons, decide_eq_true h]; rfl
  · rw [if_neg h, List.filter_cons, decide_eq_false h]; rfl
theorem nexts_len (b : Bool) (us : List (Str × Str)) (m : Str) : (nextsS b us m).length ≤ us.length := by
  unfold nextsS
  rw [List.length_map]
  exact Nat.le_trans (List.length_filter_le _ _) (by rw [List.length_map]; exact Nat.le_refl _)
theorem keyI_not {ms : List Str} {z : Str} (h : z ∉ ms) : (.inr z : Key) ∉ keyI ms := fun hm => by
  obtain ⟨y, hy, e⟩ := List.mem_map.mp hm
  exact h (by rw [← Sum.inr.inj e]; exact hy)
/-! ### chains from one on, in the order in which they are found -/
/-- o is put in behind way, if it is new -/
def addW (start : Str) (way : List Str) (W : List (Str × List Str)) (o : Str) : List (Str × List Str) := if o ≠ start ∧ o ∉ W.map (·.1) then W ++ [(o, way ++ [o])] else W
def stepW (nx : Str → List Str) (start : Str) (way : List Str) (W : List (Str × List Str)) : List (Str × List Str) := (nx (way.getLastD Str.empty)).foldl (addW start way) W
/-- what is to be gone on from -/
def rowW (start : Str) (W : List (Str × List Str)) : List (List Str) := [start] :: W.map (·.2)
def runW (nx : Str → List Str) (start : Str) : Nat → Nat → List (Str × List Str) → List (Str × List Str)
  | 0, _, W => W
  | n + 1, i, W => match (rowW start W)[i]? with
    | some way => runW nx start n (i + 1) (stepW nx start way W)
    | none => W
/-- the chains from start on, n modules in all -/
def chainsS (n : Nat) (nx : Str → List Str) (start : Str) : List (Str × List Str) := runW nx start n 0 []
abbrev wayD (w : List Str) : D := .tup (w.map .str)
def waysD (W : List (Str × List Str)) : D := .dic (keyI (W.map (·.1))) (W.map fun p => wayD p.2)
def nextD (ks : List Str) (nx : Str → List Str) : D := .dic (keyI ks) (ks.map fun m => .lst ((nx m).map .str))
def pChains : PSp := fun ds Q => ∃ ks nx start, ds = [nextD ks nx, .str start] ∧ ks.Nodup ∧ start ∈ ks ∧ ks.length ≤ 100 ∧ (∀ m ∈ ks, ∀ x ∈ nx m, x ∈ ks) ∧ Q (waysD (chainsS ks.length nx start))
def spChains {m : Mem} : DSp m := pur pChains
theorem spChains_len {m : Mem} : ∀ ds s Qd, (spChains : DSp m) ds s Qd → ds.length = 2 := fun ds s Qd ⟨_, _, _, e, _⟩ => by rw [e]; rfl
theorem dicGet_some : ∀ {ms : List Str} {ds : List D} {z : Str}, ds.length = ms.length → (dicGet (keyI ms) ds (.inr z)).isSome = decide (z ∈ ms)
  | [], [], z, _ => by simp [keyI, dicGet]
  | [], d :: ds, z, h => by simp at h
  | m :: ms, [], z, h => by simp at h
  | m :: ms, d :: ds, z, h => by
    show (if (Sum.inr m : Key) = .inr z then some d else dicGet (keyI ms) ds (.inr z)).isSome = _
    by_cases c : m = z
    · subst c
      rw [if_pos rfl]
      simp
    · rw [if_neg fun e => c (Sum.inr.inj e), dicGet_some (by simpa using h)]
      exact decide_eq_decide.mpr ⟨List.mem_cons_of_mem _, fun hm => (List.mem_cons.mp hm).resolve_left fun e => c e.symm⟩
theorem nd_len {α : Type} [DecidableEq α] : ∀ {l ks : List α}, l.Nodup → (∀ x ∈ l, x ∈ ks) → l.length ≤ ks.length
  | [], _, _, _ => Nat.zero_le _
  | x :: l, ks, nd, h => by
    obtain ⟨n1, n2⟩ := List.nodup_cons.mp nd
    have hx := h x List.mem_cons_self
    have ih := nd_len (ks := ks.filter fun y => decide (y ≠ x)) n2 fun y hy => List.mem_filter.mpr ⟨h y (List.mem_cons_of_mem _ hy), decide_eq_true fun e => n1 (e ▸ hy)⟩
    have lt : (ks.filter fun y => decide (y ≠ x)).length < ks.length := by
      refine List.length_filter_lt_length_iff_exists.mpr ⟨x, hx, by simp⟩
    rw [List.length_cons]
    omega
structure InvW (ks : List Str) (start : Str) (W : List (Str × List Str)) : Prop where
  nd : (W.map (·.1)).Nodup
  no : start ∉ W.map (·.1)
  ok : ∀ p ∈ W, p.1 ∈ ks ∧ p.2 ≠ [] ∧ p.2.getLastD Str.empty = p.1 ∧ p.2.length ≤ W.length + 1
theorem InvW.nil {ks : List Str} {start : Str} : InvW ks start [] := ⟨List.nodup_nil, by simp, fun p hp => by cases hp⟩
theorem InvW.len {ks : List Str} {start : Str} {W : List (Str × List Str)} (h : InvW ks start W) (hs : start ∈ ks) : W.length + 1 ≤ ks.length := by
  have nd : (start :: W.map (·.1)).Nodup := List.nodup_cons.mpr ⟨h.no, h.nd⟩
  have sub : (start :: W.map (·.1)) ⊆ ks := fun x hx => by
    rcases List.mem_cons.mp hx with rfl | hx
    · exact hs
    · obtain ⟨p, hp, rfl⟩ := List.mem_map.mp hx
      exact (h.ok p hp).1
  have := nd_len nd fun x hx => sub hx
  rw [List.length_cons, List.length_map] at this
  exact this
theorem InvW.add {ks : List Str} {start : Str} {W : List (Str × List Str)} (h : InvW ks start W) {way : List Str} {o : Str} (ho : o ∈ ks) (hw : way.length ≤ W.length + 1) (n1 : o ≠ start) (n2 : o ∉ W.map (·.1)) : InvW ks start (W ++ [(o, way ++ [o])]) := by
  refine ⟨?_, ?_, fun p hp => ?_⟩
  · rw [List.map_append, List.nodup_append]
    exact ⟨h.nd, List.nodup_cons.mpr ⟨List.not_mem_nil, List.nodup_nil⟩, fun a ha b hb e => n2 (by have hb : b = o := List.mem_singleton.mp hb; rw [← hb, ← e]; exact ha)⟩
  · rw [List.map_append]
    intro z
    rcases List.mem_append.mp z with z | z
    · exact h.no z
    · exact n1 (List.mem_singleton.mp z).symm
  · rw [List.length_append, List.length_singleton]
    rcases List.mem_append.mp hp with z | z
    · obtain ⟨a, b, c, d⟩ := h.ok p z
      exact ⟨a, b, c, by omega⟩
    · rw [List.mem_singleton.mp z]
      exact ⟨ho, by simp, by simp, by rw [List.length_append, List.length_singleton]; omega⟩
theorem fold_inv {ks : List Str} {start : Str} {way : List Str} : ∀ (l : List Str) (V : List (Str × List Str)), (∀ o ∈ l, o ∈ ks) → InvW ks start V → way.length ≤ V.length + 1 → InvW ks start (l.foldl (addW start way) V)
  | [], _, _, h, _ => h
  | o :: l, V, hl, h, hw => by
    rw [List.foldl_cons]
    have ho := hl o List.mem_cons_self
    by_cases c : o ≠ start ∧ o ∉ V.map (·.1)
    · have e : addW start way V o = V ++ [(o, way ++ [o])] := by unfold addW; rw [if_pos c]
      rw [e]
      exact fold_inv l _ (fun x hx => hl x (List.mem_cons_of_mem _ hx)) (h.add ho hw c.1 c.2) (by rw [List.length_append]; omega)
    · have e : addW start way V o = V := by unfold addW; rw [if_neg c]
      rw [e]
      exact fold_inv l _ (fun x hx => hl x (List.mem_cons_of_mem _ hx)) h hw
theorem run_inv {ks : List Str} {nx : Str → List Str} {start : Str} (hs : start ∈ ks) (hin : ∀ m ∈ ks, ∀ x ∈ nx m, x ∈ ks) : ∀ (n i : Nat) (W : List (Str × List Str)), InvW ks start W → InvW ks start (runW nx start n i W)
  | 0, _, _, h => h
  | n + 1, i, W, h => by
    show InvW ks start (match (rowW start W)[i]? with
      | some way => runW nx start n (i + 1) (stepW nx start way W)
      | none => W)
    cases e : (rowW start W)[i]? with
    | none => exact h
    | some way =>
      refine run_inv hs hin n (i + 1) _ ?_
      have wok : way.getLastD Str.empty ∈ ks ∧ way.length ≤ W.length + 1 := by
        rcases List.mem_cons.mp (List.mem_of_getElem? e) with rfl | hm
        · exact ⟨hs, by simp⟩
        · obtain ⟨p, hp, rfl⟩ := List.mem_map.mp hm
          obtain ⟨a1, a2, a3, a4⟩ := h.ok p hp
          exact ⟨by rw [a3]; exact a1, a4⟩
      exact fold_inv _ _ (hin _ wok.1) h wok.2
theorem chains_inv {ks : List Str} {nx : Str → List Str} {start : Str} (hs : start ∈ ks) (hin : ∀ m ∈ ks, ∀ x ∈ nx m, x ∈ ks) (n : Nat) : InvW ks start (chainsS n nx start) := run_inv hs hin n 0 [] .nil
theorem nexts_in {b : Bool} {ms : List Str} {us : List (Str × Str)} (h : ∀ u ∈ us, u.1 ∈ ms ∧ u.2 ∈ ms) : ∀ m ∈ ms, ∀ x ∈ nextsS b us m, x ∈ ms := fun m _ x hx => by
  obtain ⟨w, hw, rfl⟩ := List.mem_map.mp hx
  obtain ⟨u, hu, rfl⟩ := List.mem_map.mp (List.mem_filter.mp hw).1
  unfold fl
  split
  · exact (h u hu).1
  · exact (h u hu).2
end RP

set_option Elab.async false
set_option linter.all false
set_option maxRecDepth 100000
set_option maxHeartbeats 1000000
/-! LP5: what is reached, by chains_from and by the law's own rows -/
namespace RP
open PySem PySem.Spec PyProof.Rows L2 TL DL TX TO RG
/-- a way of these uses leads from s to .. -/
inductive Rc (us : List (Str × Str)) (s : Str) : Str → Prop
  | here : Rc us s s
  | on {x y : Str} : Rc us s x → (x, y) ∈ us → Rc us s y
theorem Rc.mono {us vs : List (Str × Str)} (h : ∀ u ∈ us, u ∈ vs) {s x : Str} (r : Rc us s x) : Rc vs s x := by
  induction r with
  | here => exact .here
  | on _ hu ih => exact .on ih (h _ hu)
theorem Rc.trans {us : List (Str × Str)} {s x y : Str} (r : Rc us s x) (q : Rc us x y) : Rc us s y := by
  induction q with
  | here => exact r
  | on _ hu ih => exact .on ih hu
theorem Rc.flip {us : List (Str × Str)} {s x : Str} (r : Rc us s x) : Rc (us.map fun u => (u.2, u.1)) x s := by
  induction r with
  | here => exact .here
  | on _ hu ih =>
    refine Rc.trans (.on .here ?_) ih
    exact List.mem_map.mpr ⟨_, hu, rfl⟩
theorem map_swap (us : List (Str × Str)) : (us.map fun u => (u.2, u.1)).map (fun u => (u.2, u.1)) = us := by
  rw [List.map_map]
  exact List.map_id us
theorem Rc.flip_iff {us : List (Str × Str)} {s x : Str} : Rc (us.map fun u => (u.2, u.1)) x s ↔ Rc us s x := ⟨fun h => by
  have z := h.flip
  rwa [map_swap] at z, Rc.flip⟩
/-- what is closed holds all that is reached -/
theorem Rc.closed {us : List (Str × Str)} {s x : Str} (P : Str → Prop) (h0 : P s) (h : ∀ u ∈ us, P u.1 → P u.2) (r : Rc us s x) : P x := by
  induction r with
  | here => exact h0
  | on _ hu ih => exact h _ hu ih
theorem nexts_mem {b : Bool} {us : List (Str × Str)} {m y : Str} : y ∈ nextsS b us m ↔ (m, y) ∈ us.map (fl b) := by
  unfold nextsS
  rw [List.mem_map]
  constructor
  · rintro ⟨u, hu, rfl⟩
    obtain ⟨h1, h2⟩ := List.mem_filter.mp hu
    have h2 : u.1 = m := of_decide_eq_true h2
    subst h2
    exact h1
  · intro h
    exact ⟨(m, y), List.mem_filter.mpr ⟨h, decide_eq_true rfl⟩, rfl⟩
/-! ### chains_from -/
structure InvC (b : Bool) (us : List (Str × Str)) (start : Str) (i : Nat) (W : List (Str × List Str)) : Prop where
  ends : ∀ p ∈ W, p.2.getLastD Str.empty = p.1
  rc : ∀ p ∈ W, Rc (us.map (fl b)) start p.1
  shut : ∀ j w, j < i → (rowW start W)[j]? = some w → ∀ y ∈ nextsS b us (w.getLastD Str.empty), y = start ∨ y ∈ W.map (·.1)
theorem row_snoc (start : Str) (W V : List (Str × List Str)) : rowW start (W ++ V) = rowW start W ++ V.map (·.2) := by
  unfold rowW
  rw [List.map_append, List.cons_append]
theorem row_get {start : Str} {W V : List (Str × List Str)} {j : Nat} (h : j < (rowW start W).length) : (rowW start (W ++ V))[j]? = (rowW start W)[j]? := by
  rw [row_snoc, List.getElem?_append_left h]
theorem rowW_len (start : Str) (W : List (Str × List Str)) : (rowW start W).length = W.length + 1 := by
  show (W.map _).length + 1 = _
  rw [List.length_map]
/-- one more way -/
theorem InvC.add {b : Bool} {us : List (Str × Str)} {start : Str} {i : Nat} {W : List (Str × List Str)} (h : InvC b us start i W) (hi : i ≤ W.length + 1) {way : List Str} {o : Str} (ho : Rc (us.map (fl b)) start o) : InvC b us start i (W ++ [(o, way ++ [o])]) := by
  refine ⟨fun p hp => ?_, fun p hp => ?_, fun j w hj hw y hy => ?_⟩
  · rcases List.mem_append.mp hp with z | z
    · exact h.ends p z
    · rw [List.mem_singleton.mp z]
      show (way ++ [o]).getLastD Str.empty = o
      rw [List.getLastD_concat]
  · rcases List.mem_append.mp hp with z | z
    · exact h.rc p z
    · rw [List.mem_singleton.mp z]; exact ho
  · rw [row_get (by rw [rowW_len]; omega)] at hw
    rcases h.shut j w hj hw y hy with z | z
    · exact .inl z
    · exact .inr (by rw [List.map_append]; exact List.mem_append_left _ z)
theorem fold_invC {b : Bool} {us : List (Str × Str)} {start : Str} {i : Nat} {way : List Str} : ∀ (l : List Str) (V : List (Str × List Str)), (∀ o ∈ l, Rc (us.map (fl b)) start o) → InvC b us start i V → i ≤ V.length + 1 →
    InvC b us start i (l.foldl (addW start way) V) ∧ (∀ o ∈ l, o = start ∨ o ∈ (l.foldl (addW start way) V).map (·.1)) ∧ ∃ V', l.foldl (addW start way) V = V ++ V'
  | [], V, _, h, _ => ⟨h, fun o ho => absurd ho List.not_mem_nil, [], by simp⟩
  | o :: l, V, hl, h, hi => by
    rw [List.foldl_cons]
    have ho := hl o List.mem_cons_self
    by_cases c : o ≠ start ∧ o ∉ V.map (·.1)
    · have e : addW start way V o = V ++ [(o, way ++ [o])] := by unfold addW; rw [if_pos c]
      rw [e]
      obtain ⟨a1, a2, V', a3⟩ := fold_invC l (V ++ [(o, way ++ [o])]) (fun x hx => hl x (List.mem_cons_of_mem _ hx)) (h.add hi ho) (by rw [List.length_append]; omega)
      refine ⟨a1, fun x hx => ?_, [(o, way ++ [o])] ++ V', by rw [a3, List.append_assoc]⟩
      rcases List.mem_cons.mp hx with rfl | hx
      · refine .inr ?_
        rw [a3, List.map_append, List.map_append]
        exact List.mem_append_left _ (List.mem_append_right _ (by simp))
      · exact a2 x hx
    · have e : addW start way V o = V := by unfold addW; rw [if_neg c]
      rw [e]
      obtain ⟨a1, a2, V', a3⟩ := fold_invC l V (fun x hx => hl x (List.mem_cons_of_mem _ hx)) h hi
      refine ⟨a1, fun x hx => ?_, V', a3⟩
      rcases List.mem_cons.mp hx with rfl | hx
      · by_cases c1 : x = start
        · exact .inl c1
        · refine .inr ?_
          have c2 : x ∈ V.map (·.1) := Decidable.not_not.mp fun z => c ⟨c1, z⟩
          rw [a3, List.map_append]
          exact List.mem_append_left _ c2
      · exact a2 x hx
theorem step_invC {b : Bool} {us : List (Str × Str)} {start : Str} {i : Nat} {W : List (Str × List Str)} {way : List Str} (h : InvC b us start i W) (hw : (rowW start W)[i]? = some way) : InvC b us start (i + 1) (stepW (nextsS b us) start way W) ∧ W.length ≤ (stepW (nextsS b us) start way W).length := by
  have hi : i ≤ W.length := by
    have := (List.getElem?_eq_some_iff.mp hw).1
    rw [rowW_len] at this; omega
  have hr : Rc (us.map (fl b)) start (way.getLastD Str.empty) := by
    rcases List.mem_cons.mp (List.mem_of_getElem? hw) with rfl | hm
    · exact .here
    · obtain ⟨p, hp, rfl⟩ := List.mem_map.mp hm
      rw [h.ends p hp]
      exact h.rc p hp
  obtain ⟨a1, a2, V', a3⟩ := fold_invC (nextsS b us (way.getLastD Str.empty)) W (fun o ho => .on hr (nexts_mem.mp ho)) h (by omega)
  unfold stepW
  refine ⟨⟨a1.ends, a1.rc, fun j w hj hjw y hy => ?_⟩, by rw [a3, List.length_append]; omega⟩
  by_cases c : j < i
  · exact a1.shut j w c hjw y hy
  · have : j = i := by omega
    subst this
    rw [a3, row_get (by rw [rowW_len]; omega), hw] at hjw
    cases hjw
    exact a2 y hy
/-- all that is found at the end: the invariant up to the whole row -/
theorem run_invC {b : Bool} {us : List (Str × Str)} {start : Str} {ks : List Str} (hs : start ∈ ks) (hin : ∀ m ∈ ks, ∀ x ∈ nextsS b us m, x ∈ ks) : ∀ (n i : Nat) (W : List (Str × List Str)), n + i = ks.length → InvC b us start i W → InvW ks start W → ∃ j, InvC b us start j (runW (nextsS b us) start n i W) ∧ (rowW start (runW (nextsS b us) start n i W)).length ≤ j
  | 0, i, W, e, h, hW => ⟨i, h, by
    have := hW.len hs
    show (rowW start W).length ≤ i
    rw [rowW_len]; omega⟩
  | n + 1, i, W, e, h, hW => by
    show ∃ j, InvC b us start j (match (rowW start W)[i]? with
      | some way => runW (nextsS b us) start n (i + 1) (stepW (nextsS b us) start way W)
      | none => W) ∧ (rowW start (match (rowW start W)[i]? with
      | some way => runW (nextsS b us) start n (i + 1) (stepW (nextsS b us) start way W)
      | none => W)).length ≤ j
    cases q : (rowW start W)[i]? with
    | none => exact ⟨i, h, List.getElem?_eq_none_iff.mp q⟩
    | some way =>
      have wok : way.getLastD Str.empty ∈ ks ∧ way.length ≤ W.length + 1 := by
        rcases List.mem_cons.mp (List.mem_of_getElem? q) with rfl | hm
        · exact ⟨hs, by simp⟩
        · obtain ⟨p, hp, rfl⟩ := List.mem_map.mp hm
          obtain ⟨a1, a2, a3, a4⟩ := hW.ok p hp
          exact ⟨by rw [a3]; exact a1, a4⟩
      exact run_invC hs hin n (i + 1) _ (by omega) (step_invC h q).1 (fold_inv _ _ (hin _ wok.1) hW wok.2)
theorem chains_mem {b : Bool} {us : List (Str × Str)} {start : Str} {ks : List Str} (hs : start ∈ ks) (hin : ∀ m ∈ ks, ∀ x ∈ nextsS b us m, x ∈ ks) {x : Str} : x ∈ (chainsS ks.length (nextsS b us) start).map (·.1) ↔ x ≠ start ∧ Rc (us.map (fl b)) start x := by
  have inv := chains_inv hs hin ks.length
  obtain ⟨j, h, hj⟩ := run_invC (b := b) (us := us) hs hin ks.length 0 [] rfl ⟨fun p hp => absurd hp List.not_mem_nil, fun p hp => absurd hp List.not_mem_nil, fun j w hj => by omega⟩ .nil
  have e : runW (nextsS b us) start ks.length 0 [] = chainsS ks.length (nextsS b us) start := rfl
  rw [e] at h hj
  generalize chainsS ks.length (nextsS b us) start = W at *
  constructor
  · intro hx
    refine ⟨fun z => inv.no (z ▸ hx), ?_⟩
    obtain ⟨p, hp, rfl⟩ := List.mem_map.mp hx
    exact h.rc p hp
  · rintro ⟨hne, hr⟩
    refine (Rc.closed (fun y => y = start ∨ y ∈ W.map (·.1)) (.inl rfl) (fun u hu hp => ?_) hr).resolve_left hne
    have hy : u.2 ∈ nextsS b us u.1 := nexts_mem.mpr hu
    obtain ⟨i, w, hi, hw⟩ : ∃ (i : Nat) (w : List Str), (rowW start W)[i]? = some w ∧ w.getLastD Str.empty = u.1 := by
      rcases hp with hp | hp
      · exact ⟨0, [start], rfl, by rw [hp]; rfl⟩
      · obtain ⟨p, hp, e⟩ := List.mem_map.mp hp
        obtain ⟨i, hi⟩ := List.getElem?_of_mem (List.mem_map_of_mem (f := (·.2)) hp)
        exact ⟨i + 1, p.2, hi, by rw [h.ends p hp]; exact e⟩
    have hlt : i < j := Nat.lt_of_lt_of_le (List.getElem?_eq_some_iff.mp hi).1 hj
    exact h.shut i w hlt hi u.2 (by rw [hw]; exact hy)
/-! ### the law's rows -/
/-! ### reached -/
theorem fl_f (us : List (Str × Str)) : us.map (fl false) = us := by
  show us.map (fun u => u) = us
  exact List.map_id us
end RP
namespace RP
open PySem PySem.Spec PyProof.Rows L2 TL DL TX TO RG
end RP

set_option Elab.async false
set_option linter.all false
set_option maxRecDepth 100000
set_option maxHeartbeats 1000000
/-! LP6: the law's widest programs -/
namespace RP
open PySem PySem.Spec PyProof.Rows L2 TL DL TX TO RG
theorem of_tl {x y : Str} (h : tl x = tl y) : x = y := by
  cases x with
  | mk a =>
    cases y with
    | mk b =>
      have h : a.toList = b.toList := h
      rw [Array.toList_inj.mp h]
def stemO (o : Option Str) (n : Str) : Str := match o with
  | none => Str.ofString "" ++ n
  | some m => (m ++ Str.ofString ".") ++ n
def wideS (o : Option Str) (n : Str) (c : Nat) : Str := stemO o n ++ one c
theorem wide_join {o : Option Str} {n : Str} {c : Nat} : wideS o n c = joinS dot (o.toList ++ [n ++ one c]) := by
  refine of_tl ?_
  have hd : tl (Str.ofString ".") = [46] := by decide +kernel
  have he : tl (Str.ofString "") = [] := by decide +kernel
  cases o with
  | none =>
    show tl ((Str.ofString "" ++ n) ++ one c) = tl (joinS dot [n ++ one c])
    rw [tl_append, tl_append, he, show tl (joinS dot [n ++ one c]) = tl (n ++ one c) from tl_join _ _, tl_append]
    rfl
  | some m =>
    show tl (((m ++ Str.ofString ".") ++ n) ++ one c) = tl (joinS dot [m, n ++ one c])
    rw [tl_append, tl_append, tl_append, hd, show tl (joinS dot [m, n ++ one c]) = tl m ++ ([46] ++ tl (n ++ one c)) from tl_join _ _, tl_append, List.append_assoc, List.append_assoc]
structure StemOk (o : Option Str) (n : Str) : Prop where
  o : ∀ m, o = some m → NameOk m
  len : n.length ≤ 7
  n : ∀ c ∈ tl n, 97 ≤ c ∧ c ≤ 122
theorem StemOk.one {o : Option Str} {n : Str} (h : StemOk o n) {c : Nat} (h1 : 97 ≤ c) (h2 : c ≤ 122) : NameOk (n ++ one c) := by
  refine ⟨by rw [len_add]; exact Nat.le_add_left 1 _, by rw [len_add]; exact Nat.succ_le_succ h.len, fun d hd => ?_⟩
  rw [tl_append] at hd
  rcases List.mem_append.mp hd with z | z
  · exact h.n d z
  · rw [List.mem_singleton.mp z]; exact ⟨h1, h2⟩
theorem StemOk.ok {o : Option Str} {n : Str} (h : StemOk o n) {c : Nat} (h1 : 97 ≤ c) (h2 : c ≤ 122) : ∀ y ∈ o.toList ++ [n ++ DL.one c], okName y = true := fun y hy => by
  rcases List.mem_append.mp hy with z | z
  · cases o with
    | none => cases z
    | some m => rw [List.mem_singleton.mp z]; exact okName_of (h.o m rfl)
  · rw [List.mem_singleton.mp z]; exact okName_of (h.one h1 h2)
theorem StemOk.path {o : Option Str} {n : Str} (h : StemOk o n) {c : Nat} (h1 : 97 ≤ c) (h2 : c ≤ 122) : PathS (wideS o n c) := by
  rw [wide_join]
  refine pathS_names (by simp) ?_ (h.ok h1 h2)
  rw [List.length_append]
  cases o <;> exact Nat.le_of_ble_eq_true rfl
theorem StemOk.spl {o : Option Str} {n : Str} (h : StemOk o n) {c : Nat} (h1 : 97 ≤ c) (h2 : c ≤ 122) : splS 46 (wideS o n c) = o.toList ++ [n ++ DL.one c] := by
  rw [wide_join]
  exact spl_names (by simp) (h.ok h1 h2)
theorem StemOk.alone {o : Option Str} {n : Str} (h : StemOk o n) {c d : Nat} (h1 : 97 ≤ c) (h2 : c ≤ 122) (g1 : 97 ≤ d) (g2 : d ≤ 122) (hne : c ≠ d) : ovS (wideS o n c) (wideS o n d) = false := by
  have key : ∀ c d : Nat, 97 ≤ c → c ≤ 122 → 97 ≤ d → d ≤ 122 → c ≠ d → lcov (wideS o n c) (wideS o n d) = false := fun c d h1 h2 g1 g2 hne => by
    unfold lcov
    rw [h.spl h1 h2, h.spl g1 g2, List.take_of_length_le (by rw [List.length_append, List.length_append]; exact Nat.le_refl _)]
    refine beq_eq_false_iff_ne.mpr fun z => hne ?_
    have z := List.append_cancel_left z
    have z : n ++ DL.one d = n ++ DL.one c := by simpa using z
    have z := congrArg tl z
    rw [tl_append, tl_append] at z
    have z := List.append_cancel_left z
    have z : [d] = [c] := z
    exact (List.cons.inj z).1.symm
  rw [← ovS_lcov, key c d h1 h2 g1 g2 hne, key d c g1 g2 h1 h2 (Ne.symm hne)]; rfl
/-! ### along all -/
theorem Uses.more {ms : List Str} {us vs : List (Str × Str)} (h : Uses ms us) (k : Uses ms vs) : Uses ms (us ++ vs.filter fun u => !decide (u ∈ us)) := by
  refine ⟨List.nodup_append.mpr ⟨h.nd, k.nd.sublist List.filter_sublist, fun u hu v hv e => ?_⟩, fun u hu => ?_⟩
  · obtain ⟨_, z⟩ := List.mem_filter.mp hv
    rw [Bool.not_eq_true'] at z
    exact of_decide_eq_false z (e ▸ hu)
  · rcases List.mem_append.mp hu with z | z
    · exact h.ok u z
    · exact k.ok u (List.mem_filter.mp z).1
end RP

set_option Elab.async false
set_option linter.all false
set_option maxRecDepth 100000
/-! EL27: a call with one keyword, the last parameter (keyword-only or not) -/
namespace DL
open PySem PySem.Spec PyProof.Rows L2 TL
section
variable {X : Cx} {CX : CXT} {k n : Nat} {f : Addr} {fd : FuncData} {ps : List Str} {sp : Sp} {E : XK} {x kw : Str} {p pos kpos : Pos} {e c : Expr} {es : List Expr} {t : TA} {tc : TE}
end
section
variable {X : Cx} {m : Mem} {u : DTA m} {tc : DT m} {x kw : Str} {p pos kpos : Pos} {e c : Expr} {es : List Expr}
end
section
variable {K : PySem.W.Frag} {x qual kw : Str} {st : Stmt} {f : Addr} {oc : Value} {od an : Option Addr} {osl : Array (Option Value)} {doc pm cdv ct : Value} {D : Addr} {ps : List Str} {b : Bool}
end
end DL

set_option Elab.async false
set_option linter.all false
set_option maxRecDepth 100000
/-! EL28: x, y = [], [e for ..], both own -/
namespace DL
open PySem PySem.Spec PyProof.Rows L2 TL
theorem line_two : 2 ≤ sizeLine := by rw [sizeLine_eq]; decide
section
variable {X : Cx} {m : Mem} {E : Ent m}
end
end DL

set_option Elab.async false
set_option linter.all false
set_option maxRecDepth 100000
set_option maxHeartbeats 1000000
namespace RP
open PySem PySem.Spec PyProof.Rows L2 TL DL TX TO RG

def T_table19 (a : Nat → Addr) : DTS (Mem.hot Mem.nil) :=
  (dSeq (dSetD0 2)
      (dSeq (dFor (diSeq (dProp (a 26) (hotSp (spGetM (a 26))) (dVar 0))) (gN 3)
        (dTabNew 2 (dVar 3)))
      (dSeq (dFor (diSeq (dProp (a 26) (hotSp (spGetU (a 26))) (dVar 0))) (gTup' 2 (gCons' (gN 4) (gCons' (gN 5) gNil')))
        (dIf (dTr (dVar 1)) (dTabApp 2 (dVar 5) (dVar 4)) (dTabApp 2 (dVar 4) (dVar 5))))
      (dRetTab 2))))
theorem read_table19 {a : Nat → Addr} : ∀ ds s Qd, (purH (pTable (a 26)) : DSp (Mem.hot Mem.nil)) ds s Qd → (T_table19 a : DTS (Mem.hot Mem.nil)) (endsOf Qd) (startD ["program", "backward", "table", "module", "user", "used"] ds) s := by
  intro ds s Qd h
  obtain ⟨hs, ms, us, b, rfl, nd, l1, l2, hin, hQ⟩ := h
  have ndM : (srt lessS ms).Nodup := (srt_perm (lt := lessS) ms).nodup_iff.mpr nd
  have lM : (srt lessS ms).length = ms.length := srt_len _
  have lU : (srt lessP us).length = us.length := srt_len _
  have inM : ∀ u ∈ srt lessP us, u.1 ∈ srt lessS ms ∧ u.2 ∈ srt lessS ms := fun u hu => by
    have z := hin u (mem_srt.mp hu)
    exact ⟨mem_srt.mpr z.1, mem_srt.mpr z.2⟩
  generalize hM : srt lessS ms = M at *
  generalize hU : srt lessP us = U at *
  have prog : progD (a 26) ms us = .ins (a 26) pFields [.tup (M.map .str), .tup (U.map ptD), .tup ((partsS ms).map .str)] := by unfold progD; rw [hM, hU]
  refine ⟨⟨_, _, rfl⟩, ms, us, rfl, _, by rw [hM]; rfl, fun pre ρ s' => ∃ L c3, s' = (s.1, L) ∧ ρ = [.sh (progD (a 26) ms us), .sh (.bl b), .ow (.dic (keyI (M.take pre.length)) (L.map fun p => .any (.ref p.1))), c3, .no, .no] ∧ L.map (·.2) = (M.take pre.length).map fun _ => [],
    ⟨[], .no, by rw [← hs], rfl, rfl⟩, ?_, ?_⟩
  · rintro pre y post ρ s' e ⟨L, c3, rfl, rfl, hL⟩
    obtain ⟨m0, hm0, rfl, -⟩ := mid_map e
    have ht : M.take (pre.length + 1) = M.take pre.length ++ [m0] := by rw [List.take_add_one, hm0]; rfl
    have lp : (pre ++ [D.str m0]).length = pre.length + 1 := by rw [List.length_append, List.length_singleton]
    have nk : m0 ∉ M.take pre.length := fun hm => by
      have z : (M.take pre.length ++ [m0]).Nodup := by rw [← ht]; exact ndM.sublist (List.take_sublist _ _)
      exact (List.nodup_append.mp z).2.2 m0 hm m0 (by simp) rfl
    refine ⟨⟨_, _, rfl⟩, fun q => ⟨_, _, m0, rfl, rfl, keyI_not nk, ?_, L ++ [(q, [])], .sh (.str m0), rfl, ?_, ?_⟩⟩
    · show (List.map _ _).length + 1 ≤ 1000
      rw [List.length_map, List.length_take]; omega
    · rw [lp, ht, List.map_append]
      show _ = [_, _, Sl.ow (.dic (List.map _ _) _), _, _, _]
      rw [List.map_append]; rfl
    · rw [lp, ht, List.map_append, List.map_append, hL]; rfl
  · rintro ρ s' ⟨L, c3, rfl, rfl, hL⟩
    rw [List.length_map, List.take_length] at hL ⊢
    have hL0 : L.map (·.2) = M.map (nextsS b (U.take 0)) := hL
    refine ⟨⟨_, _, rfl⟩, ms, us, rfl, _, by rw [hU]; rfl, fun pre ρ s' => ∃ L c3 c4 c5, s' = (s.1, L) ∧ ρ = [.sh (progD (a 26) ms us), .sh (.bl b), .ow (.dic (keyI M) (L.map fun p => .any (.ref p.1))), c3, c4, c5] ∧ L.map (·.2) = M.map (nextsS b (U.take pre.length)),
      ⟨L, c3, .no, .no, rfl, rfl, hL0⟩, ?_, ?_⟩
    · rintro pre y post ρ s' e ⟨L, c3, c4, c5, rfl, rfl, hL⟩
      obtain ⟨u, hu, rfl, -⟩ := mid_map e
      have ht : U.take (pre.length + 1) = U.take pre.length ++ [u] := by rw [List.take_add_one, hu]; rfl
      have lp : (pre ++ [ptD u]).length = pre.length + 1 := by rw [List.length_append, List.length_singleton]
      have lL : L.length = M.length := by
        have := congrArg List.length hL
        rw [List.length_map, List.length_map] at this
        exact this
      -- the list of w is made longer
      have key : ∀ w : Str × Str, fl b u = w → ∀ (c3 c4 c5 : Sl), ∃ (ks : List Key) (ds : List D) (z : Str) (q : Addr), D.str w.1 = .str z ∧ (Sl.ow (.dic (keyI M) (L.map fun p => .any (.ref p.1))) : Sl) = .ow (.dic ks ds) ∧ dicGet ks ds (.inr z) = some (.any (.ref q)) ∧ (∃ xs, (q, xs) ∈ L) ∧
          ∃ A B xs t, D.str w.2 = .str t ∧ L = A ++ (q, xs) :: B ∧ xs.length < sizeLine ∧ ∃ L' d3 d4 d5, ((s.1, A ++ (q, xs ++ [t]) :: B) : (Mem.hot Mem.nil).S) = (s.1, L') ∧ ([.sh (progD (a 26) ms us), .sh (.bl b), .ow (.dic (keyI M) (L.map fun p => .any (.ref p.1))), c3, c4, c5] : List Sl) = [.sh (progD (a 26) ms us), .sh (.bl b), .ow (.dic (keyI M) (L'.map fun p => .any (.ref p.1))), d3, d4, d5] ∧ L'.map (·.2) = M.map (nextsS b (U.take (pre ++ [ptD u]).length)) := by
        intro w hw c3 c4 c5
        have um := List.mem_of_getElem? hu
        have wm : w.1 ∈ M := by
          rw [← hw]
          unfold fl
          split
          · exact (inM u um).2
          · exact (inM u um).1
        obtain ⟨i, hi⟩ := List.getElem?_of_mem wm
        have il : i < M.length := (List.getElem?_eq_some_iff.mp hi).1
        obtain ⟨⟨q, xs⟩, hq⟩ : ∃ p, L[i]? = some p := ⟨L[i]'(by omega), List.getElem?_eq_getElem _⟩
        have hxs : xs = nextsS b (U.take pre.length) w.1 := by
          have h1 : (L.map (·.2))[i]? = some xs := by rw [List.getElem?_map, hq]; rfl
          rw [hL, List.getElem?_map, hi] at h1
          exact (Option.some.inj h1).symm
        have hs' : L = L.take i ++ (q, xs) :: L.drop (i + 1) := by
          have e1 : L.drop i = (q, xs) :: L.drop (i + 1) := by
            obtain ⟨h1, h2⟩ := List.getElem?_eq_some_iff.mp hq
            rw [← h2]
            exact List.drop_eq_getElem_cons h1
          rw [← e1, List.take_append_drop]
        refine ⟨_, _, w.1, q, rfl, rfl, dicGet_at ndM hi (by rw [List.getElem?_map, hq]; rfl), ⟨xs, List.mem_of_getElem? hq⟩, L.take i, L.drop (i + 1), xs, w.2, rfl, hs', ?_, L.take i ++ (q, xs ++ [w.2]) :: L.drop (i + 1), c3, c4, c5, rfl, ?_, ?_⟩
        · rw [hxs]
          refine Nat.lt_of_le_of_lt (nexts_len _ _ _) ?_
          rw [List.length_take]
          exact Nat.lt_of_le_of_lt (show min pre.length U.length ≤ 400 by omega) (by rw [sizeLine_eq]; decide)
        · have : L.map (fun p : Addr × List Str => D.any (.ref p.1)) = (L.take i ++ (q, xs ++ [w.2]) :: L.drop (i + 1)).map fun p => D.any (.ref p.1) := by
            conv => lhs; rw [hs']
            rw [List.map_append, List.map_append, List.map_cons, List.map_cons]
          rw [this]
        · rw [lp, ht]
          refine List.ext_getElem? fun j => ?_
          have hset : L.take i ++ (q, xs ++ [w.2]) :: L.drop (i + 1) = L.set i (q, xs ++ [w.2]) := (List.set_eq_take_append_cons_drop.trans (if_pos (by omega))).symm
          rw [hset, List.getElem?_map, List.getElem?_map, List.getElem?_set]
          by_cases hj : i = j
          · subst hj
            rw [if_pos rfl, if_pos (by omega), hi]
            show some (xs ++ [w.2]) = some _
            rw [nexts_snoc, hw, if_pos rfl, hxs]
          · rw [if_neg hj]
            have h1 : (L.map (·.2))[j]? = (M.map (nextsS b (U.take pre.length)))[j]? := by rw [hL]
            rw [List.getElem?_map, List.getElem?_map] at h1
            rw [h1]
            cases hm : M[j]? with
            | none => rfl
            | some m1 =>
              show some _ = some _
              have : (fl b u).1 ≠ m1 := fun z => by
                rw [hw] at z
                subst z
                obtain ⟨j1, j2⟩ := List.getElem?_eq_some_iff.mp hm
                obtain ⟨i1, i2⟩ := List.getElem?_eq_some_iff.mp hi
                have far := List.pairwise_iff_getElem.mp ndM
                rcases Nat.lt_trichotomy i j with z | z | z
                · exact far i j i1 j1 z (i2.trans j2.symm)
                · exact hj z
                · exact far j i j1 i1 z (j2.trans i2.symm)
              rw [nexts_snoc, if_neg this, List.append_nil]
      refine ⟨_, rfl, rfl, _, _, rfl, _, _, rfl, rfl, _, rfl, ?_⟩
      cases b with
      | true =>
        obtain ⟨ks, ds, z, q, a1, a2, a3, a4, A, B, xs, t, a5, a6, a7, a8⟩ := key (u.2, u.1) rfl c3 (.sh (.str u.1)) (.sh (.str u.2))
        exact ⟨⟨_, _, rfl⟩, ks, ds, z, q, a1, congrArg some a2, a3, a4, A, B, xs, t, a5, a6, a7, a8⟩
      | false =>
        obtain ⟨ks, ds, z, q, a1, a2, a3, a4, A, B, xs, t, a5, a6, a7, a8⟩ := key (u.1, u.2) rfl c3 (.sh (.str u.1)) (.sh (.str u.2))
        exact ⟨⟨_, _, rfl⟩, ks, ds, z, q, a1, congrArg some a2, a3, a4, A, B, xs, t, a5, a6, a7, a8⟩
    · rintro ρ s' ⟨L, c3, c4, c5, rfl, rfl, hL⟩
      rw [List.length_map, List.take_length] at hL
      refine ⟨keyI M, rfl, ?_⟩
      have e : L.map (fun p : Addr × List Str => D.lst (p.2.map .str)) = M.map fun m => .lst ((nextsS b U m).map .str) := by
        have : L.map (fun p : Addr × List Str => D.lst (p.2.map .str)) = (L.map (·.2)).map fun l => D.lst (l.map .str) := by rw [List.map_map]; rfl
        rw [this, hL, List.map_map]; rfl
      show Qd (.dic (keyI M) (L.map fun p : Addr × List Str => D.lst (p.2.map .str))) (s.1, [])
      rw [e]
      exact hQ
end RP

set_option Elab.async false
set_option linter.all false
set_option maxRecDepth 100000
/-! EM1: {**x, k: v} -/
namespace DL
open PySem PySem.Spec PyProof.Rows L2 TL
section
variable {prog : Program} {w : World} {J : Type} [DecidableEq J] {κ : PySem.KeyKind prog w J} {A : Around} {E : Value → Shared → Prop} {s : Shared}
theorem put_pairs {p : Addr} {xs : List (J × Value)} {j : J} {u x : Value} {Q : Unit → Shared → Prop} (hu : κ.is j u = true) (hp : s.heap.DictOf κ p xs) (hz : xs.length ≤ sizeLine)
    (hQ : ∀ g, g.DictOf κ p (stored xs j x) → Heap.SameBut p s.heap g → Q () { s with heap := g }) : wpAny (model prog w) A (dictPut p (κ.hash j) u x) Q E s := by
  obtain ⟨ob, arr, ep, h1, h2, h3, h4, h5, h6⟩ := hp
  have sz : arr.size ≤ sizeLine := by
    have := h5.length
    rw [Array.length_toList] at this
    omega
  unfold dictPut
  refine wpAny_bind (wpAny_dictFind_of hu h1 h3 h4 ?_)
  have same : (arr.findIdx? fun c => κ.is j c.key) = xs.findIdx? fun c => decide (c.1 = j) := by
    have z := h5.findIdx j
    rw [← z]
    cases arr with
    | mk l => simp
  cases at' : arr.findIdx? fun c => κ.is j c.key with
  | none =>
    have nk : j ∉ xs.map (·.1) := not_mem_of_findIdx_none (same ▸ at')
    have na : ¬ (xs.any fun c => decide (c.1 = j)) = true := fun z => by
      obtain ⟨c, hc, e⟩ := List.any_eq_true.mp z
      exact nk (List.mem_map.mpr ⟨c, hc, of_decide_eq_true e⟩)
    refine wpAny_updateDictKeys (hz := sz) h1 h3 (hQ _ ⟨_, _, ep + 1, Heap.get?_update_self _ h1 (Obj.isFreed_of_dict (Obj.data_mapDictKeys h3 _)), h2.mapDictKeys _, Obj.data_mapDictKeys h3 _, h4.push hu _, ?_, ?_⟩ (Heap.SameBut.update ..))
    · rw [stored, if_neg na, Array.toList_push]
      exact h5.append hu (κ.hash j) x
    · rw [stored, if_neg na, List.map_append]
      refine List.nodup_append.mpr ⟨h6, by simp, fun a ha b hb e => nk ?_⟩
      have hb : b = j := by simpa using hb
      rw [← hb, ← e]; exact ha
  | some i =>
    have ya := any_of_findIdx_some (same ▸ at')
    refine wpAny_updateDict h1 h3 (hQ _ ⟨_, _, ep, Heap.get?_update_self _ h1 (Obj.isFreed_of_dict (Obj.data_mapDict h3 _)), h2.mapDict _, Obj.data_mapDict h3 _, h4.modify _ _, ?_, ?_⟩ (Heap.SameBut.update ..))
    · rw [stored, if_pos ya, Array.toList_modify]
      exact h5.modify h6 (by rw [← at']; cases arr with | mk l => simp) x
    · rw [stored, if_pos ya, keys_map_store]; exact h6
theorem not_ref {j : J} {u : Value} (h : κ.is j u = true) (a : Addr) : u ≠ .ref a := fun e => by
  have z := κ.byValue j u h
  rw [e] at z
  cases z
/-- d.update(o), as a display does it -/
theorem merge_pairs {p q : Addr} {xs ys : List (J × Value)} {Q : Unit → Shared → Prop} (hpq : p ≠ q) (hs : (q == sysModules) = false) (hp : s.heap.DictOf κ p xs) (hq : s.heap.DictOf κ q ys) (hz : xs.length + ys.length ≤ sizeLine)
    (hQ : ∀ g, g.DictOf κ p (merged xs ys) → Heap.SameBut p s.heap g → Q () { s with heap := g }) : wpAny (model prog w) A (mergeMapping p (.ref q) false) Q E s := by
  have hq0 := hq
  have hp0 := hp
  obtain ⟨ob, arr, ep, h1, h2, h3, h4, h5, h6⟩ := hq
  obtain ⟨ob', arr', ep', g1, g2, g3, g4, g5, g6⟩ := hp
  have len : ys.length = arr.size := by
    have := h5.length
    rw [Array.length_toList] at this
    omega
  have go : wpAny (model prog w) A (do
      let size := (← dictEntries q).size
      let epoch ← dictEpoch q
      for i in List.range size do
        let some e := (← dictEntries q)[i]? | unsupported "dict.changed-during-merge"
        holding [e.key, e.val] (dictPut p e.hash e.key e.val)
        if (← dictEpoch q) != epoch then unsupported "dict.changed-during-merge") Q E s := by
    refine wpAny_bind (wpAny_dictEntries h1 h3 ?_)
    refine wpAny_bind (wpAny_dictEpoch h1 h3 ?_)
    refine wpAny_bind (wpAny_forIn_list _ (fun rest _ s' => ∃ g i, s' = { s with heap := g } ∧ rest = List.range' i (arr.size - i) ∧ i ≤ arr.size ∧ g.DictOf κ p (merged xs (ys.take i)) ∧ g.get? q = some ob ∧ Heap.SameBut p s.heap g) _ ?_ ?_ _ _ ⟨s.heap, 0, rfl, by rw [Nat.sub_zero]; exact List.range_eq_range', Nat.zero_le _, hp0, h1, Heap.SameBut.refl _ _⟩)
    · rintro x rest b s' ⟨g, i, rfl, hr, hi, hd, ho, hb⟩
      obtain ⟨n, hn⟩ : ∃ n, arr.size - i = n + 1 := by
        cases c : arr.size - i with
        | zero => rw [c] at hr; cases hr
        | succ n => exact ⟨n, rfl⟩
      rw [hn, List.range'_succ] at hr
      obtain ⟨rfl, rfl⟩ := List.cons.inj hr
      have hx : x < arr.size := by omega
      refine wpAny_bind (wpAny_dictEntries ho h3 ?_)
      rw [Array.getElem?_eq_getElem hx]
      obtain ⟨⟨k, v⟩, hk⟩ : ∃ c, ys[x]? = some c := ⟨ys[x]'(by omega), List.getElem?_eq_getElem _⟩
      obtain ⟨k1, k2⟩ := h5.get? (e := arr[x]) (by simp [hx]) hk
      obtain ⟨k', k3, k4⟩ := h4 arr[x] (Array.getElem_mem hx)
      obtain rfl : k' = k := κ.inj _ _ _ k3 k1
      have fit : (merged xs (ys.take x)).length ≤ sizeLine := by
        have := merged_length_le xs (ys.take x)
        rw [List.length_take] at this
        omega
      show wpAny _ _ (holding [arr[x].key, arr[x].val] (dictPut p arr[x].hash arr[x].key arr[x].val) >>= _) _ _ _
      rw [k4, k2]
      refine wpAny_bind (wpAny_holding (put_pairs k1 hd fit fun g' hd' hb' => ?_))
      have ho' : g'.get? q = some ob := (hb'.2 q (Ne.symm hpq)).trans ho
      refine wpAny_bind (wpAny_dictEpoch ho' h3 ?_)
      rw [if_neg (by simp)]
      refine wpAny_pure ⟨g', x + 1, rfl, ?_, hx, ?_, ho', hb.trans hb'⟩
      · rw [show arr.size - (x + 1) = n by omega]
      · rw [merged_take_succ xs ys x (k', v) hk]; exact hd'
    · rintro b s' ⟨g, i, rfl, hr, hi, hd, ho, hb⟩
      have he : i = arr.size := by
        cases c : arr.size - i with
        | zero => omega
        | succ n => rw [c, List.range'_succ] at hr; cases hr
      rw [he, ← len, List.take_length] at hd
      exact wpAny_pure (hQ g hd hb)
  unfold mergeMapping
  refine wpAny_bind (wpAny_isInstance (b := true) hq0.typeIs isSubtype_dict_dict ?_)
  refine wpAny_bind (wpAny_specialOf hq0.typeIs F.slot_dict_iter.lookup ?_)
  refine wpAny_bind (wpAny_pure ?_)
  rw [beq_self_eq_true]
  show wpAny _ _ (ite ((q == sysModules) = true) _ _) _ _ s
  rw [if_neg (by rw [hs]; exact Bool.false_ne_true)]
  refine wpAny_bind (wpAny_dictEntries g1 g3 ?_)
  show wpAny _ _ (ite (arr'.isEmpty = true) _ _) Q E s
  by_cases c : arr'.isEmpty = true
  · rw [if_pos c]
    refine wpAny_bind (wpAny_dictEntries h1 h3 ?_)
    refine wpAny_bind ?_
    rw [← Array.forIn_toList]
    refine wpAny_forIn_list _ (fun rest _ s' => s' = s ∧ ∀ e ∈ rest, e ∈ arr.toList) _ ?_ ?_ _ _ ⟨rfl, fun e he => he⟩
    · rintro e rest b s' ⟨rfl, hin⟩
      obtain ⟨k, k1, _⟩ := h4 e (Array.mem_toList_iff.mp (hin e List.mem_cons_self))
      have nr := not_ref k1
      have fin : ((fun _ => s' = s' ∧ ∀ e ∈ rest, e ∈ arr.toList) ()) := ⟨rfl, fun c hc => hin c (List.mem_cons_of_mem _ hc)⟩
      cases ek : e.key with
      | ref a => exact absurd ek (nr a)
      | _ => exact wpAny_pure fin
    · rintro b s' ⟨rfl, _⟩
      exact go
  · rw [if_neg c]
    exact go
theorem display_mrg {a b c : Sem Value} {Q : Value → Shared → Prop}
    (h : wpAny (model prog w) A a (fun x s1 => ∃ q xs, x = .ref q ∧ s.heap.objs.size ≠ q ∧ (q == sysModules) = false ∧ s1.heap.DictOf κ s.heap.objs.size [] ∧ s1.heap.DictOf κ q xs ∧ xs.length ≤ sizeLine ∧ ∀ g, g.DictOf κ s.heap.objs.size xs → Heap.SameBut s.heap.objs.size s1.heap g →
      wpAny (model prog w) A (subDict [(b, c)]) (fun p2 s3 => ∃ xs3 ys, s.heap.objs.size ≠ p2 ∧ (p2 == sysModules) = false ∧ s3.heap.DictOf κ s.heap.objs.size xs3 ∧ s3.heap.DictOf κ p2 ys ∧ xs3.length + ys.length ≤ sizeLine ∧ ∀ g', g'.DictOf κ s.heap.objs.size (merged xs3 ys) → Heap.SameBut s.heap.objs.size s3.heap g' → Q (.ref s.heap.objs.size) { s3 with heap := g' }) E { s1 with heap := g }) E
      { s with heap := s.heap.push { cls := .type "dict", data := .dict #[] } }) : wpAny (model prog w) A (dictDisplay [(none, a), (some b, c)]) Q E s := by
  unfold dictDisplay
  dsimp only
  refine wpAny_bind ?_
  rw [List.forIn_cons]
  refine wpAny_bind ?_
  refine wpAny_bind ?_
  show wpAny _ _ (pure (none : Option Addr)) _ _ _
  refine wpAny_pure ?_
  refine wpAny_bind (wpAny_alloc ?_)
  refine wpAny_bind (wpAny_holding (wpAny_mono h (fun x s1 hx => ?_) fun _ _ e => e))
  obtain ⟨q, xs, rfl, hpq, hsys, d1, d2, hz, go⟩ := hx
  have nd : (xs.map (·.1)).Nodup := by
    obtain ⟨_, _, _, _, _, _, _, _, h⟩ := d2
    exact h
  refine wpAny_bind (wpAny_onRaise (wpAny_tryCatch (wpAny_onRaise (wpAny_holding (merge_pairs hpq hsys d1 d2 (by rw [List.length_nil]; omega) fun g e1 e2 => ?_)))))
  rw [merged_nil_of_nodup xs nd] at e1
  refine wpAny_pure ?_
  dsimp only
  rw [List.forIn_cons]
  refine wpAny_bind ?_
  show wpAny _ _ (pure (ForInStep.yield (some s.heap.objs.size, [(b, c)]))) _ _ _
  refine wpAny_pure ?_
  dsimp only
  rw [List.forIn_nil]
  refine wpAny_pure ?_
  dsimp only
  refine wpAny_bind ?_
  show wpAny _ _ (holding [Value.ref s.heap.objs.size] (subDict [(b, c)]) >>= _) _ _ _
  refine wpAny_bind (wpAny_holding (wpAny_mono (go g e1 e2) (fun p2 s3 hx => ?_) fun _ _ e => e))
  obtain ⟨xs3, ys, n2, sy2, e3, e4, hz2, fin⟩ := hx
  refine wpAny_bind (wpAny_onRaise (wpAny_holding (merge_pairs n2 sy2 e3 e4 hz2 fun g' f1 f2 => ?_)))
  exact wpAny_pure (wpAny_pure (fin g' f1 f2))
end
theorem sh_mrg {env : Env} {em ek ev : Expr} {pos : Pos} : (evalEachOpt [none, some ek] env).zip ((evalEach [em, ev] env).map fun v => do let x ← v; standAt pos; pure x) = [(none, do let x ← eval em env; standAt pos; pure x), (some (eval ek env), do let x ← eval ev env; standAt pos; pure x)] := by rfl
section
variable {X : Cx} {em ek ev : Expr} {pos : Pos} {tm tk tv : TE}
/-- {**m, k: v}; two new dicts stand beside while it is made -/
def tMrg (tm tk tv : TE) : TE := fun σ H Q => ∀ p, H p = none → tm σ (upd H p (.dK [])) fun x H1 => ∃ a kvs, x = .ref a ∧ p ≠ a ∧ H1 p = some (.dK []) ∧ Rd H1 a (.dK kvs) ∧ ∀ p2, (upd H1 p (.dK kvs)) p2 = none →
  tPairs [(tk, tv)] σ (upd (upd H1 p (.dK kvs)) p2 (.dK [])) fun ps H3 => ∃ k z, ps = [(kV k, z)] ∧ H3 p = some (.dK kvs) ∧ H3 p2 = some (.dK []) ∧ kvs.length < sizeLine ∧ Q (.ref p) (upd (upd H3 p2 (.dK [(k, z)])) p (.dK (putK kvs k z)))
theorem pe_mrg (hm : PE X em tm) (hk : PE X ek tk) (hv : PE X ev tv) : PE X (.Dict [none, some ek] [em, ev] pos) (tMrg tm tk tv) := by
  refine ⟨fun pins s σ H Q I q => ?_⟩
  rw [arm_eval_Dict, sh_mrg]
  refine wpAny_bind (wpAny_standAt ?_)
  have hn := I.hok.fresh (Nat.le_refl s.heap.objs.size)
  have I1 := I.laid (a := s.heap.objs.size) (o := .dK []) (h' := s.heap.push { cls := .type "dict", data := .dict #[] }) (t' := s.toks) (fun _ _ z => Heap.get?_push_of_some _ z) (Nat.le_refl _) (dk_empty s.heap I.big)
  refine display_mrg (κ := mixKind X.prog X.w) ?_
  refine wpAny_bind (thn (hm.run pins _ σ _ _ I1 (q _ hn)) fun u s1 ⟨x, H1, I2, rx, qq⟩ => wpAny_bind (wpAny_standAt (wpAny_pure ?_)))
  obtain ⟨a, kvs, rfl, hne, e1, e2, go⟩ := qq
  cases rx
  obtain ⟨z0, hd0, vs0, r0, dd0⟩ := dk_of I2.hok e1
  cases r0
  obtain ⟨z1, hd1, vs1, r1, dd1⟩ := dk_rd I2.hok e2
  refine ⟨a, vs1, rfl, hne, hd1, dd0, dd1, by rw [← r1.length]; exact z1, fun g e3 e4 => ?_⟩
  have he : ∃ o, g.get? s.heap.objs.size = some o := let ⟨o, _, _, ho, _⟩ := e3; ⟨o, ho⟩
  have I3 : Inv X pins σ (upd H1 s.heap.objs.size (.dK kvs)) { s1 with heap := g } := d_write I2 (by rw [e1]; exact True.intro) e4 he (dk_new z1 hd0 r1 e3)
  have hn2 := I3.hok.fresh (Nat.le_refl g.objs.size)
  have I4 := I3.laid (a := g.objs.size) (o := .dK []) (h' := g.push { cls := .type "dict", data := .dict #[] }) (t' := s1.toks) (fun _ _ z => Heap.get?_push_of_some _ z) (Nat.le_refl _) (dk_empty g I3.big)
  have n2 : s.heap.objs.size ≠ g.objs.size := fun z => by
    rw [← z, upd_same] at hn2; cases hn2
  refine wpAny_subDict (knd := mixKind X.prog X.w) (Nat.le_of_ble_eq_true rfl) ?_
  refine thn ((pps_cons hk hv pps_nil : PPs X pos [some ek] [ev] [(tk, tv)]).run pins _ σ _ _ I4 (go _ hn2)) fun ws s3 ⟨ps, H3, I5, rel, k, z, ep, e5, e6, hz, fin⟩ => ?_
  subst ep
  obtain ⟨rs, c, rk⟩ := carries_of (P := X.prog) (w := X.w) (kvs := [(k, z)]) rel
  obtain ⟨y0, hd2, ws0, t0, dd2⟩ := dk_of I5.hok e6
  cases t0
  refine ⟨rs, c, dd2, fun g2 dd3 hs2 => ?_⟩
  have he2 : ∃ o, g2.get? g.objs.size = some o := let ⟨o, _, _, ho, _⟩ := dd3; ⟨o, ho⟩
  have one1 : 1 ≤ sizeLine := by rw [sizeLine_eq]; decide
  have I6 := d_write (t' := s3.toks + ws.length) I5 (by rw [e6]; exact True.intro) hs2 he2 (dk_new (kvs := [(k, z)]) (H' := upd H3 g.objs.size (.dK [(k, z)])) one1 hd2 (rk.merge .nil) dd3)
  have f1 : (upd H3 g.objs.size (.dK [(k, z)])) s.heap.objs.size = some (.dK kvs) := by rw [upd_ne n2]; exact e5
  obtain ⟨y3, hd3, vs3, r3, dd4⟩ := dk_of I6.hok f1
  obtain ⟨y4, hd4, vs4, r4, dd5⟩ := dk_of I6.hok (a := g.objs.size) upd_same
  have l3 := r3.length
  have l4 := r4.length
  refine ⟨vs3, vs4, n2, hd4, dd4, dd5, by rw [← l3, ← l4]; exact hz, fun g3 e7 e8 => ?_⟩
  have he3 : ∃ o, g3.get? s.heap.objs.size = some o := let ⟨o, _, _, ho, _⟩ := e7; ⟨o, ho⟩
  have lp : (putK kvs k z).length ≤ sizeLine := by have := length_putK kvs k z; omega
  exact ⟨.ref s.heap.objs.size, _, d_write I6 (by rw [f1]; exact True.intro) e8 he3 (dk_new lp hd3 (KV.merge r4 r3) e7), rfl, fin⟩
end
end DL

set_option Elab.async false
set_option linter.all false
set_option maxRecDepth 100000
/-! EM2: {**x, k: v} over data: x, k, v names, k a key of x -/
namespace DL
open PySem PySem.Spec PyProof.Rows L2 TL
def putD : List Key → List D → Key → D → List D
  | k0 :: ks, d0 :: ds, k, d => (if k0 = k then d else d0) :: putD ks ds k d
  | _, _, _, _ => []
section
variable {K : PySem.W.Frag} {F : Hp}
theorem put_reps {k : Key} {d : D} {v : V} (rv : Rep K F d v) : ∀ (kvs : List (Key × V)) (ds : List D), Reps K F ds (kvs.map (·.2)) → Reps K F (putD (kvs.map (·.1)) ds k d) ((kvs.map fun kv => if kv.1 = k then (kv.1, v) else kv).map (·.2))
  | [], ds, h => by cases ds with | nil => rfl | cons _ _ => rfl
  | kv :: kvs, [], h => by cases h
  | kv :: kvs, d0 :: ds, h => by
    obtain ⟨u, r, e, h1, h2⟩ := h
    obtain ⟨rfl, rfl⟩ := List.cons.inj e
    refine ⟨_, _, rfl, ?_, put_reps rv kvs ds h2⟩
    by_cases c : kv.1 = k
    · show Rep K F (if kv.1 = k then d else d0) (if kv.1 = k then (kv.1, v) else kv).2
      rw [if_pos c, if_pos c]; exact rv
    · show Rep K F (if kv.1 = k then d else d0) (if kv.1 = k then (kv.1, v) else kv).2
      rw [if_neg c, if_neg c]; exact h1
theorem put_keys {k : Key} {v : V} (kvs : List (Key × V)) : (kvs.map fun kv => if kv.1 = k then (kv.1, v) else kv).map (·.1) = kvs.map (·.1) := by
  rw [List.map_map]
  refine List.map_congr_left fun kv _ => ?_
  show (if kv.1 = k then (kv.1, v) else kv).1 = kv.1
  split <;> rfl
end
section
variable {X : Cx} {m : Mem} {pos : Pos}
def dMrg {m : Mem} (i j l : Nat) : DT m := fun ρ s Q => ∃ ks ds z d, ρ[i]? = some (.sh (.dic ks ds)) ∧ ρ[j]? = some (.sh (.str z)) ∧ ρ[l]? = some (.sh d) ∧ .inr z ∈ ks ∧ ks.length ≤ 1000 ∧ Q (.dic ks (putD ks ds (.inr z) d)) ρ s
theorem de_mrg (i j l : Nat) {x y t : Str} {p1 p2 p3 : Pos} (hN : X.N[i]? = some x := by rfl) (hv : Vis X.env.scope x := by first | exact Or.inl rfl | exact Or.inr (Or.inl rfl) | exact Or.inr (Or.inr rfl)) (hd : (x == ("__debug__" : Str)) = false := by decide)
    (hcd : (x == ("__classdict__" : Str)) = false := by decide) (hN2 : X.N[j]? = some y := by rfl) (hv2 : Vis X.env.scope y := by first | exact Or.inl rfl | exact Or.inr (Or.inl rfl) | exact Or.inr (Or.inr rfl)) (hd2 : (y == ("__debug__" : Str)) = false := by decide)
    (hcd2 : (y == ("__classdict__" : Str)) = false := by decide) (hN3 : X.N[l]? = some t := by rfl) (hv3 : Vis X.env.scope t := by first | exact Or.inl rfl | exact Or.inr (Or.inl rfl) | exact Or.inr (Or.inr rfl)) (hd3 : (t == ("__debug__" : Str)) = false := by decide)
    (hcd3 : (t == ("__classdict__" : Str)) = false := by decide) : PE X (.Dict [none, some (.Name y p2)] [.Name x p1, .Name t p3] pos) (up X.K m (dMrg i j l)) :=
  PE.imp (pe_mrg (pv i hN hv hd hcd) (pv j hN2 hv2 hd2 hcd2) (pv l hN3 hv3 hd3 hcd3)) fun σ H Q h => by
    obtain ⟨F, ρ, s, Qd, r, ⟨ks, ds, z, d, e1, e2, e3, hk, hz, q⟩, hQ⟩ := h
    obtain ⟨v1, h1, r1⟩ := r.sh i _ e1
    obtain ⟨v2, h2, r2⟩ := r.sh j _ e2
    obtain ⟨v3, h3, r3⟩ := r.sh l _ e3
    obtain ⟨rfl, hzs⟩ := r2
    obtain ⟨a, kvs, rfl, ha, hl, hkk, rs⟩ := r1
    have aH := r.sub _ _ ha
    have len : kvs.length = ks.length := by rw [← hkk, List.length_map]
    have z1000 : 1000 < sizeLine := by rw [sizeLine_eq]; decide
    intro p np
    have hpa : p ≠ a := fun e => by subst e; rw [np] at aH; cases aH
    refine ⟨_, h1, a, kvs, rfl, hpa, upd_same, .inl (by rw [upd_ne (Ne.symm hpa)]; exact aH), fun q' nq => ?_⟩
    have hqp : q' ≠ p := fun e => by subst e; rw [upd_same] at nq; cases nq
    have nq0 : H q' = none := by rw [upd_ne hqp, upd_ne hqp] at nq; exact nq
    refine ⟨_, h2, _, h3, .inr z, v3, rfl, by rw [upd_ne (Ne.symm hqp), upd_same], upd_same, by omega, ?_⟩
    generalize hP : putK kvs (.inr z) v3 = P
    have eP : P = kvs.map fun kv => if kv.1 = Sum.inr z then (kv.1, v3) else kv := by
      rw [← hP]
      unfold putK
      refine if_pos (List.any_eq_true.mpr ?_)
      rw [← hkk] at hk
      obtain ⟨kv, hkv, e⟩ := List.mem_map.mp hk
      exact ⟨kv, hkv, decide_eq_true e⟩
    have eH : upd (upd (upd (upd (upd H p (.dK [])) p (.dK kvs)) q' (.dK [])) q' (.dK [(.inr z, v3)])) p (.dK P) = upd (upd H q' (.dK [(.inr z, v3)])) p (.dK P) := by
      funext b
      by_cases c1 : b = p
      · subst c1; rw [upd_same, upd_same]
      · rw [upd_ne c1, upd_ne c1]
        by_cases c2 : b = q'
        · subst c2; rw [upd_same, upd_same]
        · rw [upd_ne c2, upd_ne c2, upd_ne c2, upd_ne c1, upd_ne c1]
    rw [eH]
    have g1 : Grow F H (upd F q' (.dK [(.inr z, v3)])) (upd H q' (.dK [(.inr z, v3)])) := Grow.new r.sub nq0
    have rr := r.grow g1
    have np2 : (upd H q' (.dK [(.inr z, v3)])) p = none := by rw [upd_ne (Ne.symm hqp)]; exact np
    have g2 : Grow (upd F q' (.dK [(.inr z, v3)])) (upd H q' (.dK [(.inr z, v3)])) (upd (upd F q' (.dK [(.inr z, v3)])) p (.dK P)) (upd (upd H q' (.dK [(.inr z, v3)])) p (.dK P)) := Grow.new rr.sub np2
    have sm : Same F (upd (upd F q' (.dK [(.inr z, v3)])) p (.dK P)) := g1.fF.trans g2.fF
    refine hQ _ ρ s _ _ _ q (rr.grow g2) (g1.stp.trans g2.stp) ⟨p, P, rfl, upd_same, by rw [eP, List.length_map]; exact hl, by rw [eP, put_keys]; exact hkk, ?_⟩
    have fin := put_reps (k := .inr z) (Rep.mono sm _ _ r3) kvs ds (Reps.mono sm _ _ rs)
    rw [← eP, hkk] at fin
    exact fin
end
end DL

set_option Elab.async false
set_option linter.all false
set_option maxRecDepth 100000
set_option maxHeartbeats 1000000
namespace RP
open PySem PySem.Spec PyProof.Rows L2 TL DL TX TO RG
def spIsSpare {m : Mem} : DSp m := fun ds s Q => ∃ M U x y, ds = [tabD false M U, .str x, .str y] ∧ M.Nodup ∧ M.length ≤ 100 ∧ U.length ≤ 400 ∧ (∀ u ∈ U, u.1 ∈ M ∧ u.2 ∈ M) ∧ x ∈ M ∧ Q (.bl (decide (y ∈ (chainsS M.length (nextsS false (U.filter fun u => decide (u ≠ (x, y)))) x).map (·.1)))) s
theorem spIsSpare_len {m : Mem} : ∀ ds s Qd, (spIsSpare : DSp m) ds s Qd → ds.length = 3 := fun ds s Qd ⟨_, _, _, _, e, _⟩ => by rw [e]; rfl
def sparesS (ms : List Str) (us : List (Str × Str)) : List (Str × Str) := (srt lessP us).filter fun u => decide (u.2 ∈ (chainsS ms.length (nextsS false ((srt lessP us).filter fun v => decide (v ≠ u))) u.1).map (·.1))
def spSpares {m : Mem} (C : Addr) : DSp m := fun ds s Q => ∃ ms us, ds = [progD C ms us] ∧ Mods ms ∧ Uses ms us ∧ ms.length ≤ 24 ∧ us.length ≤ 200 ∧ Q (.tup ((sparesS ms us).map ptD)) s
theorem spSpares_len {m : Mem} {C : Addr} : ∀ ds s Qd, (spSpares C : DSp m) ds s Qd → ds.length = 1 := fun ds s Qd ⟨_, _, e, _⟩ => by rw [e]; rfl
theorem put_tab (M : List Str) (f : Str → D) (x : Str) (d : D) : DL.putD (keyI M) (M.map f) (.inr x) d = M.map fun m => if m = x then d else f m := by
  induction M with
  | nil => rfl
  | cons m M ih =>
    show (if (Sum.inr m : Key) = .inr x then d else f m) :: DL.putD (keyI M) (M.map f) (.inr x) d = _
    rw [ih, List.map_cons]
    congr 1
    by_cases c : m = x
    · rw [if_pos c, if_pos (by rw [c])]
    · rw [if_neg c, if_neg fun e => c (Sum.inr.inj e)]
theorem nexts_less (x y m : Str) : ∀ U : List (Str × Str), nextsS false (U.filter fun u => decide (u ≠ (x, y))) m = if m = x then (nextsS false U x).filter (fun o => decide (o ≠ y)) else nextsS false U m
  | [] => by split <;> rfl
  | u :: U => by
    have ih := nexts_less x y m U
    have hc : ∀ (v : Str × Str) (V : List (Str × Str)) (k : Str), nextsS false (v :: V) k = if v.1 = k then v.2 :: nextsS false V k else nextsS false V k := fun v V k => by
      unfold nextsS
      rw [List.map_cons, List.filter_cons]
      show List.map _ (if decide (v.1 = k) = true then v :: _ else _) = _
      by_cases c : v.1 = k
      · rw [if_pos (decide_eq_true c), if_pos c]; rfl
      · rw [if_neg (by rw [decide_eq_false c]; decide), if_neg c]
    rw [List.filter_cons, hc u U x, hc u U m]
    by_cases c0 : u = (x, y)
    · subst c0
      rw [if_neg (by simp), ih]
      by_cases c1 : m = x
      · subst c1
        rw [if_pos rfl, if_pos rfl, if_pos rfl, List.filter_cons, if_neg (by simp)]
      · rw [if_neg c1, if_neg c1, if_neg fun e => c1 e.symm]
    · rw [if_pos (decide_eq_true c0), hc, ih]
      by_cases c1 : m = x
      · subst c1
        rw [if_pos rfl, if_pos rfl]
        by_cases c2 : u.1 = m
        · have c3 : u.2 ≠ y := fun e => c0 (by rw [← c2, ← e])
          rw [if_pos c2, if_pos c2, List.filter_cons, if_pos (decide_eq_true c3)]
        · rw [if_neg c2, if_neg c2]
      · rw [if_neg c1, if_neg c1]

def T_chains19 {m : Mem} : DTS m :=
  (dSeq (dSetD0 2)
      (dSeq (dSetL 3 (daCons (dTup (daCons (dVar 1) daNil)) daNil))
      (dSeq (dSet 4 (dC (D.int 0)))
      (dSeq (dWhile (dCmT ltD (dVar 4) (dLenO 3))
        (dSeq (dSet 5 (dIxO 3 (dVar 4)))
        (dSeq (dFor (diSeq (dGet (dVar 0) (dOp ixD (dVar 5) (dUn negD (dC (D.int 1)))))) (gN 6)
          (dIf (dAndT (dCmT neC (dVar 6) (dVar 1)) (dInO true (dVar 6) 2)) (dSeq (dDicPut 2 (dTup (daStar (dVar 5) (daCons (dVar 6) daNil))) (dVar 6))
            (dApp 3 (dTup (daStar (dVar 5) (daCons (dVar 6) daNil))))) dNext))
        (dAug 4 iaddD (dC (D.int 1))))))
      (dRet (dVar 2))))))
theorem read_chains19 {m : Mem} : ∀ ds s Qd, (spChains : DSp m) ds s Qd → (T_chains19 : DTS m) (endsOf Qd) (startD ["nexts", "start", "ways", "queue", "at", "way", "other"] ds) s := by
  intro ds s Qd h
  obtain ⟨ks, nx, start, rfl, nd, hst, hks, hin, hQ⟩ := h
  have sl : ∀ n, n ≤ 1000 → n ≤ sizeLine := fun n h => line_of2 (by omega)
  have sl2 : ∀ n, n ≤ 1000 → n < sizeLine := fun n h => Nat.lt_of_le_of_lt h (by rw [sizeLine_eq]; decide)
  refine ⟨lz rfl, lz rfl, ?_⟩
  refine ⟨fun n ρ s' => s' = s ∧ ∃ (i : Nat) (W : List (Str × List Str)) (c5 c6 : Sl), ρ = [.sh (nextD ks nx), .sh (.str start), .ow (.dic (keyI (W.map (·.1))) (W.map fun p => wayD p.2)), .ow (.lst ((rowW start W).map wayD)), .sh (.int (i : Nat)), c5, c6] ∧ n = ks.length + 1 - i ∧ InvW ks start W ∧ i ≤ ks.length ∧ runW nx start (ks.length - i) i W = chainsS ks.length nx start,
    ⟨_, rfl, 0, [], .no, .no, rfl, rfl, .nil, Nat.zero_le _, rfl⟩, ?_⟩
  rintro n ρ s' ⟨rfl, i, W, c5, c6, rfl, rfl, hW, hi, hrun⟩
  have lW := hW.len hst
  have lR : (rowW start W).length = W.length + 1 := by
    show (W.map _).length + 1 = _
    rw [List.length_map]
  refine ⟨_, rfl, ?_⟩
  rw [List.length_map, lR]
  refine ifBd (fun hlt => ?_) fun hge => ?_
  · have hlt : i < W.length + 1 := by omega
    obtain ⟨way, hway⟩ : ∃ w, (rowW start W)[i]? = some w := ⟨(rowW start W)[i]'(by omega), List.getElem?_eq_getElem _⟩
    have wok : way ≠ [] ∧ way.getLastD Str.empty ∈ ks ∧ way.length ≤ W.length + 1 := by
      have hm := List.mem_of_getElem? hway
      rcases List.mem_cons.mp hm with rfl | hm
      · exact ⟨by simp, hst, by simp⟩
      · obtain ⟨p, hp, rfl⟩ := List.mem_map.mp hm
        obtain ⟨a1, a2, a3, a4⟩ := hW.ok p hp
        exact ⟨a2, by rw [a3]; exact a1, a4⟩
    obtain ⟨w0, w1, w2⟩ := wok
    obtain ⟨j, hj⟩ := List.getElem?_of_mem w1
    refine ⟨⟨_, rfl⟩, _, _, _, rfl, rfl, atI_nat (by rw [List.getElem?_map, hway]; rfl), ?_⟩
    refine ⟨_, at_last w0, _, _, _, _, rfl, rfl, dicGet_at nd hj (by rw [List.getElem?_map, hj]; rfl), _, rfl, ?_⟩
    refine ⟨fun pre ρ s3 => s3 = s' ∧ ∃ V c6, V = ((nx (way.getLastD Str.empty)).take pre.length).foldl (addW start way) W ∧ ρ = [.sh (nextD ks nx), .sh (.str start), .ow (.dic (keyI (V.map (·.1))) (V.map fun p => wayD p.2)), .ow (.lst ((rowW start V).map wayD)), .sh (.int (i : Nat)), .sh (wayD way), c6] ∧ InvW ks start V ∧ W.length ≤ V.length,
      ⟨rfl, W, _, rfl, rfl, hW, Nat.le_refl _⟩, ?_, ?_⟩
    · rintro pre y post ρ s3 e ⟨rfl, V, c6, eV, rfl, hV, hle⟩
      obtain ⟨o, ho, rfl, -⟩ := mid_map e
      have ht : ((nx (way.getLastD Str.empty)).take (pre ++ [D.str o]).length).foldl (addW start way) W = addW start way V o := by
        rw [List.length_append, List.length_singleton, List.take_add_one, ho, List.foldl_append, ← eV]; rfl
      have oks : o ∈ ks := hin _ w1 o (List.mem_of_getElem? ho)
      have lV := hV.len hst
      refine ⟨rfl, rfl, ?_⟩
      rw [eqs]
      by_cases h1 : o = start
      · rw [decide_eq_true h1]
        have : addW start way V o = V := by unfold addW; rw [if_neg fun z => z.1 h1]
        exact ⟨rfl, V, _, by rw [ht, this], rfl, hV, hle⟩
      · rw [decide_eq_false h1]
        refine ⟨_, _, o, rfl, rfl, ?_⟩
        rw [dicGet_some (by rw [List.length_map, List.length_map]), Bool.true_xor]
        by_cases h2 : o ∈ V.map (·.1)
        · rw [decide_eq_true h2]
          have : addW start way V o = V := by unfold addW; rw [if_neg fun z => z.2 h2]
          exact ⟨rfl, V, _, by rw [ht, this], rfl, hV, hle⟩
        · rw [decide_eq_false h2]
          have ea : addW start way V o = V ++ [(o, way ++ [o])] := by unfold addW; rw [if_pos ⟨h1, h2⟩]
          have wl : (way.map D.str ++ [D.str o]).length ≤ 1000 := by rw [List.length_append, List.length_map, List.length_singleton]; omega
          have we : way.map D.str ++ [D.str o] = (way ++ [o]).map .str := by rw [List.map_append]; rfl
          refine ⟨_, rfl, sl _ wl, ⟨_, _, rfl⟩, _, _, o, rfl, rfl, keyI_not h2, by show (List.map _ _).length + 1 ≤ 1000; rw [List.length_map, List.length_map]; omega, ?_⟩
          refine ⟨⟨_, rfl⟩, _, rfl, sl _ wl, _, rfl, sl2 _ (by rw [List.length_map]; show (V.map _).length + 1 ≤ 1000; rw [List.length_map]; omega), rfl, V ++ [(o, way ++ [o])], .sh (.str o), by rw [ht, ea], ?_, hV.add oks (by omega) h1 h2, by rw [List.length_append]; omega⟩
          show [_, _, Sl.ow (.dic (List.map _ _ ++ _) _), Sl.ow (.lst (wayD _ :: List.map _ _ ++ _)), _, _, _] = [_, _, Sl.ow (.dic (List.map _ _) _), Sl.ow (.lst (wayD _ :: List.map _ _)), _, _, _]
          simp only [wayD, List.map_append, List.map_cons, List.map_nil, List.cons_append]
    · rintro ρ s3 ⟨rfl, V, c6, eV, rfl, hV, hle⟩
      rw [List.length_map, List.take_length] at eV
      have lV := hV.len hst
      refine ⟨_, rfl, _, _, rfl, rfl, ks.length + 1 - (i + 1), by omega, rfl, i + 1, V, _, _, rfl, rfl, hV, by omega, ?_⟩
      obtain ⟨m, hm⟩ : ∃ m, ks.length - i = m + 1 := ⟨ks.length - i - 1, by omega⟩
      rw [hm] at hrun
      rw [show ks.length - (i + 1) = m by omega, ← hrun]
      show _ = (match (rowW start W)[i]? with
        | some way => runW nx start m (i + 1) (stepW nx start way W)
        | none => W)
      rw [hway, eV]; rfl
  · have hge : W.length + 1 ≤ i := by omega
    have e : W = chainsS ks.length nx start := by
      rw [← hrun]
      cases ks.length - i with
      | zero => rfl
      | succ m =>
        show _ = (match (rowW start W)[i]? with
          | some way => runW nx start m (i + 1) (stepW nx start way W)
          | none => W)
        rw [List.getElem?_eq_none (by omega)]
    show Qd (.dic (keyI (W.map (·.1))) (W.map fun p => wayD p.2)) s'
    rw [e]
    exact hQ
def T_is_spare19 {m : Mem} : DTS m :=
  (dSeq (dSet 3 (dLc (diSeq (dGet (dVar 0) (dVar 1))) (gN 4) (dCmT neC (dVar 4) (dVar 2)) (dVar 4) [4]))
      (dRet (dInD false (dVar 2) (dCall spChains (daCons (dMrg 0 1 3) (daCons (dVar 1) daNil))))))
theorem read_is_spare19 {m : Mem} : ∀ ds s Qd, (spIsSpare : DSp m) ds s Qd → (T_is_spare19 : DTS m) (endsOf Qd) (startD ["nexts", "user", "used", "others", "module"] ds) s := by
  intro ds s Qd h
  obtain ⟨M, U, x, y, rfl, nd, lM, lU, hin, hx, hQ⟩ := h
  obtain ⟨j, hj⟩ := List.getElem?_of_mem hx
  have ln := nexts_len false U x
  refine ⟨_, _, _, _, rfl, rfl, dicGet_at nd hj (by rw [List.getElem?_map, hj]; rfl), _, rfl, lcF (f := D.str) (p := fun o => decide (o ≠ y)) (h := D.str) (nextsS false U x) (by omega) (fun o ho T V t f => ?_) ?_⟩
  · refine ⟨rfl, rfl, ?_⟩
    rw [eqs]
    by_cases c : o = y
    · rw [decide_eq_true c]
      exact ⟨rfl, f (decide_eq_false fun z => z c)⟩
    · rw [decide_eq_false c]
      exact ⟨rfl, rfl, t (decide_eq_true c)⟩
  generalize hU : U.filter (fun u => decide (u ≠ (x, y))) = U' at hQ
  have hin' : ∀ u ∈ U', u.1 ∈ M ∧ u.2 ∈ M := fun u hu => by
    rw [← hU] at hu
    exact hin u (List.mem_filter.mp hu).1
  refine ⟨keyI M, M.map (fun m => D.lst ((nextsS false U m).map .str)), x, .lst (((nextsS false U x).filter fun o => decide (o ≠ y)).map .str), rfl, rfl, rfl, List.mem_map_of_mem hx, by unfold keyI; rw [List.length_map]; omega, ?_⟩
  have e : DL.putD (keyI M) (M.map fun m => D.lst ((nextsS false U m).map .str)) (.inr x) (.lst (((nextsS false U x).filter fun o => decide (o ≠ y)).map .str)) = M.map fun m => .lst ((nextsS false U' m).map .str) := by
    rw [put_tab]
    refine List.map_congr_left fun m hm => ?_
    rw [← hU, nexts_less]
    by_cases c : m = x
    · rw [if_pos c, if_pos c]
    · rw [if_neg c, if_neg c]
  rw [e]
  refine ⟨M, nextsS false U', x, rfl, nd, hx, lM, nexts_in hin', ?_⟩
  refine ⟨_, _, y, rfl, rfl, ?_⟩
  rw [dicGet_some (by rw [List.length_map, List.length_map]), Bool.false_xor]
  exact hQ
def T_spares19 (a : Nat → Addr) {m : Mem} : DTS m :=
  (dSeq (dSet 1 (dCallD (spTable (a 24)) (D.bl false) (daCons (dVar 0) daNil)))
      (dRet (dB tupD (daCons (dLc (diSeq (dProp (a 24) (spGetU (a 24)) (dVar 0))) (gTup' 2 (gCons' (gN 2) (gCons' (gN 3) gNil'))) (dTr (dCall spIsSpare (daCons (dVar 1) (daCons (dVar 2) (daCons (dVar 3) daNil))))) (dTup (daCons (dVar 2) (daCons (dVar 3) daNil))) [2, 3]) daNil))))
theorem read_spares19 {a : Nat → Addr} {m : Mem} : ∀ ds s Qd, (spSpares (a 24) : DSp m) ds s Qd → (T_spares19 a : DTS m) (endsOf Qd) (startD ["program", "nexts", "user", "used"] ds) s := by
  intro ds s Qd h
  obtain ⟨ms, us, rfl, hm, hu, l1, l2, hQ⟩ := h
  have inU : ∀ u ∈ us, u.1 ∈ ms ∧ u.2 ∈ ms := fun u hu' => ⟨(hu.ok u hu').1, (hu.ok u hu').2.1⟩
  have inM : ∀ u ∈ srt lessP us, u.1 ∈ srt lessS ms ∧ u.2 ∈ srt lessS ms := fun u hu' => ⟨mem_srt.mpr (inU u (mem_srt.mp hu')).1, mem_srt.mpr (inU u (mem_srt.mp hu')).2⟩
  have ndM : (srt lessS ms).Nodup := (srt_perm (lt := lessS) ms).nodup_iff.mpr hm.nd
  have lM : (srt lessS ms).length = ms.length := srt_len _
  have lU : (srt lessP us).length = us.length := srt_len _
  refine ⟨ms, us, false, rfl, hm.nd, by omega, by omega, inU, ?_⟩
  refine ⟨⟨_, _, rfl⟩, ms, us, rfl, _, rfl, lcF (f := ptD) (p := fun u => decide (u.2 ∈ (chainsS ms.length (nextsS false ((srt lessP us).filter fun v => decide (v ≠ u))) u.1).map (·.1))) (h := ptD) (srt lessP us) (by omega) (fun u hu' T V t f => ?_) ?_⟩
  · refine ⟨_, rfl, rfl, _, _, rfl, _, _, rfl, rfl, srt lessS ms, srt lessP us, u.1, u.2, rfl, ndM, by omega, by omega, inM, (inM u hu').1, _, rfl, ?_⟩
    rw [lM]
    exact ⟨rfl, ifB2 (fun h => ⟨lz rfl, rfl, t h⟩) f⟩
  · exact ⟨_, _, rfl, rfl, hQ⟩
end RP

set_option Elab.async false
set_option linter.all false
set_option maxRecDepth 100000
set_option maxHeartbeats 1000000
/-! LP7: the chains that chains_from finds are the first ones: by how many they have, then in order -/
namespace RP
open PySem PySem.Spec PyProof.Rows L2 TL DL TX TO RG
/-! ### rows in order -/
def lexL {α : Type} [DecidableEq α] (lt : α → α → Bool) : List α → List α → Bool
  | [], [] => false
  | [], _ :: _ => true
  | _ :: _, [] => false
  | x :: xs, y :: ys => if x = y then lexL lt xs ys else lt x y
theorem Lin.lexL {α : Type} [DecidableEq α] {lt : α → α → Bool} (L : Lin lt) : Lin (RP.lexL lt) := by
  refine ⟨fun x => ?_, fun x => ?_, fun x => ?_⟩
  · induction x with
    | nil => rfl
    | cons a x ih => show (if a = a then _ else _) = _; rw [if_pos rfl]; exact ih
  · induction x with
    | nil =>
      intro y z h1 h2
      cases z with
      | nil => cases y with
        | nil => cases h1
        | cons _ _ => cases h2
      | cons c z => rfl
    | cons a x ih =>
      intro y z h1 h2
      cases y with
      | nil => cases h1
      | cons b y =>
        cases z with
        | nil => cases h2
        | cons c z =>
          have h1 : (if a = b then RP.lexL lt x y else lt a b) = true := h1
          have h2 : (if b = c then RP.lexL lt y z else lt b c) = true := h2
          show (if a = c then RP.lexL lt x z else lt a c) = true
          by_cases e1 : a = b
          · subst e1
            rw [if_pos rfl] at h1
            by_cases e2 : a = c
            · rw [if_pos e2] at h2 ⊢; exact ih y z h1 h2
            · rw [if_neg e2] at h2 ⊢; exact h2
          · rw [if_neg e1] at h1
            by_cases e2 : b = c
            · subst e2
              rw [if_neg e1]; exact h1
            · rw [if_neg e2] at h2
              have z1 := L.tr _ _ _ h1 h2
              rw [if_neg fun e => by rw [e, L.irr] at z1; cases z1]; exact z1
  · induction x with
    | nil => intro y h1 h2; cases y with
      | nil => rfl
      | cons _ _ => cases h1
    | cons a x ih =>
      intro y h1 h2
      cases y with
      | nil => cases h2
      | cons b y =>
        have h1 : (if a = b then RP.lexL lt x y else lt a b) = false := h1
        have h2 : (if b = a then RP.lexL lt y x else lt b a) = false := h2
        by_cases e : a = b
        · subst e
          rw [if_pos rfl] at h1 h2
          rw [ih y h1 h2]
        · rw [if_neg e] at h1
          rw [if_neg (Ne.symm e)] at h2
          exact absurd (L.tri _ _ h1 h2) e
/-- fewer first, then in order -/
def wlt (a b : List Str) : Bool := if a.length = b.length then lexL lessS a b else decide (a.length < b.length)
theorem wlt_eq {a b : List Str} (h : a.length = b.length) : wlt a b = lexL lessS a b := if_pos h
theorem wlt_less {a b : List Str} (h : a.length < b.length) : wlt a b = true := by
  unfold wlt
  rw [if_neg (by omega)]
  exact decide_eq_true h
theorem wlt_len {a b : List Str} (h : wlt a b = true) : a.length ≤ b.length := by
  unfold wlt at h
  by_cases c : a.length = b.length
  · omega
  · rw [if_neg c] at h
    have := of_decide_eq_true h
    omega
theorem linL : Lin (lexL lessS) := Lin.lexL linS
theorem linW : Lin wlt := by
  refine ⟨fun x => ?_, fun x y z h1 h2 => ?_, fun x y h1 h2 => ?_⟩
  · rw [wlt_eq rfl]; exact linL.irr x
  · have l1 := wlt_len h1
    have l2 := wlt_len h2
    by_cases e : x.length = z.length
    · rw [wlt_eq e]
      rw [wlt_eq (by omega)] at h1 h2
      exact linL.tr _ _ _ h1 h2
    · exact wlt_less (by omega)
  · by_cases e : x.length = y.length
    · rw [wlt_eq e] at h1
      rw [wlt_eq e.symm] at h2
      exact linL.tri _ _ h1 h2
    · rcases Nat.lt_or_ge x.length y.length with z | z
      · rw [wlt_less z] at h1; cases h1
      · rw [wlt_less (by omega)] at h2; cases h2
theorem lexL_snoc {a b : List Str} (x y : Str) (hl : a.length = b.length) (h : lexL lessS a b = true) : lexL lessS (a ++ [x]) (b ++ [y]) = true := by
  induction a generalizing b with
  | nil => cases b with
    | nil => cases h
    | cons _ _ => cases hl
  | cons c a ih =>
    cases b with
    | nil => cases hl
    | cons d b =>
      have h : (if c = d then lexL lessS a b else lessS c d) = true := h
      show (if c = d then lexL lessS (a ++ [x]) (b ++ [y]) else lessS c d) = true
      by_cases e : c = d
      · rw [if_pos e] at h ⊢
        exact ih (Nat.succ.inj hl) h
      · rw [if_neg e] at h ⊢; exact h
theorem wlt_snoc {a b : List Str} (x y : Str) (h : wlt a b = true) : wlt (a ++ [x]) (b ++ [y]) = true := by
  have l := wlt_len h
  by_cases e : a.length = b.length
  · rw [wlt_eq e] at h
    rw [wlt_eq (by rw [List.length_append, List.length_append, e]; rfl)]
    exact lexL_snoc x y e h
  · refine wlt_less ?_
    rw [List.length_append, List.length_append]
    show a.length + 1 < b.length + 1
    omega
theorem lexL_pre (a b c : List Str) : lexL lessS (a ++ b) (a ++ c) = lexL lessS b c := by
  induction a with
  | nil => rfl
  | cons x a ih => show (if x = x then lexL lessS (a ++ b) (a ++ c) else _) = _; rw [if_pos rfl, ih]
theorem wlt_last {a : List Str} {x y : Str} (h : lessS x y = true) : wlt (a ++ [x]) (a ++ [y]) = true := by
  rw [wlt_eq (by rw [List.length_append, List.length_append]; rfl), lexL_pre]
  show (if x = y then _ else lessS x y) = true
  rw [if_neg fun e => by rw [e, linS.irr] at h; cases h]; exact h
/-- not after -/
def wle (a b : List Str) : Prop := wlt b a = false
theorem wle_refl (a : List Str) : wle a a := linW.irr a
theorem wle_of {a b : List Str} (h : wlt a b = true) : wle a b := linW.asym h
theorem wle_tr {a b c : List Str} (h1 : wle a b) (h2 : wle b c) : wle a c := by
  unfold wle at *
  cases q : wlt c a with
  | false => rfl
  | true =>
    cases q2 : wlt b c with
    | true => rw [← h1, linW.tr b c a q2 q]
    | false =>
      have e := linW.tri b c q2 h2
      rw [e] at h1
      rw [← h1, q]
theorem wle_cases {a b : List Str} (h : wle a b) : a = b ∨ wlt a b = true := by
  cases q : wlt a b with
  | true => exact .inr rfl
  | false => exact .inl (linW.tri a b q h)
theorem wle_snoc {a b : List Str} (x : Str) (h : wle a b) : wle (a ++ [x]) (b ++ [x]) := by
  rcases wle_cases h with rfl | z
  · exact wle_refl _
  · exact wle_of (wlt_snoc x x z)
theorem wle_anti {a b : List Str} (h1 : wle a b) (h2 : wle b a) : a = b := linW.tri a b h2 h1
theorem wle_len {a b : List Str} (h : wle a b) : a.length ≤ b.length := by
  rcases wle_cases h with rfl | z
  · exact Nat.le_refl _
  · exact wlt_len z
/-! ### ways -/
inductive Wy (nx : Str → List Str) (s : Str) : List Str → Str → Prop
  | one : Wy nx s [s] s
  | on {w : List Str} {x y : Str} : Wy nx s w x → y ∈ nx x → Wy nx s (w ++ [y]) y
theorem Wy.last {nx : Str → List Str} {s x : Str} {w : List Str} (h : Wy nx s w x) : w.getLastD Str.empty = x := by
  cases h with
  | one => rfl
  | on _ _ => rw [List.getLastD_concat]
theorem Wy.pos {nx : Str → List Str} {s x : Str} {w : List Str} (h : Wy nx s w x) : 1 ≤ w.length := by
  cases h with
  | one => exact Nat.le_refl _
  | on _ _ => rw [List.length_append]; exact Nat.le_add_left 1 _
theorem Wy.first {nx : Str → List Str} {s x : Str} {w : List Str} (h : Wy nx s w x) : wle [s] w := by
  induction h with
  | one => exact wle_refl _
  | on h _ _ =>
    refine wle_of (wlt_less ?_)
    have := h.pos
    rw [List.length_append]
    show 1 < _ + 1
    omega
/-- what has been gone on from, up to i, and the row's item at i up to P -/
structure InvL (nx : Str → List Str) (start : Str) (i : Nat) (way : List Str) (P : List Str) (V : List (Str × List Str)) : Prop where
  asc : (rowW start V).Pairwise fun a b => wlt a b = true
  wy : ∀ p ∈ V, Wy nx start p.2 p.1
  par : ∀ p ∈ V, (∃ j v, j < i ∧ (rowW start V)[j]? = some v ∧ p.2 = v ++ [p.1]) ∨ (p.2 = way ++ [p.1] ∧ p.1 ∈ P)
  shut : ∀ j v, j < i → (rowW start V)[j]? = some v → ∀ y ∈ nx (v.getLastD Str.empty), y = start ∨ ∃ w, (y, w) ∈ V ∧ wle w (v ++ [y])
  now : ∀ y ∈ P, y = start ∨ ∃ w, (y, w) ∈ V ∧ wle w (way ++ [y])
  at_ : P ≠ [] → (rowW start V)[i]? = some way
theorem row_keep {start : Str} {V : List (Str × List Str)} {q : Str × List Str} {j : Nat} {v : List Str} (h : (rowW start V)[j]? = some v) : (rowW start (V ++ [q]))[j]? = some v := by
  rw [row_get (List.getElem?_eq_some_iff.mp h).1]; exact h
theorem row_cut {start : Str} {V : List (Str × List Str)} {q : Str × List Str} {i j : Nat} {way v : List Str} (hi : (rowW start V)[i]? = some way) (hj : j < i) (h : (rowW start (V ++ [q]))[j]? = some v) : (rowW start V)[j]? = some v := by
  have := (List.getElem?_eq_some_iff.mp hi).1
  rwa [row_get (by omega)] at h
theorem asc_at {start : Str} {V : List (Str × List Str)} (h : (rowW start V).Pairwise fun a b => wlt a b = true) {i j : Nat} {v w : List Str} (hij : i < j) (hv : (rowW start V)[i]? = some v) (hw : (rowW start V)[j]? = some w) : wlt v w = true := by
  obtain ⟨a1, a2⟩ := List.getElem?_eq_some_iff.mp hv
  obtain ⟨b1, b2⟩ := List.getElem?_eq_some_iff.mp hw
  have := List.pairwise_iff_getElem.mp h i j a1 b1 hij
  rwa [a2, b2] at this
theorem fold_invL {nx : Str → List Str} {start : Str} {i : Nat} {way : List Str} {x : Str} (hw : Wy nx start way x) : ∀ (l P : List Str) (V : List (Str × List Str)), (∀ o ∈ l, o ∈ nx x) → (l.Pairwise fun a b => lessS a b = true) → (∀ a ∈ P, ∀ o ∈ l, lessS a o = true) → (rowW start V)[i]? = some way → InvL nx start i way P V →
    InvL nx start i way (P ++ l) (l.foldl (addW start way) V) ∧ (rowW start (l.foldl (addW start way) V))[i]? = some way
  | [], P, V, _, _, _, hi, h => by rw [List.append_nil]; exact ⟨h, hi⟩
  | o :: l, P, V, hl, ha, hP, hi, h => by
    rw [List.foldl_cons]
    obtain ⟨ha1, ha2⟩ := List.pairwise_cons.mp ha
    have hP' : ∀ a ∈ P ++ [o], ∀ z ∈ l, lessS a z = true := fun a hm z hz => by
      rcases List.mem_append.mp hm with q | q
      · exact hP a q z (List.mem_cons_of_mem _ hz)
      · rw [List.mem_singleton.mp q]; exact ha1 z hz
    have ho := hl o List.mem_cons_self
    have e3 : P ++ o :: l = (P ++ [o]) ++ l := by rw [List.append_assoc]; rfl
    rw [e3]
    by_cases c : o ≠ start ∧ o ∉ V.map (·.1)
    · have e : addW start way V o = V ++ [(o, way ++ [o])] := by unfold addW; rw [if_pos c]
      rw [e]
      refine fold_invL hw l (P ++ [o]) _ (fun z hz => hl z (List.mem_cons_of_mem _ hz)) ha2 hP' (row_keep hi) ⟨?_, ?_, ?_, ?_, ?_, fun _ => row_keep hi⟩
      · rw [row_snoc]
        refine List.pairwise_append.mpr ⟨h.asc, by simp, fun v hv u hu => ?_⟩
        have hu : u = way ++ [o] := by simpa using hu
        subst hu
        rcases List.mem_cons.mp hv with rfl | hv
        · refine wlt_less ?_
          have := hw.pos
          rw [List.length_append]
          show 1 < way.length + 1
          omega
        · obtain ⟨p, hp, rfl⟩ := List.mem_map.mp hv
          rcases h.par p hp with ⟨j, v, hj, hv', e'⟩ | ⟨e', hm⟩
          · show wlt p.2 _ = true
            rw [e']; exact wlt_snoc _ _ (asc_at h.asc hj hv' hi)
          · show wlt p.2 _ = true
            rw [e']; exact wlt_last (hP _ hm o List.mem_cons_self)
      · intro p hp
        rcases List.mem_append.mp hp with z | z
        · exact h.wy p z
        · rw [List.mem_singleton.mp z]; exact .on hw ho
      · intro p hp
        rcases List.mem_append.mp hp with z | z
        · rcases h.par p z with ⟨j, v, hj, hv', e'⟩ | ⟨e', hm⟩
          · exact .inl ⟨j, v, hj, row_keep hv', e'⟩
          · exact .inr ⟨e', List.mem_append_left _ hm⟩
        · rw [List.mem_singleton.mp z]
          exact .inr ⟨rfl, List.mem_append_right _ (by simp)⟩
      · intro j v hj hv y hy
        rcases h.shut j v hj (row_cut hi hj hv) y hy with z | ⟨w, z1, z2⟩
        · exact .inl z
        · exact .inr ⟨w, List.mem_append_left _ z1, z2⟩
      · intro y hy
        rcases List.mem_append.mp hy with z | z
        · rcases h.now y z with q | ⟨w, q1, q2⟩
          · exact .inl q
          · exact .inr ⟨w, List.mem_append_left _ q1, q2⟩
        · rw [List.mem_singleton.mp z]
          exact .inr ⟨_, List.mem_append_right _ (by simp), wle_refl _⟩
    · have e : addW start way V o = V := by unfold addW; rw [if_neg c]
      rw [e]
      refine fold_invL hw l (P ++ [o]) V (fun z hz => hl z (List.mem_cons_of_mem _ hz)) ha2 hP' hi ⟨h.asc, h.wy, ?_, h.shut, ?_, fun _ => hi⟩
      · intro p hp
        rcases h.par p hp with z | ⟨e', hm⟩
        · exact .inl z
        · exact .inr ⟨e', List.mem_append_left _ hm⟩
      · intro y hy
        rcases List.mem_append.mp hy with z | z
        · exact h.now y z
        · rw [List.mem_singleton.mp z]
          by_cases c1 : o = start
          · exact .inl c1
          · have c2 : o ∈ V.map (·.1) := Decidable.not_not.mp fun z => c ⟨c1, z⟩
            obtain ⟨p, hp, rfl⟩ := List.mem_map.mp c2
            refine .inr ⟨p.2, hp, ?_⟩
            rcases h.par p hp with ⟨j, v, hj, hv', e'⟩ | ⟨e', hm⟩
            · rw [e']; exact wle_of (wlt_snoc _ _ (asc_at h.asc hj hv' hi))
            · rw [e']; exact wle_refl _
theorem run_invL {nx : Str → List Str} {start : Str} (hnx : ∀ m, (nx m).Pairwise fun a b => lessS a b = true) : ∀ (n i : Nat) (W : List (Str × List Str)) (way : List Str), InvL nx start i way [] W →
    ∃ j way', InvL nx start j way' [] (runW nx start n i W) ∧ (j = i + n ∨ (rowW start (runW nx start n i W)).length ≤ j)
  | 0, i, W, way, h => ⟨i, way, h, .inl rfl⟩
  | n + 1, i, W, way, h => by
    show ∃ j way', InvL nx start j way' [] (match (rowW start W)[i]? with
      | some way => runW nx start n (i + 1) (stepW nx start way W)
      | none => W) ∧ (j = i + (n + 1) ∨ (rowW start (match (rowW start W)[i]? with
      | some way => runW nx start n (i + 1) (stepW nx start way W)
      | none => W)).length ≤ j)
    cases q : (rowW start W)[i]? with
    | none => exact ⟨i, way, h, .inr (List.getElem?_eq_none_iff.mp q)⟩
    | some v =>
      have hv : Wy nx start v (v.getLastD Str.empty) := by
        rcases List.mem_cons.mp (List.mem_of_getElem? q) with rfl | hm
        · exact .one
        · obtain ⟨p, hp, rfl⟩ := List.mem_map.mp hm
          have z := h.wy p hp
          show Wy nx start p.2 (p.2.getLastD Str.empty)
          rw [z.last]; exact z
      have h0 : InvL nx start i v [] W := ⟨h.asc, h.wy, fun p hp => .inl ((h.par p hp).resolve_right fun z => absurd z.2 List.not_mem_nil), h.shut, fun y hy => absurd hy List.not_mem_nil, fun z => absurd rfl z⟩
      obtain ⟨a1, a2⟩ := fold_invL hv (nx (v.getLastD Str.empty)) [] W (fun o ho => ho) (hnx _) (fun a ha => absurd ha List.not_mem_nil) q h0
      rw [List.nil_append] at a1
      have a3 : InvL nx start (i + 1) v [] (stepW nx start v W) := by
        refine ⟨a1.asc, a1.wy, fun p hp => ?_, fun j u hj hu y hy => ?_, fun y hy => absurd hy List.not_mem_nil, fun z => absurd rfl z⟩
        · rcases a1.par p hp with ⟨j, u, hj, hu, e⟩ | ⟨e, hm⟩
          · exact .inl ⟨j, u, by omega, hu, e⟩
          · exact .inl ⟨i, v, by omega, a2, e⟩
        · by_cases c : j < i
          · exact a1.shut j u c hu y hy
          · have : j = i := by omega
            subst this
            have e : u = v := Option.some.inj (hu.symm.trans a2)
            subst e
            exact a1.now y hy
      obtain ⟨j, way', b1, b2⟩ := run_invL hnx n (i + 1) _ v a3
      exact ⟨j, way', b1, b2.imp (fun z => by omega) id⟩
/-- what chains_from finds: ways, in their order, none before them -/
structure Firsts (nx : Str → List Str) (start : Str) (W : List (Str × List Str)) : Prop where
  asc : (W.map (·.2)).Pairwise fun a b => wlt a b = true
  wy : ∀ p ∈ W, Wy nx start p.2 p.1
  no : ∀ p ∈ W, p.1 ≠ start
  least : ∀ v x, Wy nx start v x → x ≠ start → ∃ w, (x, w) ∈ W ∧ wle w v
theorem chains_first {ks : List Str} {nx : Str → List Str} {start : Str} (hs : start ∈ ks) (hin : ∀ m ∈ ks, ∀ x ∈ nx m, x ∈ ks) (hnx : ∀ m, (nx m).Pairwise fun a b => lessS a b = true) : Firsts nx start (chainsS ks.length nx start) := by
  have inv := chains_inv hs hin ks.length
  have len := inv.len hs
  obtain ⟨j, way, h, hj⟩ := run_invL hnx ks.length 0 [] [] (start := start) ⟨by show [[start]].Pairwise _; simp, fun p hp => absurd hp List.not_mem_nil, fun p hp => absurd hp List.not_mem_nil, fun j v hj => by omega, fun y hy => absurd hy List.not_mem_nil, fun z => absurd rfl z⟩
  have e : runW nx start ks.length 0 [] = chainsS ks.length nx start := rfl
  rw [e] at h hj
  generalize chainsS ks.length nx start = W at *
  have all : (rowW start W).length ≤ j := by
    rcases hj with z | z
    · rw [rowW_len]; omega
    · exact z
  refine ⟨(List.pairwise_cons.mp h.asc).2, h.wy, fun p hp z => inv.no (z ▸ List.mem_map_of_mem hp), fun v x hv => ?_⟩
  have step : ∀ (u : List Str) (y z : Str) (v : List Str), u ∈ rowW start W → u.getLastD Str.empty = y → z ∈ nx y → z ≠ start → wle u v → ∃ w, (z, w) ∈ W ∧ wle w (v ++ [z]) := fun u y z v hu hy hz hne hle => by
    obtain ⟨i, hi⟩ := List.getElem?_of_mem hu
    have hlt := Nat.lt_of_lt_of_le (List.getElem?_eq_some_iff.mp hi).1 all
    rcases h.shut i u hlt hi z (by rw [hy]; exact hz) with q | ⟨w, q1, q2⟩
    · exact absurd q hne
    · exact ⟨w, q1, wle_tr q2 (wle_snoc z hle)⟩
  induction hv with
  | one => intro z; exact absurd rfl z
  | @on w x y hw hy ih =>
    intro hne
    by_cases c : x = start
    · subst c
      exact step [x] x y w List.mem_cons_self rfl hy hne hw.first
    · obtain ⟨u, h1, h2⟩ := ih c
      exact step u x y w (List.mem_cons_of_mem _ (List.mem_map_of_mem (f := (·.2)) h1)) (h.wy _ h1).last hy hne h2
end RP

set_option Elab.async false
set_option linter.all false
set_option maxRecDepth 100000
set_option maxHeartbeats 1000000
/-! LP8: the first ring; how near modules are; the way that goes nearer at each step -/
namespace RP
open PySem PySem.Spec PyProof.Rows L2 TL DL TX TO RG
/-- the first of those of which P holds -/
def LeastO (P : List Str → Prop) : Option (List Str) → Prop
  | none => ∀ v, ¬ P v
  | some w => P w ∧ ∀ v, P v → wle w v
theorem LeastO.uniq {P : List Str → Prop} {a b : Option (List Str)} (h1 : LeastO P a) (h2 : LeastO P b) : a = b := by
  cases a with
  | none =>
    cases b with
    | none => rfl
    | some w => exact absurd h2.1 (h1 w)
  | some v =>
    cases b with
    | none => exact absurd h1.1 (h2 v)
    | some w => rw [wle_anti (h1.2 w h2.1) (h2.2 v h1.1)]
theorem nexts_asc {us : List (Str × Str)} (h : us.Nodup) (m : Str) : (nextsS false (srt lessP us) m).Pairwise fun a b => lessS a b = true := by
  unfold nextsS
  have e : (srt lessP us).map (fl false) = srt lessP us := List.map_id _
  rw [e, List.pairwise_map]
  refine ((srt_strict linP h).sublist List.filter_sublist).imp_of_mem fun {u v} hu hv huv => ?_
  have h1 : u.1 = m := of_decide_eq_true (List.mem_filter.mp hu).2
  have h2 : v.1 = m := of_decide_eq_true (List.mem_filter.mp hv).2
  have z : (if u.1 = v.1 then lessS u.2 v.2 else lessS u.1 v.1) = true := huv
  rwa [if_pos (h1.trans h2.symm)] at z
theorem nexts_in2 {us : List (Str × Str)} {m y : Str} : y ∈ nextsS false (srt lessP us) m ↔ (m, y) ∈ us := by
  rw [nexts_mem, fl_f, mem_srt]
/-! ### rings -/
def RingW (nx : Str → List Str) (s : Str) (v : List Str) : Prop := ∃ x, Wy nx s v x ∧ x ≠ s ∧ s ∈ nx x
def ringS (n : Nat) (nx : Str → List Str) (s : Str) : Option (List Str) := ((chainsS n nx s).find? fun p => decide (s ∈ nx p.1)).map (·.2)
theorem find_first {W : List (Str × List Str)} {q : Str × List Str → Bool} (h : (W.map (·.2)).Pairwise fun a b => wlt a b = true) {p : Str × List Str} (e : W.find? q = some p) : ∀ r ∈ W, q r = true → wle p.2 r.2 := by
  induction W with
  | nil => cases e
  | cons a W ih =>
    intro r hr hq
    obtain ⟨h1, h2⟩ := List.pairwise_cons.mp h
    rw [List.find?_cons] at e
    cases c : q a with
    | true =>
      rw [c] at e
      obtain rfl := Option.some.inj e
      rcases List.mem_cons.mp hr with rfl | hr
      · exact wle_refl _
      · exact wle_of (h1 _ (List.mem_map_of_mem (f := (·.2)) hr))
    | false =>
      rw [c] at e
      rcases List.mem_cons.mp hr with rfl | hr
      · rw [c] at hq; cases hq
      · exact ih h2 e r hr hq
theorem ring_first {n : Nat} {nx : Str → List Str} {s : Str} (F : Firsts nx s (chainsS n nx s)) : LeastO (RingW nx s) (ringS n nx s) := by
  unfold ringS
  generalize chainsS n nx s = W at F
  cases e : W.find? fun p => decide (s ∈ nx p.1) with
  | none =>
    rintro v ⟨x, h1, h2, h3⟩
    obtain ⟨w, hw, _⟩ := F.least v x h1 h2
    exact absurd (decide_eq_true h3) (List.find?_eq_none.mp e (x, w) hw)
  | some p =>
    have hp := List.mem_of_find?_eq_some e
    have hq : s ∈ nx p.1 := by
      have z := List.find?_some e
      exact of_decide_eq_true z
    refine ⟨⟨p.1, F.wy p hp, F.no p hp, hq⟩, ?_⟩
    rintro v ⟨x, h1, h2, h3⟩
    obtain ⟨w, hw, hle⟩ := F.least v x h1 h2
    exact wle_tr (find_first F.asc e (x, w) hw (decide_eq_true h3)) hle
/-! ### how near: by uses gone over again and again -/
inductive Pt (us : List (Str × Str)) (G : List Str) : Nat → Str → Prop
  | z {x : Str} : x ∈ G → Pt us G 0 x
  | s {x y : Str} {n : Nat} : (x, y) ∈ us → Pt us G n y → Pt us G (n + 1) x
def LeL (L' L : Str → Option Nat) : Prop := ∀ x d, L x = some d → ∃ e, L' x = some e ∧ e ≤ d
theorem LeL.refl (L : Str → Option Nat) : LeL L L := fun x d h => ⟨d, h, Nat.le_refl _⟩
theorem LeL.trans {A B C : Str → Option Nat} (h1 : LeL A B) (h2 : LeL B C) : LeL A C := fun x d h => by
  obtain ⟨e, h3, h4⟩ := h2 x d h
  obtain ⟨f, h5, h6⟩ := h1 x e h3
  exact ⟨f, h5, by omega⟩
/-! ### ways from the front -/
inductive Ch (nx : Str → List Str) : Str → List Str → Str → Prop
  | nil {x : Str} : Ch nx x [] x
  | cons {x y z : Str} {r : List Str} : y ∈ nx x → Ch nx y r z → Ch nx x (y :: r) z
theorem Wy.app {nx : Str → List Str} {s x z : Str} {r : List Str} (h : Ch nx x r z) : ∀ {w : List Str}, Wy nx s w x → Wy nx s (w ++ r) z := by
  induction h with
  | nil => intro w hw; rw [List.append_nil]; exact hw
  | cons hy _ ih =>
    intro w hw
    have := ih (.on hw hy)
    rwa [List.append_assoc] at this
theorem Ch.snoc {nx : Str → List Str} {x y z : Str} {r : List Str} (h : Ch nx x r y) (hz : z ∈ nx y) : Ch nx x (r ++ [z]) z := by
  induction h with
  | nil => exact .cons hz .nil
  | cons hy _ ih => exact .cons hy (ih hz)
theorem Wy.ch {nx : Str → List Str} {s x : Str} {v : List Str} (h : Wy nx s v x) : ∃ r, v = s :: r ∧ Ch nx s r x := by
  induction h with
  | one => exact ⟨[], rfl, .nil⟩
  | on _ hy ih =>
    obtain ⟨r, rfl, h1⟩ := ih
    exact ⟨r ++ [_], rfl, h1.snoc hy⟩
theorem Ch.pt {us : List (Str × Str)} {nx : Str → List Str} {G : List Str} (hnx : ∀ x y, y ∈ nx x → (x, y) ∈ us) {x z : Str} {r : List Str} (h : Ch nx x r z) {n : Nat} (hz : Pt us G n z) : Pt us G (r.length + n) x := by
  induction h with
  | nil => rw [show ([] : List Str).length + n = n from Nat.zero_add n]; exact hz
  | cons hy _ ih =>
    rw [List.length_cons, Nat.add_right_comm]
    exact .s (hnx _ _ hy) (ih hz)
theorem Pt.ch {us : List (Str × Str)} {nx : Str → List Str} {G : List Str} (hnx : ∀ x y, (x, y) ∈ us → y ∈ nx x) {n : Nat} {x : Str} (h : Pt us G n x) : ∃ r g, Ch nx x r g ∧ g ∈ G ∧ r.length = n := by
  induction h with
  | z hx => exact ⟨[], _, .nil, hx, rfl⟩
  | s hu _ ih =>
    obtain ⟨r, g, h1, h2, h3⟩ := ih
    exact ⟨_ :: r, g, .cons (hnx _ _ hu) h1, h2, by rw [List.length_cons, h3]⟩
/-! ### nearer at each step -/
def minB {α : Type} (lt : α → α → Bool) (x : α) (xs : List α) : α := xs.foldl (fun a b => if lt b a then b else a) x
theorem minB_mem {α : Type} {lt : α → α → Bool} : ∀ (xs : List α) (x : α), minB lt x xs ∈ x :: xs
  | [], x => List.mem_cons_self
  | y :: ys, x => by
    have ih := minB_mem ys (if lt y x then y else x) (lt := lt)
    show minB lt (if lt y x then y else x) ys ∈ _
    rcases List.mem_cons.mp ih with z | z
    · rw [z]
      by_cases c : lt y x = true
      · rw [if_pos c]; exact List.mem_cons_of_mem _ List.mem_cons_self
      · rw [if_neg c]; exact List.mem_cons_self
    · exact List.mem_cons_of_mem _ (List.mem_cons_of_mem _ z)
theorem minB_le {α : Type} {lt : α → α → Bool} (L : Lin lt) : ∀ (xs : List α) (x : α), ∀ z ∈ x :: xs, lt z (minB lt x xs) = false
  | [], x, z, hz => by rw [List.mem_singleton.mp hz]; exact L.irr x
  | y :: ys, x, z, hz => by
    have ih := minB_le L ys (if lt y x then y else x)
    show lt z (minB lt (if lt y x then y else x) ys) = false
    have tr : ∀ a b c : α, lt a b = false → lt b c = false → lt a c = false := fun a b c h1 h2 => by
      cases q : lt a c with
      | false => rfl
      | true =>
        cases q2 : lt b a with
        | true => rw [← h2, L.tr b a c q2 q]
        | false =>
          have e := L.tri a b h1 q2
          rw [e] at q
          rw [← h2, q]
    have h0 := ih _ List.mem_cons_self
    by_cases c : lt y x = true
    · rw [if_pos c] at ih h0 ⊢
      rcases List.mem_cons.mp hz with rfl | hz
      · exact tr _ y _ (L.asym c) h0
      · rcases List.mem_cons.mp hz with rfl | hz
        · exact h0
        · exact ih z (List.mem_cons_of_mem _ hz)
    · have c : lt y x = false := by simpa using c
      rw [c] at ih h0 ⊢
      rcases List.mem_cons.mp hz with rfl | hz
      · exact h0
      · rcases List.mem_cons.mp hz with rfl | hz
        · exact tr _ x _ c h0
        · exact ih z (List.mem_cons_of_mem _ hz)
section
variable {us : List (Str × Str)} {ms G : List Str} {L : Str → Option Nat}
end
/-! ### the law's ring -/
end RP

set_option Elab.async false
set_option linter.all false
set_option maxRecDepth 100000
/-! EM3: for k, v in f(x, y).items(): f is asked knowing x alone, so that what it gives is seen to be new, and may be locked -/
namespace DL
open PySem PySem.Spec PyProof.Rows L2 TL TX TO
section
variable {X : Cx} {e : Expr} {td : TE}
/-- a value that is a dict, locked for good -/
def tLockK (td : TE) : TE := fun σ H Q => td σ H fun x H1 => ∃ d kvs, x = .ref d ∧ H1 d = some (.dK kvs) ∧ ∀ o, Q x (upd H1 d (.frz o (.dK kvs)))
theorem pe_lockK (he : PE X e td) : PE X e (tLockK td) := by
  refine ⟨fun pins s σ H Q I h => ?_⟩
  refine thn (he.run pins s σ H _ I h) fun u s1 ⟨x, H1, I1, rx, d, kvs, ex, hd, q⟩ => ?_
  obtain ⟨o, I2⟩ := I1.lock hd trivial
  exact ⟨x, _, I2, rx, q o⟩
end
section
variable {m : Mem} {K : PySem.W.Frag} {F0 F1 F2 F3 H1 H2 : Hp} {σ : L2.St} {ρ1 : List Sl} {s1 s' : m.S}
/-- a def that was asked knowing less -/
theorem joinR (r1 : Rel K m F1 H1 σ ρ1 s1) (h0 : Same F0 F1) (c : CStp m F0 H1 s1 F2 H2 s') (h3 : Same F3 F2) : CStp m F1 H1 s1 (orH F1 F3) H2 s' ∧ Same F3 (orH F1 F3) := by
  have cs : ∀ a o, orH F1 F3 a = some o → F1 a = some o ∨ (F1 a = none ∧ F3 a = some o) := fun a o h => by
    unfold orH at h
    cases q : F1 a with
    | some u => rw [q] at h; exact .inl h
    | none => rw [q] at h; exact .inr ⟨rfl, h⟩
  refine ⟨⟨same_or, c.keep, c.alive, fun a o h => ?_, c.regf, fun a o h => ?_, c.mem, fun a h => ?_⟩, fun a o h => ?_⟩
  · rcases cs a o h with z | ⟨z0, z⟩
    · exact .inl z
    · rcases c.fresh a o (h3 a o z) with y | y
      · rw [h0 a o y] at z0; cases z0
      · exact .inr y
  · rcases cs a o h with z | ⟨_, z⟩
    · refine c.keep a o (r1.sub a o z) fun y => ?_
      rw [r1.reg a y] at z
      cases z
    · exact c.sub a o (h3 a o z)
  · cases q : orH F1 F3 a with
    | none => rfl
    | some o =>
      rcases cs a o q with z | ⟨_, z⟩
      · rcases c.regf a h with y | y
        · rw [r1.reg a y] at z; cases z
        · rw [r1.sub a o z] at y; cases y
      · have := h3 a o z
        rw [c.reg a h] at this
        cases this
  · unfold orH
    cases q : F1 a with
    | none => exact h
    | some u =>
      rcases c.fresh a o (h3 a o h) with y | y
      · rw [h0 a o y] at q
        exact q.symm ▸ rfl
      · rw [r1.sub a u q] at y; cases y
theorem off_tups {p : Addr} {kvs : List (Key × V)} (hp : F2 p = some (.dK kvs)) : ∀ (ws : List (List Str)) (vs : List V), Reps K F2 (ws.map fun w => .tup (w.map .str)) vs → Reps K (offH F2 p) (ws.map fun w => .tup (w.map .str)) vs
  | [], _, r => r
  | x :: ws, vs, r => by
    obtain ⟨v, w, rfl, r1, r2⟩ := r
    obtain ⟨q, xs, rfl, hT, hl, rs⟩ := r1
    refine ⟨_, w, rfl, ⟨q, xs, rfl, ?_, hl, ?_⟩, off_tups hp ws w r2⟩
    · rcases hT with (h | ⟨o, h⟩) | h
      · exact .inl (.inl (off_at h fun z => by subst z; rw [hp] at h; cases h))
      · exact .inl (.inr ⟨o, off_at h fun z => by subst z; rw [hp] at h; cases h⟩)
      · exact .inr h
    · refine bare_reps ?_ rs
      rw [List.all_eq_true]
      intro d hd
      obtain ⟨y, _, rfl⟩ := List.mem_map.mp hd
      rfl
/-- the part of what is known that a dict of lists of texts needs -/
noncomputable def partH (F : Hp) (a : Addr) (vs : List V) : Hp := fun b => @ite _ (b = a ∨ V.ref b ∈ vs) (Classical.propDecidable _) (F b) none
theorem part_some {F : Hp} {a b : Addr} {vs : List V} {o : HO} (h : partH F a vs b = some o) : F b = some o ∧ (b = a ∨ V.ref b ∈ vs) := by
  unfold partH at h
  by_cases c : b = a ∨ V.ref b ∈ vs
  · rw [if_pos c] at h; exact ⟨h, c⟩
  · rw [if_neg c] at h; cases h
theorem part_at {F : Hp} {a b : Addr} {vs : List V} (c : b = a ∨ V.ref b ∈ vs) : partH F a vs b = F b := by
  unfold partH
  rw [if_pos c]
theorem part_same {F : Hp} {a : Addr} {vs : List V} : Same (partH F a vs) F := fun b o h => (part_some h).1
theorem part_lists {F : Hp} {a : Addr} {vs0 : List V} : ∀ (ls : List (List Str)) (vs : List V), (∀ v ∈ vs, v ∈ vs0) → Reps K F (ls.map fun l => .lst (l.map .str)) vs → Reps K (partH F a vs0) (ls.map fun l => .lst (l.map .str)) vs
  | [], _, _, r => r
  | x :: ls, vs, h, r => by
    obtain ⟨v, w, rfl, r1, r2⟩ := r
    obtain ⟨q, xs, rfl, hT, hl, rs⟩ := r1
    refine ⟨_, w, rfl, ⟨q, xs, rfl, ?_, hl, ?_⟩, part_lists ls w (fun y hy => h y (List.mem_cons_of_mem _ hy)) r2⟩
    · rw [part_at (.inr (h _ List.mem_cons_self))]; exact hT
    · refine bare_reps ?_ rs
      rw [List.all_eq_true]
      intro d hd
      obtain ⟨y, _, rfl⟩ := List.mem_map.mp hd
      rfl
theorem lists_at {F : Hp} {b : Addr} : ∀ (ls : List (List Str)) (vs : List V), Reps K F (ls.map fun l => .lst (l.map .str)) vs → V.ref b ∈ vs → ∃ xs, F b = some (.lst xs)
  | [], _, r, h => by cases r; cases h
  | x :: ls, vs, r, h => by
    obtain ⟨v, w, rfl, r1, r2⟩ := r
    obtain ⟨q, xs, rfl, hT, hl, rs⟩ := r1
    rcases List.mem_cons.mp h with z | z
    · cases z; exact ⟨xs, hT⟩
    · exact lists_at ls w r2 z
end
/-- the items of a dict, as new pairs -/
def itemsD (ks : List Key) (ds : List D) : List D := List.zipWith (fun k d => .tup [keyD k, d]) ks ds
theorem walks_items {K : PySem.W.Frag} {F : Hp} {p : Addr} {o : Obj} {kvs : List (Key × V)} {ks : List Key} {ds : List D} (h : F p = some (.frz o (.dK kvs))) (hk : kvs.map (·.1) = ks) (rs : Reps K F ds (kvs.map (·.2))) (hok : ∀ k ∈ ks, ∀ z, k = .inr z → sOk z = true) : Walks K F (Iti p o kvs) (itemsD ks ds) := fun F' H' s1 s2 => by
  have q := s2 _ _ (s1 _ _ h)
  have l1 : kvs.length = ks.length := by rw [← hk, List.length_map]
  have l2 : ds.length = kvs.length := by have := rs.length; rw [List.length_map] at this; exact this.symm
  have hl : (itemsD ks ds).length = kvs.length := by unfold itemsD; rw [List.length_zipWith]; omega
  refine ⟨fun i hi => ⟨q, by omega⟩, fun i d e => ?_⟩
  have hi : i < (itemsD ks ds).length := (List.getElem?_eq_some_iff.mp e).1
  refine ⟨⟨q, by omega⟩, fun x H2 y => ?_⟩
  obtain ⟨T, k, v, e2, rfl, hT, rfl⟩ := y
  have ek : ks[i]? = some k := by rw [← hk, List.getElem?_map, e2]; rfl
  have ev : (kvs.map (·.2))[i]? = some v := by rw [List.getElem?_map, e2]; rfl
  obtain ⟨dd, ed⟩ : ∃ dd, ds[i]? = some dd := ⟨ds[i]'(by omega), List.getElem?_eq_getElem _⟩
  have ei : d = .tup [keyD k, dd] := by
    unfold itemsD at e
    rw [List.getElem?_zipWith, ek, ed] at e
    exact (Option.some.inj e).symm
  subst ei
  have rv : Rep K F dd v := by
    obtain ⟨w, e3, rw'⟩ := rs.get ed
    rw [ev] at e3
    cases e3
    exact rw'
  have g : Grow F' H' (upd F' T (.tup [kV k, v])) (upd H' T (.tup [kV k, v])) := Grow.new s2 hT
  refine ⟨_, g, T, [kV k, v], rfl, .inl (.inl upd_same), by show 2 ≤ sizeLine; exact line_two, _, _, rfl, key_rep (hok k (List.mem_of_getElem? ek)), _, _, rfl, Rep.mono (s1.trans g.fF) _ _ rv, rfl⟩
section
variable {X : Cx} {m : Mem} {e : Expr} {es : List Expr} {u : DTA m}
/-- for .. in f(x, y).items() -/
def diItemsF {m : Mem} (sp : DSp m) (u : DTA m) : DTI m := fun ρ s Q => u ρ s fun ds ρ1 s1 => ∃ (ks1 : List Key) (ls : List (List Str)) (z : Str), ds = [.dic ks1 (ls.map fun l => .lst (l.map .str)), .str z] ∧ sp ds s1 fun d s' => ∃ (ks2 : List Key) (ws : List (List Str)), d = .dic ks2 (ws.map fun w => .tup (w.map .str)) ∧
  (∃ k ∈ ks1, k ∉ ks2) ∧ (∀ k ∈ ks2, ∀ z, k = .inr z → sOk z = true) ∧ Q (itemsD ks2 (ws.map fun w => .tup (w.map .str))) ρ1 s'
theorem di_itemsF {k n : Nat} {fa : Addr} {fd : FuncData} {ps : List Str} {sp : DSp m} {f : Str} {p cp apos cp2 : Pos} {elts : List Expr} {kk : Nat} {tpos : Pos} (G : FnG X.prog X.w X.K X.mg X.base CX0 k fa fd ps (lift X.K m n sp)) (hn : ∀ ds s Qd, sp ds s Qd → ds.length = n) (hr : RoomG k X.A) (hg : Gl X f) (hm : X.mg f = some (.ref fa)) (hk : PySem.W.keepIn X.K (.ref fa) = true) (hb : Binds X.K fd ps [])
    (ha : PA X (e :: es) (upA X.K m u)) (hdb : (f == ("__debug__" : Str)) = false := by decide) (he : starEach (e :: es) X.env = (false, eval e X.env) :: starEach es X.env := by rfl) (hpl : (backTo cp (starEach es X.env)).any (·.1) = false := by rfl)
    (hbase : attributeBase (.Call (.Name f p) (e :: es) [] cp) "items" X.env (eval (.Call (.Name f p) (e :: es) [] cp) X.env) = eval (.Call (.Name f p) (e :: es) [] cp) X.env := by rfl) (hline : (apos.endLine == cp2.line) = true := by rfl) :
    PI X (.Tuple elts kk tpos) (.Call (.Attribute (.Call (.Name f p) (e :: es) [] cp) "items" apos) [] [] cp2) (upI X.K m (diItemsF sp u)) :=
  PI.imp (pi_items (pe_lockK (pg_call G hr hg hm hk hb .nil pass0 ha hdb he hpl)) hbase hline) fun σ H R h => by
  obtain ⟨F, ρ, s, Qd, r, ht, hQ⟩ := h
  refine ⟨F, ρ, s, _, r, ht, fun ds ρ1 s1 vs F1 H1 ⟨ks1, ls, z, ed, hsp⟩ r1 st1 rs => ?_⟩
  show lift X.K m n sp (vs ++ []) H1 _ _
  rw [List.append_nil]
  have len : vs.length = n := by rw [rs.length]; exact hn _ _ _ hsp
  have rs' := rs
  rw [ed] at rs'
  obtain ⟨v1, _, rfl, ⟨a1, kvs1, rfl, ha1, hl1, hk1, rd1⟩, v2, _, rfl, ⟨rfl, hz⟩, rfl⟩ := rs'
  have s0 : Same (partH F1 a1 (kvs1.map (·.2))) F1 := part_same
  have rs0 : Reps X.K (partH F1 a1 (kvs1.map (·.2))) ds [.ref a1, .str z] := by
    rw [ed]
    exact ⟨_, _, rfl, ⟨a1, kvs1, rfl, by rw [part_at (.inl rfl)]; exact ha1, hl1, hk1, part_lists ls _ (fun _ h => h) rd1⟩, _, _, rfl, ⟨rfl, hz⟩, rfl⟩
  refine ⟨len, _, ds, s1, _, s0.trans r1.sub, r1.mem, fun a h => ?_, rs0, hsp, fun d s' v F2 H2 ⟨ks2, ws, ed2, ⟨k0, hk01, hk02⟩, hok, q1⟩ c rv => ?_⟩
  · cases q : partH F1 a1 (kvs1.map (·.2)) a with
    | none => rfl
    | some o => exact absurd (s0 a o q) (by rw [r1.reg a h]; simp)
  subst ed2
  obtain ⟨a, kvs, rfl, ha2, hl2, hk2, rd2⟩ := rv
  have new : H1 a = none := by
    rcases c.fresh a _ ha2 with y | y
    · obtain ⟨y1, y2⟩ := part_some y
      rcases y2 with rfl | y2
      · rw [ha1] at y1
        cases y1
        exact absurd (hk1.symm.trans hk2 ▸ hk01) hk02
      · obtain ⟨xs, y3⟩ := lists_at ls _ rd1 y2
        rw [y1] at y3; cases y3
    · exact y
  have nF1 : F1 a = none := r1.sub.free new
  obtain ⟨c', s3⟩ := joinR r1 s0 c (F3 := offH F2 a) same_off
  have nF4 : orH F1 (offH F2 a) a = none := by
    unfold orH
    rw [nF1]
    unfold offH
    rw [if_pos rfl]
  have nR : ¬ m.R s' a := fun z => by rw [c.reg a z] at ha2; cases ha2
  have nH : H a = none := by
    cases q : H a with
    | none => rfl
    | some w => exact absurd new (st1.alive a (by rw [q]; simp))
  have nO : ∀ j, ¬ Owns σ ρ1 j a := fun j ⟨⟨o', e⟩, hσ⟩ => by
    obtain ⟨p', ho, b1, b2, _⟩ := r1.ow j o' e
    rw [hσ] at b1
    cases b1
    rw [new] at b2
    cases b2
  have r4 : Rel X.K m (orH F1 (offH F2 a)) H2 σ ρ1 s' := r1.call c'
  have st4 : Stp m F H σ ρ s (orH F1 (offH F2 a)) H2 ρ1 s' := st1.trans c'.stp
  refine ⟨a, kvs, rfl, c.sub a _ ha2, fun o => ⟨a, o, kvs, rfl, upd_same, ?_⟩⟩
  have r5 := r4.hidW (ho := .frz o (.dK kvs)) nF4 nR nO
  have st5 := st4.hidW (ho := .frz o (.dK kvs)) nH
  have sm : Same (orH F1 (offH F2 a)) (upd (orH F1 (offH F2 a)) a (.frz o (.dK kvs))) := same_upd nF4
  refine hQ _ ρ1 s' _ (upd (orH F1 (offH F2 a)) a (.frz o (.dK kvs))) _ q1 (r5.adopt upd_same nF4 nR nO) ⟨st5.ext.trans sm, st5.keep, st5.alive, fun b x e => ?_, st5.regf, st5.shr⟩ (walks_items upd_same hk2 (Reps.mono (s3.trans sm) _ _ (off_tups ha2 ws _ rd2)) hok)
  by_cases hb : b = a
  · subst hb; exact .inr (.inl nH)
  · rw [upd_ne hb] at e; exact st5.fresh b x e
end
end DL

set_option Elab.async false
set_option linter.all false
set_option maxRecDepth 100000
/-! EM4: min(x) of a list of data that are alike; x[k] = e, k a key of x or not -/
namespace DL
open PySem PySem.Spec PyProof.Rows L2 TL TX TO
def pickB {α : Type} (lt : α → α → Bool) (x : α) (xs : List α) : α := xs.foldl (fun a b => if lt b a then b else a) x
def lessD (a b : D) : Bool := PySem.W.dataLt (pyR a) (pyR b)
theorem pyRs_getD : ∀ (ds : List D) (i : Nat), (pyRs ds).getD i .none = pyR (ds.getD i .non)
  | [], i => by rw [show (pyRs ([] : List D)) = [] from rfl]; simp [pyR]
  | d :: ds, 0 => rfl
  | d :: ds, i + 1 => by
    have := pyRs_getD ds i
    rw [show pyRs (d :: ds) = pyR d :: pyRs ds from rfl]
    simpa using this
section
variable {X : Cx} {pins : List (Addr × Obj)} {σ : L2.St} {H : Hp} {s : Shared}
def rMinD (X : Cx) : List V → Hp → VK → Prop := fun xs H Q => ∃ (F : Hp) (d : D) (ds : List D) (a : Addr) (vs : List V), xs = [V.ref a] ∧ Same F H ∧ F a = some (.lst vs) ∧ Reps X.K F (d :: ds) vs ∧ repDs 60 (d :: ds) = true ∧ PySem.W.AlikeAll (pyRs (d :: ds)) ∧ ∀ v, Rep X.K F (pickB lessD d ds) v → Q v H
theorem cr_minD (hc : X.calm = true) (hk : ∃ o, X.base.get? sysModules = some o) (hu : X.A.units + 65 < cLine) : CallR X (.builtin "min") (rMinD X) := by
  intro pins s σ H xs us Q I r h
  obtain ⟨F, d, ds, a, vs, rfl, sub, ha, rs, ok, al, q⟩ := h
  rw [Vals.ref1 r]
  obtain ⟨its, rv, hl, hz⟩ := I.list (.inl (.inl (sub _ _ ha)))
  obtain ⟨as, rd, _⟩ := reps_reads (sys_free hk I) I sub 60 (d :: ds) vs its ok rs rv
  have rd : PySem.ReadsAll s.heap its.toArray.toList (pyRs (d :: ds)) as := rd
  have dp := depths_of 60 (d :: ds) ok
  have n1 : its.length = ds.length + 1 := by
    have l1 := rv.length
    have l2 := rs.length
    rw [List.length_cons] at l2
    omega
  have hh : X.A.handled = none := I.ok.hd hc
  refine PySem.call_min_walkH (PySem.W.iter_listW (A := X.A.in1) hh hl.isList fun t0 e0 W0 st0 f0 w0 k0 => ?_)
  refine ⟨_, _, _, _, _, _, _, s.heap, _, rfl, W0, st0, f0, (by show 0 < its.length; omega), w0, k0, PySem.W.cmpIn_lt (A := X.A.in1) rd al (by show X.A.units + 1 + _ < _; omega), fun v s' hP mv => ?_⟩
  obtain ⟨h', tk, rfl, hk'⟩ := PySem.W.moved_old e0 rfl mv
  have hb : (fun i j => PySem.W.dataLt ((pyRs (d :: ds)).getD i .none) ((pyRs (d :: ds)).getD j .none)) = fun i j => lessD ((d :: ds).getD i .non) ((d :: ds).getD j .non) := by
    funext i j
    rw [pyRs_getD, pyRs_getD]; rfl
  rw [hb] at hP
  have e1 : its.toArray.size - 1 = ds.length := by show its.length - 1 = _; omega
  rw [e1] at hP
  obtain ⟨b1, b2⟩ := PySem.W.argBest_fold lessD D.non d ds ds.length (Nat.le_refl _)
  rw [List.take_length] at b2
  generalize argBest (fun i j => lessD ((d :: ds).getD i .non) ((d :: ds).getD j .non)) ds.length = k at hP b1 b2
  have hd : (d :: ds)[k]? = some (pickB lessD d ds) := by
    have hk1 : k < (d :: ds).length := by rw [List.length_cons]; omega
    rw [List.getElem?_eq_getElem hk1]
    rw [List.getD_eq_getElem?_getD, List.getElem?_eq_getElem hk1] at b2
    exact congrArg some b2
  obtain ⟨x, ex, rx⟩ := rs.get hd
  have hP : its[k]? = some v := by simpa using hP
  obtain ⟨y, ey, ry⟩ := rv.get ex
  rw [hP] at ey
  cases ey
  exact ⟨x, H, I.kept (t' := tk) hk', ry, q x rx⟩
end
def minDD (ds : List D) (Q : D → Prop) : Prop := ∃ d es, ds = [.lst (d :: es)] ∧ repDs 60 (d :: es) = true ∧ PySem.W.AlikeAll (pyRs (d :: es)) ∧ Q (pickB lessD d es)
theorem o_minD {X : Cx} : OpN X.K (rMinD X) minDD := by
  intro F H ds vs Qd Q sub rs h hQ
  obtain ⟨d, es, rfl, ok, al, q⟩ := h
  obtain ⟨v, _, rfl, ⟨a, ws, rfl, h1, _, r1⟩, rn⟩ := rs
  cases rn
  exact ⟨F, d, es, a, ws, rfl, sub, h1, r1, ok, al, fun v rv => hQ _ _ F H q (Grow.refl sub) rv⟩
/-! ### x[k] = e -/
section
variable {X : Cx} {m : Mem} {pos : Pos} {e b : Expr}
end
/-! ### x is True -/
end DL

set_option Elab.async false
set_option linter.all false
set_option maxRecDepth 100000
set_option maxHeartbeats 1000000
/-! LP9: rings and how near, as data -/
namespace RP
open PySem PySem.Spec PyProof.Rows L2 TL DL TX TO RG
def optW : Option (List Str) → D
  | none => .non
  | some w => wayD w
theorem keyI_mem {ms : List Str} {z : Str} : (.inr z : Key) ∈ keyI ms ↔ z ∈ ms := by
  constructor
  · intro h
    obtain ⟨y, hy, e⟩ := List.mem_map.mp h
    rw [← Sum.inr.inj e]; exact hy
  · intro h
    exact List.mem_map_of_mem h
theorem got_at {M : List Str} {f : Str → D} (nd : M.Nodup) {x : Str} (h : x ∈ M) : dicGet (keyI M) (M.map f) (.inr x) = some (f x) := by
  obtain ⟨i, hi⟩ := List.getElem?_of_mem h
  exact dicGet_at nd hi (by rw [List.getElem?_map, hi]; rfl)
/-! ### the ways have no module twice -/
structure InvN (start : Str) (W : List (Str × List Str)) : Prop where
  nd : ∀ p ∈ W, p.2.Nodup
  mem : ∀ p ∈ W, ∀ x ∈ p.2, x = start ∨ x ∈ W.map (·.1)
theorem fold_invN {start : Str} {way : List Str} (hw : way.Nodup) : ∀ (l : List Str) (V : List (Str × List Str)), InvN start V → (∀ x ∈ way, x = start ∨ x ∈ V.map (·.1)) → InvN start (l.foldl (addW start way) V)
  | [], _, h, _ => h
  | o :: l, V, h, hm => by
    rw [List.foldl_cons]
    by_cases c : o ≠ start ∧ o ∉ V.map (·.1)
    · have e : addW start way V o = V ++ [(o, way ++ [o])] := by unfold addW; rw [if_pos c]
      rw [e]
      have more : ∀ x, (x = start ∨ x ∈ V.map (·.1)) → x = start ∨ x ∈ (V ++ [(o, way ++ [o])]).map (·.1) := fun x hx => hx.imp id fun z => by rw [List.map_append]; exact List.mem_append_left _ z
      refine fold_invN hw l _ ⟨fun p hp => ?_, fun p hp x hx => ?_⟩ fun x hx => more x (hm x hx)
      · rcases List.mem_append.mp hp with z | z
        · exact h.nd p z
        · rw [List.mem_singleton.mp z]
          refine List.nodup_append.mpr ⟨hw, by simp, fun a ha b hb e => ?_⟩
          have hb : b = o := by simpa using hb
          rw [hb] at e
          subst e
          exact (hm a ha).elim c.1 c.2
      · rcases List.mem_append.mp hp with z | z
        · exact more x (h.mem p z x hx)
        · rw [List.mem_singleton.mp z] at hx
          rcases List.mem_append.mp hx with y | y
          · exact more x (hm x y)
          · have y : x = o := by simpa using y
            rw [y, List.map_append]
            exact .inr (List.mem_append_right _ (by simp))
    · have e : addW start way V o = V := by unfold addW; rw [if_neg c]
      rw [e]
      exact fold_invN hw l V h hm
theorem run_invN {nx : Str → List Str} {start : Str} : ∀ (n i : Nat) (W : List (Str × List Str)), InvN start W → InvN start (runW nx start n i W)
  | 0, _, _, h => h
  | n + 1, i, W, h => by
    show InvN start (match (rowW start W)[i]? with
      | some way => runW nx start n (i + 1) (stepW nx start way W)
      | none => W)
    cases e : (rowW start W)[i]? with
    | none => exact h
    | some way =>
      refine run_invN n (i + 1) _ ?_
      rcases List.mem_cons.mp (List.mem_of_getElem? e) with rfl | hm
      · exact fold_invN (by simp) _ W h fun x hx => .inl (List.mem_singleton.mp hx)
      · obtain ⟨p, hp, rfl⟩ := List.mem_map.mp hm
        exact fold_invN (h.nd p hp) _ W h (h.mem p hp)
theorem chains_nd {nx : Str → List Str} {start : Str} (n : Nat) : InvN start (chainsS n nx start) := run_invN n 0 [] ⟨fun p hp => absurd hp List.not_mem_nil, fun p hp => absurd hp List.not_mem_nil⟩
theorem once_same {xs : List Str} (h : xs.Nodup) : (once xs).length = xs.length := ((List.perm_ext_iff_of_nodup (once_nodup xs) h).mpr fun x => once_mem).length_eq
theorem ch_zip {us : List (Str × Str)} {nx : Str → List Str} (hnx : ∀ x y, y ∈ nx x → (x, y) ∈ us) {x z : Str} {r : List Str} (h : Ch nx x r z) : ∀ u ∈ (x :: r).zip r, u ∈ us := by
  induction h with
  | nil => intro u hu; cases hu
  | cons hy _ ih =>
    intro u hu
    rcases List.mem_cons.mp hu with rfl | hu
    · exact hnx _ _ hy
    · exact ih u hu
/-- the first ring is a ring of the program, of at most as many modules -/
theorem ring_holds15 {ms : List Str} {us : List (Str × Str)} (hm : Mods ms) (hu : Uses ms us) {s : Str} (hs : s ∈ ms) {w : List Str} (h : ringS ms.length (nextsS false (srt lessP us)) s = some w) : ringD ms us (wayD w) = true ∧ w.length ≤ ms.length ∧ ∀ x ∈ w, x ∈ ms := by
  have inU : ∀ u ∈ srt lessP us, u.1 ∈ srt lessS ms ∧ u.2 ∈ srt lessS ms := fun u hu' => by
    have z := hu.ok u (mem_srt.mp hu')
    exact ⟨mem_srt.mpr z.1, mem_srt.mpr z.2.1⟩
  have hs' : s ∈ srt lessS ms := mem_srt.mpr hs
  have F := chains_first hs' (nexts_in (b := false) inU) (nexts_asc hu.nd)
  have inv := chains_inv hs' (nexts_in (b := false) inU) (srt lessS ms).length
  have N := chains_nd (nx := nextsS false (srt lessP us)) (start := s) (srt lessS ms).length
  rw [srt_len] at F inv N
  have il := inv.len hs'
  rw [srt_len] at il
  unfold ringS at h
  generalize chainsS ms.length (nextsS false (srt lessP us)) s = W at h F inv N il
  obtain ⟨p, e, rfl⟩ := Option.map_eq_some_iff.mp h
  have hp := List.mem_of_find?_eq_some e
  have hq : s ∈ nextsS false (srt lessP us) p.1 := by
    have z := List.find?_some e
    exact of_decide_eq_true z
  have wy := F.wy p hp
  obtain ⟨r, er, hr⟩ := wy.ch
  have inm : ∀ x ∈ p.2, x ∈ ms := fun x hx => by
    rcases N.mem p hp x hx with z | z
    · rw [z]; exact hs
    · obtain ⟨p', hp', rfl⟩ := List.mem_map.mp z
      exact mem_srt.mp (inv.ok p' hp').1
  refine ⟨?_, by have := (inv.ok p hp).2.2.2; omega, inm⟩
  have l2 : 2 ≤ p.2.length := by
    rw [er]
    cases hr with
    | nil => exact absurd rfl (F.no p hp)
    | cons _ _ => exact Nat.succ_le_succ (Nat.succ_le_succ (Nat.zero_le _))
  show ringD ms us (.tup (p.2.map .str)) = true
  rw [ringD_map, Bool.and_eq_true]
  constructor
  · unfold rowB
    rw [Bool.and_eq_true, Bool.and_eq_true, Bool.and_eq_true, List.all_eq_true, List.all_eq_true]
    refine ⟨decide_eq_true l2, fun x hx => decide_eq_true (inm x hx), decide_eq_true (once_same (N.nd p hp)), fun u hu' => ?_⟩
    rw [er] at hu'
    exact decide_eq_true (ch_zip (fun x y h => nexts_in2.mp h) hr u hu')
  · rw [wy.last, er]
    exact decide_eq_true (nexts_in2.mp hq)
/-! ### min of texts, of ways with their lengths -/
theorem pick_map2 {α : Type} {f : α → D} {lt : α → α → Bool} (h : ∀ a b, lessD (f a) (f b) = lt a b) : ∀ (xs : List α) (x : α), pickB lessD (f x) (xs.map f) = f (minB lt x xs)
  | [], x => rfl
  | y :: ys, x => by
    show pickB lessD (if lessD (f y) (f x) = true then f y else f x) (ys.map f) = f (minB lt (if lt y x = true then y else x) ys)
    rw [h, ← pick_map2 h ys]
    congr 1
    split <;> rfl
theorem less_str (a b : Str) : lessD (.str a) (.str b) = lessS a b := PySem.W.dataLt_str a b
theorem pyRs_strs (xs : List Str) : pyRs (xs.map .str) = xs.map PyData.str := by
  induction xs with
  | nil => rfl
  | cons x xs ih => show PyData.str x :: pyRs (xs.map .str) = _; rw [ih]; rfl
theorem alike_texts (xs : List Str) : PySem.W.AlikeAll (pyRs (xs.map .str)) := by
  rw [pyRs_strs]
  refine ⟨fun a ha b hb => ?_, fun a ha e => ?_⟩
  · obtain ⟨x, _, rfl⟩ := List.mem_map.mp ha
    obtain ⟨y, _, rfl⟩ := List.mem_map.mp hb
    rw [PySem.W.alike]
  · obtain ⟨x, _, rfl⟩ := List.mem_map.mp ha
    cases e
theorem repDs_strs : ∀ (n : Nat) (xs : List Str), DL.repDs n (xs.map .str) = true
  | _, [] => by simp [DL.repDs]
  | n, x :: xs => by
    rw [List.map_cons, DL.repDs, repDs_strs n xs]
    simp [DL.repD]
/-! ### promises -/
def spRingFrom {m : Mem} : DSp m := fun ds s Q => ∃ ks nx start, ds = [nextD ks nx, .str start] ∧ ks.Nodup ∧ start ∈ ks ∧ ks.length ≤ 100 ∧ (∀ m ∈ ks, ∀ x ∈ nx m, x ∈ ks) ∧ (∀ z ∈ ks, sOk z = true) ∧ Q (optW (ringS ks.length nx start)) s
theorem spRingFrom_len {m : Mem} : ∀ ds s Qd, (spRingFrom : DSp m) ds s Qd → ds.length = 2 := fun ds s Qd ⟨_, _, _, e, _⟩ => by rw [e]; rfl
def spRing15 {m : Mem} (C : Addr) : DSp m := fun ds s Q => ∃ ms us x, ds = [progD C ms us, .str x] ∧ Mods ms ∧ Uses ms us ∧ ms.length ≤ 24 ∧ us.length ≤ 200 ∧ x ∈ ms ∧ Q (optW (ringS ms.length (nextsS false (srt lessP us)) x)) s
theorem spRing15_len {m : Mem} {C : Addr} : ∀ ds s Qd, (spRing15 C : DSp m) ds s Qd → ds.length = 2 := fun ds s Qd ⟨_, _, _, e, _⟩ => by rw [e]; rfl
theorem items_ways (W : List (Str × List Str)) : DL.itemsD (keyI (W.map (·.1))) ((W.map (·.2)).map fun w => .tup (w.map .str)) = W.map fun p => .tup [.str p.1, wayD p.2] := by
  induction W with
  | nil => rfl
  | cons p W ih =>
    exact congrArg (D.tup [.str p.1, wayD p.2] :: ·) ih
end RP
namespace RP
open PySem PySem.Spec PyProof.Rows L2 TL DL TX TO RG
theorem find_at {α : Type} {f : α → Bool} : ∀ {W : List α} {i : Nat} {p : α}, W[i]? = some p → (∀ q ∈ W.take i, f q = false) → f p = true → W.find? f = some p
  | [], _, _, h, _, _ => by simp at h
  | a :: W, 0, p, h, _, hp => by
    have h : a = p := by simpa using h
    subst h
    rw [List.find?_cons, hp]
  | a :: W, i + 1, p, h, hn, hp => by
    have h : W[i]? = some p := by simpa using h
    rw [List.find?_cons, hn a (by simp)]
    exact find_at h (fun q hq => hn q (by rw [List.take_succ_cons]; exact List.mem_cons_of_mem _ hq)) hp
end RP
namespace RP
open PySem PySem.Spec PyProof.Rows L2 TL DL TX TO RG
/-- some uses turned round put in -/
def turnedS (us : List (Str × Str)) (n : Nat) : List (Str × Str) := us ++ ((us.take n).filter fun u => !decide ((u.2, u.1) ∈ us)).map fun u => (u.2, u.1)
theorem Uses.turned {ms : List Str} {us : List (Str × Str)} (h : Uses ms us) (n : Nat) : Uses ms (turnedS us n) := by
  have sub : ((us.take n).filter fun u => !decide ((u.2, u.1) ∈ us)).Sublist us := List.filter_sublist.trans (List.take_sublist n us)
  refine ⟨List.nodup_append.mpr ⟨h.nd, ?_, fun u hu v hv e => ?_⟩, fun u hu => ?_⟩
  · have nd : ((us.take n).filter fun u => !decide ((u.2, u.1) ∈ us)).Pairwise (· ≠ ·) := h.nd.sublist sub
    exact (List.pairwise_map.mpr (nd.imp fun {a b} hne (e : (a.2, a.1) = (b.2, b.1)) => hne (Prod.ext (congrArg Prod.snd e) (congrArg Prod.fst e))) : (List.map _ _).Pairwise (· ≠ ·))
  · obtain ⟨w, hw, rfl⟩ := List.mem_map.mp hv
    have z := (List.mem_filter.mp hw).2
    rw [Bool.not_eq_true'] at z
    exact of_decide_eq_false z (e ▸ hu)
  · rcases List.mem_append.mp hu with z | z
    · exact h.ok u z
    · obtain ⟨w, hw, rfl⟩ := List.mem_map.mp z
      have q := h.ok w (sub.subset hw)
      exact ⟨q.2.1, q.1, q.2.2.symm⟩
end RP

set_option Elab.async false
set_option linter.all false
set_option maxRecDepth 100000
set_option maxHeartbeats 1000000
namespace RP
open PySem PySem.Spec PyProof.Rows L2 TL DL TX TO RG


def T_ring_from15 {m : Mem} : DTS m :=
  (dSeq (dFor (diItemsF spChains (daCons (dVar 0) (daCons (dVar 1) daNil))) (gTup' 2 (gCons' (gN 2) (gCons' (gN 3) gNil')))
        (dIf (dCmT inD (dVar 1) (dGet (dVar 0) (dVar 2))) (dRet (dVar 3)) dNext))
      (dRet (dC D.non)))
theorem read_ring_from15 {m : Mem} : ∀ ds s Qd, (spRingFrom : DSp m) ds s Qd → (T_ring_from15 : DTS m) (endsOf Qd) (startD ["nexts", "start", "end", "way"] ds) s := by
  intro ds s Qd h
  obtain ⟨ks, nx, st, rfl, nd, hst, hl, hin, hok, hQ⟩ := h
  have inv := chains_inv hst hin ks.length
  unfold ringS at hQ
  refine ⟨keyI ks, ks.map nx, st, by unfold nextD; rw [List.map_map]; rfl, ks, nx, st, rfl, nd, hst, hl, hin, keyI ((chainsS ks.length nx st).map (·.1)), (chainsS ks.length nx st).map (·.2), by unfold waysD; rw [List.map_map]; rfl, ⟨.inr st, keyI_mem.mpr hst, fun z => inv.no (keyI_mem.mp z)⟩, fun k hk z ez => ?_, ?_⟩
  · rw [ez] at hk
    obtain ⟨p, hp, rfl⟩ := List.mem_map.mp (keyI_mem.mp hk)
    exact hok _ (inv.ok p hp).1
  rw [items_ways]
  generalize chainsS ks.length nx st = W at inv hQ
  refine ⟨fun pre ρ s' => s' = s ∧ (∀ p ∈ W.take pre.length, st ∉ nx p.1) ∧ ∃ c2 c3, ρ = [.sh (nextD ks nx), .sh (.str st), c2, c3], ⟨rfl, by simp, .no, .no, rfl⟩, ?_, ?_⟩
  · rintro pre y post ρ s' e ⟨rfl, hno, c2, c3, rfl⟩
    obtain ⟨p, hp, rfl, -⟩ := mid_map e
    have pin := (inv.ok p (List.mem_of_getElem? hp)).1
    refine ⟨_, rfl, rfl, _, _, rfl, _, _, rfl, rfl, ?_⟩
    refine ⟨_, _, _, _, rfl, rfl, got_at nd pin, rfl, plain_strs 58 _, ?_⟩
    rw [any_str]
    refine ifB2 (fun h => ?_) fun h => ?_
    · have ef := find_at (f := fun p : Str × List Str => decide (st ∈ nx p.1)) hp (fun q hq => decide_eq_false (hno q hq)) h
      rw [ef] at hQ
      exact hQ
    · refine ⟨rfl, ?_, .sh (.str p.1), .sh (wayD p.2), rfl⟩
      rw [List.length_append, List.length_singleton, List.take_add_one, hp]
      intro q hq
      rcases List.mem_append.mp hq with z | z
      · exact hno q z
      · have z : q = p := by simpa using z
        rw [z]; exact of_decide_eq_false h
  · rintro ρ s' ⟨rfl, hno, c2, c3, rfl⟩
    rw [List.length_map, List.take_length] at hno
    have ef : W.find? (fun p : Str × List Str => decide (st ∈ nx p.1)) = none := List.find?_eq_none.mpr fun p hp z => hno p hp (of_decide_eq_true z)
    rw [ef] at hQ
    exact hQ
def T_ring15 (a : Nat → Addr) {m : Mem} : DTS m :=
  (dRet (dCall spRingFrom (daCons (dCallD (spTable (a 24)) (D.bl false) (daCons (dVar 0) daNil)) (daCons (dVar 1) daNil))))
theorem read_ring15 {a : Nat → Addr} {m : Mem} : ∀ ds s Qd, (spRing15 (a 24) : DSp m) ds s Qd → (T_ring15 a : DTS m) (endsOf Qd) (startD ["program", "module"] ds) s := by
  intro ds s Qd h
  obtain ⟨ms, us, x, rfl, hm, hu, l1, l2, hx, hQ⟩ := h
  have inU : ∀ u ∈ us, u.1 ∈ ms ∧ u.2 ∈ ms := fun u hu' => ⟨(hu.ok u hu').1, (hu.ok u hu').2.1⟩
  have inM : ∀ u ∈ srt lessP us, u.1 ∈ srt lessS ms ∧ u.2 ∈ srt lessS ms := fun u hu' => ⟨mem_srt.mpr (inU u (mem_srt.mp hu')).1, mem_srt.mpr (inU u (mem_srt.mp hu')).2⟩
  have ndM : (srt lessS ms).Nodup := (srt_perm (lt := lessS) ms).nodup_iff.mpr hm.nd
  refine ⟨ms, us, false, rfl, hm.nd, by omega, by omega, inU, ?_⟩
  refine ⟨srt lessS ms, nextsS false (srt lessP us), x, rfl, ndM, mem_srt.mpr hx, by rw [srt_len]; omega, nexts_in inM, fun z hz => (hm.path z (mem_srt.mp hz)).ok, ?_⟩
  rw [srt_len]
  exact hQ
end RP

set_option Elab.async false
set_option linter.all false
set_option maxRecDepth 100000
set_option maxHeartbeats 1000000
/-! LP11: the first chain from some modules to some modules: as chains_from finds it, and step by step -/
namespace RP
open PySem PySem.Spec PyProof.Rows L2 TL DL TX TO
section
variable {us : List (Str × Str)} {ms G : List Str} {L : Str → Option Nat}
end
theorem LeastO.congr {P Q : List Str → Prop} (h : ∀ v, P v ↔ Q v) {o : Option (List Str)} (l : LeastO P o) : LeastO Q o := by
  cases o with
  | none => exact fun v hv => l v ((h v).mpr hv)
  | some w => exact ⟨(h w).mp l.1, fun v hv => l.2 v ((h v).mpr hv)⟩
end RP

set_option Elab.async false
set_option linter.all false
set_option maxRecDepth 100000
set_option maxHeartbeats 1000000
/-! EM5: {e for x in a for y in b}, each e a text: at the model -/
namespace SC2
open PySem PySem.Spec PyProof.Rows L2 TL DL TX TO
abbrev two (elt t0 i0 t1 i1 : Expr) (sc : Scope) (pos : Pos) : Expr := .SetComp elt [⟨t0, i0, [], 0⟩, ⟨t1, i1, [], 0⟩] sc pos
theorem turn_out (elt t0 i0 t1 i1 : Expr) (sc : Scope) (pos : Pos) (it acc : Value) (env : Env) :
    compTurn (two elt t0 i0 t1 i1 sc pos) 0 it acc env = (do
      standAt i0.pos
      match ← pyNext it with
      | none => pure (.done .next)
      | some v =>
        letOwnedTupleGo t0 it v
        assign t0 env v
        let mut ok := true
        for c in ([] : List Expr) do
          if ok then ok ← isTrue c env (eval c env)
        if ok then
          let x ← eval i1 env
          standAt i1.pos
          let x ← foldedSetIterable i1 env x
          let _ ← runOwn (.compStart (two elt t0 i0 t1 i1 sc pos) 1 (← holding [x] (pyIter x)) acc env) env
        again (.compLoop (two elt t0 i0 t1 i1 sc pos) 0 it acc env)) := by rfl
theorem turn_in (elt t0 i0 t1 i1 : Expr) (sc : Scope) (pos : Pos) (it acc : Value) (env : Env) :
    compTurn (two elt t0 i0 t1 i1 sc pos) 1 it acc env = (do
      standAt i1.pos
      match ← pyNext it with
      | none => pure (.done .next)
      | some v =>
        letOwnedTupleGo t1 it v
        assign t1 env v
        let mut ok := true
        for c in ([] : List Expr) do
          if ok then ok ← isTrue c env (eval c env)
        if ok then
          (do let v ← eval elt env; standAt elt.pos; let _ ← call (.builtin "set.add") [acc, v])
        again (.compLoop (two elt t0 i0 t1 i1 sc pos) 1 it acc env)) := by rfl
section
variable {prog : Program} {w : World} {A : Around} {R : Result → Shared → Prop} {s : Shared} {elt t0 i0 t1 i1 : Expr} {sc : Scope} {pos : Pos} {it acc : Value} {env : Env}
theorem loop_out (hs : ∀ x, foldedSetIterable i1 env x = pure x) (I : Nat → Shared → Prop)
    (turn : ∀ n s, I n s → wpAny (model prog w) A (pyNext it) (fun r s₁ => match r with
      | none => R (.ok .next) s₁
      | some v => wpAny (model prog w) A (letOwnedTupleGo t0 it v) (fun _ s₁' => wpAny (model prog w) A (assign t0 env v) (fun _ s₂ =>
          wpAny (model prog w) A (eval i1 env) (fun x s₄ => wpAny (model prog w) A (pyIter x) (fun it1 s₅ =>
              codeAny (model prog w) A (.compStart (two elt t0 i0 t1 i1 sc pos) 1 it1 acc env) (fun r s' => match r with
                | .ok _ => ∃ m, m < n ∧ I m s'
                | .error _ => False) s₅) (notedBy (model prog w) A env fun e s' => R (.error e) s') s₄) (notedBy (model prog w) A env fun e s' => R (.error e) s') s₂) (notedBy (model prog w) A env fun e s' => R (.error e) s') s₁') (notedBy (model prog w) A env fun e s' => R (.error e) s') s₁) (notedBy (model prog w) A env fun e s' => R (.error e) s') s)
    (n : Nat) (h : I n s) : codeAny (model prog w) A (.compLoop (two elt t0 i0 t1 i1 sc pos) 0 it acc env) R s := by
  refine codeAny_loop rfl I (fun n s hI => ?_) n h
  show wpAny _ A ((compTurn (two elt t0 i0 t1 i1 sc pos) 0 it acc env).onRaise (fun x => do noteFrame x env; theTreesLotGoes x)) _ _ s
  refine wpAny_noted ?_
  rw [turn_out]
  refine wpAny_bind (wpAny_standAt (wpAny_bind (wpAny_mono (turn n s hI) (fun r s₁ h₁ => ?_) fun _ _ h' => h')))
  cases r with
  | none => exact wpAny_pure h₁
  | some v =>
    refine wpAny_bind (wpAny_mono h₁ (fun _ s₁' h₁' => ?_) fun _ _ h' => h')
    refine wpAny_bind (wpAny_mono h₁' (fun _ s₂ h₂ => wpAny_bind (wpAny_pure ?_)) fun _ _ h' => h')
    refine wpAny_bind (wpAny_mono h₂ (fun x s₄ h₄ => ?_) fun _ _ h' => h')
    refine wpAny_bind (wpAny_standAt (wpAny_bind (wpAny_of_eq (hs x) (wpAny_bind (wpAny_holding (wpAny_mono h₄ (fun it1 s₅ h₅ => ?_) fun _ _ h' => h'))))))
    refine wpAny_bind (wpAny_runOwn ?_)
    rw [Around.mark_none]
    refine codeAny_mono h₅ fun r s' hr => ?_
    cases r with
    | ok f =>
      first
        | exact wpAny_pure ⟨rfl, hr⟩
        | exact wpAny_bind (wpAny_pure (wpAny_pure ⟨rfl, hr⟩))
    | error e => exact hr.elim
theorem loop_in (I : Nat → Shared → Prop)
    (turn : ∀ n s, I n s → wpAny (model prog w) A (pyNext it) (fun r s₁ => match r with
      | none => R (.ok .next) s₁
      | some v => wpAny (model prog w) A (letOwnedTupleGo t1 it v) (fun _ s₁' => wpAny (model prog w) A (assign t1 env v) (fun _ s₂ =>
          wpAny (model prog w) A (eval elt env) (fun x s₄ =>
              wpAny (model prog w) A (call (.builtin "set.add") [acc, x]) (fun _ s₅ => ∃ m, m < n ∧ I m s₅) (notedBy (model prog w) A env fun e s' => R (.error e) s') s₄) (notedBy (model prog w) A env fun e s' => R (.error e) s') s₂) (notedBy (model prog w) A env fun e s' => R (.error e) s') s₁') (notedBy (model prog w) A env fun e s' => R (.error e) s') s₁) (notedBy (model prog w) A env fun e s' => R (.error e) s') s)
    (n : Nat) (h : I n s) : codeAny (model prog w) A (.compLoop (two elt t0 i0 t1 i1 sc pos) 1 it acc env) R s := by
  refine codeAny_loop rfl I (fun n s hI => ?_) n h
  show wpAny _ A ((compTurn (two elt t0 i0 t1 i1 sc pos) 1 it acc env).onRaise (fun x => do noteFrame x env; theTreesLotGoes x)) _ _ s
  refine wpAny_noted ?_
  rw [turn_in]
  refine wpAny_bind (wpAny_standAt (wpAny_bind (wpAny_mono (turn n s hI) (fun r s₁ h₁ => ?_) fun _ _ h' => h')))
  cases r with
  | none => exact wpAny_pure h₁
  | some v =>
    refine wpAny_bind (wpAny_mono h₁ (fun _ s₁' h₁' => ?_) fun _ _ h' => h')
    refine wpAny_bind (wpAny_mono h₁' (fun _ s₂ h₂ => wpAny_bind (wpAny_pure ?_)) fun _ _ h' => h')
    exact wpAny_bind (wpAny_bind (wpAny_mono h₂ (fun x s₄ h₄ => wpAny_bind (wpAny_standAt (wpAny_bind (wpAny_mono h₄ (fun _ s₅ h₅ => wpAny_pure (wpAny_pure ⟨rfl, h₅⟩)) fun _ _ h' => h')))) fun _ _ h' => h'))
theorem start_in (h0 : codeAny (model prog w) A (.compLoop (two elt t0 i0 t1 i1 sc pos) 1 it acc env) R s)
    (h : wpAny (model prog w) A (pyIter it) (fun it' s' => codeAny (model prog w) A (.compLoop (two elt t0 i0 t1 i1 sc pos) 1 it' acc env) R s')
      (notedBy (model prog w) A env fun x s' => R (.error x) s') s) : codeAny (model prog w) A (.compStart (two elt t0 i0 t1 i1 sc pos) 1 it acc env) R s := by
  refine codeAny_of_tree ?_
  show wpAny _ _ ((compStart (two elt t0 i0 t1 i1 sc pos) 1 it acc env).onRaise (fun x => do noteFrame x env; standAt theWindowsPlace)) _ _ s
  refine wpAny_notedAt ?_
  unfold compStart
  show wpAny _ _ (ask >>= _) _ _ s
  refine wpAny_bind (wpAny_askSetting (wpAny_ite ?_))
  split
  · first
      | exact wpAny_bind (wpAny_pure (wpAny_pure (And.intro rfl h0)))
      | exact wpAny_pure (And.intro rfl h0)
  · first
      | exact wpAny_bind (wpAny_rule (wpAny_bind (wpAny_standAt (wpAny_bind (wpAny_mono h (fun it' s' h' => wpAny_pure (And.intro rfl h')) fun _ _ x => x)))))
      | (refine wpAny_bind (wpAny_rule ?_); show wpAny _ _ (standAt i1.pos >>= _) _ _ s; exact wpAny_bind (wpAny_standAt (wpAny_bind (wpAny_mono h (fun it' s' h' => wpAny_pure (And.intro rfl h')) fun _ _ x => x))))
end
section
variable {X : Cx}
/-- e put into the new set at D -/
theorem put_ok {pins : List (Addr × Obj)} {σ : L2.St} {H : Hp} {s : Shared} {E : Value → Shared → Prop} {D : Addr} {xs : List Str} {k : Str} {u : Tok} {Q : Value → Shared → Prop} (I : Inv X pins σ H s) (hD : H D = some (txO X.w xs D)) (room : xs.length + 1 < 4096)
    (q : ∀ s', Inv X pins σ (upd H D (txO X.w (if k ∈ xs then xs else k :: xs) D)) s' → Q .none s') : wpAny (model X.prog X.w) X.A (call (.builtin "set.add") [.ref D, .str k u]) Q E s := by
  refine add_tx (txO_get I hD) (by unfold scanBound; omega) fun h' sb new => ?_
  have he : ∃ u, h'.get? D = some u := let ⟨_, e, _⟩ := new; ⟨_, e⟩
  exact q _ (I.write (e := D) (t' := s.toks + 1) (by rw [hD]; trivial) (.inl rfl) (fun b u hb hu => (sb.2 b hb).trans hu) he (txO_new new))
def tTwo (w : World) (wi : TI) (g : TG) (wi1 : TI) (g1 : TG) (te : TE) (vs vs1 : List Nat) : TE := fun σ H Q => wi σ H fun J H1 => ∀ D, H1 D = none → ∃ W : Nat → Nat → Hp → Prop, (∃ m, W 0 m (upd H1 D (txO w [] D))) ∧ ∀ i m H, W i m H →
  (J.stop i H ∧ Q (.ref D) H) ∨ (J.go i H ∧ ∃ Nx : Hp → Prop, (∀ H', Nx H' → ∃ m', m' < m ∧ W (i + 1) m' H') ∧ ∀ x H', J.yld i H x H' → g x (wipe σ vs) H' fun σ2 H2 => wipe σ2 vs = wipe σ vs ∧
    wi1 σ2 H2 fun J1 H4 => ∃ W1 : Nat → Nat → Hp → Prop, (∃ m, W1 0 m H4) ∧ ∀ j k H, W1 j k H →
      (J1.stop j H ∧ Nx H) ∨ (J1.go j H ∧ ∃ Nx1 : Hp → Prop, (∀ H', Nx1 H' → ∃ k', k' < k ∧ W1 (j + 1) k' H') ∧ ∀ x H', J1.yld j H x H' → g1 x (wipe σ2 vs1) H' fun σ3 H5 => wipe σ3 vs1 = wipe σ2 vs1 ∧
        te σ3 H5 fun y H7 => ∃ k xs, y = .str k ∧ H7 D = some (txO w xs D) ∧ xs.length + 1 < 4096 ∧ Nx1 (upd H7 D (txO w (if k ∈ xs then xs else k :: xs) D))))
abbrev clo (X : Cx) (sc : Scope) (s : Shared) := cellsFrom (s.heap.objs.size + 1) sc.names (cloFrom X.env.cells sc.names [])
theorem pe_two {elt t0 i0 t1 i1 : Expr} {sc : Scope} {own : List (Str × Nat)} {vs1 : List Nat} {pos : Pos} {wi wi1 : TI} {g g1 : TG} {te : TE} (hc : X.calm = true) (hN : X.N.Nodup) (hi : PI X t0 i0 wi) (ok : BlkOk X.N X.env.scope sc own) (hv : ∀ i ∈ vs1, i ∈ own.map (·.2))
    (hg : ∀ (s : Shared) (H : Hp) (C : Addr) (cl : List (Str × Addr)) (fp : List Addr), PG (X.blk s H sc (compEnvC sc cl C X.env) fp) t0 g)
    (hi1 : ∀ (s : Shared) (H : Hp) (C : Addr) (cl : List (Str × Addr)) (fp : List Addr), PI (X.blk s H sc (compEnvC sc cl C X.env) fp) t1 i1 wi1)
    (hg1 : ∀ (s : Shared) (H : Hp) (C : Addr) (cl : List (Str × Addr)) (fp : List Addr), PG (X.blk s H sc (compEnvC sc cl C X.env) fp) t1 g1)
    (he : ∀ (s : Shared) (H : Hp) (C : Addr) (cl : List (Str × Addr)) (fp : List Addr), PE (X.blk s H sc (compEnvC sc cl C X.env) fp) elt te) (hs : ∀ x, foldedSetIterable i0 X.env x = pure x := by intro _; rfl) (hs1 : ∀ env x, foldedSetIterable i1 env x = pure x := by intro _ _; rfl) :
    PE X (two elt t0 i0 t1 i1 sc pos) (tTwo X.w wi g wi1 g1 te (own.map (·.2)) vs1) := by
  refine ⟨fun pins s σ H Q I h => ?_⟩
  rw [PpSet.eval_SetComp]
  have hfree : ∀ y ∈ sc.names, y.2 = .free → ∃ c, X.env.cells.lookup y.1 = some c := fun y hy e => (ok.free y hy e).elim (fun k => I.ok.has _ (.inl k)) fun k => I.ok.has _ (.inr k)
  refine wpAny_comprehension_free (use := none) rfl hs (closure_ok hfree) ok.kind (fun y hy e => by rw [ok.uniq y hy, e]) (thn (hi.run pins s σ H _ I h) fun xv s1 hx => thn hx fun itv s2 h2 => ?_)
  obtain ⟨it, fp, tn, J, H2, e, I2, T, st2, f2, q⟩ := h2
  subst e
  refine PpSet.newSet_ok (newEnv_comp ?_)
  generalize hD : s2.heap.objs.size = D
  obtain ⟨W, ⟨m0, w0⟩, turn⟩ := q D (I2.hok.fresh (Nat.le_of_eq hD))
  generalize hs3 : ({ s2 with heap := s2.heap.push { cls := .type "set", dict := none, data := .set #[] 0 (.fresh 0 0 (!X.w.params.followText "set-order")) } } : Shared) = s3
  have h3 : s3.heap = s2.heap.push { cls := .type "set", dict := none, data := .set #[] 0 (.fresh 0 0 (!X.w.params.followText "set-order")) } := by rw [← hs3]
  generalize hH3 : upd H2 D (txO X.w [] D) = H3 at w0
  have I3 : Inv X pins σ H3 s3 := by
    rw [← hs3, ← hH3]
    refine I2.laid (t' := s2.toks) (fun b o e => Heap.get?_push_of_some _ e) (Nat.le_of_eq hD) ?_
    rw [← hD]
    exact txO_new (tset_new s2.heap)
  have f3 : ∀ b ∈ fp, FpOk X pins H3 b ∧ b < s3.heap.objs.size := fun b hb => by
    obtain ⟨o, e, _⟩ := T.obj _ _ st2 b hb
    have hlt := Heap.lt_size e
    refine ⟨⟨?_, (f2 b hb).2⟩, by rw [h3, Heap.size_push]; exact Nat.lt_succ_of_lt hlt⟩
    rw [← hH3, upd_ne (by rw [← hD]; exact Nat.ne_of_lt hlt)]
    exact (f2 b hb).1
  have st3 : tn 0 s3.heap := T.keep _ _ _ st2 fun b _ o e => by rw [h3]; exact Heap.get?_push_of_some _ e
  have I4 := block_start I3 ok hN f3
  have pg := hg s3 H3 s3.heap.objs.size (clo X sc s3) fp
  have pe := he s3 H3 s3.heap.objs.size (clo X sc s3) fp
  have pi1 := hi1 s3 H3 s3.heap.objs.size (clo X sc s3) fp
  have pg1 := hg1 s3 H3 s3.heap.objs.size (clo X sc s3) fp
  show codeAny _ _ (.compStart (two elt t0 i0 t1 i1 sc pos) 0 (.ref it) (.ref D) (compEnvC sc (clo X sc s3) s3.heap.objs.size X.env)) (compPost (model X.prog X.w) X.A X.xe none _ (.ref D) s3.heap.objs.size) { s3 with heap := pushCells (s3.heap.push { cls := .type "dict", data := .dict #[] }) sc.names }
  generalize hce : compEnvC sc (clo X sc s3) s3.heap.objs.size X.env = ce at I4 pg pe pi1 pg1 ⊢
  have cL : ce.locals = s3.heap.objs.size := by subst hce; rfl
  generalize hs4 : ({ s3 with heap := pushCells (s3.heap.push { cls := .type "dict", data := .dict #[] }) sc.names } : Shared) = s4 at I4 ⊢
  have st4 : tn 0 s4.heap := T.keep _ _ _ st3 fun b _ o e => by rw [← hs4]; exact pushCells_keeps _ _ _ _ (Heap.get?_push_of_some _ e)
  have stat : ∀ {σ' : L2.St} {H' : Hp} {s' : Shared}, Inv (X.blk s3 H3 sc ce fp) [] σ' H' s' → (∀ b ∈ fp, H' b = none) → ∀ b ∈ fp, FpOk (X.blk s3 H3 sc ce fp) [] H' b := fun {σ' H' s'} I' hn b hb =>
    ⟨hn b hb, (I'.ok.exf b hb).1, I'.ok.exfs b hb, .inl hb, fun x c e => (I'.ok.exf b hb).2 x c e, fun p hp => absurd (show p ∈ ([] : List (Addr × Obj)) ++ [] from hp) (by simp)⟩
  generalize hB : wipe σ (own.map (·.2)) = σb at I4 turn
  have loop : codeAny (model X.prog X.w) X.A (.compLoop (two elt t0 i0 t1 i1 sc pos) 0 (.ref it) (.ref D) ce) (compPost (model X.prog X.w) X.A X.xe none (EP X pins σ Q) (.ref D) s3.heap.objs.size) s4 := by
    refine loop_out (hs1 ce) (fun n s' => ∃ i H', Inv (X.blk s3 H3 sc ce fp) [] σb H' s' ∧ tn i s'.heap ∧ (∀ b ∈ fp, H' b = none) ∧ W i n H') ?_ m0 ⟨0, H3, I4, st4, fun b hb => (f3 b hb).1.1, w0⟩
    rintro n s5 ⟨i, H5, I5, st5, n5, w5⟩
    rcases turn i n H5 w5 with ⟨stop, qq⟩ | ⟨go, Nx, hNx, step⟩
    · refine thnF (T.done (X.blk s3 H3 sc ce fp) rfl rfl rfl hc i [] s5 _ H5 (fun _ _ => False) I5 (stat I5 n5) st5 stop) fun r s6 ⟨hr, I6⟩ => ?_
      subst hr
      have I7 : Inv X pins σ H5 s6 := I3.call' (ch := fp) I6.os I6.base I6.hok I6.bare fun b hb => ⟨(f3 b hb).1.2.2.2.1, (f3 b hb).1.2.1, (f3 b hb).1.2.2.2.2.1, (f3 b hb).1.2.2.2.2.2⟩
      have nC : H5 s3.heap.objs.size = none := by
        have z : H5 ce.locals = none := I6.free
        rw [cL] at z
        exact z
      obtain ⟨m, hn, _⟩ := I6.loc
      have hn : s6.heap.Ns ce.locals m := hn
      rw [cL] at hn
      obtain ⟨f0, f1, f2, f3, f4, f5⟩ := I3.fpOk (Nat.le_refl _) nC
      refine ⟨m, hn, fun h'' sb => ⟨.ref D, H5, I7.turned (t' := s6.toks) (fun b o hb e => (sb.2 b hb).trans e) f0 f1 f3 f4 f5, rfl, qq⟩⟩
    · refine thnF (T.item (X.blk s3 H3 sc ce fp) rfl rfl rfl hc i [] s5 _ H5 (fun _ _ => False) I5 (stat I5 n5) st5 go) fun r s6 ⟨u, hr, h6⟩ => ?_
      subst hr
      refine thnF h6 fun _ s7 ⟨x, H7, I7, r7, y7, st7, n7⟩ => ?_
      have I7' := I7.pinned (stat I7 n7) (T.obj _ _ st7)
      refine thnF (pg.run _ s7 _ H7 x u _ I7' r7 (step x H7 y7)) fun _ s8 ⟨σ8, H8, I8, hw8, q8⟩ => ?_
      have fin : ∀ {σ9 : L2.St} {s' : Shared} {H' : Hp}, Inv (X.blk s3 H3 sc ce fp) ([] ++ pinsAt fp s7.heap) σ9 H' s' → σb.length = σ9.length → (∀ (j : Nat) v, σb[j]? = some (some v) → σ9[j]? = some (some v)) → Nx H' →
          ∃ m, m < n ∧ ∃ i H', Inv (X.blk s3 H3 sc ce fp) [] σb H' s' ∧ tn i s'.heap ∧ (∀ b ∈ fp, H' b = none) ∧ W i m H' := fun {σ9 s' H'} I' hl hk nx => by
        obtain ⟨m', hm, w'⟩ := hNx H' nx
        have pin' : ∀ b ∈ fp, ∀ o, s7.heap.get? b = some o → s'.heap.get? b = some o ∧ H' b = none := fun b hb o e =>
          let z := I'.pin (b, o) (List.mem_append_right _ (List.mem_append_right _ (mem_pinsAt hb e)))
          ⟨z.1, z.2.1⟩
        refine ⟨m', hm, i + 1, H', (I'.unpinned (pins := [])).weak hl hk, T.keep _ _ _ st7 fun b hb o e => (pin' b hb o e).1, fun b hb => ?_, w'⟩
        obtain ⟨o, e, _⟩ := T.obj _ _ st7 b hb
        exact (pin' b hb o e).2
      have hl8 : σb.length = σ8.length := by rw [← hw8, wipe_length]
      have hk9 : ∀ (j : Nat) v, σb[j]? = some (some v) → (wipe σ8 vs1)[j]? = some (some v) := fun j v e => by
        rw [← hw8] at e
        obtain ⟨e1, e2⟩ := wipe_some e
        rw [wipe_out fun z => e2 (hv j z)]
        exact e1
      refine thnF (pi1.run _ s8 σ8 H8 _ I8 q8) fun xv s10 hx => thnF hx fun itv s11 h11 => ?_
      obtain ⟨it1, fp1, tn1, J1, H11, e1, I11, T1, st11, f11, W1, ⟨m1, w1⟩, turn1⟩ := h11
      subst e1
      have stat1 : ∀ {H' : Hp}, (∀ b ∈ fp1, H' b = none) → ∀ b ∈ fp1, FpOk (X.blk s3 H3 sc ce fp) ([] ++ pinsAt fp s7.heap) H' b := fun hn b hb => ⟨hn b hb, (f11 b hb).2⟩
      have loop1 : codeAny (model X.prog X.w) X.A (.compLoop (two elt t0 i0 t1 i1 sc pos) 1 (.ref it1) (.ref D) ce)
          (fun r s' => match r with
            | .ok _ => ∃ m, m < n ∧ ∃ i H', Inv (X.blk s3 H3 sc ce fp) [] σb H' s' ∧ tn i s'.heap ∧ (∀ b ∈ fp, H' b = none) ∧ W i m H'
            | .error _ => False) s11 := by
        refine loop_in (fun k s' => ∃ j H', Inv (X.blk s3 H3 sc ce fp) ([] ++ pinsAt fp s7.heap) (wipe σ8 vs1) H' s' ∧ tn1 j s'.heap ∧ (∀ b ∈ fp1, H' b = none) ∧ W1 j k H') ?_ m1 ⟨0, H11, I11.weak (wipe_length _ _) (fun j v e => (wipe_some e).1), st11, fun b hb => (f11 b hb).1, w1⟩
        rintro k s12 ⟨j, H12, I12, st12, n12, w12⟩
        rcases turn1 j k H12 w12 with ⟨stop1, nx1⟩ | ⟨go1, Nx1, hNx1, step1⟩
        · refine thnF (T1.done (X.blk s3 H3 sc ce fp) rfl rfl rfl hc j _ s12 (wipe σ8 vs1) H12 (fun _ _ => False) I12 (stat1 n12) st12 stop1) fun r s13 ⟨hr, I13⟩ => ?_
          subst hr
          exact fin I13 (hl8.trans (wipe_length σ8 vs1).symm) hk9 nx1
        · refine thnF (T1.item (X.blk s3 H3 sc ce fp) rfl rfl rfl hc j _ s12 (wipe σ8 vs1) H12 (fun _ _ => False) I12 (stat1 n12) st12 go1) fun r s13 ⟨u1, hr, h13⟩ => ?_
          subst hr
          refine thnF h13 fun _ s14 ⟨x1, H14, I14, r14, y14, st14, n14⟩ => ?_
          have I14' := I14.pinned (stat1 n14) (T1.obj _ _ st14)
          refine thnF (pg1.run _ s14 (wipe σ8 vs1) H14 x1 u1 _ I14' r14 (step1 x1 H14 y14)) fun _ s15 ⟨σ15, H15, I15, hw15, q15⟩ => ?_
          refine thnF (pe.run _ s15 σ15 H15 _ I15 q15) fun z s17 ⟨yv, H17, I17, r17, kk, xs, ey, hD17, hz17, nx⟩ => ?_
          subst ey
          obtain ⟨tk, rfl⟩ := r17
          refine put_ok (X := X.blk s3 H3 sc ce fp) I17 hD17 hz17 fun s18 I18 => ?_
          obtain ⟨m', hm, w'⟩ := hNx1 _ nx
          have pin' : ∀ b ∈ fp1, ∀ o, s14.heap.get? b = some o → s18.heap.get? b = some o ∧ _ = none := fun b hb o e =>
            let z := I18.pin (b, o) (List.mem_append_right _ (List.mem_append_right _ (mem_pinsAt hb e)))
            ⟨z.1, z.2.1⟩
          refine ⟨m', hm, j + 1, _, I18.unpinned.weak (by rw [← hw15, wipe_length]) (fun j v e => by rw [← hw15] at e; exact (wipe_some e).1), T1.keep _ _ _ st14 fun b hb o e => (pin' b hb o e).1, fun b hb => ?_, w'⟩
          obtain ⟨o, e, _⟩ := T1.obj _ _ st14 b hb
          exact (pin' b hb o e).2
      exact start_in loop1 (T1.self X.A 0 _ _ _ st11 loop1)
  exact PpSet.codeAny_compStart_set loop (T.self X.A 0 _ _ _ st4 loop)
end
end SC2

set_option Elab.async false
set_option linter.all false
set_option maxRecDepth 100000
set_option maxHeartbeats 1000000
/-! EM6: sorted({e for x in a for y in b}), each e a text: over data -/
namespace DL
open PySem PySem.Spec PyProof.Rows L2 TL TX TO
section
variable {X : Cx} {m : Mem}
def dTwo {m : Mem} (src : DTI m) (g : DG) (src1 : DTI m) (g1 : DG) (te : DT m) (vs vs1 : List Nat) : DT m := fun ρ s Q => src ρ s fun ds ρ1 s1 => ∃ I : List D → List Str → m.S → Prop, I [] [] s1 ∧
  (∀ pre x post acc s, ds = pre ++ x :: post → I pre acc s → g x (wipeD ρ1 vs) fun ρ2 => src1 ρ2 s fun es ρ3 s3 => ρ3 = ρ2 ∧ ∃ J : List D → List Str → m.S → Prop, J [] acc s3 ∧
    (∀ pre1 y post1 acc1 s, es = pre1 ++ y :: post1 → J pre1 acc1 s → acc1.length < 4000 ∧ g1 y (wipeD ρ2 vs1) fun ρ4 => te ρ4 s fun z ρ5 s5 => ρ5 = ρ4 ∧ ∃ k, z = .str k ∧ J (pre1 ++ [y]) (acc1 ++ [k]) s5) ∧
    (∀ acc1 s, J es acc1 s → I (pre ++ [x]) acc1 s)) ∧
  (∀ acc s, I ds acc s → acc.length < 4090 ∧ Q (.lst ((srt lessS (once acc)).map D.str)) ρ1 s)
theorem up_two {K : PySem.W.Frag} {w0 : World} {src src1 : DTI m} {g g1 : DG} {te : DT m} {vs vs1 ts ts1 : List Nat} (hts : ∀ j ∈ ts, j ∈ vs) (hts1 : ∀ j ∈ ts1, j ∈ vs1) {σ : L2.St} {H : Hp} {Q : VK} {Qd : DK m} {F : Hp} {ρ : List Sl} {s : m.S} (r : Rel K m F H σ ρ s) (ht : dTwo src g src1 g1 te vs vs1 ρ s Qd)
    (hQ : ∀ acc ρ' s' p F' H', acc.length < 4090 → Qd (.lst ((srt lessS (once acc)).map D.str)) ρ' s' → Rel K m F' H' σ ρ' s' → Stp m F H σ ρ s F' H' ρ' s' → H' p = some (txO w0 (once acc) p) → (∀ y ∈ acc, sOk y = true) → Q (.ref p) H') :
    SC2.tTwo w0 (upI K m src) (upG K m ts g) (upI K m src1) (upG K m ts1 g1) (up K m te) vs vs1 σ H Q := by
  refine ⟨F, ρ, s, _, r, ht, fun ds ρ1 s1 J F1 H1 ⟨I, i0, turn, done⟩ r1 st1 w D nD => ?_⟩
  have nF : F1 D = none := r1.sub.free nD
  have nR : ¬ m.R s1 D := fun z => m.there s1 H1 D r1.mem z nD
  have nO : ∀ i, ¬ Owns σ ρ1 i D := fun i ⟨⟨o, e⟩, hσ⟩ => by
    obtain ⟨p, ho, h1, h2, _⟩ := r1.own_at e
    rw [hσ] at h1; cases h1
    rw [nD] at h2; cases h2
  have nD0 : H D = none := by
    cases q : H D with
    | none => rfl
    | some u => exact absurd nD (st1.alive D (by rw [q]; simp))
  have r0 : Rel K m F1 (upd H1 D (txO w0 [] D)) σ ρ1 s1 := r1.hidW nF nR nO
  have st0 : Stp m F H σ ρ s F1 (upd H1 D (txO w0 [] D)) ρ1 s1 := st1.hidW nD0
  refine ⟨fun i n H2 => n = ds.length - i ∧ i ≤ ds.length ∧ ∃ F2 s2 acc, Rel K m F2 H2 σ ρ1 s2 ∧ Stp m F H σ ρ s F2 H2 ρ1 s2 ∧ Same F1 F2 ∧ H2 D = some (txO w0 (once acc) D) ∧ F2 D = none ∧ ¬ m.R s2 D ∧ (∀ y ∈ acc, sOk y = true) ∧ I (ds.take i) acc s2,
    ⟨ds.length, by simp, Nat.zero_le _, F1, s1, [], r0, st0, Same.refl _, upd_same, nF, nR, fun _ h => absurd h List.not_mem_nil, by simpa using i0⟩, ?_⟩
  rintro i n H2 ⟨rfl, hi, F2, s2, acc, r2, st2, sm, hD, nF2, nR2, oks, hI⟩
  obtain ⟨hstop, hgo⟩ := w F2 H2 sm r2.sub
  by_cases hlt : i < ds.length
  · obtain ⟨h1, h2⟩ := hgo i _ (List.getElem?_eq_getElem hlt)
    have hsplit : ds = ds.take i ++ ds[i] :: ds.drop (i + 1) := by
      rw [List.getElem_cons_drop, List.take_append_drop]
    have etake : ds.take (i + 1) = ds.take i ++ [ds[i]] := List.take_succ_eq_append_getElem hlt
    refine .inr ⟨h1, fun H' => ∃ F' s' acc', Rel K m F' H' σ ρ1 s' ∧ Stp m F H σ ρ s F' H' ρ1 s' ∧ Same F1 F' ∧ H' D = some (txO w0 (once acc') D) ∧ F' D = none ∧ ¬ m.R s' D ∧ (∀ y ∈ acc', sOk y = true) ∧ I (ds.take (i + 1)) acc' s',
      fun H' ⟨F', s', acc', q⟩ => ⟨ds.length - (i + 1), by omega, rfl, hlt, F', s', acc', q⟩, fun x H3 y => ?_⟩
    obtain ⟨F3, g3, rv⟩ := h2 x H3 y
    have r3 := r2.grow g3
    obtain ⟨hD3, nF3⟩ := hid_grow g3 hD nF2
    have st3 := st2.trans (g3.stp (m := m) (s := s2) (ρ := ρ1) (σ := σ))
    refine ⟨F3, wipeD ρ1 vs, s2, ds[i], _, r3.wipe vs, rv, turn _ _ _ acc _ hsplit hI, fun σ2 ρ2 q2 r4 o4 k4 => ⟨(wipe_eq k4.1 k4.2 hts).trans wipe_wipe, ?_⟩⟩
    have nO2 : ∀ i, ¬ Owns σ2 ρ2 i D := fun i z => nO i (wipe_back (o4 i D z))
    refine ⟨F3, ρ2, s2, _, r4, q2, fun es ρ3 s3 J1 F4 H4 ⟨e3, Jv, j0, turn1, done1⟩ r5 st5 w1 => ?_⟩
    subst e3
    obtain ⟨hD4, nF4, nR4⟩ := st5.hid r5 hD3 nF3 nR2
    have r6 := r3.carry st5 r5
    have st6 := st3.trans (st5.outer (σ := σ) (ρ := ρ1) r5)
    have sm4 : Same F1 F4 := (sm.trans g3.fF).trans st5.ext
    refine ⟨fun j k H5 => k = es.length - j ∧ j ≤ es.length ∧ ∃ F5 s5 acc', Rel K m F5 H5 σ2 ρ3 s5 ∧ Rel K m F5 H5 σ ρ1 s5 ∧ Stp m F H σ ρ s F5 H5 ρ1 s5 ∧ Same F1 F5 ∧ Same F4 F5 ∧ H5 D = some (txO w0 (once acc') D) ∧ F5 D = none ∧ ¬ m.R s5 D ∧ (∀ y ∈ acc', sOk y = true) ∧ Jv (es.take j) acc' s5,
      ⟨es.length, by simp, Nat.zero_le _, F4, s3, acc, r5, r6, st6, sm4, Same.refl _, hD4, nF4, nR4, oks, by simpa using j0⟩, ?_⟩
    rintro j k H5 ⟨rfl, hj, F5, s5, acc', ra, rb, st7, sm5, sm45, hD5, nF5, nR5, oks5, hJ⟩
    obtain ⟨hstop1, hgo1⟩ := w1 F5 H5 sm45 ra.sub
    by_cases hlt1 : j < es.length
    · obtain ⟨k1, k2⟩ := hgo1 j _ (List.getElem?_eq_getElem hlt1)
      have hsplit1 : es = es.take j ++ es[j] :: es.drop (j + 1) := by
        rw [List.getElem_cons_drop, List.take_append_drop]
      have etake1 : es.take (j + 1) = es.take j ++ [es[j]] := List.take_succ_eq_append_getElem hlt1
      refine .inr ⟨k1, fun H5 => ∃ F5 s5 acc', Rel K m F5 H5 σ2 ρ3 s5 ∧ Rel K m F5 H5 σ ρ1 s5 ∧ Stp m F H σ ρ s F5 H5 ρ1 s5 ∧ Same F1 F5 ∧ Same F4 F5 ∧ H5 D = some (txO w0 (once acc') D) ∧ F5 D = none ∧ ¬ m.R s5 D ∧ (∀ y ∈ acc', sOk y = true) ∧ Jv (es.take (j + 1)) acc' s5,
        fun H' ⟨F', s', acc', q⟩ => ⟨es.length - (j + 1), by omega, rfl, hlt1, F', s', acc', q⟩, fun x1 H6 y1 => ?_⟩
      obtain ⟨F6, g6, rv1⟩ := k2 x1 H6 y1
      obtain ⟨hD6, nF6⟩ := hid_grow g6 hD5 nF5
      have ra6 := ra.grow g6
      have rb6 := rb.grow g6
      have st8 := st7.trans (g6.stp (m := m) (s := s5) (ρ := ρ1) (σ := σ))
      obtain ⟨t1, t2⟩ := turn1 _ _ _ acc' _ hsplit1 hJ
      refine ⟨F6, wipeD ρ3 vs1, s5, es[j], _, ra6.wipe vs1, rv1, t2, fun σ3 ρ4 q3 r7 o7 k7 => ⟨(wipe_eq k7.1 k7.2 hts1).trans wipe_wipe, ?_⟩⟩
      refine ⟨F6, ρ4, s5, _, r7, q3, fun z ρ5 s6 v F7 H7 ⟨e5, kk, ez, q4⟩ r8 st9 rvz => ?_⟩
      subst e5
      subst ez
      obtain ⟨rfl, okk⟩ := rvz
      obtain ⟨hD7, nF7, nR7⟩ := st9.hid r8 hD6 nF6 nR5
      have ra7 := ra6.carry st9 r8
      have rb7 := rb6.carry st9 r8
      have st10 := st8.trans (st9.outer (σ := σ) (ρ := ρ1) r8)
      refine ⟨kk, once acc', rfl, hD7, by have := once_len acc'; omega, F7, s6, acc' ++ [kk], ?_, ?_, st10.hidW nD0, (sm5.trans g6.fF).trans st9.ext, (sm45.trans g6.fF).trans st9.ext, ?_, nF7, nR7, fun y hy => ?_, by rw [etake1]; exact q4⟩
      · exact ra7.hidW nF7 nR7 nO2
      · exact rb7.hidW nF7 nR7 nO
      · rw [once_snoc]; exact upd_same
      · rcases List.mem_append.mp hy with z | z
        · exact oks5 y z
        · rw [List.mem_singleton.mp z]; exact okk
    · have e : j = es.length := by omega
      subst e
      rw [List.take_length] at hJ
      exact .inl ⟨hstop1 _ (Nat.le_refl _), F5, s5, acc', rb, st7, sm5, hD5, nF5, nR5, oks5, by rw [etake]; exact done1 acc' s5 hJ⟩
  · have e : i = ds.length := by omega
    subst e
    rw [List.take_length] at hI
    obtain ⟨d1, d2⟩ := done acc s2 hI
    exact .inl ⟨hstop _ (Nat.le_refl _), hQ acc ρ1 s2 D F2 H2 d1 d2 r2 st2 hD oks⟩
theorem de_sortTwo {elt tg iter tg1 iter1 : Expr} {scope : Scope} {own : List (Str × Nat)} {vs1 : List Nat} {p pos cp : Pos} {src src1 : DTI m} {g g1 : DG} {ts ts1 : List Nat} {te : DT m} (hg0 : Gl X "sorted") (hm0 : X.mg "sorted" = none) (hN : X.N.Nodup) (hi : PI X tg iter (upI X.K m src)) (ok : BlkOk X.N X.env.scope scope own)
    (hg : ∀ (s : Shared) (H : Hp) (C : Addr) (cl : List (Str × Addr)) (fp : List Addr), PG (X.blk s H scope (compEnvC scope cl C X.env) fp) tg (upG X.K m ts g))
    (hi1 : ∀ (s : Shared) (H : Hp) (C : Addr) (cl : List (Str × Addr)) (fp : List Addr), PI (X.blk s H scope (compEnvC scope cl C X.env) fp) tg1 iter1 (upI X.K m src1))
    (hg1 : ∀ (s : Shared) (H : Hp) (C : Addr) (cl : List (Str × Addr)) (fp : List Addr), PG (X.blk s H scope (compEnvC scope cl C X.env) fp) tg1 (upG X.K m ts1 g1))
    (he : ∀ (s : Shared) (H : Hp) (C : Addr) (cl : List (Str × Addr)) (fp : List Addr), PE (X.blk s H scope (compEnvC scope cl C X.env) fp) elt (up X.K m te)) (hts : ∀ j ∈ ts, j ∈ own.map (·.2) := by decide) (hts1 : ∀ j ∈ ts1, j ∈ vs1 := by decide) (hv : ∀ i ∈ vs1, i ∈ own.map (·.2) := by decide) (hc : X.calm = true := by rfl)
    (hs : ∀ x, foldedSetIterable iter X.env x = pure x := by intro _; rfl) (hs1 : ∀ env x, foldedSetIterable iter1 env x = pure x := by intro _ _; rfl)
    (hs2 : starEach [.SetComp elt [⟨tg, iter, [], 0⟩, ⟨tg1, iter1, [], 0⟩] scope cp] X.env = [(false, eval (.SetComp elt [⟨tg, iter, [], 0⟩, ⟨tg1, iter1, [], 0⟩] scope cp) X.env)] := by rfl) :
    PE X (.Call (.Name "sorted" p) [.SetComp elt [⟨tg, iter, [], 0⟩, ⟨tg1, iter1, [], 0⟩] scope cp] [] pos) (up X.K m (dTwo src g src1 g1 te (own.map (·.2)) vs1)) :=
  PE.imp (pe_callB (cr_txSorted hc) hg0 hm0 (by decide +kernel) (pa_cons (SC2.pe_two hc hN hi ok hv hg hi1 hg1 he hs hs1) pa_nil (by rw [hs2]; rfl)) (by decide) (by decide) (by rw [hs2]; rfl) rfl) fun σ H Q h => by
    obtain ⟨F, ρ, s, Qd, r, h, hQ⟩ := h
    show SC2.tTwo X.w (upI X.K m src) (upG X.K m ts g) (upI X.K m src1) (upG X.K m ts1 g1) (up X.K m te) (own.map (·.2)) vs1 σ H (fun v H' => rTxSorted X.w [v] H' Q)
    refine up_two hts hts1 r h fun acc ρ' s' p0 F' H' few q r' st hp oks => ?_
    have l0 := once_len acc
    refine ⟨p0, once acc, rfl, hp, by omega, fun p1 np1 => ?_⟩
    have g : Grow F' H' (upd F' p1 (.lst ((srt lessS (once acc)).map V.str))) (upd H' p1 (.lst ((srt lessS (once acc)).map V.str))) := Grow.new r'.sub np1
    exact hQ _ ρ' s' _ _ _ q (r'.grow g) (st.trans g.stp) ⟨p1, _, rfl, upd_same, by rw [List.length_map, srt_len, sizeLine_eq]; omega, reps_of_strs _ fun y hy => oks y (once_mem.mp (srt_mem.mp hy))⟩
end
end DL

set_option Elab.async false
set_option linter.all false
set_option maxRecDepth 100000
set_option maxHeartbeats 1000000
/-! EM7: max(x, key=len, default=None), x a list of texts -/
namespace DL
open PySem PySem.Spec PyProof.Rows L2 TL TX TO
section
variable {X : Cx} {m : Mem} {e : Expr} {p p2 p3 p4 p5 pos : Pos} {k : Nat}
end
end DL

set_option Elab.async false
set_option linter.all false
set_option maxRecDepth 100000
set_option maxHeartbeats 1000000
/-! EM8: list(x), x a list, a tuple or a text -/
namespace DL
open PySem PySem.Spec PyProof.Rows L2 TL TX TO
section
variable {X : Cx}
end
section
variable {X : Cx} {m : Mem} {E : Ent m} {a b : Expr} {ta tb : DT m} {pos pos' bp : Pos}
end
end DL

set_option Elab.async false
set_option linter.all false
set_option maxRecDepth 100000
set_option maxHeartbeats 1000000
/-! EM9: a class's method of the class itself with *rest, over data; cls(e, ..), cls a parameter -/
namespace DL
open PySem PySem.Spec PyProof.Rows L2 TL TX TO
/-- a def keeps its promise wherever it is called with plain arguments -/
structure FnS (P : Program) (w : World) (K : PySem.W.Frag) (mg : Str → Option Value) (base : Heap) (k : Nat) (f : Addr) (sp : Sp) : Prop where
  run : ∀ (A : Around) (outer : List Env) (s : Shared) (H : Hp) (us : List Value) (vs : List V) (Q : VK) (E : XK), RoomG k A → Env0 P w K mg base A outer s H → Vals vs us → sp vs H Q E → codeAny (model P w) A (.call (.ref f) ⟨us, []⟩) (CR CX0 outer P w H s Q E) s
section
variable {P : Program} {w : World} {K : PySem.W.Frag} {mg : Str → Option Value} {base : Heap} {k : Nat} {f : Addr} {sp : Sp} {m : Mem}
theorem FnS.mono {j : Nat} (F : FnS P w K mg base j f sp) (h : j ≤ k) : FnS P w K mg base k f sp := ⟨fun A o s H us vs Q E hr => F.run A o s H us vs Q E (hr.mono h)⟩
theorem FnS.imp {sp' : Sp} (F : FnS P w K mg base k f sp) (h : ∀ vs H Q E, sp' vs H Q E → sp vs H Q E) : FnS P w K mg base k f sp' := ⟨fun A o s H us vs Q E hr e r q => F.run A o s H us vs Q E hr e r (h vs H Q E q)⟩
theorem Fun.okS {x qual pv : Str} {st : Stmt} {fd : FuncData} {N ps : List Str} (F : Fun K x qual st f fd) (S : FnScope N (ps ++ [pv]) (defScope st))
    (hb : ∀ us rest : List Value, us.length = ps.length → bindArgs fd ⟨us ++ rest, []⟩ = (newTuple rest >>= fun t => pure (ps.zip us ++ [(pv, t)])))
    (body : ∀ (cdv : Value) (A : Around) (outer : List Env) (s : Shared) (H : Hp) (vs : List V) (Q : VK) (E : XK), RoomG k (A.deeper (envOfC qual (defScope st) s.heap.objs.size f cdv)) → sp vs H Q E →
      ∃ t, PSs (cxOf CX0 P w K mg base N qual (defScope st) f cdv A outer s H E) (defBody st) t ∧ t { nx := fun _ H' => Q .non H', rt := Q } (start N vs) H) :
    FnS P w K mg base (k + 1) f (fun vs H Q E => ∃ ws rest, vs = ws ++ rest ∧ ws.length = ps.length ∧ rest.length ≤ sizeLine ∧ ∀ p, H p = none → sp (ws ++ [V.ref p]) (upd H p (.tup rest)) Q E) := by
  obtain ⟨oc, od, kV, doc, pm, an, cdv, ct, osl, rfl, lk, code⟩ := F.ex
  refine ⟨fun A outer s H us vs Q E hr e0 r ⟨ws, rest, ev, hl, hz, hq⟩ => ?_⟩
  subst ev
  obtain ⟨u1, u2, rfl, r1, r2⟩ := StX.vals_split r
  have hn : H s.heap.objs.size = none := e0.hok.fresh (Nat.le_refl _)
  have hl1 : u1.length = ps.length := r1.length.symm.trans hl
  have hl2 : u2.length ≤ sizeLine := r2.length ▸ hz
  refine StX.run_bnd lk code S hr.r e0 (G := fun xs H2 => ∃ p, H p = none ∧ xs = ws ++ [V.ref p] ∧ H2 = upd H p (.tup rest)) (fun A' Ex Q' h => ?_) fun s2 H2 xs ⟨p, hp, ex, eH⟩ hr' => ?_
  · rw [hb u1 u2 hl1]
    refine wpAny_bind (wpAny_newTuple (wpAny_pure ?_) hl2)
    have new : ObjOk P w (upd H s.heap.objs.size (.tup rest)) (s.heap.push ({ cls := .type "tuple", data := .seq u2.toArray } : Obj)) s.heap.objs.size (.tup rest) := ⟨hz, u2, r2, ⟨_, Heap.get?_push_size _ rfl, rfl, _, rfl⟩⟩
    have un := StX.un_laid (fs := frs outer) (s := s) (o := ({ cls := .type "tuple", data := .seq u2.toArray } : Obj)) (u := .tup rest) hn
    have z := h _ _ (ws ++ [V.ref s.heap.objs.size]) (u1 ++ [Value.ref s.heap.objs.size]) (StX.env0_laid e0 new) un rfl (fun e s' q => q.elim) (r1.append (.cons rfl .nil)) (by rw [List.length_append, List.length_append, hl]; rfl) ⟨_, hn, rfl, rfl⟩
    rw [List.zip_append hl1.symm] at z
    exact z
  · subst ex eH
    exact body cdv A outer s2 _ _ Q E ⟨hr', hr.g⟩ (hq p hp)
/-- over data: the arguments behind the first n make one tuple -/
def liftS (K : PySem.W.Frag) (m : Mem) (n : Nat) (sp : DSp m) : Sp := fun vs H Q _ => ∃ F ds rds s Qd ws rest, vs = ws ++ rest ∧ ws.length = n ∧ rest.length ≤ sizeLine ∧ Same F H ∧ m.M s H ∧ (∀ a, m.R s a → F a = none) ∧ Reps K F ds ws ∧ Reps K F rds rest ∧ sp (ds ++ [.tup rds]) s Qd ∧
  ∀ d s' v F' H', Qd d s' → CStp m F H s F' H' s' → Rep K F' d v → Q v H'
theorem lift_of {n : Nat} {sp : DSp m} {vs : List V} {H : Hp} {Q : VK} {E : XK} (h : liftS K m n sp vs H Q E) : ∃ ws rest, vs = ws ++ rest ∧ ws.length = n ∧ rest.length ≤ sizeLine ∧ ∀ p, H p = none → lift K m (n + 1) sp (ws ++ [V.ref p]) (upd H p (.tup rest)) Q E := by
  obtain ⟨F, ds, rds, s, Qd, ws, rest, ev, hl, hz, sub, mem, reg, rs, rr, hsp, hQ⟩ := h
  refine ⟨ws, rest, ev, hl, hz, fun p hp => ⟨by rw [List.length_append, hl]; rfl, upd F p (.tup rest), ds ++ [.tup rds], s, Qd, ?_, ?_, ?_, ?_, hsp, fun d s' v F' H' q c rv => hQ d s' v F' H' q ?_ rv⟩⟩
  · intro b o e
    by_cases hb : b = p
    · subst hb; rw [upd_same] at e ⊢; exact e
    · rw [upd_ne hb] at e ⊢; exact sub b o e
  · exact m.loc s H _ mem fun a ha => upd_ne fun z => m.there s H a mem ha (by rw [z]; exact hp)
  · intro a ha
    rw [upd_ne fun z => m.there s H a mem ha (by rw [z]; exact hp)]
    exact reg a ha
  · have sm : Same F (upd F p (.tup rest)) := same_upd (sub.free hp)
    exact (Reps.mono sm _ _ rs).append (.one ⟨p, rest, rfl, .inl (.inl upd_same), hz, Reps.mono sm _ _ rr⟩)
  · have sm : Same F (upd F p (.tup rest)) := same_upd (sub.free hp)
    have ne : ∀ {a o}, H a = some o → a ≠ p := fun {a o} e z => by rw [z, hp] at e; cases e
    refine ⟨sm.trans c.ext, fun a o e nr => c.keep a o (by rw [upd_ne (ne e)]; exact e) nr, fun a h => c.alive a ?_, fun a o e => ?_, fun a h => ?_, c.sub, c.mem, c.reg⟩
    · cases e : H a with
      | none => exact absurd e h
      | some o => rw [upd_ne (ne e), e]; simp
    · by_cases hb : a = p
      · exact .inr (hb ▸ hp)
      · rcases c.fresh a o e with z | z
        · rw [upd_ne hb] at z; exact .inl z
        · rw [upd_ne hb] at z; exact .inr z
    · by_cases hb : a = p
      · exact .inr (hb ▸ hp)
      · rcases c.regf a h with z | z
        · exact .inl z
        · rw [upd_ne hb] at z; exact .inr z
theorem dfnS {x qual pv : Str} {st : Stmt} {fd : FuncData} {N ps : List Str} {n : Nat} {sp : DSp m} (F : Fun K x qual st f fd) (S : FnScope N (ps ++ [pv]) (defScope st)) (hn : n = ps.length)
    (bind : ∀ us rest : List Value, us.length = ps.length → bindArgs fd ⟨us ++ rest, []⟩ = (newTuple rest >>= fun t => pure (ps.zip us ++ [(pv, t)])))
    (hb : ∀ (cdv : Value) (A : Around) (outer : List Env) (s : Shared) (H : Hp) (E : XK) (En : Ent m), RoomG k (A.deeper (envOfC qual (defScope st) s.heap.objs.size f cdv)) →
      ∃ t, PSs (cxOf CX0 P w K mg base N qual (defScope st) f cdv A outer s H E).nox (defBody st) (upS K m En t) ∧ ∀ ds s Qd, sp ds s Qd → t (endsOf Qd) (startD N ds) s) : FnS P w K mg base (k + 1) f (liftS K m n sp) := by
  subst hn
  refine FnS.imp (Fun.okS (sp := lift K m (ps.length + 1) sp) F S bind fun cdv A outer s H vs Q E hr h => ?_) fun vs H Q E h => lift_of h
  obtain ⟨hl, F0, ds, s0, Qd, sub, hm, hreg, rs, hsp, hQ⟩ := h
  obtain ⟨t, ht, hq⟩ := hb cdv A outer s H E ⟨F0, H, s0, fun _ _ _ _ => False⟩ hr
  refine ⟨_, ht.nox, F0, startD N ds, s0, _, rel_start sub hm hreg rs, ⟨Same.refl _, fun _ _ h _ => h, fun _ h => h, fun _ _ h => .inl h, fun _ h => .inl h, fun i p ⟨⟨o, e⟩, _⟩ => ?_⟩, hq ds s0 Qd hsp, ?_⟩
  · unfold startD at e
    by_cases hi : i < ds.length
    · rw [List.getElem?_append_left (by simpa using hi), List.getElem?_map, List.getElem?_eq_getElem hi] at e; cases e
    · rw [List.getElem?_append_right (by simpa using hi), List.getElem?_replicate] at e
      split at e <;> cases e
  · have cs : ∀ F' H' σ ρ s, Rel K m F' H' σ ρ s → Own m ⟨F0, H, s0, fun _ _ _ _ => False⟩ F' H' σ ρ s → CStp m F0 H s0 F' H' s := fun F' H' σ ρ s r o => ⟨o.ext, o.keep, o.alive, o.fresh, o.regf, r.sub, r.mem, r.reg⟩
    exact ⟨fun F' H' σ ρ s _ r o q => hQ .non s _ F' H' q (cs F' H' σ ρ s r o) rfl, fun F' H' σ ρ s d v _ r o rv q => hQ d s v F' H' q (cs F' H' σ ρ s r o) rv, fun _ _ _ _ _ _ _ _ q => q.elim, fun _ _ _ _ _ _ _ _ q => q.elim, fun _ _ _ _ _ _ _ _ _ _ _ _ _ _ _ _ _ _ _ _ q => q.elim⟩
end
/-! ### C.m(e, ..) -/
section
variable {X : Cx} {m : Mem} {C p g f : Addr} {mc : Value} {k : Nat} {o e : Expr} {es : List Expr} {mn x : Str} {pos apos px : Pos} {ta : TE} {t : TA} {pl : Sem Bool} {to : DT m} {u : DTA m} {fd : FuncData} {ps : List Str}
theorem run_S {pins : List (Addr × Obj)} {σ : L2.St} {H : Hp} {s : Shared} {Q : VK} {us : List Value} {vs : List V} {sp : Sp} (F : FnS X.prog X.w X.K X.mg X.base k f sp) (hr : RoomG k X.A) (I : Inv X pins σ H s) (r : Vals vs us) (h : sp vs H Q E0) :
    codeAny (model X.prog X.w) X.A (.call (.ref f) ⟨us, []⟩) (fun r s' => match r with | .ok (.ret v) => EP X pins σ Q v s' | .ok _ => False | .error e => X.xe e s') s := by
  refine codeAny_mono (F.run X.A X.stack s H us vs Q E0 hr I.env0 r h) fun r s' z => ?_
  rcases r with er | (_ | _ | _ | u)
  · exact z.elim
  · exact z.elim
  · exact z.elim
  · exact z.elim
  · exact I.after z
theorem pe_cmethS {sp : Sp} (he : PE X o ta) (r : ClX.CRead X.K C mc) (c : ClX.CMet X.K C mc mn p g) (F : FnS X.prog X.w X.K X.mg X.base k g sp) (hr : RoomG k X.A) (ha : PA X (e :: es) t)
    (hst : starEach (e :: es) X.env = (false, eval e X.env) :: starEach es X.env := by rfl) (hpl : (backTo pos (starEach es X.env)).any (·.1) = false := by rfl)
    (ht : eval (.Call (.Attribute o mn apos) (e :: es) [] pos) X.env = (do
      let ov ← eval o X.env
      standAt apos.atName
      let (f, first) ← holding [ov] (getMethod ov mn pl)
      callWith pos f first (backTo pos (starEach (e :: es) X.env)) (backToKw pos (keywordEach [] X.env))) := by rfl) :
    PE X (.Call (.Attribute o mn apos) (e :: es) [] pos) (ClX.tCMeth C sp E0 ta t) := by
  refine ⟨fun pins s σ H Q I h => ?_⟩
  refine PySem.W.methodCall_KW (pl := pl) (thn (he.run pins s σ H _ I h) fun u s1 ⟨x, H1, I1, rx, ex, q⟩ => ?_) ht
  subst ex
  obtain rfl : u = Value.ref C := rx
  refine ClX.getmethcm_ok I1 r c fun s2 I2 => ?_
  refine ClX.callwith_cm I2 (ClX.base_none I1 (Nat.le_refl _)) c.fi (thn (ha.run pos _ s2 σ H1 _ I2 q) fun us s3 ⟨vs, H2, I3, rv, q2⟩ => ⟨⟨ClX.pin_at I3, I3.kIn⟩, ?_⟩) hst hpl
  exact thn (wpAny_call (PySem.W.method_call (ClX.pin_at I3) (run_S (us := .ref C :: us) (vs := .ref C :: vs) F hr I3 (.cons rfl rv) q2))) fun _ _ y => ClX.unpinE y
def dCMeth {m : Mem} (C : Addr) (sp : DSp m) (to : DT m) (u : DTA m) : DT m := fun ρ s Q => to ρ s fun x ρ1 s1 => x = .any (.ref C) ∧ u ρ1 s1 fun ds ρ2 s2 => ds.length ≤ sizeLine ∧ sp [.any (.ref C), .tup ds] s2 fun d s' => Q d ρ2 s'
theorem de_cmeth {sp : DSp m} (r : ClX.CRead X.K C mc) (c : ClX.CMet X.K C mc mn p g) (F : FnS X.prog X.w X.K X.mg X.base k g (liftS X.K m 1 sp)) (hr : RoomG k X.A) (he : PE X o (up X.K m to)) (ha : PA X (e :: es) (upA X.K m u))
    (hst : starEach (e :: es) X.env = (false, eval e X.env) :: starEach es X.env := by rfl) (hpl : (backTo pos (starEach es X.env)).any (·.1) = false := by rfl)
    (ht : eval (.Call (.Attribute o mn apos) (e :: es) [] pos) X.env = (do
      let ov ← eval o X.env
      standAt apos.atName
      let (f, first) ← holding [ov] (getMethod ov mn pl)
      callWith pos f first (backTo pos (starEach (e :: es) X.env)) (backToKw pos (keywordEach [] X.env))) := by rfl) :
    PE X (.Call (.Attribute o mn apos) (e :: es) [] pos) (up X.K m (dCMeth C sp to u)) := PE.imp (pe_cmethS he r c F hr ha hst hpl ht) fun σ H Q h => by
  obtain ⟨F, ρ, s, Qd, rl, hto, hQ⟩ := h
  refine ⟨F, ρ, s, _, rl, hto, fun x ρ1 s1 v F1 H1 ⟨ex, q1⟩ r1 st1 rx => ?_⟩
  subst ex
  obtain rfl : v = V.ref C := rx
  refine ⟨rfl, F1, ρ1, s1, _, r1, q1, fun ds ρ2 s2 vs F2 H2 ⟨hz, q2⟩ r2 st2 rs => ?_⟩
  exact ⟨F2, [.any (.ref C)], ds, s2, _, [V.ref C], vs, rfl, rfl, by rw [rs.length]; exact hz, r2.sub, r2.mem, r2.reg, .one rfl, rs, q2, fun d s' w F3 H3 q3 c3 rw' => hQ d ρ2 s' w F3 H3 q3 (r2.call c3) ((st1.trans st2).trans c3.stp) rw'⟩
/-! ### cls(e, ..), cls a local that holds the class -/
theorem pe_instN {tf : TE} {sp : Sp} (hf : PE X (.Name x px) tf) (M : Mk X.K C f) (G : FnG X.prog X.w X.K X.mg X.base CX0 k f fd ps sp) (hr : RoomG (k + 1) X.A) (hb : Binds X.K fd ps []) (ha : PA X (e :: es) t)
    (he : starEach (e :: es) X.env = (false, eval e X.env) :: starEach es X.env := by rfl) (hpl : (backTo pos (starEach es X.env)).any (·.1) = false := by rfl) :
    PE X (.Call (.Name x px) (e :: es) [] pos) (fun σ H Q => tf σ H fun v H1 => v = V.ref C ∧ tMake C sp [] E0 t σ H1 Q) := by
  refine ⟨fun pins s σ H Q I h => wpAny_Call_Name_kw (thn (hf.run pins s σ H _ I h) fun fv s0 ⟨v, H0, I0, rv0, ev, h0⟩ => ?_)⟩
  subst ev
  obtain rfl : fv = Value.ref C := rv0
  refine PySem.W.callWith_K (h₀ := X.base) I0.ok.mod.kin M.kp (thn (ha.run pos pins s0 σ H0 _ I0 h0) fun us s1 ⟨vs, H1, I1, rv, q⟩ => ⟨I1.kIn, ?_⟩) he hpl
  have hq := q (s1.heap.objs.size + 1) s1.heap.objs.size (I1.hok.fresh (Nat.le_succ _)) (I1.hok.fresh (Nat.le_refl _)) (Nat.ne_of_lt (Nat.lt_succ_self _))
  rw [List.append_nil] at hq
  have J := Inv.made (C := C) I1
  have rr : Vals (V.ref (s1.heap.objs.size + 1) :: vs) (Value.ref (s1.heap.objs.size + 1) :: us) := .cons rfl rv
  have many : ((Value.ref (s1.heap.objs.size + 1) :: us) ++ []).length = ps.length := by
    rw [List.append_nil, ← rr.length]
    exact G.len _ _ _ _ hq
  have bd := hb _ (Value.ref (s1.heap.objs.size + 1) :: us) J.kIn many
  rw [List.append_nil] at bd
  refine wpAny_call (make_map (f := f) I1.kIn M.makes M.init (beq_iff_eq.mp M.fn) (codeAny_mono (G.run _ X.stack _ _ ⟨Value.ref (s1.heap.objs.size + 1) :: us, []⟩ _ _ _ E0 (hr.make C us []) (J.env0.make C us []) bd rr hq) fun r s' z => ?_))
  rcases r with er | (_ | _ | _ | u)
  · exact z.elim
  · exact z.elim
  · exact z.elim
  · exact z.elim
  · obtain ⟨v, H', J', r', ev, q2⟩ := J.after z
    subst ev
    exact ⟨r', ⟨.ref (s1.heap.objs.size + 1), H', J', rfl, q2⟩⟩
def dMakeN {m : Mem} (C : Addr) (tf : DT m) (sp : ISp m) (t : DTA m) : DT m := fun ρ s Q => tf ρ s fun d ρ1 s1 => d = .any (.ref C) ∧ dMake C sp t ρ1 s1 Q
theorem de_makeN {n : Nat} {sp : ISp m} {tf : DT m} (hf : PE X (.Name x px) (up X.K m tf)) (M : Mk X.K C f) (G : FnG X.prog X.w X.K X.mg X.base CX0 k f fd ps (liftI X.K m C n sp)) (hn : ∀ ds s Qd, sp ds s Qd → ds.length = n) (hr : RoomG (k + 1) X.A) (hb : Binds X.K fd ps []) (ha : PA X (e :: es) (upA X.K m u))
    (he : starEach (e :: es) X.env = (false, eval e X.env) :: starEach es X.env := by rfl) (hpl : (backTo pos (starEach es X.env)).any (·.1) = false := by rfl) :
    PE X (.Call (.Name x px) (e :: es) [] pos) (up X.K m (dMakeN C tf sp u)) := PE.imp (pe_instN hf M G hr hb ha he hpl) fun σ H Q h => by
  obtain ⟨F, ρ, s, Qd, rl, hto, hQ⟩ := h
  refine ⟨F, ρ, s, _, rl, hto, fun d ρ1 s1 v F1 H1 ⟨ed, q1⟩ r1 st1 rv => ?_⟩
  subst ed
  obtain rfl : v = V.ref C := rv
  exact ⟨rfl, up_make hn ⟨F1, ρ1, s1, _, r1, q1, fun d ρ2 s2 v F2 H2 q2 r2 st2 rv => hQ d ρ2 s2 v F2 H2 q2 r2 (st1.trans st2) rv⟩⟩
end
end DL

set_option Elab.async false
set_option linter.all false
set_option maxRecDepth 100000
/-! EM10: for k in f(x, y): f is asked knowing x alone, so that what it gives is seen to be new, and may be locked -/
namespace DL
open PySem PySem.Spec PyProof.Rows L2 TL TX TO
section
variable {X : Cx} {m : Mem} {e : Expr} {es : List Expr} {u : DTA m}
end
end DL
namespace DL
open PySem PySem.Spec PyProof.Rows L2 TL TX TO
section
variable {X : Cx} {m : Mem} {k : Nat} {C f : Addr} {fd : FuncData} {ps : List Str} {sp : DSp m} {a b : Expr} {ta tb : DT m} {pos : Pos}
end
end DL
namespace DL
open PySem PySem.Spec PyProof.Rows L2
theorem bindS {K : PySem.W.Frag} {x qual : Str} {st : Stmt} {f : Addr} {fd : FuncData} {p1 pv : Str} (F : Fun K x qual st f fd)
    (h0 : ∀ (kV doc pm : Value) (an : Option Addr) (cdv ct a : Value), bindArgs (PySem.W.fnOf x qual (defArgs st) (defBody st) (defScope st) .none kV doc pm an cdv ct) ⟨[a], []⟩ = (newTuple [] >>= fun t => pure [(p1, a), (pv, t)]))
    (h1 : ∀ (kV doc pm : Value) (an : Option Addr) (cdv ct a r : Value) (rs : List Value), bindArgs (PySem.W.fnOf x qual (defArgs st) (defBody st) (defScope st) .none kV doc pm an cdv ct) ⟨a :: r :: rs, []⟩ = (newTuple (r :: rs) >>= fun t => pure [(p1, a), (pv, t)])) :
    ∀ us rest : List Value, us.length = [p1].length → bindArgs fd ⟨us ++ rest, []⟩ = (newTuple rest >>= fun t => pure ([p1].zip us ++ [(pv, t)])) := by
  obtain ⟨oc, od, kV, doc, pm, an, cdv, ct, osl, rfl, lk, code⟩ := F.ex
  exact StX.bind_star1 (B := fun xs => bindArgs (PySem.W.fnOf x qual (defArgs st) (defBody st) (defScope st) .none kV doc pm an cdv ct) ⟨xs, []⟩) (h0 kV doc pm an cdv ct) (h1 kV doc pm an cdv ct)
end DL

set_option Elab.async false
set_option linter.all false
set_option maxRecDepth 100000
set_option maxHeartbeats 1000000
/-! EM11: {k: e for x in a if test}, each k a text that is new, over data -/
namespace DL
open PySem PySem.Spec PyProof.Rows L2 TL TX TO
section
variable {X : Cx} {m : Mem}
/-- what has been put in: the keys, the values -/
def dcK {m : Mem} (g : DG) (tt : DTT m) (tk tv : DT m) (vs : List Nat) (Q : DK m) : List D → List Sl → m.S → Prop := fun ds ρ1 s1 => ds.length ≤ 1000 ∧ ∃ I : List D → List Str → List D → m.S → Prop, I [] [] [] s1 ∧
  (∀ pre x post ks es s, ds = pre ++ x :: post → ks.length ≤ pre.length → I pre ks es s → g x (wipeD ρ1 vs) fun ρ2 => tt ρ2 s fun b ρ3 s3 => ρ3 = ρ2 ∧ ifB b (tk ρ2 s3 fun y ρ4 s4 => ρ4 = ρ2 ∧ tv ρ2 s4 fun z ρ5 s5 => ρ5 = ρ2 ∧ ∃ k, y = .str k ∧ k ∉ ks ∧ I (pre ++ [x]) (ks ++ [k]) (es ++ [z]) s5) (I (pre ++ [x]) ks es s3)) ∧
  (∀ ks es s, ks.length ≤ ds.length → I ds ks es s → Q (.dic (ks.map Sum.inr) es) ρ1 s)
def dDc {m : Mem} (src : DTI m) (g : DG) (tt : DTT m) (tk tv : DT m) (vs : List Nat) : DT m := fun ρ s Q => src ρ s (dcK g tt tk tv vs Q)
theorem up_dc {K : PySem.W.Frag} {src : DTI m} {g : DG} {tt : DTT m} {tk tv : DT m} {vs ts : List Nat} (hts : ∀ j ∈ ts, j ∈ vs) {σ : L2.St} {H : Hp} {Q : VK} {Qd : DK m} {F : Hp} {ρ : List Sl} {s : m.S} (r : Rel K m F H σ ρ s) (ht : dDc src g tt tk tv vs ρ s Qd)
    (hQ : ∀ (ks : List Str) es ρ' s' p kvs F' H', Qd (.dic (ks.map Sum.inr) es) ρ' s' → Rel K m F' H' σ ρ' s' → Stp m F H σ ρ s F' H' ρ' s' → H' p = some (.dK kvs) → F' p = none → ¬ m.R s' p → (∀ i, ¬ Owns σ ρ' i p) → H p = none → kvs.length ≤ sizeLine → kvs.map (·.1) = ks.map Sum.inr → Reps K F' es (kvs.map (·.2)) → Q (.ref p) H') :
    tDc (upI K m src) (upG K m ts g) (upT K m tt) (up K m tk) (up K m tv) vs σ H Q := by
  have big : (1000 : Nat) ≤ sizeLine := by rw [sizeLine_eq]; decide
  refine ⟨F, ρ, s, _, r, ht, fun ds ρ1 s1 J F1 H1 ⟨hz, I, i0, turn, done⟩ r1 st1 w D nD => ?_⟩
  have nF : F1 D = none := r1.sub.free nD
  have nR : ¬ m.R s1 D := fun z => m.there s1 H1 D r1.mem z nD
  have nO : ∀ i, ¬ Owns σ ρ1 i D := fun i ⟨⟨o, e⟩, hσ⟩ => by
    obtain ⟨p, ho, h1, h2, _⟩ := r1.own_at e
    rw [hσ] at h1; cases h1
    rw [nD] at h2; cases h2
  have nD0 : H D = none := by
    cases q : H D with
    | none => rfl
    | some u => exact absurd nD (st1.alive D (by rw [q]; simp))
  have r0 : Rel K m F1 (upd H1 D (.dK [])) σ ρ1 s1 := r1.hidW nF nR nO
  have st0 : Stp m F H σ ρ s F1 (upd H1 D (.dK [])) ρ1 s1 := st1.hidW nD0
  refine ⟨fun i n H2 => n = ds.length - i ∧ i ≤ ds.length ∧ ∃ F2 s2 ks es kvs, Rel K m F2 H2 σ ρ1 s2 ∧ Stp m F H σ ρ s F2 H2 ρ1 s2 ∧ Same F1 F2 ∧ H2 D = some (.dK kvs) ∧ F2 D = none ∧ ¬ m.R s2 D ∧ kvs.map (·.1) = ks.map Sum.inr ∧ Reps K F2 es (kvs.map (·.2)) ∧ ks.length ≤ i ∧ I (ds.take i) ks es s2,
    ⟨ds.length, by simp, Nat.zero_le _, F1, s1, [], [], [], r0, st0, Same.refl _, upd_same, nF, nR, rfl, .nil, Nat.le_refl _, by simpa using i0⟩, ?_⟩
  rintro i n H2 ⟨rfl, hi, F2, s2, ks, es, kvs, r2, st2, sm, hD, nF2, nR2, hk, rs, hacc, hI⟩
  obtain ⟨hstop, hgo⟩ := w F2 H2 sm r2.sub
  have kl : kvs.length = ks.length := by
    have := congrArg List.length hk
    rwa [List.length_map, List.length_map] at this
  by_cases hlt : i < ds.length
  · obtain ⟨h1, h2⟩ := hgo i _ (List.getElem?_eq_getElem hlt)
    have hsplit : ds = ds.take i ++ ds[i] :: ds.drop (i + 1) := by
      rw [List.getElem_cons_drop, List.take_append_drop]
    have etake : ds.take (i + 1) = ds.take i ++ [ds[i]] := List.take_succ_eq_append_getElem hlt
    refine .inr ⟨h1, fun H' => ∃ F' s' ks' es' kvs', Rel K m F' H' σ ρ1 s' ∧ Stp m F H σ ρ s F' H' ρ1 s' ∧ Same F1 F' ∧ H' D = some (.dK kvs') ∧ F' D = none ∧ ¬ m.R s' D ∧ kvs'.map (·.1) = ks'.map Sum.inr ∧ Reps K F' es' (kvs'.map (·.2)) ∧ ks'.length ≤ i + 1 ∧ I (ds.take (i + 1)) ks' es' s',
      fun H' ⟨F', s', ks', es', kvs', q⟩ => ⟨ds.length - (i + 1), by omega, rfl, hlt, F', s', ks', es', kvs', q⟩, fun x H3 y => ?_⟩
    obtain ⟨F3, g3, rv⟩ := h2 x H3 y
    have r3 := r2.grow g3
    obtain ⟨hD3, nF3⟩ := hid_grow g3 hD nF2
    have st3 := st2.trans (g3.stp (m := m) (s := s2) (ρ := ρ1) (σ := σ))
    have htk : (ds.take i).length = i := by rw [List.length_take]; omega
    refine ⟨F3, wipeD ρ1 vs, s2, ds[i], _, r3.wipe vs, rv, turn _ _ _ ks es _ hsplit (by omega) hI, fun σ2 ρ2 q2 r4 o4 k4 => ⟨(wipe_eq k4.1 k4.2 hts).trans wipe_wipe, ?_⟩⟩
    refine ⟨F3, ρ2, s2, _, r4, q2, fun b ρ3 s3 F4 H4 ⟨e, q3⟩ r5 st5 => ?_⟩
    subst e
    obtain ⟨hD4, nF4, nR4⟩ := st5.hid r5 hD3 nF3 nR2
    have r6 := r3.carry st5 r5
    have st6 := st3.trans (st5.outer (σ := σ) (ρ := ρ1) r5)
    have sm4 : Same F1 F4 := (sm.trans g3.fF).trans st5.ext
    have rs4 := Reps.mono (g3.fF.trans st5.ext) _ _ rs
    cases b with
    | false =>
      have q3 := ifB_f q3
      exact iteF ⟨F4, s3, ks, es, kvs, r6, st6, sm4, hD4, nF4, nR4, hk, rs4, by omega, by rw [etake]; exact q3⟩
    | true =>
      have q3 := ifB_t q3
      refine iteT ⟨F4, ρ3, s3, _, r5, q3, fun y ρ4 s4 v F5 H5 ⟨e, q4⟩ r7 st7 rvy => ?_⟩
      subst e
      obtain ⟨hD5, nF5, nR5⟩ := st7.hid r7 hD4 nF4 nR4
      have r8 := r6.carry st7 r7
      have st8 := st6.trans (st7.outer (σ := σ) (ρ := ρ1) r7)
      refine ⟨F5, ρ4, s4, _, r7, q4, fun z ρ5 s5 u F6 H6 ⟨e, k, ey, nk, q5⟩ r9 st9 rvz => ?_⟩
      subst e
      subst ey
      obtain ⟨rfl, _⟩ := rvy
      obtain ⟨hD6, nF6, nR6⟩ := st9.hid r9 hD5 nF5 nR5
      have r10 := r8.carry st9 r9
      have st10 := st8.trans (st9.outer (σ := σ) (ρ := ρ1) r9)
      have new : ∀ q ∈ kvs, q.1 ≠ Sum.inr k := fun q hq e => by
        have : q.1 ∈ kvs.map (·.1) := List.mem_map_of_mem hq
        rw [hk, e] at this
        obtain ⟨k', h', e'⟩ := List.mem_map.mp this
        rw [Sum.inr.inj e'] at h'
        exact nk h'
      refine ⟨kvs, .inr k, rfl, hD6, by omega, F6, s5, ks ++ [k], es ++ [z], kvs ++ [(.inr k, u)], ?_, ?_, (sm4.trans st7.ext).trans st9.ext, ?_, nF6, nR6, ?_, ?_, by rw [List.length_append, List.length_singleton]; omega, by rw [etake]; exact q5⟩
      · exact r10.hidW nF6 nR6 nO
      · exact st10.hidW nD0
      · rw [putK_new new]; exact upd_same
      · rw [List.map_append, List.map_append, hk]; rfl
      · rw [List.map_append]
        exact (Reps.mono (st7.ext.trans st9.ext) _ _ rs4).append (.one rvz)
  · have e : i = ds.length := by omega
    subst e
    rw [List.take_length] at hI
    exact .inl ⟨hstop _ (Nat.le_refl _), hQ ks es ρ1 s2 D kvs F2 H2 (done ks es s2 hacc hI) r2 st2 hD nF2 nR2 nO nD0 (by omega) hk rs⟩
theorem de_dc {kx vx tg iter : Expr} {ifs : List Expr} {scope : Scope} {own : List (Str × Nat)} {pos : Pos} {src : DTI m} {g : DG} {ts : List Nat} {tt : DTT m} {tk tv : DT m} (hN : X.N.Nodup) (hi : PI X tg iter (upI X.K m src)) (ok : BlkOk X.N X.env.scope scope own)
    (hg : ∀ (s : Shared) (H : Hp) (C : Addr) (cl : List (Str × Addr)) (fp : List Addr), PG (X.blk s H scope (compEnvC scope cl C X.env) fp) tg (upG X.K m ts g)) (ht : ∀ (s : Shared) (H : Hp) (C : Addr) (cl : List (Str × Addr)) (fp : List Addr), PTs (X.blk s H scope (compEnvC scope cl C X.env) fp) ifs (upT X.K m tt))
    (hk : ∀ (s : Shared) (H : Hp) (C : Addr) (cl : List (Str × Addr)) (fp : List Addr), PE (X.blk s H scope (compEnvC scope cl C X.env) fp) kx (up X.K m tk))
    (he : ∀ (s : Shared) (H : Hp) (C : Addr) (cl : List (Str × Addr)) (fp : List Addr), PE (X.blk s H scope (compEnvC scope cl C X.env) fp) vx (up X.K m tv)) (hts : ∀ j ∈ ts, j ∈ own.map (·.2) := by decide) (hc : X.calm = true := by rfl) (hs : ∀ x, foldedSetIterable iter X.env x = pure x := by intro _; rfl) :
    PE X (.DictComp kx vx [⟨tg, iter, ifs, 0⟩] scope pos) (up X.K m (dDc src g tt tk tv (own.map (·.2)))) := PE.imp (pe_dc hc hN hi ok hg ht hk he hs) fun σ H Q h => by
  obtain ⟨F, ρ, s, Qd, r, h, hQ⟩ := h
  refine up_dc hts r h fun ks es ρ' s' p kvs F' H' q r' st hp nF nR nO nH hz hkk rs => ?_
  have sm : Same F' (upd F' p (.dK kvs)) := same_upd nF
  refine hQ _ ρ' s' _ (upd F' p (.dK kvs)) H' q (r'.adopt hp nF nR nO) ⟨st.ext.trans sm, st.keep, st.alive, fun a o e => ?_, st.regf, st.shr⟩ ⟨p, kvs, rfl, upd_same, hz, hkk, Reps.mono sm _ _ rs⟩
  by_cases ha : a = p
  · subst ha; exact .inr (.inl nH)
  · rw [upd_ne ha] at e; exact st.fresh a o e
end
end DL

set_option Elab.async false
set_option linter.all false
set_option maxRecDepth 100000
set_option maxHeartbeats 1000000
/-! EM12: tuple(zip(a, b)) of two tuples -/
namespace ZN
open PySem PySem.Spec PyProof.Rows L2 RZ
open PySem.Sem (wp)
open AutoSeq1 (wpAny_loadPart')
/-- the zip, what it holds and its sources, at turn i -/
structure ZSt (h : Heap) (z TI TO i1 i2 l1 l2 : Addr) (xs ys : Array Value) (i : Nat) : Prop where
  hz : ∃ f0 f1, IsZ h z TI TO f0 f1 ∧ Mark f0
  hTI : IsPair h TI (.ref i1) (.ref i2)
  hTO : ∃ x y, IsPair h TO x y
  h1 : h.IsTupleIter i1 l1 i
  h2 : h.IsTupleIter i2 l2 i
  hl1 : h.IsTuple l1 xs
  hl2 : h.IsTuple l2 ys
theorem ZSt.keep {h h' : Heap} {z TI TO i1 i2 l1 l2 : Addr} {xs ys : Array Value} {i : Nat} (q : ZSt h z TI TO i1 i2 l1 l2 xs ys i) {S : Addr} (k : ∀ b o, b ≠ S → h.get? b = some o → h'.get? b = some o)
    (n : S ∉ [z, TI, TO, i1, i2, l1, l2]) : ZSt h' z TI TO i1 i2 l1 l2 xs ys i := by
  simp only [List.mem_cons, List.not_mem_nil, or_false, not_or] at n
  obtain ⟨n1, n2, n3, n4, n5, n6, n7⟩ := n
  obtain ⟨⟨f0, f1, hz, m⟩, hTI, ⟨x, y, hTO⟩, h1, h2, hl1, hl2⟩ := q
  refine ⟨⟨f0, f1, k z _ (Ne.symm n1) hz, m⟩, k TI _ (Ne.symm n2) hTI, ⟨x, y, k TO _ (Ne.symm n3) hTO⟩, h1.at fun o q => k i1 o (Ne.symm n4) q, h2.at fun o q => k i2 o (Ne.symm n5) q, ?_, ?_⟩
  · obtain ⟨o, ho, r⟩ := hl1; exact ⟨o, k l1 o (Ne.symm n6) ho, r⟩
  · obtain ⟨o, ho, r⟩ := hl2; exact ⟨o, k l2 o (Ne.symm n7) ho, r⟩
/-- the pairs that have been handed out -/
structure MadeZ (xs ys : Array Value) (lo : Addr) (h : Heap) (as : List Addr) : Prop where
  rise : as.Pairwise (· < ·)
  above : ∀ a ∈ as, lo < a
  pairs : ∀ (j : Nat) (a : Addr), as[j]? = some a → ∃ x y, xs[j]? = some x ∧ ys[j]? = some y ∧ IsPair h a x y
theorem MadeZ.there {xs ys : Array Value} {lo : Addr} {h : Heap} {as : List Addr} (g : MadeZ xs ys lo h as) {a : Addr} (ha : a ∈ as) : a < h.objs.size := by
  obtain ⟨j, hj⟩ := List.mem_iff_getElem?.mp ha
  obtain ⟨_, _, _, _, e⟩ := g.pairs j a hj
  exact Heap.lt_size e
section
variable {prog : Program} {w : World} {A : Around} {s : Shared} {R : Result → Shared → Prop} {xs ys : Array Value}
end
section
variable {prog : Program} {w : World} {A : Around} {E : Value → Shared → Prop} {s : Shared} {xs ys : Array Value}
end
section
variable {prog : Program} {w : World} {A : Around} {E : Value → Shared → Prop} {s : Shared} {xs ys : Array Value}
end
end ZN
namespace ZN
open PySem PySem.Spec PyProof.Rows L2 RZ
end ZN
namespace DL
open PySem PySem.Spec PyProof.Rows L2 TL
section
variable {X : Cx} {m : Mem} {ta : DTA m}
end
end DL

set_option Elab.async false
set_option linter.all false
set_option maxRecDepth 100000
set_option maxHeartbeats 1000000
/-! EM13: any data in a tuple or a list of pairs of texts -/
namespace DL
open PySem PySem.Spec PyProof.Rows L2 TL
open SeqAt (EqAt RcAt)
section
variable {A : Around} {s : Shared}
end
section
variable {X : Cx}
end
end DL

set_option Elab.async false
set_option linter.all false
set_option maxRecDepth 100000
set_option maxHeartbeats 1000000
/-! EM14: a value that is smaller than what is owned does not hold it: behind it the own lists are the slots' own again -/
namespace DL
open PySem PySem.Spec PyProof.Rows L2 TL TX TO
section
variable {X : Cx} {pins : List (Addr × Obj)} {σ : L2.St} {H : Hp} {s : Shared}
end
section
variable {X : Cx} {m : Mem} {e : Expr} {te : DT m}
end
end DL

set_option Elab.async false
set_option linter.all false
set_option maxRecDepth 100000
set_option maxHeartbeats 1000000
/-! ZL: zip of two lists, its pairs under one name; list(zip(a, b)): as ZN and EM12, over lists -/
namespace ZL
open PySem PySem.Spec PyProof.Rows L2 RZ ZN
open PySem.Sem (wp)
section
variable {prog : Program} {w : World} {A : Around} {E : Value → Shared → Prop} {s : Shared}
end
/-- the zip, what it holds and its sources, at turn i -/
structure ZSt (h : Heap) (z TI TO i1 i2 l1 l2 : Addr) (xs ys : Array Value) (i : Nat) : Prop where
  hz : ∃ f0 f1, IsZ h z TI TO f0 f1 ∧ Mark f0
  hTI : IsPair h TI (.ref i1) (.ref i2)
  hTO : ∃ x y, IsPair h TO x y
  h1 : h.IsListIter i1 l1 i
  h2 : h.IsListIter i2 l2 i
  hl1 : h.IsList l1 xs
  hl2 : h.IsList l2 ys
theorem ZSt.keep {h h' : Heap} {z TI TO i1 i2 l1 l2 : Addr} {xs ys : Array Value} {i : Nat} (q : ZSt h z TI TO i1 i2 l1 l2 xs ys i) {S : Addr} (k : ∀ b o, b ≠ S → h.get? b = some o → h'.get? b = some o)
    (n : S ∉ [z, TI, TO, i1, i2, l1, l2]) : ZSt h' z TI TO i1 i2 l1 l2 xs ys i := by
  simp only [List.mem_cons, List.not_mem_nil, or_false, not_or] at n
  obtain ⟨n1, n2, n3, n4, n5, n6, n7⟩ := n
  obtain ⟨⟨f0, f1, hz, m⟩, hTI, ⟨x, y, hTO⟩, h1, h2, hl1, hl2⟩ := q
  refine ⟨⟨f0, f1, k z _ (Ne.symm n1) hz, m⟩, k TI _ (Ne.symm n2) hTI, ⟨x, y, k TO _ (Ne.symm n3) hTO⟩, h1.at fun o q => k i1 o (Ne.symm n4) q, h2.at fun o q => k i2 o (Ne.symm n5) q, ?_, ?_⟩
  · obtain ⟨o, ho, r⟩ := hl1; exact ⟨o, k l1 o (Ne.symm n6) ho, r⟩
  · obtain ⟨o, ho, r⟩ := hl2; exact ⟨o, k l2 o (Ne.symm n7) ho, r⟩
section
variable {prog : Program} {w : World} {A : Around} {s : Shared} {R : Result → Shared → Prop} {xs ys : Array Value}
end
section
variable {prog : Program} {w : World} {A : Around} {s : Shared} {R : Result → Shared → Prop} {xs ys : Array Value}
end
section
variable {prog : Program} {w : World} {A : Around} {E : Value → Shared → Prop} {s : Shared} {xs ys : Array Value}
end
end ZL
namespace DL
open PySem PySem.Spec PyProof.Rows L2 TL
section
variable {X : Cx} {m : Mem} {ta : DTA m}
end
end DL

set_option Elab.async false
set_option linter.all false
set_option maxRecDepth 100000
set_option maxHeartbeats 1000000
/-! EM15: {k: e for x in a if test}, each k a text, new or not, over data -/
namespace DL
open PySem PySem.Spec PyProof.Rows L2 TL TX TO
section
variable {X : Cx} {m : Mem}
end
end DL

set_option Elab.async false
set_option linter.all false
set_option maxRecDepth 100000
set_option maxHeartbeats 1000000
/-! EM16: x = list(zip(a, b)), a list that the def will change -/
namespace DL
open PySem PySem.Spec PyProof.Rows L2 TL
section
variable {X : Cx} {m : Mem} {ta : DTA m} {E : Ent m}
end
end DL

set_option Elab.async false
set_option linter.all false
set_option maxRecDepth 100000
set_option maxHeartbeats 1000000
/-! EM17: a lambda with parameters is run; min(x, key=lambda e: (len(e), e), default=None) -/
namespace DL
open PySem PySem.Spec PyProof.Rows L2 TL LamX
section
variable {X : Cx} {pins : List (Addr × Obj)} {σ : L2.St} {H : Hp} {s s' : Shared}
end
end DL

set_option Elab.async false
set_option linter.all false
set_option maxRecDepth 100000
set_option maxHeartbeats 1000000
/-! EM18: tables of code objects as a part of the state; a lambda is made -/
namespace DL
open PySem PySem.Spec PyProof.Rows L2 TL LamX
section
variable {X : Cx} {pins : List (Addr × Obj)} {σ : L2.St} {H : Hp} {s : Shared}
end
end DL

set_option Elab.async false
set_option linter.all false
set_option maxRecDepth 100000
set_option maxHeartbeats 1000000
/-! EM19: min(x, key=lambda e: (len(e), e), default=None) -/
namespace DL
open PySem PySem.Spec PyProof.Rows L2 TL LamX
section
variable {X : Cx}
end
section
variable {K : PySem.W.Frag} {m : Mem} {T : List (Addr × Str)} {F H H2 : Hp} {σ : L2.St} {ρ : List Sl} {s : m.S} {g : Addr → Array Value} {P c' : Addr} {q : Str} {ps' : Array Value}
end
end DL

set_option Elab.async false
set_option linter.all false
set_option maxRecDepth 100000
set_option maxHeartbeats 1000000
/-! EM20: the law's call where defs make lambdas (tables of code objects) -/
namespace DL
open PySem PySem.Spec PyProof.Rows L2 TL LamX
section
variable {P : Program} {w : World} {K : PySem.W.Frag} {mg mb : Str → Option Value} {k : Nat} {fa a : Addr} {fd : FuncData} {x : Str} {sp : Sp} {s : Shared} {vs : List Value} {ns : List Int} {ts : List Addr} {cs : List (Addr × Addr)}
end
end DL

set_option Elab.async false
set_option linter.all false
set_option maxRecDepth 100000
set_option maxHeartbeats 1000000
/-! EM21: a def whose code object is told; the law's start with tables; where code objects and tables stand -/
namespace DL
open PySem PySem.Spec PyProof.Rows L2 TL LamX
section
variable {P : Program} {w : World} {K : PySem.W.Frag} {mg : Str → Option Value} {base : Heap} {m : Mem}
end
end DL

set_option Elab.async false
set_option linter.all false
set_option maxRecDepth 100000
set_option maxHeartbeats 1000000
/-! EM22: the tables by the defs that make lambdas; the walk -/
namespace DL
open PySem PySem.Spec PyProof.Rows L2 TL LamX
end DL

set_option Elab.async false
set_option linter.all false
set_option maxRecDepth 100000
set_option maxHeartbeats 1000000
namespace RP
open PySem PySem.Spec PyProof.Rows L2 TL DL TX TO RG
end RP

set_option Elab.async false
set_option linter.all false
set_option maxRecDepth 100000
set_option maxHeartbeats 1000000
/-! LP10: uses that go onward; the fewest of them that join the same modules -/
namespace RP
open PySem PySem.Spec PyProof.Rows L2 TL DL TX TO RG
def Onw (us : List (Str × Str)) (r : Str → Nat) : Prop := ∀ u ∈ us, r u.1 < r u.2
section
variable {us vs : List (Str × Str)} {r : Str → Nat} {a b x y : Str} {u : Str × Str}
theorem Rc.le (h : Onw us r) (q : Rc us a b) : r a ≤ r b := by
  induction q with
  | here => exact Nat.le_refl _
  | on _ hu ih => exact Nat.le_trans ih (Nat.le_of_lt (h _ hu))
theorem Rc.lt (h : Onw us r) (q : Rc us a b) (ne : b ≠ a) : r a < r b := by
  cases q with
  | here => exact absurd rfl ne
  | on q hu => exact Nat.lt_of_le_of_lt (q.le h) (h _ hu)
theorem Rc.pre (hu : (a, x) ∈ us) (q : Rc us x b) : Rc us a b := Rc.trans (.on .here hu) q
/-- us joins what vs joins, if each use of vs is a way of us -/
theorem Rc.lift (h : ∀ v ∈ vs, Rc us v.1 v.2) (q : Rc vs a b) : Rc us a b := by
  induction q with
  | here => exact .here
  | on _ hu ih => exact ih.trans (h _ hu)
end
/-! ### the fewest -/
section
variable {us : List (Str × Str)} {r : Str → Nat}
end
/-! ### all pairs that are joined -/
end RP

set_option Elab.async false
set_option linter.all false
set_option maxRecDepth 100000
set_option maxHeartbeats 1000000
namespace RP
open PySem PySem.Spec PyProof.Rows L2 TL DL TX TO RG
def endsS (us : List (Str × Str)) : List Str := srt lessS (once (us.flatMap fun u => [u.1, u.2]))
theorem ends_mem {us : List (Str × Str)} {x : Str} : x ∈ endsS us ↔ ∃ u ∈ us, x = u.1 ∨ x = u.2 := by
  unfold endsS
  rw [mem_srt, once_mem, List.mem_flatMap]
  refine exists_congr fun u => and_congr_right fun _ => ?_
  simp
def spPairP {m : Mem} : DSp m := fun ds s Q => ∃ u, ds = [ptD u] ∧ PathS u.1 ∧ PathS u.2 ∧ u.1 ≠ u.2 ∧ Q (.bl true) s
theorem spPairP_len {m : Mem} : ∀ ds s Qd, (spPairP : DSp m) ds s Qd → ds.length = 1 := fun ds s Qd ⟨_, e, _⟩ => by rw [e]; rfl
def spOf {m : Mem} (C : Addr) : DSp m := fun ds s Q => ∃ us, ds = [.any (.ref C), .tup ((us : List (Str × Str)).map ptD)] ∧ (∀ u ∈ us, PathS u.1 ∧ PathS u.2 ∧ u.1 ≠ u.2) ∧ us.Nodup ∧ Mods (endsS us) ∧ (endsS us).length ≤ 24 ∧ us.length ≤ 75 ∧ Q (progD C (endsS us) us) s
theorem val_path {x : Str} (h : PathS x) : Val (.str x) := ⟨⟨.str, rfl⟩, fun y e => by cases e; have := h.2; omega⟩
theorem uses_less {ms : List Str} {us : List (Str × Str)} (hu : Uses ms us) {p : Str × Str → Bool} : Uses ms (us.filter p) := ⟨hu.nd.sublist List.filter_sublist, fun u h => hu.ok u (List.mem_filter.mp h).1⟩
theorem mods_apart {ms : List Str} (hm : Mods ms) {x y : Str} (hx : x ∈ ms) (hy : y ∈ ms) (ne : x ≠ y) : ovS x y = false := by
  obtain ⟨i, hi, ei⟩ := List.mem_iff_getElem.mp hx
  obtain ⟨j, hj, ej⟩ := List.mem_iff_getElem.mp hy
  have pw := List.pairwise_iff_getElem.mp hm.alone
  rcases Nat.lt_trichotomy i j with z | z | z
  · have q := pw i j hi hj z
    rwa [ei, ej] at q
  · subst z; exact absurd (ei.symm.trans ej) ne
  · have q := pw j i hj hi z
    rw [ei, ej] at q
    rw [ovS_comm]; exact q
theorem map_pt_inj : ∀ {us vs : List (Str × Str)}, us.map ptD = vs.map ptD → us = vs
  | [], [], _ => rfl
  | [], _ :: _, h => by cases h
  | _ :: _, [], h => by cases h
  | u :: us, v :: vs, h => by
    rw [List.map_cons, List.map_cons] at h
    injection h with h1 h2
    have h1 : D.tup [.str u.1, .str u.2] = D.tup [.str v.1, .str v.2] := h1
    injection h1 with h1
    injection h1 with h3 h4
    injection h3 with h3
    injection h4 with h4
    injection h4 with h4
    rw [map_pt_inj h2, Prod.ext h3 h4]

def T_pairp21 {m : Mem} : DTS m :=
  (dRet (dAndV (dB isiD (daCons (dVar 0) (daCons (dC (D.any (V.ty "tuple"))) daNil))) (dAndV (dCm eqC (dB lenD (daCons (dVar 0) daNil)) (dC (D.int 2))) (dAndV (dCall spIsPath (daCons (dOp ixD (dVar 0) (dC (D.int 0))) daNil)) (dAndV (dCall spIsPath (daCons (dOp ixD (dVar 0) (dC (D.int 1))) daNil)) (dCm neC (dOp ixD (dVar 0) (dC (D.int 0))) (dOp ixD (dVar 0) (dC (D.int 1)))))))))
theorem read_pairp21 {m : Mem} : ∀ ds s Qd, (spPairP : DSp m) ds s Qd → (T_pairp21 : DTS m) (endsOf Qd) (startD ["value"] ds) s := by
  intro ds s Qd h
  obtain ⟨u, rfl, h1, h2, h3, hQ⟩ := h
  refine ⟨_, .tup, .tup, rfl, rfl, (by intro z; cases z), _, rfl, ?_⟩
  refine ⟨_, _, rfl, rfl, rfl, rfl, _, rfl, ?_⟩
  refine ⟨.str u.1, atI_nat (j := 0) rfl, .str u.1, rfl, val_path h1, ?_⟩
  rw [show isPathD (.str u.1) = true from h1.1]
  refine ⟨_, rfl, .str u.2, atI_nat (j := 1) rfl, .str u.2, rfl, val_path h2, ?_⟩
  rw [show isPathD (.str u.2) = true from h2.1]
  refine ⟨_, rfl, .str u.1, atI_nat (j := 0) rfl, .str u.2, atI_nat (j := 1) rfl, rfl, rfl, ?_⟩
  rw [eqs, decide_eq_false h3]
  exact hQ
def T_of21 (a : Nat → Addr) {m : Mem} : DTS m :=
  (dSeq (dFor (dEnumA (daCons (dVar 1) daNil)) (gTup' 2 (gCons' (gN 3) (gCons' (gN 4) gNil')))
        (dIf (dNotT (dTr (dCall spPairP (daCons (dVar 4) daNil)))) dNever dNext))
      (dSeq (dSet 2 (dTwo (diSeq (dVar 1)) (gN 4) (diSeq (dVar 4)) (gN 5) (dVar 5) [4, 5] [5]))
      (dRet (dMakeN (a 27) (dVar 0) spProgI (daCons (dB tupD (daCons (dVar 2) daNil)) (daCons (dVar 1) daNil))))))
theorem read_of21 {a : Nat → Addr} {m : Mem} : ∀ ds s Qd, (spOf (a 27) : DSp m) ds s Qd → (T_of21 a : DTS m) (endsOf Qd) (startD ["cls", "uses", "modules", "index", "use", "module"] ds) s := by
  intro ds s Qd h
  obtain ⟨us, rfl, hp, nd, hm, hl, h75, hQ⟩ := h
  have zl : ∀ n, n ≤ 2000 → n ≤ sizeLine := fun n h => line_of (by omega)
  refine ⟨_, _, rfl, .inr rfl, fun pre ρ s' => s' = s ∧ ∃ c3 c4, ρ = [.sh (.any (.ref (a 27))), .sh (.tup (us.map ptD)), .no, c3, c4, .no], ⟨rfl, _, _, rfl⟩, ?_, ?_⟩
  · rintro pre y post ρ s' e ⟨rfl, c3, c4, rfl⟩
    obtain ⟨y0, hy0, rfl⟩ := enum_split e
    rw [List.getElem?_map] at hy0
    obtain ⟨u, hu, rfl⟩ := Option.map_eq_some_iff.mp hy0
    obtain ⟨p1, p2, p3⟩ := hp u (List.mem_of_getElem? hu)
    exact ⟨_, rfl, rfl, _, _, rfl, _, _, rfl, rfl, u, rfl, p1, p2, p3, _, rfl, rfl, _, _, rfl⟩
  · rintro ρ s' ⟨rfl, c3, c4, rfl⟩
    refine ⟨_, rfl, fun pre acc s1 => s1 = s' ∧ ∃ done : List (Str × Str), pre = done.map ptD ∧ acc = done.flatMap fun u => [u.1, u.2], ⟨rfl, [], rfl, rfl⟩, ?_, ?_⟩
    · rintro pre y post acc s1 e ⟨rfl, done, rfl, rfl⟩
      obtain ⟨u, hu, rfl, -⟩ := mid_map e
      have hlt : done.length < us.length := by
        have := (List.getElem?_eq_some_iff.mp hu).1
        rwa [List.length_map] at this
      have few : (done.flatMap fun u => [u.1, u.2]).length = 2 * done.length := by
        clear e hu hlt
        induction done with
        | nil => rfl
        | cons d done ih =>
          rw [List.flatMap_cons, List.length_append, ih]
          show 2 + 2 * _ = 2 * (_ + 1)
          omega
      refine ⟨_, rfl, rfl, fun pre1 acc1 s2 => s2 = s1 ∧ ∃ d : List Str, pre1 = d.map D.str ∧ d.length = pre1.length ∧ acc1 = (done.flatMap fun u => [u.1, u.2]) ++ d, ⟨rfl, [], rfl, rfl, by rw [List.append_nil]⟩, ?_, ?_⟩
      · rintro pre1 z post1 acc1 s2 e1 ⟨rfl, d, rfl, hd, rfl⟩
        have l2 : d.length < 2 := by
          have : ([D.str u.1, D.str u.2] : List D).length = (d.map D.str ++ z :: post1).length := congrArg List.length e1
          rw [List.length_append, List.length_cons, List.length_map] at this
          simp at this
          omega
        obtain ⟨x, rfl⟩ : ∃ x, z = D.str x := by
          have hz : z ∈ ([D.str u.1, D.str u.2] : List D) := by
            have e1 : ([D.str u.1, D.str u.2] : List D) = d.map D.str ++ z :: post1 := e1
            rw [e1]; simp
          rcases List.mem_cons.mp hz with q | q
          · exact ⟨_, q⟩
          · exact ⟨_, List.mem_singleton.mp q⟩
        refine ⟨by rw [List.length_append, few]; omega, rfl, x, rfl, rfl, d ++ [x], by rw [List.map_append]; rfl, by rw [List.length_append, List.length_append, List.length_map]; rfl, by rw [List.append_assoc]⟩
      · rintro acc1 s2 ⟨rfl, d, hd, hdl, rfl⟩
        have hd : ([u.1, u.2] : List Str).map D.str = d.map D.str := hd
        have hd := map_str_inj hd
        subst hd
        refine ⟨rfl, done ++ [u], by rw [List.map_append]; rfl, ?_⟩
        rw [List.flatMap_append]; rfl
    · rintro acc s1 ⟨rfl, done, hd, rfl⟩
      have hd : us = done := map_pt_inj hd
      subst hd
      have few : ∀ ws : List (Str × Str), (ws.flatMap fun u => [u.1, u.2]).length = 2 * ws.length := fun ws => by
        induction ws with
        | nil => rfl
        | cons d ws ih =>
          rw [List.flatMap_cons, List.length_append, ih]
          show 2 + 2 * _ = 2 * (_ + 1)
          omega
      refine ⟨by rw [few]; omega, ?_⟩
      exact ⟨rfl, _, _, rfl, rfl, endsS us, us, rfl, hm, ⟨nd, fun u hu => ⟨ends_mem.mpr ⟨u, hu, .inl rfl⟩, ends_mem.mpr ⟨u, hu, .inr rfl⟩, (hp u hu).2.2⟩⟩, hl, h75, hQ⟩
def T_sub08 (a : Nat → Addr) {m : Mem} : DTS m :=
  (dRet (dMake (a 27) spProgI (daCons (dFld (a 27) (Str.ofString "_modules") (dVar 0)) (daCons (dB tupD (daCons (dLc (diSeq (dFld (a 27) (Str.ofString "_uses") (dVar 0))) (gN 2) (dCmT (inTD true) (dVar 2) (dProp (a 27) (spGetU (a 27)) (dVar 1))) (dVar 2) [2]) daNil)) daNil))))
theorem read_sub08 {a : Nat → Addr} {m : Mem} : ∀ ds s Qd, (spSub (a 27) : DSp m) ds s Qd → (T_sub08 a : DTS m) (endsOf Qd) (startD ["self", "other", "use"] ds) s := by
  intro ds s Qd h
  obtain ⟨ms, us, ns, vs, rfl, hm, hu, l1, l2, hQ⟩ := h
  refine ⟨_, _, _, rfl, rfl, _, _, _, rfl, rfl, _, rfl, lcF (p := fun x => !decide (x ∈ vs)) (f := ptD) (h := ptD) _ (by rw [srt_len]; omega) (fun x hx T U t f => ?_) ?_⟩
  · refine ⟨⟨_, _, rfl⟩, ns, vs, rfl, _, rfl, rfl, plain_prs 57 _, ?_⟩
    rw [any_pr, Bool.true_xor, decide_eq_decide.mpr (mem_srt (lt := lessP) (l := vs) (x := x))]
    exact ⟨rfl, ifB2 (fun h => ⟨rfl, t h⟩) fun h => f h⟩
  have p1 := srt_perm (lt := lessS) ms
  have p2 := (srt_perm (lt := lessP) us).filter fun x => !decide (x ∈ vs)
  refine ⟨_, _, rfl, rfl, _, _, rfl, hm.perm p1, (hu.sub List.filter_sublist).perm p1 p2, ?_, ?_, ?_⟩
  · rw [srt_len]; exact l1
  · rw [p2.length_eq]; exact Nat.le_trans (List.length_filter_le _ _) l2
  have z := prog_perm (C := a 27) p1 p2
  rw [← z] at hQ
  exact hQ
end RP

set_option Elab.async false
set_option linter.all false
set_option maxRecDepth 100000
set_option maxHeartbeats 1000000
namespace RP
open PySem PySem.Spec PyProof.Rows L2 TL DL TX TO RG
end RP

set_option Elab.async false
set_option linter.all false
set_option maxRecDepth 100000
set_option maxHeartbeats 1000000
/-! LP12: chains and rings turned round, and with fewer uses (for k17) -/
namespace RP
open PySem PySem.Spec PyProof.Rows L2 TL DL TX TO
def swapU (us : List (Str × Str)) : List (Str × Str) := us.map fun u => (u.2, u.1)
theorem swapU_mem {us : List (Str × Str)} {x y : Str} : (x, y) ∈ swapU us ↔ (y, x) ∈ us := by
  unfold swapU
  rw [List.mem_map]
  constructor
  · rintro ⟨u, hu, e⟩
    injection e with e1 e2
    rw [← e1, ← e2]; exact hu
  · intro h
    exact ⟨(y, x), h, rfl⟩
theorem Uses.swap {ms : List Str} {us : List (Str × Str)} (h : Uses ms us) : Uses ms (swapU us) := by
  refine ⟨?_, fun u hu => ?_⟩
  · unfold swapU
    refine List.pairwise_map.mpr (h.nd.imp fun {u v} z e => z ?_)
    injection e with e1 e2
    exact Prod.ext e2 e1
  · have : (u.2, u.1) ∈ us := swapU_mem.mp hu
    have z := h.ok _ this
    exact ⟨z.2.1, z.1, fun e => z.2.2 e.symm⟩
theorem wy_cons {nx : Str → List Str} {x y s : Str} {v : List Str} (hx : x ∈ nx y) (h : Wy nx x v s) : Wy nx y (y :: v) s := by
  induction h with
  | one => exact Wy.on (w := [y]) .one hx
  | on _ hz ih => exact Wy.on (w := y :: _) ih hz
theorem wy_rev {nx nx' : Str → List Str} (hr : ∀ x y, y ∈ nx x → x ∈ nx' y) {s x : Str} {w : List Str} (h : Wy nx s w x) : Wy nx' x w.reverse s := by
  induction h with
  | one => exact .one
  | on _ hy ih =>
    rw [List.reverse_append]
    exact wy_cons (hr _ _ hy) ih
end RP

set_option Elab.async false
set_option linter.all false
set_option maxRecDepth 100000
set_option maxHeartbeats 1000000
/-! LP13: groups (for k14 and k17) -/
namespace RP
open PySem PySem.Spec PyProof.Rows L2 TL DL TX TO
/-- R x y: chains lead from x to y, another one -/
def grpS (ks : List Str) (R : Str → Str → Bool) (m : Str) : List Str := ks.filter fun o => decide (o = m) || (R m o && R o m)
def grps (ks : List Str) (R : Str → Str → Bool) : List (List Str) := (ks.filter fun m => decide ((grpS ks R m).headD Str.empty = m)).map (grpS ks R)
/-- how "is led to" behaves -/
structure Leads (ks : List Str) (R : Str → Str → Bool) : Prop where
  irr : ∀ x ∈ ks, R x x = false
  tr : ∀ x ∈ ks, ∀ y ∈ ks, ∀ z ∈ ks, R x y = true → R y z = true → x = z ∨ R x z = true
section
variable {ks : List Str} {R : Str → Str → Bool}
theorem grp_mem {m o : Str} : o ∈ grpS ks R m ↔ o ∈ ks ∧ (o = m ∨ (R m o = true ∧ R o m = true)) := by
  unfold grpS
  rw [List.mem_filter, Bool.or_eq_true, Bool.and_eq_true, decide_eq_true_iff]
theorem grp_self {m : Str} (h : m ∈ ks) : m ∈ grpS ks R m := grp_mem.mpr ⟨h, .inl rfl⟩
/-- who is in a group has this group -/
theorem grp_same (L : Leads ks R) {m o : Str} (hm : m ∈ ks) (h : o ∈ grpS ks R m) : grpS ks R o = grpS ks R m := by
  obtain ⟨ho, h⟩ := grp_mem.mp h
  rcases h with rfl | ⟨h1, h2⟩
  · rfl
  · refine List.filter_congr fun x hx => ?_
    have key : ∀ a b : Str, a ∈ ks → b ∈ ks → R a b = true → R b a = true → (decide (x = a) || (R a x && R x a)) = true → (decide (x = b) || (R b x && R x b)) = true := fun a b ha hb r1 r2 q => by
      rw [Bool.or_eq_true, Bool.and_eq_true, decide_eq_true_iff] at q ⊢
      rcases q with rfl | ⟨q1, q2⟩
      · exact .inr ⟨r2, r1⟩
      · rcases L.tr b hb a ha x hx r2 q1 with e | e
        · exact .inl e.symm
        · rcases L.tr x hx a ha b hb q2 r1 with e2 | e2
          · exact .inl e2
          · exact .inr ⟨e, e2⟩
    rw [Bool.eq_iff_iff]
    exact ⟨key o m ho hm h2 h1, key m o hm ho h1 h2⟩
theorem grps_nd (nd : ks.Nodup) (L : Leads ks R) : (grps ks R).Nodup := by
  unfold grps
  refine List.pairwise_map.mpr ((nd.sublist List.filter_sublist).imp_of_mem fun {a b} ha hb ne e => ne ?_)
  have h1 := of_decide_eq_true (List.mem_filter.mp ha).2
  have h2 := of_decide_eq_true (List.mem_filter.mp hb).2
  rw [← h1, ← h2, e]
/-- each group's first one, and it alone, tells it -/
theorem grps_head {g : List Str} (h : g ∈ grps ks R) : g.headD Str.empty ∈ ks ∧ g = grpS ks R (g.headD Str.empty) := by
  obtain ⟨m, hm, rfl⟩ := List.mem_map.mp h
  obtain ⟨h1, h2⟩ := List.mem_filter.mp hm
  have e := of_decide_eq_true h2
  rw [e]
  exact ⟨h1, rfl⟩
/-- first ones of two groups that lead to each other are the same -/
theorem grps_anti (L : Leads ks R) {g h : List Str} (hg : g ∈ grps ks R) (hh : h ∈ grps ks R) (r1 : R (g.headD Str.empty) (h.headD Str.empty) = true) (r2 : R (h.headD Str.empty) (g.headD Str.empty) = true) : g = h := by
  obtain ⟨a1, a2⟩ := grps_head hg
  obtain ⟨b1, b2⟩ := grps_head hh
  have : h.headD Str.empty ∈ grpS ks R (g.headD Str.empty) := grp_mem.mpr ⟨b1, .inr ⟨r1, r2⟩⟩
  have e := grp_same L a1 this
  rw [a2, b2, ← e]
/-- of some groups there is one to which none leads -/
theorem grps_first (L : Leads ks R) : ∀ (W : List (List Str)), (∀ g ∈ W, g ∈ grps ks R) → W ≠ [] → ∃ g ∈ W, ∀ h ∈ W, R (h.headD Str.empty) (g.headD Str.empty) = false
  | [], _, ne => absurd rfl ne
  | [g], hg, _ => ⟨g, List.mem_singleton.mpr rfl, fun h hh => by
    rw [List.mem_singleton.mp hh]
    exact L.irr _ (grps_head (hg g List.mem_cons_self)).1⟩
  | w :: v :: W, hW, _ => by
    obtain ⟨x, hx, min⟩ := grps_first L (v :: W) (fun g hg => hW g (List.mem_cons_of_mem _ hg)) (List.cons_ne_nil _ _)
    have kin : ∀ g ∈ w :: v :: W, g.headD Str.empty ∈ ks := fun g hg => (grps_head (hW g hg)).1
    have hw : w ∈ w :: v :: W := List.mem_cons_self
    have hx' : x ∈ w :: v :: W := List.mem_cons_of_mem _ hx
    cases c : R (w.headD Str.empty) (x.headD Str.empty) with
    | false =>
      refine ⟨x, hx', fun h hh => ?_⟩
      rcases List.mem_cons.mp hh with rfl | hh
      · exact c
      · exact min h hh
    | true =>
      refine ⟨w, hw, fun h hh => ?_⟩
      rcases List.mem_cons.mp hh with rfl | hh
      · exact L.irr _ (kin h hw)
      · cases d : R (h.headD Str.empty) (w.headD Str.empty) with
        | false => rfl
        | true =>
          rcases L.tr _ (kin h (List.mem_cons_of_mem _ hh)) _ (kin w hw) _ (kin x hx') d c with e | e
          · have q := min h hh
            rw [← e] at c
            have ew := grps_anti L (hW h (List.mem_cons_of_mem _ hh)) (hW w hw) d c
            rw [ew] at d
            rw [L.irr _ (kin w hw)] at d
            cases d
          · rw [min h hh] at e; cases e
/-- what is ready of those that wait -/
def readyS (R : Str → Str → Bool) (W : List (List Str)) : List (List Str) := W.filter fun g => !W.any fun h => R (h.headD Str.empty) (g.headD Str.empty)
theorem ready_some (L : Leads ks R) {W : List (List Str)} (hW : ∀ g ∈ W, g ∈ grps ks R) (ne : W ≠ []) : ∃ g r, readyS R W = g :: r ∧ g ∈ W := by
  obtain ⟨g, hg, min⟩ := grps_first L W hW ne
  have : g ∈ readyS R W := List.mem_filter.mpr ⟨hg, by
    rw [Bool.not_eq_true']
    exact List.any_eq_false.mpr fun h hh => by rw [min h hh]; exact Bool.false_ne_true⟩
  cases e : readyS R W with
  | nil => rw [e] at this; cases this
  | cons x r => exact ⟨x, r, rfl, (List.mem_filter.mp (show x ∈ readyS R W by rw [e]; exact List.mem_cons_self)).1⟩
theorem perm_step {P W : List (List Str)} {g : List Str} (nd : W.Nodup) (hg : g ∈ W) : (P ++ [g] ++ W.filter fun h => !decide (h = g)).Perm (P ++ W) := by
  rw [List.append_assoc]
  refine List.Perm.append_left P ?_
  have nd2 : ([g] ++ W.filter fun h => !decide (h = g)).Nodup := by
    refine List.nodup_cons.mpr ⟨fun z => ?_, nd.filter _⟩
    have := (List.mem_filter.mp z).2
    simp at this
  refine (List.perm_ext_iff_of_nodup nd2 nd).mpr fun x => ?_
  constructor
  · intro h
    rcases List.mem_cons.mp h with rfl | h
    · exact hg
    · exact (List.mem_filter.mp h).1
  · intro h
    by_cases c : x = g
    · rw [c]; exact List.mem_cons_self
    · exact List.mem_cons_of_mem _ (List.mem_filter.mpr ⟨h, by simp [c]⟩)
theorem less_step {W : List (List Str)} {g : List Str} (hg : g ∈ W) : (W.filter fun h => !decide (h = g)).length < W.length := by
  rcases Nat.lt_or_ge (W.filter fun h => !decide (h = g)).length W.length with z | z
  · exact z
  · have e : W.filter (fun h => !decide (h = g)) = W := List.filter_sublist.eq_of_length_le z
    have := (List.mem_filter.mp (show g ∈ W.filter (fun h => !decide (h = g)) by rw [e]; exact hg)).2
    simp at this
end
end RP

set_option Elab.async false
set_option linter.all false
set_option maxRecDepth 100000
set_option maxHeartbeats 1000000
/-! EM24: sorted(xs), xs a list or tuple of data that are alike -/
namespace DL
open PySem PySem.Spec PyProof.Rows L2 TL TX TO
section
variable {X : Cx} {pins : List (Addr × Obj)} {σ : L2.St} {H : Hp} {s : Shared}
end
/-! ### tuples of texts, none empty -/
open RP
end DL

set_option Elab.async false
set_option linter.all false
set_option maxRecDepth 100000
set_option maxHeartbeats 1000000
/-! LP14: all groups of a program, in their order; turned round; rings of their modules -/
namespace RP
open PySem PySem.Spec PyProof.Rows L2 TL DL TX TO
def leadB (n : Nat) (nx : Str → List Str) (m o : Str) : Bool := decide (o ∈ (chainsS n nx m).map (·.1))
def placeS (R : Str → Str → Bool) : Nat → List (List Str) → List (List Str)
  | 0, _ => []
  | k + 1, W => match readyS R W with
    | [] => []
    | g :: _ => g :: placeS R k (W.filter fun h => !decide (h = g))
def leadS (ms : List Str) (us : List (Str × Str)) : Str → Str → Bool := leadB ms.length (nextsS false (srt lessP us))
def groupsS (ms : List Str) (us : List (Str × Str)) : List (List Str) := placeS (leadS ms us) ms.length (grps (srt lessS ms) (leadS ms us))
theorem lead_iff {ms : List Str} {us : List (Str × Str)} (hu : Uses ms us) {m o : Str} (h : m ∈ ms) : leadS ms us m o = true ↔ o ≠ m ∧ Rc us m o := by
  have inU : ∀ u ∈ srt lessP us, u.1 ∈ srt lessS ms ∧ u.2 ∈ srt lessS ms := fun u hu' => by
    have z := hu.ok u (mem_srt.mp hu')
    exact ⟨mem_srt.mpr z.1, mem_srt.mpr z.2.1⟩
  have key := chains_mem (b := false) (us := srt lessP us) (x := o) (mem_srt.mpr h : m ∈ srt lessS ms) (nexts_in inU)
  rw [srt_len, fl_f] at key
  unfold leadS leadB
  rw [decide_eq_true_iff, key]
  exact and_congr_right fun _ => ⟨Rc.mono fun v hv => mem_srt.mp hv, Rc.mono fun v hv => mem_srt.mpr hv⟩
theorem lead_ok {ms : List Str} {us : List (Str × Str)} (hu : Uses ms us) : Leads (srt lessS ms) (leadS ms us) := by
  refine ⟨fun x hx => ?_, fun x hx y hy z hz h1 h2 => ?_⟩
  · cases q : leadS ms us x x with
    | false => rfl
    | true => exact absurd rfl ((lead_iff hu (mem_srt.mp hx)).mp q).1
  · by_cases c : x = z
    · exact .inl c
    · exact .inr ((lead_iff hu (mem_srt.mp hx)).mpr ⟨fun e => c e.symm, ((lead_iff hu (mem_srt.mp hx)).mp h1).2.trans ((lead_iff hu (mem_srt.mp hy)).mp h2).2⟩)
theorem place_perm {ks : List Str} {R : Str → Str → Bool} (L : Leads ks R) : ∀ (k : Nat) (W : List (List Str)), (∀ g ∈ W, g ∈ grps ks R) → W.Nodup → W.length ≤ k → (placeS R k W).Perm W
  | 0, W, _, _, h => by
    rw [List.eq_nil_of_length_eq_zero (Nat.le_zero.mp h)]
    exact .nil
  | k + 1, W, hW, nd, h => by
    by_cases e : W = []
    · subst e
      exact .nil
    · obtain ⟨g, r, h1, h2⟩ := ready_some L hW e
      show (match readyS R W with | [] => [] | g :: _ => g :: placeS R k (W.filter fun h => !decide (h = g))).Perm W
      rw [h1]
      have lt := less_step h2
      have ih := place_perm L k (W.filter fun h => !decide (h = g)) (fun x hx => hW x (List.mem_filter.mp hx).1) (nd.filter _) (by omega)
      exact (ih.cons g).trans (perm_step (P := []) nd h2)
theorem groups_perm {ms : List Str} {us : List (Str × Str)} (hm : Mods ms) (hu : Uses ms us) : (groupsS ms us).Perm (grps (srt lessS ms) (leadS ms us)) := by
  refine place_perm (lead_ok hu) _ _ (fun g hg => hg) (grps_nd ((srt_perm (lt := lessS) ms).nodup_iff.mpr hm.nd) (lead_ok hu)) ?_
  unfold grps
  rw [List.length_map]
  refine Nat.le_trans (List.length_filter_le _ _) ?_
  rw [srt_len]; exact Nat.le_refl _
theorem Rc.swap {us : List (Str × Str)} {s x : Str} : Rc (swapU us) s x ↔ Rc us x s := Rc.flip_iff
theorem groups_in {ms : List Str} {us : List (Str × Str)} (hm : Mods ms) (hu : Uses ms us) {g : List Str} (h : g ∈ groupsS ms us) : ∃ m ∈ ms, g = grpS (srt lessS ms) (leadS ms us) m := by
  obtain ⟨h1, h2⟩ := grps_head ((groups_perm hm hu).mem_iff.mp h)
  exact ⟨_, mem_srt.mp h1, h2⟩
theorem groups_ne {ms : List Str} {us : List (Str × Str)} (hm : Mods ms) (hu : Uses ms us) {g : List Str} (h : g ∈ groupsS ms us) : g ≠ [] := by
  obtain ⟨m, h1, rfl⟩ := groups_in hm hu h
  exact List.ne_nil_of_mem (grp_self (mem_srt.mpr h1))
/-! ### rings turned round -/
theorem ring_turned {nx nx' : Str → List Str} (h1 : ∀ x y, y ∈ nx x → x ∈ nx' y) (irr : ∀ x, x ∉ nx x) {s : Str} {v : List Str} (h : RingW nx s v) : ∃ v', RingW nx' s v' ∧ v'.length = v.length := by
  obtain ⟨x, hw, ne, hs⟩ := h
  obtain ⟨r, rfl, hr⟩ := hw.ch
  cases hr with
  | nil => exact absurd rfl ne
  | @cons _ y _ r' hy hr' =>
    have w2 : Wy nx y (y :: r') x := Wy.app (w := [y]) hr' Wy.one
    refine ⟨s :: (y :: r').reverse, ⟨y, wy_cons (h1 _ _ hs) (wy_rev h1 w2), fun e => irr s (e ▸ hy), h1 _ _ hy⟩, ?_⟩
    rw [List.length_cons, List.length_reverse]; rfl
theorem rings_turned {nx nx' : Str → List Str} (h1 : ∀ x y, y ∈ nx x → x ∈ nx' y) (h2 : ∀ x y, y ∈ nx' x → x ∈ nx y) (irr : ∀ x, x ∉ nx x) {s : Str} {o p : Option (List Str)} (lo : LeastO (RingW nx s) o) (lp : LeastO (RingW nx' s) p) :
    (o = none ∧ p = none) ∨ ∃ v w, o = some v ∧ p = some w ∧ v.length = w.length := by
  have irr' : ∀ x, x ∉ nx' x := fun x h => irr x (h2 _ _ h)
  cases o with
  | none =>
    cases p with
    | none => exact .inl ⟨rfl, rfl⟩
    | some w =>
      obtain ⟨v, hv, _⟩ := ring_turned h2 irr' lp.1
      exact absurd hv (lo v)
  | some v =>
    obtain ⟨v', hv', lv⟩ := ring_turned h1 irr lo.1
    cases p with
    | none => exact absurd hv' (lp v')
    | some w =>
      obtain ⟨w', hw', lw⟩ := ring_turned h2 irr' lp.1
      refine .inr ⟨v, w, rfl, rfl, ?_⟩
      have a := wle_len (lo.2 _ hw')
      have b := wle_len (lp.2 _ hv')
      omega
theorem wy_end {nx : Str → List Str} {s x : Str} {v : List Str} (w : Wy nx s v x) : x ∈ v := by
  cases w with
  | one => exact List.mem_singleton.mpr rfl
  | on _ _ => exact List.mem_append_right _ (List.mem_singleton.mpr rfl)
theorem wy_rc2 {nx : Str → List Str} {us : List (Str × Str)} (h : ∀ x y, y ∈ nx x → (x, y) ∈ us) {s x : Str} {v : List Str} (w : Wy nx s v x) : ∀ z ∈ v, Rc us s z ∧ Rc us z x := by
  induction w with
  | one =>
    intro z hz
    rw [List.mem_singleton.mp hz]
    exact ⟨.here, .here⟩
  | on _ hy ih =>
    intro z hz
    rcases List.mem_append.mp hz with hz | hz
    · obtain ⟨a, b⟩ := ih z hz
      exact ⟨a, .on b (h _ _ hy)⟩
    · rw [List.mem_singleton.mp hz]
      rename_i hw _
      obtain ⟨a, b⟩ := ih _ (wy_end hw)
      exact ⟨.on a (h _ _ hy), .here⟩
theorem ring_rc {nx : Str → List Str} {us : List (Str × Str)} (h : ∀ x y, y ∈ nx x → (x, y) ∈ us) {s : Str} {v : List Str} (w : RingW nx s v) : ∀ z ∈ v, Rc us s z ∧ Rc us z s := fun z hz => by
  obtain ⟨x, hw, _, hs⟩ := w
  obtain ⟨a, b⟩ := wy_rc2 h hw z hz
  exact ⟨a, .on b (h _ _ hs)⟩
theorem rc_back {us : List (Str × Str)} {o s : Str} (h : Rc us o s) (ne : o ≠ s) : ∃ x, Rc us o x ∧ (x, s) ∈ us := by
  cases h with
  | here => exact absurd rfl ne
  | on a b => exact ⟨_, a, b⟩
theorem nx_turn {us : List (Str × Str)} (x y : Str) (h : y ∈ nextsS false (srt lessP us) x) : x ∈ nextsS false (srt lessP (swapU us)) y := nexts_in2.mpr (swapU_mem.mpr (nexts_in2.mp h))
theorem nx_turn2 {us : List (Str × Str)} (x y : Str) (h : y ∈ nextsS false (srt lessP (swapU us)) x) : x ∈ nextsS false (srt lessP us) y := nexts_in2.mpr (swapU_mem.mp (nexts_in2.mp h))
theorem firsts_of {ms : List Str} {us : List (Str × Str)} (hu : Uses ms us) {s : Str} (hs : s ∈ ms) : Firsts (nextsS false (srt lessP us)) s (chainsS ms.length (nextsS false (srt lessP us)) s) :=
  chains_first hs (fun m _ x h => (hu.ok _ (nexts_in2.mp h)).2.1) (nexts_asc hu.nd)
theorem ring_facts {ms : List Str} {us : List (Str × Str)} (hm : Mods ms) (hu : Uses ms us) {g : List Str} (hg : g ∈ groupsS ms us) {s : Str} (hs : s ∈ g) : s ∈ ms ∧
    ((ringS ms.length (nextsS false (srt lessP us)) s = none ∧ ringS ms.length (nextsS false (srt lessP (swapU us))) s = none ∧ g.length = 1) ∨
      ∃ w v, ringS ms.length (nextsS false (srt lessP us)) s = some w ∧ ringS ms.length (nextsS false (srt lessP (swapU us))) s = some v ∧ w.length = v.length ∧ 1 < g.length ∧ (∃ r, w = s :: r) ∧ ∀ z ∈ w, z ∈ g) := by
  obtain ⟨m, h1, e⟩ := groups_in hm hu hg
  have eg : g = grpS (srt lessS ms) (leadS ms us) s := by
    rw [e] at hs ⊢
    exact (grp_same (lead_ok hu) (mem_srt.mpr h1) hs).symm
  have hsm : s ∈ ms := by
    rw [eg] at hs
    exact mem_srt.mp (grp_mem.mp hs).1
  have F := ring_first (firsts_of hu hsm)
  have G := ring_first (firsts_of hu.swap hsm)
  have irr : ∀ x, x ∉ nextsS false (srt lessP us) x := fun x h => (hu.ok _ (nexts_in2.mp h)).2.2 rfl
  have ing : ∀ z, z ∈ g ↔ z ∈ ms ∧ (z = s ∨ (Rc us s z ∧ Rc us z s)) := fun z => by
    rw [eg, grp_mem, mem_srt]
    refine and_congr_right fun hz => ?_
    rw [lead_iff hu hsm, lead_iff hu hz]
    constructor
    · rintro (h | ⟨⟨_, a⟩, _, b⟩)
      · exact .inl h
      · exact .inr ⟨a, b⟩
    · rintro (h | ⟨a, b⟩)
      · exact .inl h
      · by_cases c : z = s
        · exact .inl c
        · exact .inr ⟨⟨c, a⟩, fun e => c e.symm, b⟩
  refine ⟨hsm, ?_⟩
  rcases rings_turned nx_turn nx_turn2 irr F G with ⟨e1, e2⟩ | ⟨w, v, e1, e2, el⟩
  · refine .inl ⟨e1, e2, ?_⟩
    rw [e1] at F
    have one : ∀ z ∈ g, z = s := fun z hz => by
      rcases ((ing z).mp hz).2 with h | ⟨a, b⟩
      · exact h
      · by_cases c : z = s
        · exact c
        · obtain ⟨x, c1, c2⟩ := rc_back b c
          have x1 : (x : Str) ≠ s := fun e => (hu.ok _ c2).2.2 e
          have xm : x ∈ ms := (hu.ok _ c2).1
          have inU : ∀ u ∈ srt lessP us, u.1 ∈ srt lessS ms ∧ u.2 ∈ srt lessS ms := fun u hu' => by
            have z := hu.ok u (mem_srt.mp hu')
            exact ⟨mem_srt.mpr z.1, mem_srt.mpr z.2.1⟩
          have k := (lead_iff hu hsm).mpr ⟨x1, a.trans c1⟩
          obtain ⟨p, hp, ep⟩ := List.mem_map.mp (of_decide_eq_true k)
          have wy := (firsts_of hu hsm).wy p hp
          rw [ep] at wy
          exact absurd ⟨x, wy, x1, nexts_in2.mpr c2⟩ (F p.2)
    have nd : g.Nodup := by
      rw [eg]
      exact ((srt_perm (lt := lessS) ms).nodup_iff.mpr hm.nd).sublist List.filter_sublist
    match g, hs, one, nd with
    | [a], _, _, _ => rfl
    | a :: b :: r, _, one, nd =>
      have := one a List.mem_cons_self
      have := one b (List.mem_cons_of_mem _ List.mem_cons_self)
      have q := (List.nodup_cons.mp nd).1
      exact absurd (by rw [one a List.mem_cons_self, one b (List.mem_cons_of_mem _ List.mem_cons_self)]; exact List.mem_cons_self) q
  · rw [e1] at F
    have rg := F.1
    have ins : ∀ z ∈ w, z ∈ g := fun z hz => by
      have q := ring_rc (fun x y h => nexts_in2.mp h) rg z hz
      refine (ing z).mpr ⟨?_, .inr q⟩
      by_cases c : z = s
      · rw [c]; exact hsm
      · obtain ⟨x, _, h⟩ := rc_back q.1 fun e => c e.symm
        exact (hu.ok _ h).2.1
    obtain ⟨x, hw, ne, _⟩ := rg
    obtain ⟨r, er, hr⟩ := hw.ch
    refine .inr ⟨w, v, e1, e2, el, ?_, ⟨r, er⟩, ins⟩
    have xg := ins x (wy_end hw)
    match g, hs, xg with
    | [a], hs, xg => exact absurd ((List.mem_singleton.mp xg).trans (List.mem_singleton.mp hs).symm) ne
    | a :: b :: r, _, _ => exact Nat.succ_lt_succ (Nat.zero_lt_succ _)
end RP

set_option Elab.async false
set_option linter.all false
set_option maxRecDepth 100000
set_option maxHeartbeats 1000000
/-! EM23: [x for x in d if x == y or (x in d[y] and y in d[x])], d a dict of dicts that others hold too: locked while it is walked, and as before behind -/
namespace DL
open PySem PySem.Spec PyProof.Rows L2 TL RP
/-- whether the dict that f tells of x has y -/
def ledD (kk : Str → List Key) (dd : Str → List D) (x y : Str) : Bool := (dicGet (kk x) (dd x) (.inr y)).isSome
def dGrpC {m : Mem} (i j x : Nat) : DT m := fun ρ s Q => ∃ (ks : List Str) (kk : Str → List Key) (dd : Str → List D) (z : Str), ρ[i]? = some (.sh (.str z)) ∧ ρ[j]? = some (.sh (.dic (keyI ks) (ks.map fun y => .dic (kk y) (dd y)))) ∧ x < ρ.length ∧ ks.Nodup ∧ ks.length ≤ 1000 ∧ z ∈ ks ∧ (∀ y ∈ ks, sOk y = true) ∧
  Q (.lst ((ks.filter fun o => decide (o = z) || (ledD kk dd z o && ledD kk dd o z)).map .str)) ρ s
theorem de_grpC {X : Cx} {m : Mem} {e : Expr} (i j x : Nat) (hxi : x ≠ i) (hxj : x ≠ j)
    (h : PE X e (tLockE (tLc (iKeys (tVar j)) (gName x) (tOr (tTest (tOp rEq (tVar x) (tVar i))) (tAnd (tB (tDIn (tVar x) (tDGet (tVar j) (tVar i)))) (tB (tDIn (tVar i) (tDGet (tVar j) (tVar x)))))) (tVar x) [x]))) :
    PE X e (up X.K m (dGrpC i j x)) := PE.imp h fun σ H Q h => by
  obtain ⟨F, ρ, s, Qd, r, ⟨ks, kk, dd, z, e1, e2, hx, nd, hl, hz, hok, q⟩, hQ⟩ := h
  obtain ⟨v1, s1, rv1⟩ := r.sh i _ e1
  obtain ⟨rfl, hzok⟩ := rv1
  obtain ⟨v2, s2, rv2⟩ := r.sh j _ e2
  obtain ⟨a, kvs, rfl, ha, hlen, hk, rs⟩ := rv2
  have Ha := r.sub _ _ ha
  have hxs : x < σ.length := by rw [r.len]; exact hx
  have get : ∀ o ∈ ks, ∃ b kv2, valV kvs (.inr o) = some (.ref b) ∧ F b = some (.dK kv2) ∧ ∀ y : Str, (valV kv2 (.inr y)).isSome = ledD kk dd o y := fun o ho => by
    obtain ⟨n, hn⟩ := List.getElem?_of_mem ho
    obtain ⟨v, ev, rv⟩ := (val_rep (q := .inr o) hk rs).1 _ (dicGet_at nd hn (by rw [List.getElem?_map, hn]; rfl))
    obtain ⟨b, kv2, rfl, hb, _, hk2, rs2⟩ := rv
    exact ⟨b, kv2, ev, hb, fun y => (val_rep hk2 rs2).2⟩
  have lk : kvs.length = ks.length := by
    have := congrArg List.length hk
    unfold keyI at this
    rw [List.length_map, List.length_map] at this; exact this
  generalize hp : (fun o => decide (o = z) || (ledD kk dd z o && ledD kk dd o z)) = p at q
  have pat : ∀ o, p o = (decide (o = z) || (ledD kk dd z o && ledD kk dd o z)) := fun o => by rw [← hp]
  refine ⟨a, .dK kvs, Ha, trivial, fun od => ?_⟩
  refine ⟨_, s2, a, od, rfl, .inl ⟨kvs, upd_same, fun D nD => ?_⟩⟩
  have hDa : D ≠ a := fun w => by rw [w, upd_same] at nD; cases nD
  have nH : H D = none := by rw [upd_ne hDa] at nD; exact nD
  have nF : F D = none := r.sub.free nH
  generalize hHn : (fun n : Nat => upd (upd H a (.frz od (.dK kvs))) D (.lst (((ks.take n).filter p).map V.str))) = Hn
  have hat : ∀ n, Hn n = upd (upd H a (.frz od (.dK kvs))) D (.lst (((ks.take n).filter p).map V.str)) := fun n => by rw [← hHn]
  have Da : ∀ n, Hn n a = some (.frz od (.dK kvs)) := fun n => by rw [hat, upd_ne fun w => hDa w.symm, upd_same]
  have DD : ∀ n, Hn n D = some (.lst (((ks.take n).filter p).map V.str)) := fun n => by rw [hat, upd_same]
  have look : ∀ n o, o ∈ ks → ∃ b, DGet (Hn n) a (.str o) (some (.ref b)) ∧ ∀ y : Str, ∃ ov, DGet (Hn n) b (.str y) ov ∧ ov.isSome = ledD kk dd o y := fun n o ho => by
    obtain ⟨b, kv2, h1, h2, h3⟩ := get o ho
    refine ⟨b, .inl ⟨kvs, .inr o, .inr ⟨od, Da n⟩, rfl, h1.symm⟩, fun y => ⟨_, .inl ⟨kv2, .inr y, ?_, rfl, rfl⟩, h3 y⟩⟩
    by_cases hb : b = a
    · subst hb
      rw [ha] at h2
      cases h2
      exact .inr ⟨od, Da n⟩
    · refine .inl ?_
      rw [hat, upd_ne (ne_of_none h2 nF), upd_ne hb]
      exact r.sub _ _ h2
  refine ⟨fun n mm H' => mm = ks.length - n ∧ n ≤ ks.length ∧ H' = Hn n, ⟨ks.length, rfl, Nat.zero_le _, by rw [hat]; rfl⟩, ?_⟩
  rintro n mm H' ⟨rfl, hn, rfl⟩
  by_cases hlt : n < ks.length
  · refine .inr ⟨⟨Da n, by omega⟩, fun H' => H' = Hn (n + 1), fun H' e => ⟨ks.length - (n + 1), by omega, rfl, hlt, e⟩, fun v H' y => ?_⟩
    obtain ⟨rfl, k, w, ek, rfl⟩ := y
    obtain ⟨o, ho⟩ : ∃ o, ks[n]? = some o := ⟨_, List.getElem?_eq_getElem hlt⟩
    have ek2 : k = .inr o := by
      have t1 : (kvs.map (·.1))[n]? = some k := by rw [List.getElem?_map, ek]; rfl
      rw [hk] at t1
      unfold keyI at t1
      rw [List.getElem?_map, ho] at t1
      exact (Option.some.inj t1).symm
    subst ek2
    have oin : o ∈ ks := List.mem_of_getElem? ho
    have tk : (ks.take (n + 1)).filter p = (ks.take n).filter p ++ (if p o = true then [o] else []) := by
      rw [List.take_add_one, ho, List.filter_append]
      congr 1
      show List.filter p [o] = _
      rw [List.filter_cons]
      cases p o <;> rfl
    have wl : (wipe σ [x]).length = σ.length := wipe_length _ _
    have gx : ((wipe σ [x]).set x (some (V.str o)))[x]? = some (some (.str o)) := by rw [List.getElem?_set_self (by rw [wl]; exact hxs)]
    have gi : ((wipe σ [x]).set x (some (V.str o)))[i]? = some (some (.str z)) := by
      rw [List.getElem?_set_ne hxi, wipe_get (by simpa using fun w => hxi w.symm)]; exact s1
    have gj : ((wipe σ [x]).set x (some (V.str o)))[j]? = some (some (.ref a)) := by
      rw [List.getElem?_set_ne hxj, wipe_get (by simpa using fun w => hxj w.symm)]; exact s2
    generalize hs2 : (wipe σ [x]).set x (some (V.str o)) = σ2 at gx gi gj
    unfold gName
    rw [show (wipe σ [x]).set x (some (kV (Sum.inr o))) = σ2 from hs2]
    refine ⟨?_, ?_⟩
    · have w1 : wipe σ2 [x] = wipe (wipe σ [x]) [x] := wipe_eq (ts := [x]) (by rw [← hs2, List.length_set]) (fun t ht => by
        rw [← hs2, List.getElem?_set_ne fun w => ht (by rw [w]; exact List.mem_singleton.mpr rfl)]) fun _ h => h
      rw [w1, wipe_wipe]
    · have po := pat o
      have yes : p o = true → (tVar x σ2 (Hn n) fun y H4 => ∃ acc, H4 D = some (.lst acc) ∧ acc.length < sizeLine ∧ upd H4 D (.lst (acc ++ [y])) = Hn (n + 1)) := fun hpo => by
        refine ⟨_, gx, _, DD n, ?_, ?_⟩
        · rw [List.length_map]
          refine Nat.lt_of_le_of_lt (List.length_filter_le _ _) ?_
          rw [List.length_take]
          exact Nat.lt_of_le_of_lt (show min n ks.length ≤ 1000 by omega) (by rw [sizeLine_eq]; decide)
        · rw [hat, hat, tk, if_pos hpo, List.map_append]
          funext b
          by_cases hb : b = D
          · subst hb; rw [upd_same, upd_same]; rfl
          · rw [upd_ne hb, upd_ne hb, upd_ne hb]
      have no : p o = false → Hn n = Hn (n + 1) := fun hpo => by
        rw [hat, hat, tk, if_neg (by rw [hpo]; exact Bool.false_ne_true), List.append_nil]
      obtain ⟨b1, d1, f1⟩ := look n z hz
      obtain ⟨o1, d2, t2⟩ := f1 o
      obtain ⟨b2, d3, f2⟩ := look n o oin
      obtain ⟨o2, d4, t4⟩ := f2 z
      refine ⟨_, gx, _, gi, rfl, _, rfl, ?_⟩
      by_cases c : o = z
      · have hpo : p o = true := by rw [po, decide_eq_true c]; rfl
        rw [decide_eq_true (show V.str o = V.str z by rw [c])]
        exact iteT (iteT (yes hpo))
      · rw [decide_eq_false (show ¬ V.str o = V.str z from fun w => c (by injection w))]
        rw [decide_eq_false c, Bool.false_or] at po
        refine iteF ⟨_, gx, _, gj, _, gi, a, _, rfl, d1, b1, o1, rfl, d2, _, rfl, ?_⟩
        rw [t2]
        cases h1 : ledD kk dd z o with
        | false =>
          rw [h1, Bool.false_and] at po
          exact iteF (iteF (no po))
        | true =>
          refine iteT ⟨_, gi, _, gj, _, gx, a, _, rfl, d3, b2, o2, rfl, d4, _, rfl, ?_⟩
          rw [t4]
          rw [h1, Bool.true_and] at po
          cases h2 : ledD kk dd o z with
          | false => rw [h2] at po; exact iteF (no po)
          | true => rw [h2] at po; exact iteT (yes po)
  · have e : n = ks.length := by omega
    subst e
    refine .inl ⟨⟨Da _, by omega⟩, Da _, ?_⟩
    have eH : upd (Hn ks.length) a (.dK kvs) = upd H D (.lst ((ks.filter p).map V.str)) := by
      rw [hat, List.take_length]
      funext b
      by_cases hb : b = a
      · subst hb
        rw [upd_same, upd_ne fun w => hDa w.symm, Ha]
      · rw [upd_ne hb]
        by_cases hb2 : b = D
        · subst hb2; rw [upd_same, upd_same]
        · rw [upd_ne hb2, upd_ne hb2, upd_ne hb]
    rw [eH]
    have g : Grow F H (upd F D (.lst ((ks.filter p).map V.str))) (upd H D (.lst ((ks.filter p).map V.str))) := Grow.new r.sub nH
    refine hQ _ ρ s _ _ _ q (r.grow g) g.stp ⟨D, _, rfl, upd_same, ?_, reps_of_strs _ fun y hy => ?_⟩
    · rw [List.length_map]
      exact Nat.le_trans (List.length_filter_le _ _) (Nat.le_trans hl (by rw [sizeLine_eq]; decide))
    · exact hok y (List.mem_filter.mp hy).1
end DL

set_option Elab.async false
set_option linter.all false
set_option maxRecDepth 100000
set_option maxHeartbeats 1000000
namespace RP
open PySem PySem.Spec PyProof.Rows L2 TL DL TX TO RG
def reachD (ks : List Str) (n : Nat) (nx : Str → List Str) : D := .dic (keyI ks) (ks.map fun m => waysD (chainsS n nx m))
def spGroupOf {m : Mem} : DSp m := fun ds s Q => ∃ ks n nx x, ds = [.str x, reachD ks n nx] ∧ x ∈ ks ∧ ks.Nodup ∧ ks.length ≤ 100 ∧ (∀ z ∈ ks, sOk z = true) ∧ Q (wayD (grpS ks (leadB n nx) x)) s
theorem spGroupOf_len {m : Mem} : ∀ ds s Qd, (spGroupOf : DSp m) ds s Qd → ds.length = 2 := fun ds s Qd ⟨_, _, _, _, e, _⟩ => by rw [e]; rfl
def spGroups {m : Mem} (C : Addr) : DSp m := fun ds s Q => ∃ ms us, ds = [progD C ms us] ∧ Mods ms ∧ Uses ms us ∧ ms.length ≤ 24 ∧ us.length ≤ 200 ∧ Q (.tup ((groupsS ms us).map wayD)) s
theorem spGroups_len {m : Mem} {C : Addr} : ∀ ds s Qd, (spGroups C : DSp m) ds s Qd → ds.length = 1 := fun ds s Qd ⟨_, _, e, _⟩ => by rw [e]; rfl
theorem eqD_wy (x y : List Str) : eqD (wayD x) (wayD y) = decide (x = y) := by
  show eqDs (x.map .str) (y.map .str) = _
  exact eqDs_str x y
theorem dcF {α : Type} {m : Mem} {f h : α → D} {k : α → Str} {g : DG} {tt : DTT m} {tk tv : DT m} {vs : List Nat} {ρ1 : List Sl} {s1 : m.S} {Q : DK m} (xs : List α) (hl : xs.length ≤ 1000) (nd : (xs.map k).Nodup)
    (turn : ∀ x ∈ xs, ∀ (T : D → D → m.S → Prop) (U : m.S → Prop), T (.str (k x)) (h x) s1 → g (f x) (wipeD ρ1 vs) fun ρ2 => tt ρ2 s1 fun b ρ3 s3 => ρ3 = ρ2 ∧ ifB b (tk ρ2 s3 fun y ρ4 s4 => ρ4 = ρ2 ∧ tv ρ2 s4 fun z ρ5 s5 => ρ5 = ρ2 ∧ T y z s5) (U s3))
    (fin : Q (.dic ((xs.map k).map Sum.inr) (xs.map h)) ρ1 s1) : dcK g tt tk tv vs Q (xs.map f) ρ1 s1 := by
  refine ⟨by rw [List.length_map]; exact hl, fun pre ks es s => s = s1 ∧ ks = (xs.take pre.length).map k ∧ es = (xs.take pre.length).map h, ⟨rfl, rfl, rfl⟩, ?_, ?_⟩
  · rintro pre y post ks es s e - ⟨rfl, rfl, rfl⟩
    obtain ⟨x, hx, rfl, -⟩ := mid_map e
    obtain ⟨hlt, hxx⟩ := List.getElem?_eq_some_iff.mp hx
    have ht : xs.take (pre.length + 1) = xs.take pre.length ++ [x] := by rw [List.take_succ_eq_append_getElem hlt, hxx]
    have nk : k x ∉ (xs.take pre.length).map k := fun q => by
      have e1 : xs = xs.take pre.length ++ x :: xs.drop (pre.length + 1) := by rw [← hxx, List.getElem_cons_drop, List.take_append_drop]
      rw [e1, List.map_append, List.map_cons] at nd
      exact (List.nodup_append.mp nd).2.2 _ q _ List.mem_cons_self rfl
    exact turn x (List.mem_of_getElem? hx) (fun y z s5 => ∃ k', y = .str k' ∧ k' ∉ (xs.take pre.length).map k ∧ s5 = s ∧ (xs.take pre.length).map k ++ [k'] = (xs.take (pre ++ [f x]).length).map k ∧ (xs.take pre.length).map h ++ [z] = (xs.take (pre ++ [f x]).length).map h) (fun s3 => s3 = s ∧ (xs.take pre.length).map k = (xs.take (pre ++ [f x]).length).map k ∧ (xs.take pre.length).map h = (xs.take (pre ++ [f x]).length).map h)
      ⟨_, rfl, nk, rfl, by rw [List.length_append, List.length_singleton, ht, List.map_append]; rfl, by rw [List.length_append, List.length_singleton, ht, List.map_append]; rfl⟩
  · rintro ks es s - ⟨rfl, rfl, rfl⟩
    rw [List.length_map, List.take_length]
    exact fin
def T_groupof17 {m : Mem} : DTS m :=
  (dRet (dB tupD (daCons (dGrpC 0 1 2) daNil)))
theorem read_groupof17 {m : Mem} : ∀ ds s Qd, (spGroupOf : DSp m) ds s Qd → (T_groupof17 : DTS m) (endsOf Qd) (startD ["module", "reach", "other"] ds) s := by
  intro ds s Qd h
  obtain ⟨ks, n, nx, x, rfl, hx, nd, hl, hok, hQ⟩ := h
  refine ⟨ks, fun m => keyI ((chainsS n nx m).map (·.1)), fun m => (chainsS n nx m).map fun p => wayD p.2, x, rfl, rfl, by show 2 < 3; decide, nd, by omega, hx, hok, ?_⟩
  refine ⟨_, _, rfl, rfl, ?_⟩
  have led : ∀ a b, ledD (fun m => keyI ((chainsS n nx m).map (·.1))) (fun m => (chainsS n nx m).map fun p => wayD p.2) a b = leadB n nx a b := fun a b => dicGet_some (by rw [List.length_map, List.length_map])
  have e : (ks.filter fun o => decide (o = x) || (ledD (fun m => keyI ((chainsS n nx m).map (·.1))) (fun m => (chainsS n nx m).map fun p => wayD p.2) x o && ledD (fun m => keyI ((chainsS n nx m).map (·.1))) (fun m => (chainsS n nx m).map fun p => wayD p.2) o x)) = grpS ks (leadB n nx) x := by
    unfold grpS
    refine List.filter_congr fun o _ => ?_
    rw [led, led]
  rw [e]
  exact hQ
def T_groups17 (a : Nat → Addr) {m : Mem} : DTS m :=
  (dSeq (dSet 1 (dCallD (spTable (a 26)) (D.bl false) (daCons (dVar 0) daNil)))
      (dSeq (dSet 2 (dDc (diSeq (dProp (a 26) (spGetM (a 26)) (dVar 0))) (gN 4) dYes (dVar 4) (dCall spChains (daCons (dVar 1) (daCons (dVar 4) daNil))) [4]))
      (dSeq (dSetL 3 daNil)
      (dSeq (dFor (diSeq (dProp (a 26) (spGetM (a 26)) (dVar 0))) (gN 4)
        (dSeq (dSet 6 (dCall spGroupOf (daCons (dVar 4) (daCons (dVar 2) daNil))))
        (dIf (dCmT eqC (dOp ixD (dVar 6) (dC (D.int 0))) (dVar 4)) (dApp 3 (dVar 6)) dNext)))
      (dSeq (dSetL 5 daNil)
      (dSeq (dWhile (dTr (dVar 3))
        (dSeq (dSet 7 (dLc (diSeq (dVar 3)) (gN 6) (dNotT (dTr (dB anyD (daCons (dLc (diSeq (dVar 3)) (gN 8) dYes (dInD false (dOp ixD (dVar 6) (dC (D.int 0))) (dGet (dVar 2) (dOp ixD (dVar 8) (dC (D.int 0))))) [8]) daNil)))) (dVar 6) [6]))
        (dSeq (dApp 5 (dOp ixD (dVar 7) (dC (D.int 0))))
        (dSet 3 (dLc (diSeq (dVar 3)) (gN 6) (dCmT neC (dVar 6) (dOp ixD (dVar 7) (dC (D.int 0)))) (dVar 6) [6])))))
      (dRet (dB tupD (daCons (dVar 5) daNil)))))))))
theorem read_groups17 {a : Nat → Addr} {m : Mem} : ∀ ds s Qd, (spGroups (a 26) : DSp m) ds s Qd → (T_groups17 a : DTS m) (endsOf Qd) (startD ["program", "nexts", "reach", "waiting", "module", "placed", "group", "ready", "other"] ds) s := by
  intro ds s Qd h
  obtain ⟨ms, us, rfl, hm, hu, l1, l2, hQ⟩ := h
  have inU : ∀ u ∈ us, u.1 ∈ ms ∧ u.2 ∈ ms := fun u hu' => ⟨(hu.ok u hu').1, (hu.ok u hu').2.1⟩
  have inM : ∀ u ∈ srt lessP us, u.1 ∈ srt lessS ms ∧ u.2 ∈ srt lessS ms := fun u hu' => ⟨mem_srt.mpr (inU u (mem_srt.mp hu')).1, mem_srt.mpr (inU u (mem_srt.mp hu')).2⟩
  have ndM : (srt lessS ms).Nodup := (srt_perm (lt := lessS) ms).nodup_iff.mpr hm.nd
  have lM : (srt lessS ms).length = ms.length := srt_len _
  have okM : ∀ z ∈ srt lessS ms, sOk z = true := fun z hz => (hm.path z (mem_srt.mp hz)).ok
  have L := lead_ok hu
  have grl : ∀ W : List (List Str), (∀ g ∈ W, g ∈ grps (srt lessS ms) (leadS ms us)) → ∀ g ∈ W, ∃ a r, g = a :: r ∧ a ∈ srt lessS ms ∧ g.length ≤ 24 := fun W h g hg => by
    obtain ⟨h1, h2⟩ := grps_head (h g hg)
    have := grp_self (R := leadS ms us) h1
    rw [← h2] at this
    have lg : g.length ≤ 24 := by
      rw [h2]
      refine Nat.le_trans (List.length_filter_le _ _) ?_
      omega
    match g, this, h1, lg with
    | a :: r, _, h1, lg => exact ⟨a, r, rfl, h1, lg⟩
  refine ⟨ms, us, false, rfl, hm.nd, by omega, by omega, inU, ?_⟩
  refine ⟨⟨_, _, rfl⟩, ms, us, rfl, _, rfl, dcF (f := D.str) (k := id) (h := fun m => waysD (chainsS (srt lessS ms).length (nextsS false (srt lessP us)) m)) (srt lessS ms) (by omega) (by rw [List.map_id]; exact ndM) (fun st hst T U t => ?_) ?_⟩
  · exact ⟨rfl, rfl, srt lessS ms, nextsS false (srt lessP us), st, rfl, ndM, hst, by omega, nexts_in inM, rfl, t⟩
  rw [lM, List.map_id]
  have few : (grps (srt lessS ms) (leadS ms us)).length ≤ ms.length := by
    unfold grps
    rw [List.length_map, ← lM]
    exact List.length_filter_le _ _
  generalize hhd : (fun m => decide ((grpS (srt lessS ms) (leadS ms us) m).headD Str.empty = m)) = hd
  have hat : ∀ m, hd m = decide ((grpS (srt lessS ms) (leadS ms us) m).headD Str.empty = m) := fun m => by rw [← hhd]
  have eg : grps (srt lessS ms) (leadS ms us) = ((srt lessS ms).filter hd).map (grpS (srt lessS ms) (leadS ms us)) := by rw [← hhd]; rfl
  refine ⟨Nat.zero_le _, ⟨_, _, rfl⟩, ms, us, rfl, _, rfl, fun pre ρ s' => s' = s ∧ ∃ c4 c6, ρ = [.sh (progD (a 26) ms us), .sh (tabD false (srt lessS ms) (srt lessP us)), .sh (reachD (srt lessS ms) ms.length (nextsS false (srt lessP us))), .ow (.lst (((((srt lessS ms).take pre.length).filter hd).map (grpS (srt lessS ms) (leadS ms us))).map wayD)), c4, .no, c6, .no, .no],
    ⟨rfl, .no, .no, rfl⟩, ?_, ?_⟩
  · rintro pre y post ρ s' e ⟨rfl, c4, c6, rfl⟩
    obtain ⟨st, hst0, rfl, -⟩ := mid_map e
    have hst := List.mem_of_getElem? hst0
    have ht : (srt lessS ms).take (pre ++ [D.str st]).length = (srt lessS ms).take pre.length ++ [st] := by rw [List.length_append, List.length_singleton, List.take_add_one, hst0]; rfl
    refine ⟨srt lessS ms, ms.length, nextsS false (srt lessP us), st, rfl, hst, ndM, by omega, okM, ?_⟩
    have self := grp_self (R := leadS ms us) hst
    have h0 := hat st
    have fm : ((((srt lessS ms).take (pre ++ [D.str st]).length).filter hd).map (grpS (srt lessS ms) (leadS ms us))).map wayD = ((((srt lessS ms).take pre.length).filter hd).map (grpS (srt lessS ms) (leadS ms us))).map wayD ++ (if hd st = true then [wayD (grpS (srt lessS ms) (leadS ms us) st)] else []) := by
      rw [ht, List.filter_append, List.map_append, List.map_append]
      congr 1
      rw [List.filter_cons]
      cases hd st <;> rfl
    have room : (((((srt lessS ms).take pre.length).filter hd).map (grpS (srt lessS ms) (leadS ms us))).map wayD).length < sizeLine := by
      rw [List.length_map, List.length_map]
      refine Nat.lt_of_le_of_lt (List.length_filter_le _ _) ?_
      rw [List.length_take]
      exact Nat.lt_of_le_of_lt (show min pre.length (srt lessS ms).length ≤ 24 by omega) (by rw [sizeLine_eq]; decide)
    obtain ⟨b, r, hG⟩ : ∃ b r, grpS (srt lessS ms) (leadS ms us) st = b :: r := by
      cases hG : grpS (srt lessS ms) (leadS ms us) st with
      | nil => rw [hG] at self; cases self
      | cons b r => exact ⟨b, r, rfl⟩
    have h0 : hd st = decide (b = st) := by rw [h0, hG]; rfl
    refine ⟨.str b, (show atI ((grpS (srt lessS ms) (leadS ms us) st).map D.str) (0 : Nat) = some (.str b) by rw [hG]; exact atI_nat (j := 0) rfl), rfl, rfl, ?_⟩
    rw [eqs]
    refine ifB2 (fun hb => ?_) fun hb => ?_
    · refine ⟨⟨_, rfl⟩, _, rfl, room, rfl, .sh (.str st), .sh (wayD (grpS (srt lessS ms) (leadS ms us) st)), ?_⟩
      rw [fm, if_pos (h0.trans hb)]
      rfl
    · refine ⟨rfl, .sh (.str st), .sh (wayD (grpS (srt lessS ms) (leadS ms us) st)), ?_⟩
      rw [fm, if_neg (by rw [h0, hb]; exact Bool.false_ne_true), List.append_nil]
      rfl
  · rintro ρ s' ⟨rfl, c4, c6, rfl⟩
    rw [List.length_map, List.take_length, ← eg]
    refine ⟨Nat.zero_le _, fun n ρ s2 => s2 = s' ∧ ∃ c3 c4 c6 c7 c8 P W k, (c3 = Sl.ow (.lst ((W : List (List Str)).map wayD)) ∨ c3 = Sl.sh (.lst (W.map wayD))) ∧ ρ = [.sh (progD (a 26) ms us), .sh (tabD false (srt lessS ms) (srt lessP us)), .sh (reachD (srt lessS ms) ms.length (nextsS false (srt lessP us))), c3, c4, .ow (.lst ((P : List (List Str)).map wayD)), c6, c7, c8] ∧ n = W.length ∧ (∀ g ∈ W, g ∈ grps (srt lessS ms) (leadS ms us)) ∧ W.Nodup ∧ W.length ≤ k ∧ P.length + k = ms.length ∧ P ++ placeS (leadS ms us) k W = groupsS ms us,
      ⟨_, rfl, _, c4, c6, .no, .no, [], _, ms.length, .inl rfl, rfl, rfl, fun g hg => hg, grps_nd ndM L, few, by simp, rfl⟩, ?_⟩
    rintro n ρ s2 ⟨rfl, c3, c4, c6, c7, c8, P, W, k, hc3, rfl, rfl, hW, nd, hk, hPk, hP⟩
    have lW : W.length ≤ 24 := by omega
    have gat : ∀ x ∈ srt lessS ms, dicGet (keyI (srt lessS ms)) ((srt lessS ms).map fun m => waysD (chainsS ms.length (nextsS false (srt lessP us)) m)) (.inr x) = some (waysD (chainsS ms.length (nextsS false (srt lessP us)) x)) := fun x hx => by
      obtain ⟨j, hj⟩ := List.getElem?_of_mem hx
      exact dicGet_at ndM hj (by rw [List.getElem?_map, hj]; rfl)
    have rest : ifB (!(W.map wayD).isEmpty)
        ((dSeq (dSet 7 (dLc (diSeq (dVar 3)) (gN 6) (dNotT (dTr (dB anyD (daCons (dLc (diSeq (dVar 3)) (gN 8) dYes (dInD false (dOp ixD (dVar 6) (dC (D.int 0))) (dGet (dVar 2) (dOp ixD (dVar 8) (dC (D.int 0))))) [8]) daNil)))) (dVar 6) [6]))
          (dSeq (dApp 5 (dOp ixD (dVar 7) (dC (D.int 0))))
          (dSet 3 (dLc (diSeq (dVar 3)) (gN 6) (dCmT neC (dVar 6) (dOp ixD (dVar 7) (dC (D.int 0)))) (dVar 6) [6])))  : DTS m) { (endsOf Qd) with
            nx := fun ρ' s' => ∃ n', n' < W.length ∧ (s' = s2 ∧ ∃ c3 c4 c6 c7 c8 P W k, (c3 = Sl.ow (.lst ((W : List (List Str)).map wayD)) ∨ c3 = Sl.sh (.lst (W.map wayD))) ∧ ρ' = [.sh (progD (a 26) ms us), .sh (tabD false (srt lessS ms) (srt lessP us)), .sh (reachD (srt lessS ms) ms.length (nextsS false (srt lessP us))), c3, c4, .ow (.lst ((P : List (List Str)).map wayD)), c6, c7, c8] ∧ n' = W.length ∧ (∀ g ∈ W, g ∈ grps (srt lessS ms) (leadS ms us)) ∧ W.Nodup ∧ W.length ≤ k ∧ P.length + k = ms.length ∧ P ++ placeS (leadS ms us) k W = groupsS ms us),
            ct := fun ρ' s' => ∃ n', n' < W.length ∧ (s' = s2 ∧ ∃ c3 c4 c6 c7 c8 P W k, (c3 = Sl.ow (.lst ((W : List (List Str)).map wayD)) ∨ c3 = Sl.sh (.lst (W.map wayD))) ∧ ρ' = [.sh (progD (a 26) ms us), .sh (tabD false (srt lessS ms) (srt lessP us)), .sh (reachD (srt lessS ms) ms.length (nextsS false (srt lessP us))), c3, c4, .ow (.lst ((P : List (List Str)).map wayD)), c6, c7, c8] ∧ n' = W.length ∧ (∀ g ∈ W, g ∈ grps (srt lessS ms) (leadS ms us)) ∧ W.Nodup ∧ W.length ≤ k ∧ P.length + k = ms.length ∧ P ++ placeS (leadS ms us) k W = groupsS ms us),
            bk := fun ρ' s' => (dRet (dB tupD (daCons (dVar 5) daNil)) : DTS m) (endsOf Qd) ρ' s' }
          [.sh (progD (a 26) ms us), .sh (tabD false (srt lessS ms) (srt lessP us)), .sh (reachD (srt lessS ms) ms.length (nextsS false (srt lessP us))), .sh (.lst (W.map wayD)), c4, .ow (.lst (P.map wayD)), c6, c7, c8] s2)
        ((dRet (dB tupD (daCons (dVar 5) daNil)) : DTS m) (endsOf Qd) [.sh (progD (a 26) ms us), .sh (tabD false (srt lessS ms) (srt lessP us)), .sh (reachD (srt lessS ms) ms.length (nextsS false (srt lessP us))), .sh (.lst (W.map wayD)), c4, .ow (.lst (P.map wayD)), c6, c7, c8] s2) := by
      refine ifB2 (fun hne => ?_) fun hem => ?_
      · have ne : W ≠ [] := fun z => by rw [z] at hne; cases hne
        obtain ⟨g0, r0, hr, hg0⟩ := ready_some L hW ne
        refine ⟨_, rfl, lcF (f := wayD) (p := fun g => !((W.map fun h => leadS ms us (h.headD Str.empty) (g.headD Str.empty)).any id)) (h := wayD) W (by omega) (fun g hg T U t f => ?_) ?_⟩
        · obtain ⟨b, gr, rfl, hb, _⟩ := grl W hW g hg
          refine ⟨_, rfl, lcF (f := wayD) (p := fun _ => true) (h := fun h => .bl (leadS ms us (h.headD Str.empty) b)) W (by omega) (fun h hh T2 U2 t2 f2 => ?_) ?_⟩
          · obtain ⟨c, hr', rfl, hc, _⟩ := grl W hW h hh
            refine ⟨rfl, ?_⟩
            refine ⟨_, atI_nat (j := 0) rfl, ?_⟩
            refine ⟨_, atI_nat (j := 0) rfl, ?_⟩
            refine ⟨_, _, c, _, rfl, rfl, gat c hc, ?_⟩
            refine ⟨_, _, b, rfl, rfl, rfl, ?_⟩
            rw [Bool.false_xor, dicGet_some (by rw [List.length_map, List.length_map])]
            exact t2 rfl
          · rw [show W.filter (fun _ => true) = W from List.filter_eq_self.mpr fun _ _ => rfl]
            refine ⟨W.map fun h => leadS ms us (h.headD Str.empty) b, by rw [List.map_map]; rfl, _, rfl, rfl, ?_⟩
            exact ifB2 (fun hb => ⟨rfl, t hb⟩) fun hb => f hb
        have er : (W.filter fun g => !((W.map fun h => leadS ms us (h.headD Str.empty) (g.headD Str.empty)).any id)) = g0 :: r0 := by
          rw [← hr]
          unfold readyS
          refine List.filter_congr fun g _ => ?_
          rw [List.any_map]; rfl
        rw [er]
        show (dSeq (m := m) _ _ _ [_, _, _, _, _, _, _, .sh (.lst (wayD g0 :: r0.map wayD)), _] s2)
        obtain ⟨k', rfl⟩ : ∃ k', k = k' + 1 := ⟨k - 1, by have : 0 < W.length := List.length_pos_iff.mpr ne; omega⟩
        refine ⟨⟨_, rfl⟩, _, atI_nat (j := 0) rfl, _, rfl, by rw [List.length_map]; exact Nat.lt_of_le_of_lt (show P.length ≤ 24 by omega) (by rw [sizeLine_eq]; decide), ?_⟩
        refine ⟨_, rfl, lcF (f := wayD) (p := fun h => !decide (h = g0)) (h := wayD) W (by omega) (fun h hh T U t f => ?_) ?_⟩
        · refine ⟨_, atI_nat (j := 0) rfl, plain_strs 59 _, plain_strs 59 _, ?_⟩
          rw [eqD_wy]
          exact ⟨rfl, ifB2 (fun hb => ⟨rfl, t hb⟩) fun hb => f hb⟩
        · have lt := less_step hg0
          have hP' : P ++ (g0 :: placeS (leadS ms us) k' (W.filter fun h => !decide (h = g0))) = groupsS ms us := by
            rw [← hP]
            show _ = P ++ (match readyS (leadS ms us) W with | [] => [] | g :: _ => g :: placeS (leadS ms us) k' (W.filter fun h => !decide (h = g)))
            rw [hr]
          refine ⟨(W.filter fun h => !decide (h = g0)).length, lt, rfl, _, c4, c6, .sh (.lst (wayD g0 :: r0.map wayD)), c8, P ++ [g0], _, k', .inr rfl, ?_, rfl, fun g hg => hW g (List.mem_filter.mp hg).1, nd.filter _, by omega, by rw [List.length_append, List.length_singleton]; omega, by rw [List.append_assoc]; exact hP'⟩
          rw [List.map_append]
          rfl
      · have e : W = [] := by
          cases W with
          | nil => rfl
          | cons _ _ => cases hem
        subst e
        have e2 : placeS (leadS ms us) k [] = [] := by cases k <;> rfl
        rw [e2, List.append_nil] at hP
        subst hP
        exact ⟨_, _, rfl, rfl, hQ⟩
    rcases hc3 with rfl | rfl
    · exact ⟨_, rfl, rest⟩
    · exact ⟨_, rfl, rest⟩
end RP

set_option Elab.async false
set_option linter.all false
set_option maxRecDepth 100000
set_option maxHeartbeats 1000000
/-! LP15: the first ring of a program; groups in their order (for k24 and k20) -/
namespace RP
open PySem PySem.Spec PyProof.Rows L2 TL DL TX TO
def firstR (ms : List Str) (us : List (Str × Str)) : Option (List Str) := (srt lessS ms).findSome? (ringS ms.length (nextsS false (srt lessP us)))
theorem firstR_none {ms : List Str} {us : List (Str × Str)} (h : firstR ms us = none) : ∀ m ∈ ms, ringS ms.length (nextsS false (srt lessP us)) m = none := fun m hm => List.findSome?_eq_none_iff.mp h m (mem_srt.mpr hm)
theorem findSome_first {α β : Type} {lt : α → α → Bool} (L : Lin lt) {f : α → Option β} {w : β} : ∀ {l : List α}, l.Pairwise (fun a b => lt b a = false) → l.findSome? f = some w → ∃ s ∈ l, f s = some w ∧ ∀ m ∈ l, f m ≠ none → lt m s = false
  | [], _, h => by cases h
  | x :: l, pw, h => by
    rw [List.findSome?_cons] at h
    obtain ⟨p1, p2⟩ := List.pairwise_cons.mp pw
    cases e : f x with
    | some y =>
      rw [e] at h
      refine ⟨x, List.mem_cons_self, e.trans h, fun m hm _ => ?_⟩
      rcases List.mem_cons.mp hm with rfl | hm
      · exact L.irr _
      · exact p1 m hm
    | none =>
      rw [e] at h
      obtain ⟨s, hs, h1, h2⟩ := findSome_first L p2 h
      refine ⟨s, List.mem_cons_of_mem _ hs, h1, fun m hm hn => ?_⟩
      rcases List.mem_cons.mp hm with rfl | hm
      · exact absurd e hn
      · exact h2 m hm hn
theorem firstR_some {ms : List Str} {us : List (Str × Str)} {w : List Str} (h : firstR ms us = some w) : ∃ s ∈ ms, ringS ms.length (nextsS false (srt lessP us)) s = some w ∧ ∀ m ∈ ms, ringS ms.length (nextsS false (srt lessP us)) m ≠ none → lessS m s = false := by
  obtain ⟨s, hs, h1, h2⟩ := findSome_first linS (srt_pw linS ms) h
  exact ⟨s, mem_srt.mp hs, h1, fun m hm => h2 m (mem_srt.mpr hm)⟩
/-- each module stands in a group -/
theorem groups_cover {ms : List Str} {us : List (Str × Str)} (hm : Mods ms) (hu : Uses ms us) {x : Str} (hx : x ∈ ms) : ∃ g ∈ groupsS ms us, x ∈ g := by
  have hx' : x ∈ srt lessS ms := mem_srt.mpr hx
  have self := grp_self (R := leadS ms us) hx'
  obtain ⟨y, r, e⟩ : ∃ y r, grpS (srt lessS ms) (leadS ms us) x = y :: r := by
    cases q : grpS (srt lessS ms) (leadS ms us) x with
    | nil => rw [q] at self; cases self
    | cons y r => exact ⟨y, r, rfl⟩
  have hy : y ∈ grpS (srt lessS ms) (leadS ms us) x := by rw [e]; exact List.mem_cons_self
  have same := grp_same (lead_ok hu) hx' hy
  refine ⟨grpS (srt lessS ms) (leadS ms us) x, (groups_perm hm hu).mem_iff.mpr ?_, self⟩
  unfold grps
  refine List.mem_map.mpr ⟨y, List.mem_filter.mpr ⟨(grp_mem.mp hy).1, decide_eq_true ?_⟩, same⟩
  rw [same, e]; rfl
/-- users ahead -/
theorem place_pw {ks : List Str} {R : Str → Str → Bool} : ∀ (k : Nat) (W : List (List Str)), (∀ g ∈ placeS R k W, g ∈ W) ∧ (placeS R k W).Pairwise fun g h => R (h.headD Str.empty) (g.headD Str.empty) = false
  | 0, _ => ⟨fun _ h => (by cases h), List.Pairwise.nil⟩
  | k + 1, W => by
    show (∀ g ∈ (match readyS R W with | [] => [] | g :: _ => g :: placeS R k (W.filter fun h => !decide (h = g))), g ∈ W) ∧ (match readyS R W with | [] => [] | g :: _ => g :: placeS R k (W.filter fun h => !decide (h = g))).Pairwise _
    cases e : readyS R W with
    | nil => exact ⟨fun _ h => (by cases h), List.Pairwise.nil⟩
    | cons g r =>
      have hg : g ∈ readyS R W := by rw [e]; exact List.mem_cons_self
      obtain ⟨h1, h2⟩ := List.mem_filter.mp hg
      obtain ⟨ih1, ih2⟩ := place_pw (ks := ks) (R := R) k (W.filter fun h => !decide (h = g))
      refine ⟨fun x hx => ?_, List.pairwise_cons.mpr ⟨fun x hx => ?_, ih2⟩⟩
      · rcases List.mem_cons.mp hx with rfl | hx
        · exact h1
        · exact (List.mem_filter.mp (ih1 x hx)).1
      · have hW := (List.mem_filter.mp (ih1 x hx)).1
        rw [Bool.not_eq_true'] at h2
        have := List.any_eq_false.mp h2 x hW
        simpa using this
/-- groups are single where there is no ring -/
theorem groups_single {ms : List Str} {us : List (Str × Str)} (hm : Mods ms) (hu : Uses ms us) (h : firstR ms us = none) {g : List Str} (hg : g ∈ groupsS ms us) : ∃ x ∈ ms, g = [x] := by
  obtain ⟨m, h1, rfl⟩ := groups_in hm hu hg
  obtain ⟨hx, q⟩ := ring_facts hm hu hg (grp_self (mem_srt.mpr h1))
  rcases q with ⟨_, _, e⟩ | ⟨w, v, e, _⟩
  · have self : m ∈ grpS (srt lessS ms) (leadS ms us) m := grp_self (mem_srt.mpr h1)
    obtain ⟨y, e2⟩ := List.length_eq_one_iff.mp e
    rw [e2] at self ⊢
    exact ⟨y, by rw [← List.mem_singleton.mp self]; exact h1, rfl⟩
  · rw [firstR_none h m hx] at e; cases e
theorem groups_len {ms : List Str} {us : List (Str × Str)} (hm : Mods ms) (hu : Uses ms us) : (groupsS ms us).length ≤ ms.length := by
  rw [(groups_perm hm hu).length_eq]
  unfold grps
  rw [List.length_map]
  refine Nat.le_trans (List.length_filter_le _ _) ?_
  rw [srt_len]; exact Nat.le_refl _
theorem findSome_at {α β : Type} {f : α → Option β} {w : β} {x : α} : ∀ {l : List α} {k : Nat}, (∀ m ∈ l.take k, f m = none) → l[k]? = some x → f x = some w → l.findSome? f = some w
  | [], _, _, h, _ => by cases h
  | y :: l, 0, _, h, e => by
    cases h
    rw [List.findSome?_cons, e]
  | y :: l, k + 1, h0, h, e => by
    rw [List.findSome?_cons, h0 y List.mem_cons_self]
    exact findSome_at (fun m hm => h0 m (List.mem_cons_of_mem _ hm)) h e
/-- the order in which the modules stand -/
def orderS (ms : List Str) (us : List (Str × Str)) : List Str := (groupsS ms us).map fun g => g.headD Str.empty
theorem order_ok {ms : List Str} {us : List (Str × Str)} (hm : Mods ms) (hu : Uses ms us) (h : firstR ms us = none) {u : Str × Str} (hin : u ∈ us) : u.1 ∈ orderS ms us ∧ u.2 ∈ orderS ms us ∧ (orderS ms us).idxOf u.1 ≤ (orderS ms us).idxOf u.2 := by
  have cov : ∀ x ∈ ms, x ∈ orderS ms us := fun x hx => by
    obtain ⟨g, hg, hxg⟩ := groups_cover hm hu hx
    obtain ⟨y, _, rfl⟩ := groups_single hm hu h hg
    rw [List.mem_singleton.mp hxg]
    exact List.mem_map.mpr ⟨[y], hg, rfl⟩
  obtain ⟨k1, k2, k3⟩ := hu.ok u hin
  refine ⟨cov _ k1, cov _ k2, ?_⟩
  rcases Nat.lt_or_ge ((orderS ms us).idxOf u.2) ((orderS ms us).idxOf u.1) with z | z
  · have l1 := List.idxOf_lt_length_of_mem (cov _ k1)
    have l2 := List.idxOf_lt_length_of_mem (cov _ k2)
    have pw : (orderS ms us).Pairwise fun a b => leadS ms us b a = false := List.pairwise_map.mpr (place_pw (ks := srt lessS ms) (R := leadS ms us) ms.length (grps (srt lessS ms) (leadS ms us))).2
    have q := List.pairwise_iff_getElem.mp pw _ _ l2 l1 z
    rw [List.getElem_idxOf, List.getElem_idxOf] at q
    have := (lead_iff hu k1).mpr ⟨fun e => k3 e.symm, Rc.on .here hin⟩
    rw [q] at this
    cases this
  · exact z
/-- the first ring: what k24's law looks at -/
theorem first_group {ms : List Str} {us : List (Str × Str)} (hm : Mods ms) (hu : Uses ms us) {w : List Str} (h : firstR ms us = some w) : ∃ s r, w = s :: r ∧ s ∈ ms ∧ ringS ms.length (nextsS false (srt lessP us)) s = some w ∧
    (∃ g ∈ groupsS ms us, 1 < g.length ∧ s ∈ g) ∧ (∀ g ∈ groupsS ms us, s ∈ g → ∀ z ∈ w, z ∈ g) ∧ (∀ g ∈ groupsS ms us, 1 < g.length → ∀ m ∈ g, lessS m s = false) := by
  obtain ⟨s, hs, e, least⟩ := firstR_some h
  obtain ⟨g, hg, hsg⟩ := groups_cover hm hu hs
  have key : ∀ g ∈ groupsS ms us, s ∈ g → 1 < g.length ∧ (∃ r, w = s :: r) ∧ ∀ z ∈ w, z ∈ g := fun g hg hsg => by
    obtain ⟨_, q⟩ := ring_facts hm hu hg hsg
    rcases q with ⟨e1, _⟩ | ⟨w', v, e1, _, _, e4, e5, e6⟩
    · rw [e] at e1; cases e1
    · rw [e] at e1; cases e1
      exact ⟨e4, e5, e6⟩
  obtain ⟨k1, ⟨r, k2⟩, _⟩ := key g hg hsg
  refine ⟨s, r, k2, hs, e, ⟨g, hg, k1, hsg⟩, fun g hg hsg => (key g hg hsg).2.2, fun g hg hl m hmg => ?_⟩
  obtain ⟨hmm, q⟩ := ring_facts hm hu hg hmg
  rcases q with ⟨_, _, e3⟩ | ⟨w', v, e1, _⟩
  · omega
  · exact least m hmm (by rw [e1]; exact fun z => nomatch z)
/-- the least of the least -/
def leastG (L : List (List Str)) : List Str := L.map fun g => minB lessS (g.headD Str.empty) g.tail
theorem leastG_in {g : List Str} (ne : g ≠ []) : minB lessS (g.headD Str.empty) g.tail ∈ g ∧ ∀ z ∈ g, lessS z (minB lessS (g.headD Str.empty) g.tail) = false := by
  match g, ne with
  | x :: r, _ => exact ⟨minB_mem r x, minB_le linS r x⟩
theorem least_first {L : List (List Str)} {s : Str} (h1 : ∃ g ∈ L, s ∈ g) (h2 : ∀ g ∈ L, ∀ m ∈ g, lessS m s = false) (ne : ∀ g ∈ L, g ≠ []) : ∃ x xs, leastG L = x :: xs ∧ minB lessS x xs = s := by
  obtain ⟨g, hg, hs⟩ := h1
  have e1 : minB lessS (g.headD Str.empty) g.tail = s := linS.tri _ _ (h2 g hg _ (leastG_in (ne g hg)).1) ((leastG_in (ne g hg)).2 s hs)
  have hin : s ∈ leastG L := List.mem_map.mpr ⟨g, hg, e1⟩
  match q : leastG L, hin with
  | x :: xs, hin =>
    refine ⟨x, xs, rfl, ?_⟩
    have m1 := minB_mem xs x (lt := lessS)
    have m2 := minB_le linS xs x s hin
    rw [← q] at m1
    obtain ⟨g2, hg2, e2⟩ := List.mem_map.mp m1
    refine linS.tri _ _ ?_ m2
    rw [← e2]
    exact h2 g2 hg2 _ (leastG_in (ne g2 hg2)).1
/-- the last use of a ring is one of the program -/
theorem ring_use {ms : List Str} {us : List (Str × Str)} (hm : Mods ms) (hu : Uses ms us) {w : List Str} (h : firstR ms us = some w) : (w.getLastD Str.empty, w.headD Str.empty) ∈ us := by
  obtain ⟨s, hs, e, _⟩ := firstR_some h
  have q : ringD ms us (.tup (w.map .str)) = true := (ring_holds15 hm hu hs e).1
  rw [ringD_map, Bool.and_eq_true] at q
  exact of_decide_eq_true q.2
theorem no_uses {ms : List Str} (hm : Mods ms) : firstR ms [] = none := by
  cases e : firstR ms [] with
  | none => rfl
  | some w => exact absurd (ring_use hm (⟨List.nodup_nil, fun u h => by cases h⟩ : Uses ms []) e) (by simp)
theorem last_str {s : Str} {r : List Str} : atI ((s :: r).map D.str) (-1) = some (.str ((s :: r).getLastD Str.empty)) := by
  rw [atI_last (by simp), List.getLast_map, List.getLastD_eq_getLast?, List.getLast?_eq_some_getLast (l := s :: r) (by simp)]
  rfl
end RP

set_option Elab.async false
set_option linter.all false
set_option maxRecDepth 100000
/-! EX1: exceptions over data: promises with two ways out, raise C(e), calls that may let one out, try .. except C as e -/
namespace DL
open PySem PySem.Spec PyProof.Rows L2 TL
/-- a promise with two ways out: a value; or an exception of a class, its fields' names, their data -/
abbrev DSpX (m : Mem) := List D → m.S → (D → m.S → Prop) → (Addr → List Str → List D → m.S → Prop) → Prop
def liftX (K : PySem.W.Frag) (m : Mem) (n : Nat) (sp : DSpX m) : Sp := fun vs H Q E => vs.length = n ∧ ∃ F ds s Qd Qx, Same F H ∧ m.M s H ∧ (∀ a, m.R s a → F a = none) ∧ Reps K F ds vs ∧ sp ds s Qd Qx ∧
  (∀ d s' v F' H', Qd d s' → CStp m F H s F' H' s' → Rep K F' d v → Q v H') ∧
  (∀ C ns es s' dx fs F' H', Qx C ns es s' → CStp m F H s F' H' s' → H' dx = some (.xd fs) → H dx = none → F' dx = none → ¬ m.R s' dx → fs.map (·.1) = ns → Reps K F' es (fs.map (·.2)) → E (.ref C) (some dx) H')
/-- what the body of a def that may raise is to reach -/
abbrev endsX {m : Mem} (Qd : D → m.S → Prop) (Qx : Addr → List Str → List D → m.S → Prop) : DEnds m := { nx := fun _ s' => Qd .non s', rt := Qd, ex := fun C ns es _ s' => Qx C ns es s' }
section
variable {P : Program} {w : World} {K : PySem.W.Frag} {mg : Str → Option Value} {base : Heap} {m : Mem}
/-- THE RULE for a def that may raise, over data -/
theorem dfnX {x qual : Str} {st : Stmt} {f : Addr} {fd : FuncData} {N ps : List Str} {k n : Nat} {sp : DSpX m} (Fn : Fun K x qual st f fd) (S : FnScope N ps (defScope st)) (hn : n = ps.length)
    (hb : ∀ (cdv : Value) (A : Around) (outer : List Env) (s : Shared) (H : Hp) (E : XK) (F0 : Hp) (s0 : m.S), RoomG k (A.deeper (envOfC qual (defScope st) s.heap.objs.size f cdv)) →
      ∃ t, PSs (cxOf (L2.CX P w) P w K mg base N qual (defScope st) f cdv A outer s H E) (defBody st) (upS K m ⟨F0, H, s0, fun cls d _ H' => E cls d H'⟩ t) ∧ ∀ ds s Qd Qx, sp ds s Qd Qx → t (endsX Qd Qx) (startD N ds) s) :
    FnG P w K mg base (L2.CX P w) (k + 1) f fd ps (liftX K m n sp) := by
  subst hn
  refine Fun.okG Fn S (fun vs H Q E h => h.1) (fun cdv A outer s H vs Q E hr h => ?_)
  obtain ⟨hl, F0, ds, s0, Qd, Qx, sub, hm, hreg, rs, hsp, hQ, hX⟩ := h
  obtain ⟨t, ht, hq⟩ := hb cdv A outer s H E F0 s0 hr
  have no : ∀ (i : Nat) o, (startD N ds)[i]? ≠ some (Sl.ow o) := fun i o e => by
    unfold startD at e
    by_cases hi : i < ds.length
    · rw [List.getElem?_append_left (by simpa using hi), List.getElem?_map, List.getElem?_eq_getElem hi] at e; cases e
    · rw [List.getElem?_append_right (by simpa using hi), List.getElem?_replicate] at e
      split at e <;> cases e
  refine ⟨_, ht, F0, startD N ds, s0, _, rel_start sub hm hreg rs, ⟨Same.refl _, fun _ _ h _ => h, fun _ h => h, fun _ _ h => .inl h, fun _ h => .inl h, fun i p ⟨⟨o, e⟩, _⟩ => absurd e (no i o)⟩, hq ds s0 Qd Qx hsp, ?_⟩
  have cs : ∀ F' H' σ ρ s, Rel K m F' H' σ ρ s → Own m ⟨F0, H, s0, fun cls d _ H' => E cls d H'⟩ F' H' σ ρ s → CStp m F0 H s0 F' H' s := fun F' H' σ ρ s r o => ⟨o.ext, o.keep, o.alive, o.fresh, o.regf, r.sub, r.mem, r.reg⟩
  exact ⟨fun F' H' σ ρ s _ r o q => hQ .non s _ F' H' q (cs F' H' σ ρ s r o) rfl, fun F' H' σ ρ s d v _ r o rv q => hQ d s v F' H' q (cs F' H' σ ρ s r o) rv, fun _ _ _ _ _ _ _ _ q => q.elim, fun _ _ _ _ _ _ _ _ q => q.elim,
    fun F' H' σ ρ s C ns es dx fs _ r o h1 h2 h3 h4 _ h6 h7 q => hX C ns es s dx fs F' H' q (cs F' H' σ ρ s r o) h1 h2 h3 h4 h6 h7⟩
end
/-! ### calls that may let an exception out -/
section
variable {X : Cx} {CX : CXT} {k : Nat} {f : Addr} {fd : FuncData} {ps : List Str} {sp : Sp} {E' : L2.St → XK} {x : Str} {p pos : Pos} {e : Expr} {es : List Expr} {t : TA}
theorem go_fnS {pins : List (Addr × Obj)} {σ : L2.St} {H : Hp} {s : Shared} {Q : VK} {us : List Value} {vs : List V} (G : FnG X.prog X.w X.K X.mg X.base CX k f fd ps sp) (hr : RoomG k X.A) (hb : Binds X.K fd ps []) (hx : PassesAt CX X σ (E' σ))
    (I : Inv X pins σ H s) (rv : Vals vs us) (q : sp vs H Q (E' σ)) : wpAny (model X.prog X.w) X.A (call (.ref f) us) (EP X pins σ Q) X.xe s := by
  have many : (us ++ []).length = ps.length := by
    rw [List.append_nil, ← rv.length]
    exact G.len _ _ _ _ q
  have bd := hb s us I.kIn many
  rw [List.append_nil] at bd
  refine wpAny_call (codeAny_mono (G.run X.A X.stack s H ⟨us, []⟩ us vs Q (E' σ) hr I.env0 bd rv q) fun r s' z => ?_)
  rcases r with er | (_ | _ | _ | u)
  · exact hx pins H s er s' I z
  · exact z.elim
  · exact z.elim
  · exact z.elim
  · exact I.after z
theorem pg_callS (G : FnG X.prog X.w X.K X.mg X.base CX k f fd ps sp) (hr : RoomG k X.A) (hg : Gl X x) (hm : X.mg x = some (.ref f)) (hk : PySem.W.keepIn X.K (.ref f) = true) (hb : Binds X.K fd ps []) (hx : ∀ σ, PassesAt CX X σ (E' σ)) (ha : PA X (e :: es) t)
    (hdb : (x == ("__debug__" : Str)) = false := by decide) (he : starEach (e :: es) X.env = (false, eval e X.env) :: starEach es X.env := by rfl) (hpl : (backTo pos (starEach es X.env)).any (·.1) = false := by rfl) : PE X (.Call (.Name x p) (e :: es) [] pos) (tCallS sp E' t) :=
  ⟨fun pins s σ H Q I h => wpAny_Call_Name_kw (ld_glob I hg hm (PySem.W.callWith_K (h₀ := X.base) I.ok.mod.kin hk (thn (ha.run pos pins s σ H _ I h) fun us s1 ⟨vs, H1, I1, rv, q⟩ => ⟨I1.kIn, go_fnS G hr hb (hx σ) I1 rv q⟩) he hpl) hdb)⟩
end
section
variable {K : PySem.W.Frag} {m : Mem} {F H F' H' : Hp} {σ : L2.St} {ρ : List Sl} {s s' : m.S}
theorem owns_there (r : Rel K m F H σ ρ s) {i : Nat} {p : Addr} (h : Owns σ ρ i p) : H p ≠ none := by
  obtain ⟨⟨o, e⟩, q⟩ := h
  obtain ⟨p', ho, h1, h2, _⟩ := r.own_at e
  rw [q] at h1; cases h1
  rw [h2]; exact fun z => nomatch z
theorem Rel.drop (r : Rel K m F H σ ρ s) (i : Nat) : Rel K m F H (σ.set i none) (ρ.set i .no) s := by
  have cut : ∀ j q, Owns (σ.set i none) (ρ.set i .no) j q → Owns σ ρ j q := fun j q ⟨⟨o, h1⟩, h2⟩ => by
    by_cases hj : i = j
    · subst hj
      by_cases hi : i < ρ.length
      · rw [List.getElem?_set_self hi] at h1; cases h1
      · rw [List.getElem?_eq_none (by simpa using hi)] at h1; cases h1
    · rw [List.getElem?_set_ne hj] at h1 h2; exact ⟨⟨o, h1⟩, h2⟩
  refine ⟨r.sub, r.mem, r.reg, by rw [List.length_set, List.length_set]; exact r.len, fun j d e => ?_, fun j o e => ?_, fun j q h => r.owF j q (cut j q h), fun j k q a b => r.uq j k q (cut j q a) (cut k q b)⟩
  · by_cases hj : i = j
    · subst hj
      by_cases hi : i < ρ.length
      · rw [List.getElem?_set_self hi] at e; cases e
      · rw [List.getElem?_eq_none (by simpa using hi)] at e; cases e
    · rw [List.getElem?_set_ne hj] at e ⊢; exact r.sh j d e
  · by_cases hj : i = j
    · subst hj
      by_cases hi : i < ρ.length
      · rw [List.getElem?_set_self hi] at e; cases e
      · rw [List.getElem?_eq_none (by simpa using hi)] at e; cases e
    · rw [List.getElem?_set_ne hj] at e ⊢; exact r.ow j o e
theorem Own.drop {E E2 : Ent m} (o : Own m E F H σ ρ s) (i : Nat) (h1 : E2.F = E.F) (h2 : E2.H = E.H) (h3 : E2.s = E.s) : Own m E2 F H (σ.set i none) (ρ.set i .no) s :=
  ⟨by rw [h1]; exact o.ext, by rw [h2, h3]; exact o.keep, by rw [h2]; exact o.alive, by rw [h1, h2]; exact o.fresh, by rw [h2, h3]; exact o.regf, fun j q ⟨⟨u, e1⟩, e2⟩ => by
    rw [h2]
    by_cases hj : i = j
    · subst hj
      by_cases hi : i < ρ.length
      · rw [List.getElem?_set_self hi] at e1; cases e1
      · rw [List.getElem?_eq_none (by simpa using hi)] at e1; cases e1
    · rw [List.getElem?_set_ne hj] at e1 e2; exact o.own j q ⟨⟨u, e1⟩, e2⟩⟩
theorem Own.re {E E2 : Ent m} (o : Own m E F H σ ρ s) (h1 : E2.F = E.F) (h2 : E2.H = E.H) (h3 : E2.s = E.s) : Own m E2 F H σ ρ s :=
  ⟨by rw [h1]; exact o.ext, by rw [h2, h3]; exact o.keep, by rw [h2]; exact o.alive, by rw [h1, h2]; exact o.fresh, by rw [h2, h3]; exact o.regf, by rw [h2]; exact o.own⟩
end
section
variable {X : Cx} {m : Mem} {E : Ent m} {k n : Nat} {f : Addr} {fd : FuncData} {ps : List Str} {sp : DSpX m} {x : Str} {p pos : Pos} {e : Expr} {es : List Expr} {u : DTA m}
/-- a call that may raise, as the last thing of a statement -/
theorem callX_core {σ : L2.St} {H : Hp} {F : Hp} {ρ : List Sl} {s : m.S} {dd : DEnds m} {DD : Ends} {Q : VK} (hn : ∀ ds s Qd Qx, sp ds s Qd Qx → ds.length = n) (r : Rel X.K m F H σ ρ s) (o : Own m E F H σ ρ s) (f : Fits X.K m E F dd DD) {Qd : D → List Sl → m.S → Prop}
    (ht : u ρ s fun ds ρ1 s1 => sp ds s1 (fun d s' => Qd d ρ1 s') (fun C ns es s' => dd.ex C ns es ρ1 s'))
    (hq : ∀ d ρ1 s' v F' H', Qd d ρ1 s' → Rel X.K m F' H' σ ρ1 s' → Own m E F' H' σ ρ1 s' → Same F F' → Rep X.K F' d v → Q v H') : tCallS (liftX X.K m n sp) (WE E.W) (upA X.K m u) σ H Q := by
  refine ⟨F, ρ, s, _, r, ht, fun ds ρ1 s1 vs F1 H1 q1 r1 st1 rs => ?_⟩
  have o1 := o.stp st1
  refine ⟨by rw [rs.length]; exact hn _ _ _ _ q1, F1, ds, s1, _, _, r1.sub, r1.mem, r1.reg, rs, q1, fun d s' v F2 H2 q2 c rv => hq d ρ1 s' v F2 H2 q2 (r1.call c) (o1.stp c.stp) (st1.ext.trans c.ext) rv, fun C ns es s' dx fs F2 H2 q2 c hx n1 n2 nR e1 e2 => ?_⟩
  refine f.ex F2 H2 σ ρ1 s' C ns es dx fs (st1.ext.trans c.ext) (r1.call c) (o1.stp c.stp) hx ?_ n2 nR (fun i z => owns_there r1 z n1) e1 e2 q2
  cases q : E.H dx with
  | none => rfl
  | some v => exact absurd n1 (o1.alive dx (by rw [q]; exact fun z => nomatch z))
def dExprX {m : Mem} (sp : DSpX m) (u : DTA m) : DTS m := fun dd ρ s => u ρ s fun ds ρ1 s1 => sp ds s1 (fun _ s' => dd.nx ρ1 s') (fun C ns es s' => dd.ex C ns es ρ1 s')
/-- f(e, ..), f may raise -/
theorem ds_exprX (tk : Takes X E.W) (G : FnG X.prog X.w X.K X.mg X.base (L2.CX X.prog X.w) k f fd ps (liftX X.K m n sp)) (hn : ∀ ds s Qd Qx, sp ds s Qd Qx → ds.length = n) (hr : RoomG k X.A) (hg : Gl X x) (hm : X.mg x = some (.ref f)) (hk : PySem.W.keepIn X.K (.ref f) = true) (hb : Binds X.K fd ps [])
    (ha : PA X (e :: es) (upA X.K m u)) {pos2 : Pos} (hdb : (x == ("__debug__" : Str)) = false := by decide) (he : starEach (e :: es) X.env = (false, eval e X.env) :: starEach es X.env := by rfl) (hpl : (backTo pos (starEach es X.env)).any (·.1) = false := by rfl)
    (hs : swapsWith (.Call (.Name x p) (e :: es) [] pos) none pos2.line X.env = pure false := by rfl) : PS X (.Expr (.Call (.Name x p) (e :: es) [] pos) pos2) (upS X.K m E (dExprX sp u)) :=
  PS.imp (ps_expr (pg_callS G hr hg hm hk hb (fun σ => passAt tk σ) ha hdb he hpl) hs) fun DD σ H h => by
    obtain ⟨F, ρ, s, dd, r, o, ht, f⟩ := h
    exact callX_core (Qd := fun _ ρ1 s' => dd.nx ρ1 s') hn r o f ht fun d ρ1 s' v F' H' q r' o' sm rv => f.nx F' H' σ ρ1 s' sm r' o' q
end
/-! ### raise C(e) -/
def tMkXP (C : Addr) (sp : Sp) (ta : TA) : L2.St → Hp → XK → Prop := fun σ H Q => ta σ H fun vs H1 => vs.length ≤ 1000 ∧ ∀ a, H1 a = none → sp (.ref a :: vs) (upd H1 a (exo a C none))
  (fun v H2 => v = .non ∧ ∃ (d : Addr) (fs : List (Str × V)), H2 a = some (exo a C (some d)) ∧ H2 d = some (exd d fs) ∧ H1 d = none ∧ Q (.ref C) (some d) (upd (del H2 a) d (.xd fs))) E0
section
variable {X : Cx} {k : Nat} {fI C : Addr} {fd : FuncData} {ps : List Str} {sp : Sp} {x : Str} {e : Expr} {es : List Expr} {ta : TA} {p pos : Pos}
theorem pmk_mkx (T : XC X.K C) (ty : PySem.W.typeIn X.K (.ref C) = some (.type "type")) (iC : PySem.W.findIn X.K (.ref C) "__init__" = some (some (.ref fI))) (tI : PySem.W.typeIn X.K (.ref fI) = some (.type "function"))
    (G : FnG X.prog X.w X.K X.mg X.base CX0 k fI fd ps sp) (hr : RoomG (k + 1) X.A) (hb : Binds X.K fd ps []) (hg : Gl X x) (hm : X.mg x = some (.ref C)) (ha : PA X (e :: es) ta)
    (hdb : (x == ("__debug__" : Str)) = false := by decide) (he : starEach (e :: es) X.env = (false, eval e X.env) :: starEach es X.env := by rfl) (hpl : (backTo pos (starEach es X.env)).any (·.1) = false := by rfl) :
    PMk X (.Call (.Name x p) (e :: es) [] pos) (tMkXP C sp ta) := by
  obtain ⟨B, newId, initId, bmB, FB, SF, ci, ov⟩ := T.base
  intro pins s σ H Q I h
  refine wpAny_Call_Name_kw (ld_glob I hg hm (PySem.W.callWith_K (h₀ := X.base) I.ok.mod.kin T.kC (thn (ha.run pos pins s σ H _ I h) fun us s1 ⟨vs, H1, I1, rv, hz, q⟩ => ⟨I1.kIn, ?_⟩) he hpl) hdb)
  have K1 := I1.kIn
  obtain ⟨nm, N', qn, bs, bm, hdct, sn, sub, ab, col, dd, k0, k1, k2, k3, k5, hC, hT⟩ := PySem.W.excInit_of K1 ci
  obtain ⟨hp, g, dr, tk, os⟩ := s1
  have big : hp.objs.size ≤ hp.objs.size + 1 := Nat.le_succ _
  have hq := q (hp.objs.size + 1) (I1.hok.fresh big)
  have keeps : ∀ b o, hp.get? b = some o → ((hp.push (PySem.W.kdv_tup us)).push (PySem.HandSPX.excO C hp.objs.size)).get? b = some o := fun b o z => Heap.get?_push_of_some _ (Heap.get?_push_of_some _ z)
  have there : ((hp.push (PySem.W.kdv_tup us)).push (PySem.HandSPX.excO C hp.objs.size)).get? (hp.objs.size + 1) = some (PySem.HandSPX.excO C hp.objs.size) := by heap_get
  have J : Inv X pins σ (upd H1 (hp.objs.size + 1) (exo (hp.objs.size + 1) C none)) ⟨(hp.push (PySem.W.kdv_tup us)).push (PySem.HandSPX.excO C hp.objs.size), g, dr, tk, os⟩ :=
    I1.laid (t' := tk) keeps big (exo_ok there)
  have rr : Vals (V.ref (hp.objs.size + 1) :: vs) (Value.ref (hp.objs.size + 1) :: us) := .cons rfl rv
  have many : ((Value.ref (hp.objs.size + 1) :: us) ++ []).length = ps.length := by
    rw [List.append_nil, ← rr.length]
    exact G.len _ _ _ _ hq
  have few : us.length ≤ sizeLine := by
    rw [← rv.length]
    exact Nat.le_trans hz (by rw [sizeLine_eq]; decide)
  have bd := hb _ (Value.ref (hp.objs.size + 1) :: us) J.kIn many
  rw [List.append_nil] at bd
  refine wpAny_call (PySem.HandSPX.call_own FB hT hC (PySem.W.looks_findIn K1 iC) (fun self => PySem.W.bind_fn K1 self tI) few
    (codeAny_mono (G.run _ X.stack _ _ ⟨Value.ref (hp.objs.size + 1) :: us, []⟩ (Value.ref (hp.objs.size + 1) :: us) _ _ E0 (hr.make C us []) (J.env0.make C us []) bd rr hq) fun r s' z => ?_))
  rcases r with er | (_ | _ | _ | u)
  · exact z.elim
  · exact z.elim
  · exact z.elim
  · exact z.elim
  · obtain ⟨v, H', os', bare, un, ok', rv', ev, d, fs, ea, ed, nd, q2⟩ := z
    subst ev
    cases rv'
    obtain ⟨h2, g2, d2, t2, o2⟩ := s'
    obtain ⟨t0, G2, J2, k2', ga, hoe, na⟩ := mk_end0 (t2 := t2) (d2 := d2) I1 big keeps un ok' os' bare ea ed nd
    exact ⟨rfl, _, _, _, ⟨G2, g2, d2, t2, o2⟩, _, .ref C, some d, rfl, J2, k2', ga, hoe, ⟨rfl, rfl⟩, rfl, rfl, na, rfl, bare, raises_own T.sb ty, q2⟩
end
section
variable {X : Cx} {m : Mem} {E : Ent m} {k : Nat} {fI C : Addr} {fd : FuncData} {ps : List Str} {x f : Str} {e : Expr} {te : DT m} {p pos : Pos}
def dRaise {m : Mem} (C : Addr) (f : Str) (te : DT m) : DTS m := fun dd ρ s => te ρ s fun d ρ1 s1 => dd.ex C [f] [d] ρ1 s1
theorem ds_raise {pos2 : Pos} (hc : X.calm = true) (tk : Takes X E.W) (T : XC X.K C) (ty : PySem.W.typeIn X.K (.ref C) = some (.type "type")) (iC : PySem.W.findIn X.K (.ref C) "__init__" = some (some (.ref fI))) (tI : PySem.W.typeIn X.K (.ref fI) = some (.type "function"))
    (G : FnG X.prog X.w X.K X.mg X.base CX0 k fI fd ps (spIn1 C f)) (hr : RoomG (k + 1) X.A) (hb : Binds X.K fd ps []) (hg : Gl X x) (hm : X.mg x = some (.ref C)) (ha : PE X e (up X.K m te))
    (hdb : (x == ("__debug__" : Str)) = false := by decide) (he : starEach [e] X.env = [(false, eval e X.env)] := by rfl) (hpl : (backTo pos (starEach [] X.env)).any (·.1) = false := by rfl) :
    PS X (.Raise (some (.Call (.Name x p) [e] [] pos)) none pos2) (upS X.K m E (dRaise C f te)) :=
  PS.imp (ps_raise hc tk (pmk_mkx (es := []) (pos := pos) T ty iC tI G hr hb hg hm (da_cons ha da_nil (by rw [he]; rfl)) hdb (by rw [he]; rfl) hpl)) fun DD σ H h => by
    obtain ⟨F, ρ, s, dd, r, o, ht, ff⟩ := h
    refine ⟨F, ρ, s, fun ds ρ1 s1 => ∃ d, ds = [d] ∧ dd.ex C [f] [d] ρ1 s1, r, ?_, fun ds ρ1 s1 vs F1 H1 ⟨d, ed, q1⟩ r1 st1 rs => ?_⟩
    · show te ρ s _
      have e2 : (fun (d : D) (ρ2 : List Sl) (s2 : m.S) => ∃ d', [d] = [d'] ∧ dd.ex C [f] [d'] ρ2 s2) = fun d ρ1 s1 => dd.ex C [f] [d] ρ1 s1 := by
        funext d ρ1 s1
        exact propext ⟨fun ⟨d', z, h⟩ => by cases z; exact h, fun h => ⟨d, rfl, h⟩⟩
      show te ρ s (fun (d : D) (ρ2 : List Sl) (s2 : m.S) => ∃ d', [d] = [d'] ∧ dd.ex C [f] [d'] ρ2 s2)
      rw [e2]; exact ht
    subst ed
    obtain ⟨v, vr, rfl, rv, rn⟩ := rs
    cases rn
    refine ⟨(by show 1 ≤ 1000; omega), fun a na => ⟨a, v, rfl, upd_same, fun dx ndx ne => ⟨rfl, dx, [(f, v)], upd_same, by rw [upd_ne ne, upd_same], ?_, ?_⟩⟩⟩
    · rw [upd_ne ne] at ndx; exact ndx
    · rw [upd_ne ne] at ndx
      have eH : upd (del (upd (upd (upd H1 a (exo a C none)) dx (exd dx [(f, v)])) a (exo a C (some dx))) a) dx (.xd [(f, v)]) = upd H1 dx (.xd [(f, v)]) := by
        funext b
        by_cases h1 : b = dx
        · rw [h1, upd_same, upd_same]
        · rw [upd_ne h1, upd_ne h1]
          by_cases h2 : b = a
          · rw [h2, del_same, na]
          · rw [del_ne h2, upd_ne h2, upd_ne h1, upd_ne h2]
      rw [eH]
      have nF : F1 dx = none := r1.sub.free ndx
      have g : Grow F1 H1 F1 (upd H1 dx (.xd [(f, v)])) := ⟨Same.refl _, same_upd ndx, fun b o z => by rw [upd_ne (ne_of_none (r1.sub b o z) ndx)]; exact r1.sub b o z, fun b o z => .inl z⟩
      have o1 := o.stp st1
      refine ff.ex F1 _ σ ρ1 s1 C [f] [d] dx [(f, v)] st1.ext (r1.grow g) (o1.stp g.stp) upd_same ?_ nF (fun z => m.there s1 H1 dx r1.mem z ndx) (fun i z => owns_there r1 z ndx) rfl (.one rv) q1
      cases q : E.H dx with
      | none => rfl
      | some v => exact absurd ndx (o1.alive dx (by rw [q]; exact fun z => nomatch z))
end
/-! ### try: .. except C as e: .. -/
section
variable {X : Cx} {m : Mem} {E : Ent m} {x n : Str} {c : Value} {i : Nat} {body suite : List Stmt} {b₀ : Stmt} {np pos pos' : Pos} {tb : DTS m} {ts : Addr → Value → Option Addr → DTS m} {tbl : List Addr}
/-- the entry of a def, with another wish for what is raised -/
abbrev Ent.at {m : Mem} (E : Ent m) (W : WX) : Ent m := ⟨E.F, E.H, E.s, W⟩
def dTryA {m : Mem} (tbl : List Addr) (i : Nat) (tb : DTS m) (ts : Addr → Value → Option Addr → DTS m) : DTS m := fun dd ρ s => tb { dd with ex := fun C ns es ρ1 s1 => C ∈ tbl ∧ ∀ a x, ts a (.ref C) (some x) { nx := fun ρ2 s2 => dd.nx (ρ2.set i .no) s2, rt := dd.rt, bk := fun ρ2 s2 => dd.bk (ρ2.set i .no) s2, ct := fun ρ2 s2 => dd.ct (ρ2.set i .no) s2 } (ρ1.set i (.sh (.cau a x ns es))) s1 } ρ s
theorem ds_tryA (tbl : List Addr) (hs : X.stack = X.env :: X.outer) (hf : X.env.frame = some X.env.locals) (hN : X.N.Nodup) (hi : X.N[i]? = some n) (hln : X.env.kindOf n = some .local) (hc : Names X x c) (ht : ∀ C ∈ tbl, PySem.W.exmOne X.K (.ref C) c = some true)
    (hb : ∀ (W : WX) (pn : List (Addr × Obj)) (xe : Value → Shared → Prop), Takes (X.tr pn xe) W → PassesOwn (model X.prog X.w) X.A X.env xe → PSs (X.tr pn xe) body (upS X.K m (E.at W) tb))
    (hsu : ∀ (a : Addr) (oe : Obj) (cls : Value) (d : Option Addr) (pn : List (Addr × Obj)), Zc cls d oe → (∃ vs, oe.data = .fields vs) → PSs (X.suite a ((a, oe) :: pn)) (b₀ :: suite) (upS X.K m (E.at fun _ _ _ _ => False) (ts a cls d))) :
    PS X (.Try body [.ExceptHandler (some (.Name x np)) (some n) (b₀ :: suite) pos'] [] [] pos) (upS X.K m E (dTryA tbl i tb ts)) :=
  PS.imp (ps_try_as (tb := fun W => upS X.K m (E.at W) tb) (ts := fun a cls d => upS X.K m (E.at fun _ _ _ _ => False) (ts a cls d)) hs hf hN hi hln hc takes0 hb hsu) fun DD σ H h => by
    obtain ⟨F, ρ, s, dd, r, o, hq, f⟩ := h
    refine ⟨F, ρ, s, _, r, o.re rfl rfl rfl, hq, fun F H σ ρ s sm r o => f.nx F H σ ρ s sm r (o.re rfl rfl rfl), fun F H σ ρ s d v sm r o => f.rt F H σ ρ s d v sm r (o.re rfl rfl rfl), fun F H σ ρ s sm r o => f.bk F H σ ρ s sm r (o.re rfl rfl rfl), fun F H σ ρ s sm r o => f.ct F H σ ρ s sm r (o.re rfl rfl rfl), ?_⟩
    intro F1 H1 σ1 ρ1 s1 C ns es dx fs sm r1 o1 hx nE nF nR nO e1 e2 ⟨hC, q⟩
    refine ⟨true, ht C hC, fun _ a na => ?_, fun z => nomatch z⟩
    have sF : Same F1 (upd F1 dx (.xd fs)) := same_upd nF
    have r2 : Rel X.K m (upd F1 dx (.xd fs)) H1 (σ1.set i (some (.ref a))) (ρ1.set i (.sh (.cau a dx ns es))) s1 :=
      (r1.adopt hx nF nR nO).put ⟨rfl, fs, upd_same, e1, Reps.mono sF _ _ e2⟩
    have o2 : Own m E (upd F1 dx (.xd fs)) H1 (σ1.set i (some (.ref a))) (ρ1.set i (.sh (.cau a dx ns es))) s1 := by
      have o1' : Own m E F1 H1 σ1 ρ1 s1 := o1.re rfl rfl rfl
      have o3 : Own m E (upd F1 dx (.xd fs)) H1 σ1 ρ1 s1 := ⟨o1'.ext.trans sF, o1'.keep, o1'.alive, fun b u z => by
        by_cases hb : b = dx
        · exact .inr (by rw [hb]; exact nE)
        · rw [upd_ne hb] at z; exact o1'.fresh b u z, o1'.regf, o1'.own⟩
      exact o3.put (K := X.K)
    have f2 := f.mono (sm.trans sF)
    exact ⟨_, _, s1, _, r2, o2.re rfl rfl rfl, q a dx, fun F H σ ρ s sm r o q => f2.nx F H _ _ s sm (r.drop i) (o.drop i rfl rfl rfl) q, fun F H σ ρ s d v sm r o => f2.rt F H σ ρ s d v sm r (o.re rfl rfl rfl),
      fun F H σ ρ s sm r o q => f2.bk F H _ _ s sm (r.drop i) (o.drop i rfl rfl rfl) q, fun F H σ ρ s sm r o q => f2.ct F H _ _ s sm (r.drop i) (o.drop i rfl rfl rfl) q, fun _ _ _ _ _ _ _ _ _ _ _ _ _ _ _ _ _ _ _ _ q => q.elim⟩
end
/-- e.f, e the exception that the suite holds -/
def dCf {m : Mem} (a : Addr) (cls : Value) (d : Option Addr) (C : Addr) (f : Str) (te : DT m) : DT m := fun ρ s Q => te ρ s fun z ρ1 s1 => ∃ x ns es v, z = .cau a x ns es ∧ cls = .ref C ∧ d = some x ∧ (ns.zip es).lookup f = some v ∧ Q v ρ1 s1
theorem de_cf {X : Cx} {m : Mem} {a C : Addr} {oe : Obj} {cls : Value} {d : Option Addr} {pn : List (Addr × Obj)} {e : Expr} {te : DT m} {pos : Pos} {f : Str} (T : XfC X.K C) (hno : PySem.W.findIn X.K (.ref C) f = some none)
    (hz : Zc cls d oe) (hf : ∃ vs, oe.data = .fields vs) (he : PE (X.suite a ((a, oe) :: pn)) e (up X.K m te)) (hb : attributeBase e f X.env (eval e X.env) = eval e X.env := by rfl) :
    PE (X.suite a ((a, oe) :: pn)) (.Attribute e f pos) (up X.K m (dCf a cls d C f te)) := PE.imp (pe_xf (n := f) T hno hz hf he hb) fun σ H Q h => by
  obtain ⟨F, ρ, s, Qd, r, ht, hQ⟩ := h
  refine ⟨F, ρ, s, _, r, ht, fun z ρ1 s1 v F1 H1 ⟨x, ns, es, w, ez, ec, ed, el, q1⟩ r1 st1 rv => ?_⟩
  subst ez
  obtain ⟨rfl, fs, h1, h2, h3⟩ := rv
  subst h2
  obtain ⟨u, hl, ru⟩ := fld_rep h3 el
  exact ⟨rfl, ec, x, fs, u, ed, r1.sub _ _ h1, hl, hQ w ρ1 s1 u F1 H1 q1 r1 st1 ru⟩
end DL

set_option Elab.async false
set_option linter.all false
set_option maxRecDepth 100000
/-! EX2: min(t) of a tuple of data that are alike; x.index(e), x an own list of texts -/
namespace DL
open PySem PySem.Spec PyProof.Rows L2 TL TX TO
section
variable {X : Cx} {pins : List (Addr × Obj)} {σ : L2.St} {H : Hp} {s : Shared}
def rMinT (X : Cx) : List V → Hp → VK → Prop := fun xs H Q => ∃ (F : Hp) (d : D) (ds : List D) (a : Addr) (vs : List V), xs = [V.ref a] ∧ Same F H ∧ SqT X.K F a vs ∧ Reps X.K F (d :: ds) vs ∧ repDs 60 (d :: ds) = true ∧ PySem.W.AlikeAll (pyRs (d :: ds)) ∧ ∀ v, Rep X.K F (pickB lessD d ds) v → Q v H
theorem cr_minT (hc : X.calm = true) (hk : ∃ o, X.base.get? sysModules = some o) (hu : X.A.units + 65 < cLine) : CallR X (.builtin "min") (rMinT X) := by
  intro pins s σ H xs us Q I r h
  obtain ⟨F, d, ds, a, vs, rfl, sub, ha, rs, ok, al, q⟩ := h
  rw [Vals.ref1 r]
  obtain ⟨its, rv, hl, hz⟩ := I.tuple (Same.seqT sub ha)
  obtain ⟨as, rd, _⟩ := reps_reads (sys_free hk I) I sub 60 (d :: ds) vs its ok rs rv
  have rd : PySem.ReadsAll s.heap its.toArray.toList (pyRs (d :: ds)) as := rd
  have n1 : its.length = ds.length + 1 := by
    have l1 := rv.length
    have l2 := rs.length
    rw [List.length_cons] at l2
    omega
  have dp := depths_of 60 (d :: ds) ok
  have hh : X.A.handled = none := I.ok.hd hc
  refine PySem.call_min_walkH (PySem.W.iter_tupleW (A := X.A.in1) hh hl fun t0 e0 W0 st0 f0 w0 k0 => ?_)
  refine ⟨_, _, _, _, _, _, _, s.heap, _, rfl, W0, st0, f0, (by show 0 < its.length; omega), w0, k0, PySem.W.cmpIn_lt (A := X.A.in1) rd al (by show X.A.units + 1 + _ < _; omega), fun v s' hP mv => ?_⟩
  obtain ⟨h', tk, rfl, hk'⟩ := PySem.W.moved_old e0 rfl mv
  have hb : (fun i j => PySem.W.dataLt ((pyRs (d :: ds)).getD i .none) ((pyRs (d :: ds)).getD j .none)) = fun i j => lessD ((d :: ds).getD i .non) ((d :: ds).getD j .non) := by
    funext i j
    rw [pyRs_getD, pyRs_getD]; rfl
  rw [hb] at hP
  have e1 : its.toArray.size - 1 = ds.length := by show its.length - 1 = _; omega
  rw [e1] at hP
  obtain ⟨b1, b2⟩ := PySem.W.argBest_fold lessD D.non d ds ds.length (Nat.le_refl _)
  rw [List.take_length] at b2
  generalize argBest (fun i j => lessD ((d :: ds).getD i .non) ((d :: ds).getD j .non)) ds.length = k at hP b1 b2
  have hd : (d :: ds)[k]? = some (pickB lessD d ds) := by
    have hk1 : k < (d :: ds).length := by rw [List.length_cons]; omega
    rw [List.getElem?_eq_getElem hk1]
    rw [List.getD_eq_getElem?_getD, List.getElem?_eq_getElem hk1] at b2
    exact congrArg some b2
  obtain ⟨x, ex, rx⟩ := rs.get hd
  have hP : its[k]? = some v := by simpa using hP
  obtain ⟨y, ey, ry⟩ := rv.get ex
  rw [hP] at ey
  cases ey
  exact ⟨x, H, I.kept (t' := tk) hk', ry, q x rx⟩
end
def minDT (ds : List D) (Q : D → Prop) : Prop := ∃ d es, ds = [.tup (d :: es)] ∧ repDs 60 (d :: es) = true ∧ PySem.W.AlikeAll (pyRs (d :: es)) ∧ Q (pickB lessD d es)
theorem o_minT {X : Cx} : OpN X.K (rMinT X) minDT := by
  intro F H ds vs Qd Q sub rs h hQ
  obtain ⟨d, es, rfl, ok, al, q⟩ := h
  obtain ⟨v, _, rfl, ⟨a, ws, rfl, h1, _, r1⟩, rn⟩ := rs
  cases rn
  exact ⟨F, d, es, a, ws, rfl, sub, h1, r1, ok, al, fun v rv => hQ _ _ F H q (Grow.refl sub) rv⟩
/-! ### x.index(e) -/
def dIndexO {m : Mem} (i : Nat) (te : DT m) : DT m := fun ρ s Q => (∃ ds0, ρ[i]? = some (.ow (.lst ds0))) ∧ te ρ s fun d ρ1 s1 => ∃ (xs : List Str) (x : Str), ρ1[i]? = some (.ow (.lst (xs.map .str))) ∧ d = .str x ∧ x ∈ xs ∧ Q (.int (xs.idxOf x : Nat)) ρ1 s1
section
variable {X : Cx} {m : Mem} {e : Expr} {te : DT m}
theorem idx_facts {xs : List Str} {x : Str} (h : x ∈ xs) : (xs.map V.str)[xs.idxOf x]? = some (.str x) ∧ ∀ (k : Nat) (z : V), k < xs.idxOf x → (xs.map V.str)[k]? = some z → eqV z (.str x) = false := by
  have hl := List.idxOf_lt_length_of_mem h
  refine ⟨by rw [List.getElem?_map, List.getElem?_eq_getElem hl, List.getElem_idxOf]; rfl, fun k z hk hz => ?_⟩
  have hk' : k < xs.length := by omega
  rw [List.getElem?_map, List.getElem?_eq_getElem hk'] at hz
  cases hz
  have := List.not_of_lt_findIdx (p := (· == x)) (xs := xs) (i := k) hk
  have ne : xs[k] ≠ x := fun z => by rw [z] at this; simp at this
  show decide (xs[k] = x) = false
  exact decide_eq_false ne
theorem de_indexO (i : Nat) {x : Str} {xpos apos cpos : Pos} (he : PE X e (up X.K m te)) (hN : X.N[i]? = some x := by rfl) (hv : Vis X.env.scope x := by first | exact Or.inl rfl | exact Or.inr (Or.inl rfl) | exact Or.inr (Or.inr rfl))
    (hd : (x == ("__debug__" : Str)) = false := by decide) (hcd : (x == ("__classdict__" : Str)) = false := by decide)
    (hbase : attributeBase (.Name x xpos) "index" X.env (eval (.Name x xpos) X.env) = eval (.Name x xpos) X.env := by rfl)
    (hfew : ((backTo cpos (starEach [e] X.env)).all (fun x => !x.1) && (backToKw cpos (keywordEach [] X.env)).all (fun x => x.1.isSome)
      && decide ([e].length + ([] : List Keyword).length + (if ([] : List Keyword).isEmpty then 0 else 1) < 30)) = true := by rfl)
    (hline : (apos.endLine == cpos.line) = true := by rfl) (hs : starEach [e] X.env = [(false, eval e X.env)] := by rfl) :
    PE X (.Call (.Attribute (.Name x xpos) "index" apos) [e] [] cpos) (up X.K m (dIndexO i te)) :=
  PE.imp (pe_bm PySem.F.plainAttrs_list PySem.F.slot_list_index PySem.F.type_list_index mt_index (pv i hN hv hd hcd) (pa_cons he pa_nil (by rw [hs]; rfl)) hbase hfew hline (by rw [hs]; rfl) rfl) fun σ H Q h => by
    obtain ⟨F, ρ, s, Qd, r, ⟨⟨ds0, e0⟩, ht⟩, hQ⟩ := h
    obtain ⟨p, ho, h1, h2, ⟨vs0, rfl, hl0, rs0⟩, h4, h5⟩ := r.own_at e0
    refine ⟨_, h1, .inl ⟨rfl, vs0, .inl (.inl h2)⟩, F, ρ, s, _, r, ht, fun d ρ1 s1 v F1 H1 ⟨xs, y, e1, ed, hy, q1⟩ r1 st1 rv => ?_⟩
    obtain ⟨p', ho, g1, g2, ⟨vs, rfl, hl, rs⟩, g4, g5⟩ := r1.own_at e1
    rw [h1] at g1; cases g1
    subst ed
    obtain ⟨rfl, _⟩ := rv
    obtain ⟨rfl, _⟩ := reps_strs rs
    obtain ⟨i1, i2⟩ := idx_facts hy
    exact ⟨p, _, _, xs.idxOf y, _, rfl, rfl, .inl (.inl g2), rfl, List.all_eq_true.mpr fun z hz => by obtain ⟨w, _, rfl⟩ := List.mem_map.mp hz; rfl, i1, decide_eq_true rfl, i2, hQ _ ρ1 s1 _ F1 H1 q1 r1 st1 rfl⟩
end
end DL

set_option Elab.async false
set_option linter.all false
set_option maxRecDepth 100000
set_option maxHeartbeats 1000000
namespace RP
open PySem PySem.Spec PyProof.Rows L2 TL DL TX TO RG
/-- reduced: with two ways out -/
def spRed24 {m : Mem} (C R : Addr) : DSpX m := fun ds s Q Qx => ∃ ms us, ds = [progD C ms us] ∧ Mods ms ∧ Uses ms us ∧ ms.length ≤ 24 ∧ us.length ≤ 75 ∧
  (firstR ms us = none → Q (progD C ms (us.filter fun u => !decide (u ∈ sparesS ms us))) s) ∧ (∀ w, firstR ms us = some w → Qx R ["ring"] [wayD w] s)
theorem spRed24_len {m : Mem} {C R : Addr} : ∀ ds s Qd Qx, (spRed24 C R : DSpX m) ds s Qd Qx → ds.length = 1 := fun ds s Qd Qx ⟨_, _, e, _⟩ => by rw [e]; rfl
def spRaised24 {m : Mem} (C : Addr) : DSp m := fun ds s Q => ∃ ms us, ds = [progD C ms us] ∧ Mods ms ∧ Uses ms us ∧ ms.length ≤ 24 ∧ us.length ≤ 75 ∧ Q (optW (firstR ms us)) s
theorem spRaised24_len {m : Mem} {C : Addr} : ∀ ds s Qd, (spRaised24 C : DSp m) ds s Qd → ds.length = 1 := fun ds s Qd ⟨_, _, e, _⟩ => by rw [e]; rfl
def spRingR24 {m : Mem} (C : Addr) : DSp m := fun ds s Q => ∃ ms us w, ds = [progD C ms us, wayD w] ∧ Mods ms ∧ Uses ms us ∧ ms.length ≤ 24 ∧ us.length ≤ 75 ∧ firstR ms us = some w ∧ Q (.bl true) s
theorem spRingR24_len {m : Mem} {C : Addr} : ∀ ds s Qd, (spRingR24 C : DSp m) ds s Qd → ds.length = 2 := fun ds s Qd ⟨_, _, _, e, _⟩ => by rw [e]; rfl
def spOpen24 {m : Mem} (C : Addr) : DSp m := fun ds s Q => ∃ ms us, ds = [progD C ms us] ∧ Mods ms ∧ Uses ms us ∧ ms.length ≤ 24 ∧ us.length ≤ 75 ∧ firstR ms us = none ∧ Q (.bl true) s
theorem spOpen24_len {m : Mem} {C : Addr} : ∀ ds s Qd, (spOpen24 C : DSp m) ds s Qd → ds.length = 1 := fun ds s Qd ⟨_, _, e, _⟩ => by rw [e]; rfl

def T_red24 (a : Nat → Addr) {m : Mem} : DTS m :=
  (dSeq (dFor (diSeq (dProp (a 25) (spGetM (a 25)) (dVar 0))) (gN 1)
        (dSeq (dSet 3 (dCall (spRing15 (a 25)) (daCons (dVar 0) (daCons (dVar 1) daNil))))
        (dIf (dCmT isntD' (dVar 3) (dC D.non)) (dRaise (a 16) (Str.ofString "ring") (dVar 3)) dNext)))
      (dSeq (dSet 2 (dCall (spSpares (a 25)) (daCons (dVar 0) daNil)))
      (dRet (dMake (a 25) spProgI (daCons (dProp (a 25) (spGetM (a 25)) (dVar 0)) (daCons (dB tupD (daCons (dLc (diSeq (dProp (a 25) (spGetU (a 25)) (dVar 0))) (gN 4) (dCmT (inTD true) (dVar 4) (dVar 2)) (dVar 4) [4]) daNil)) daNil))))))
theorem read_red24 {a : Nat → Addr} {m : Mem} : ∀ ds s Qd Qx, (spRed24 (a 25) (a 16) : DSpX m) ds s Qd Qx → (T_red24 a : DTS m) (endsX Qd Qx) (startD ["program", "module", "spare", "circle", "use"] ds) s := by
  intro ds s Qd Qx h
  obtain ⟨ms, us, rfl, hm, hu, l1, l2, hQ, hX⟩ := h
  refine ⟨⟨_, _, rfl⟩, ms, us, rfl, _, rfl, fun pre ρ s' => s' = s ∧ (∀ m ∈ (srt lessS ms).take pre.length, ringS ms.length (nextsS false (srt lessP us)) m = none) ∧ ∃ c1 c3, ρ = [.sh (progD (a 25) ms us), c1, .no, c3, .no], ⟨rfl, (fun m h => absurd h List.not_mem_nil), _, _, rfl⟩, ?_, ?_⟩
  · rintro pre y post ρ s' e ⟨rfl, hpre, c1, c3, rfl⟩
    obtain ⟨m0, hm0, rfl, -⟩ := mid_map e
    have hin : m0 ∈ ms := mem_srt.mp (List.mem_of_getElem? hm0)
    refine ⟨ms, us, m0, rfl, hm, hu, by omega, by omega, hin, ?_⟩
    cases er : ringS ms.length (nextsS false (srt lessP us)) m0 with
    | none =>
      refine ⟨(by intro w z; cases z), rfl, ?_, _, _, rfl⟩
      intro m hmt
      rw [List.length_append, List.length_singleton, List.take_add_one, hm0] at hmt
      rcases List.mem_append.mp hmt with z | z
      · exact hpre m z
      · have z : m ∈ [m0] := z
        rw [List.mem_singleton.mp z]; exact er
    | some w => exact ⟨(by intro w z; cases z), hX w (findSome_at hpre hm0 er)⟩
  · rintro ρ s' ⟨rfl, hall, c1, c3, rfl⟩
    have h0 : firstR ms us = none := List.findSome?_eq_none_iff.mpr fun m hmm => hall m (by
      rw [List.length_map, List.take_length]; exact hmm)
    refine ⟨ms, us, rfl, hm, hu, l1, by omega, ⟨_, _, rfl⟩, ms, us, rfl, ⟨_, _, rfl⟩, ms, us, rfl, _, rfl, lcF (f := ptD) (p := fun u => !decide (u ∈ sparesS ms us)) (h := ptD) (srt lessP us) (by rw [srt_len]; omega) (fun u hu0 T U t f => ?_) ?_⟩
    · refine ⟨_, rfl, rfl, plain_prs 57 _, ?_⟩
      rw [any_pr, Bool.true_xor]
      exact ⟨rfl, ifB2 (fun h => ⟨rfl, t h⟩) fun h => f h⟩
    · have e := (srt_perm (lt := lessP) us).filter fun u => !decide (u ∈ sparesS ms us)
      have pm := srt_perm (lt := lessS) ms
      have fu : Uses ms (us.filter fun u => !decide (u ∈ sparesS ms us)) := uses_less hu
      have hQ := hQ h0
      refine ⟨_, _, rfl, rfl, srt lessS ms, _, rfl, hm.perm pm, fu.perm pm e, by rw [srt_len]; omega, by rw [e.length_eq]; exact Nat.le_trans (List.length_filter_le _ _) (by omega), ?_⟩
      rw [← prog_perm (C := a 25) pm e] at hQ
      exact hQ
def T_raised24 (a : Nat → Addr) {m : Mem} : DTS m :=
  (dSeq (dSet 1 (dC D.non))
      (dSeq (dTryA [a 16] 2 (dExprX (spRed24 (a 25) (a 16)) (daCons (dVar 0) daNil)) (fun a' cls' d' => (dSet 1 (dCf a' cls' d' (a 16) (Str.ofString "ring") (dVar 2)))))
      (dRet (dVar 1))))
theorem read_raised24 {a : Nat → Addr} {m : Mem} : ∀ ds s Qd, (spRaised24 (a 25) : DSp m) ds s Qd → (T_raised24 a : DTS m) (endsOf Qd) (startD ["_law_program", "_law_found", "e"] ds) s := by
  intro ds s Qd h
  obtain ⟨ms, us, rfl, hm, hu, l1, l2, hQ⟩ := h
  refine ⟨ms, us, rfl, hm, hu, l1, l2, fun h0 => ?_, fun w hw => ⟨List.mem_singleton.mpr rfl, fun a' x => ?_⟩⟩
  · rw [h0] at hQ
    exact hQ
  · rw [hw] at hQ
    exact ⟨x, _, _, _, rfl, rfl, rfl, rfl, hQ⟩
def T_ringr24 (a : Nat → Addr) {m : Mem} : DTS m :=
  (dSeq (dSet 2 (dLc (diSeq (dCall (spGroups (a 25)) (daCons (dVar 0) daNil))) (gN 4) (dCmT gtD (dB lenD (daCons (dVar 4) daNil)) (dC (D.int 1))) (dVar 4) [4]))
      (dSeq (dIf (dOrT (dCmT (eqE false) (dVar 2) (dLst daNil)) (dOrT (dNotT (dTr (dCall (spRing (a 25)) (daCons (dVar 0) (daCons (dVar 1) daNil))))) (dCmT neC (dCall (spRing15 (a 25)) (daCons (dVar 0) (daCons (dOp ixD (dVar 1) (dC (D.int 0))) daNil))) (dVar 1)))) (dRet (dC (D.bl false))) dNext)
      (dSeq (dSet 3 (dOp ixD (dLc (diSeq (dVar 2)) (gN 4) (dCmT (inTD false) (dOp ixD (dVar 1) (dC (D.int 0))) (dVar 4)) (dVar 4) [4]) (dC (D.int 0))))
      (dRet (dAndV (dCm eqC (dOp ixD (dVar 1) (dC (D.int 0))) (dB minDD (daCons (dLc (diSeq (dVar 2)) (gN 4) dYes (dB minDT (daCons (dVar 4) daNil)) [4]) daNil))) (dCm (eqE false) (dLc (diSeq (dVar 1)) (gN 5) (dCmT (inTD true) (dVar 5) (dVar 3)) (dVar 5) [5]) (dLst daNil)))))))
theorem read_ringr24 {a : Nat → Addr} {m : Mem} : ∀ ds s Qd, (spRingR24 (a 25) : DSp m) ds s Qd → (T_ringr24 a : DTS m) (endsOf Qd) (startD ["_law_program", "_law_found", "_law_great", "_law_own", "_law_group", "_law_one"] ds) s := by
  intro ds s Qd h
  obtain ⟨ms, us, w, rfl, hm, hu, l1, l2, hw, hQ⟩ := h
  obtain ⟨s0, r, ew, hs0, er, ⟨g0, hg0, hl0, hsg0⟩, allin, least⟩ := first_group hm hu hw
  subst ew
  have gl := groups_len hm hu
  obtain ⟨rh, rl, rin⟩ := ring_holds15 hm hu hs0 er
  refine ⟨ms, us, rfl, hm, hu, l1, by omega, _, rfl, lcF (f := wayD) (p := fun g => decide (1 < g.length)) (h := wayD) (groupsS ms us) (by omega) (fun g hg T U t f => ?_) ?_⟩
  · have e : decide ((1 : Int) < ((g.map D.str).length : Nat)) = decide (1 < g.length) := by
      rw [List.length_map]
      exact decide_eq_decide.mpr (by omega)
    refine ⟨_, _, rfl, rfl, rfl, ?_⟩
    show ifB (decide ((1 : Int) < ((g.map D.str).length : Nat))) _ _
    rw [e]
    exact ifB2 (fun h => ⟨rfl, t h⟩) fun h => f h
  generalize eL : (groupsS ms us).filter (fun g => decide (1 < g.length)) = L
  have gL : g0 ∈ L := by rw [← eL]; exact List.mem_filter.mpr ⟨hg0, decide_eq_true hl0⟩
  have LL : L.length ≤ 24 := by
    rw [← eL]
    exact Nat.le_trans (List.length_filter_le _ _) (by omega)
  have inL : ∀ g ∈ L, g ∈ groupsS ms us ∧ 1 < g.length := fun g hg => by
    rw [← eL] at hg
    exact ⟨(List.mem_filter.mp hg).1, of_decide_eq_true (List.mem_filter.mp hg).2⟩
  have ne : (L.map wayD).isEmpty = false := by
    cases L with
    | nil => cases gL
    | cons _ _ => rfl
  refine ⟨Nat.zero_le _, _, rfl, rfl, ?_⟩
  rw [ne]
  refine ⟨ms, us, wayD (s0 :: r), _, _, _, rfl, (gs_paths (s0 :: r) fun z hz => hm.path z (rin z hz)).tup (by rw [List.length_map]; omega), by decide, _, rfl, ?_⟩
  rw [rh]
  refine ⟨_, atI_nat (j := 0) rfl, ms, us, s0, rfl, hm, hu, l1, by omega, hs0, ?_⟩
  rw [er]
  refine ⟨plain_strs 59 _, plain_strs 59 _, ?_⟩
  rw [show eqD (optW (some (s0 :: r))) (wayD (s0 :: r)) = true from (eqD_wy _ _).trans (decide_eq_true rfl)]
  refine ⟨_, rfl, lcF (f := wayD) (p := fun g => decide (s0 ∈ g)) (h := wayD) L (by omega) (fun g hg T U t f => ?_) ?_⟩
  · refine ⟨_, atI_nat (j := 0) rfl, _, rfl, rfl, plain_strs 58 _, ?_⟩
    rw [any_str, Bool.false_xor]
    exact ⟨rfl, ifB2 (fun h => ⟨rfl, t h⟩) fun h => f h⟩
  obtain ⟨g1, rest, e1⟩ : ∃ g1 rest, L.filter (fun g => decide (s0 ∈ g)) = g1 :: rest := by
    have z : g0 ∈ L.filter fun g => decide (s0 ∈ g) := List.mem_filter.mpr ⟨gL, decide_eq_true hsg0⟩
    cases q : L.filter fun g => decide (s0 ∈ g) with
    | nil => rw [q] at z; cases z
    | cons g1 rest => exact ⟨g1, rest, rfl⟩
  have hg1 : g1 ∈ L ∧ s0 ∈ g1 := by
    have z : g1 ∈ L.filter fun g => decide (s0 ∈ g) := by rw [e1]; exact List.mem_cons_self
    exact ⟨(List.mem_filter.mp z).1, of_decide_eq_true (List.mem_filter.mp z).2⟩
  rw [e1]
  refine ⟨_, atI_nat (j := 0) rfl, _, atI_nat (j := 0) rfl, _, rfl, lcF (f := wayD) (p := fun _ => true) (h := fun g => .str (minB lessS (g.headD Str.empty) g.tail)) L (by omega) (fun g hg T U t f => ?_) ?_⟩
  · match g, groups_ne hm hu (inL g hg).1, t with
    | x :: xs, _, t =>
      refine ⟨rfl, .str x, xs.map .str, rfl, repDs_strs 60 (x :: xs), alike_texts (x :: xs), ?_⟩
      rw [pick_map2 less_str]
      exact ⟨rfl, t rfl⟩
  rw [filter_yes]
  obtain ⟨x, xs, ex, em⟩ := least_first (L := L) (s := s0) ⟨g0, gL, hsg0⟩ (fun g hg m hmg => least g (inL g hg).1 (inL g hg).2 m hmg) fun g hg => groups_ne hm hu (inL g hg).1
  have e2 : (L.map fun g => D.str (minB lessS (g.headD Str.empty) g.tail)) = .str x :: xs.map .str := by
    have z : (L.map fun g => D.str (minB lessS (g.headD Str.empty) g.tail)) = (leastG L).map .str := by
      unfold leastG
      rw [List.map_map]; rfl
    rw [z, ex]; rfl
  rw [e2]
  refine ⟨.str x, xs.map .str, rfl, repDs_strs 60 (x :: xs), alike_texts (x :: xs), ?_⟩
  rw [pick_map2 less_str, em]
  refine ⟨rfl, rfl, ?_⟩
  rw [eqs, decide_eq_true rfl]
  refine ⟨_, rfl, _, rfl, lcF (f := D.str) (p := fun _ => false) (h := D.str) (s0 :: r) (by omega) (fun z hz T U t f => ?_) ?_⟩
  · refine ⟨_, rfl, rfl, plain_strs 58 _, ?_⟩
    rw [any_str, decide_eq_true (allin g1 (inL g1 hg1.1).1 hg1.2 z hz)]
    exact ⟨rfl, f rfl⟩
  · rw [show ((s0 :: r).filter fun _ => false) = [] from List.filter_eq_nil_iff.mpr fun _ _ => Bool.false_ne_true]
    exact ⟨Nat.zero_le _, _, rfl, rfl, hQ⟩
def T_open24 (a : Nat → Addr) {m : Mem} : DTS m :=
  (dSeq (dSetL 1 daNil)
      (dSeq (dFor (diSeq (dCall (spGroups (a 25)) (daCons (dVar 0) daNil))) (gN 2)
        (dSeq (dIf (dOrT (dCmT neC (dB lenD (daCons (dVar 2) daNil)) (dC (D.int 1))) (dCmT isntD' (dCall (spRing15 (a 25)) (daCons (dVar 0) (daCons (dOp ixD (dVar 2) (dC (D.int 0))) daNil))) (dC D.non))) (dRet (dC (D.bl false))) dNext)
        (dApp 1 (dOp ixD (dVar 2) (dC (D.int 0))))))
      (dRet (dCm (eqE false) (dLc (diSeq (dProp (a 25) (spGetU (a 25)) (dVar 0))) (gN 3) (dCmT gtD (dIndexO 1 (dOp ixD (dVar 3) (dC (D.int 0)))) (dIndexO 1 (dOp ixD (dVar 3) (dC (D.int 1))))) (dVar 3) [3]) (dLst daNil)))))
theorem read_open24 {a : Nat → Addr} {m : Mem} : ∀ ds s Qd, (spOpen24 (a 25) : DSp m) ds s Qd → (T_open24 a : DTS m) (endsOf Qd) (startD ["_law_program", "_law_order", "_law_group", "_law_use"] ds) s := by
  intro ds s Qd h
  obtain ⟨ms, us, rfl, hm, hu, l1, l2, h0, hQ⟩ := h
  have gl := groups_len hm hu
  refine ⟨Nat.zero_le _, ms, us, rfl, hm, hu, l1, by omega, _, rfl, fun pre ρ s' => s' = s ∧ ∃ c2, ρ = [.sh (progD (a 25) ms us), .ow (.lst (((orderS ms us).take pre.length).map .str)), c2, .no], ⟨rfl, _, rfl⟩, ?_, ?_⟩
  · rintro pre y post ρ s' e ⟨rfl, c2, rfl⟩
    obtain ⟨g, hg0, rfl, -⟩ := mid_map e
    obtain ⟨x, hx, rfl⟩ := groups_single hm hu h0 (List.mem_of_getElem? hg0)
    refine ⟨_, _, rfl, rfl, rfl, rfl, ?_⟩
    refine ⟨_, atI_nat (j := 0) rfl, ms, us, x, rfl, hm, hu, l1, by omega, hx, ?_⟩
    rw [firstR_none h0 x hx]
    refine ⟨(by intro w z; cases z), ⟨_, rfl⟩, _, atI_nat (j := 0) rfl, _, rfl, ?_, rfl, .sh (wayD [x]), ?_⟩
    · rw [List.length_map]
      refine Nat.lt_of_le_of_lt (List.length_take_le _ _) ?_
      have : pre.length < (groupsS ms us).length := by
        rcases Nat.lt_or_ge pre.length (groupsS ms us).length with z | z
        · exact z
        · rw [List.getElem?_eq_none z] at hg0; cases hg0
      exact Nat.lt_of_lt_of_le (show pre.length < 24 by omega) (by decide)
    · have e2 : (orderS ms us)[pre.length]? = some x := by
        unfold orderS
        rw [List.getElem?_map, hg0]; rfl
      rw [List.length_append, List.length_singleton, List.take_add_one, e2, List.map_append]
      rfl
  · rintro ρ s' ⟨rfl, c2, rfl⟩
    have e3 : (orderS ms us).take ((groupsS ms us).map wayD).length = orderS ms us := by
      rw [List.length_map]
      exact List.take_of_length_le (by unfold orderS; rw [List.length_map]; exact Nat.le_refl _)
    rw [e3]
    refine ⟨⟨_, _, rfl⟩, ms, us, rfl, _, rfl, lcF (f := ptD) (p := fun _ => false) (h := ptD) (srt lessP us) (by rw [srt_len]; omega) (fun u hu0 T U t f => ?_) ?_⟩
    · obtain ⟨o1, o2, o3⟩ := order_ok hm hu h0 (mem_srt.mp hu0)
      refine ⟨⟨_, rfl⟩, _, atI_nat (j := 0) rfl, _, u.1, rfl, rfl, o1, ⟨_, rfl⟩, _, atI_nat (j := 1) rfl, _, u.2, rfl, rfl, o2, rfl, ?_⟩
      show ifB (decide (((orderS ms us).idxOf u.2 : Int) < ((orderS ms us).idxOf u.1 : Int))) _ _
      rw [decide_eq_false (by omega)]
      exact f rfl
    · rw [show ((srt lessP us).filter fun _ => false) = [] from List.filter_eq_nil_iff.mpr fun _ _ => Bool.false_ne_true]
      exact ⟨Nat.zero_le _, _, rfl, rfl, hQ⟩
def T_law24 (a : Nat → Addr) : DTS Mem.deck :=
  (dSeq (dSet 1 (dCall spDeck (daCons (dVar 0) daNil)))
      (dSeq (dFor (diR1 (daCons (dC (D.int 2)) daNil)) (gN 2)
        (dSeq (dAsg (dCall spData (daCons (dVar 1) (daCons (dC (D.int 8)) (daCons (dC (D.int 16)) daNil)))) (gTup' 2 (gCons' (gN 6) (gCons' (gN 7) gNil'))))
        (dSeq (dSet 3 (dMake (a 25) spProgI (daCons (dB tupD (daCons (dVar 6) daNil)) (daCons (dB tupD (daCons (dVar 7) daNil)) daNil))))
        (dSeq (dSet 4 (dCall (spRaised24 (a 25)) (daCons (dVar 3) daNil)))
        (dSeq (dFor (diSeq (dVar 7)) (gN 5)
          (dIf (dCmT isntD' (dVar 4) (dC D.non)) (dSeq (dIf (dNotT (dTr (dCall (spRingR24 (a 25)) (daCons (dVar 3) (daCons (dVar 4) daNil))))) (dRet (dC (D.bl false))) dNext)
            (dSeq (dSet 3 (dOwn2 (a 25) (spSub (a 25)) (dVar 3) (dCMeth (a 25) (spOf (a 25)) (dC (D.any (V.ref (a 25)))) (daCons (dTup (daCons (dOp ixD (dVar 4) (dUn negD (dC (D.int 1)))) (daCons (dOp ixD (dVar 4) (dC (D.int 0))) daNil))) daNil))))
            (dSet 4 (dCall (spRaised24 (a 25)) (daCons (dVar 3) daNil))))) dNext))
        (dIf (dOrT (dCmT isntD' (dVar 4) (dC D.non)) (dNotT (dTr (dCall (spOpen24 (a 25)) (daCons (dVar 3) daNil))))) (dRet (dC (D.bl false))) dNext))))))
      (dRet (dC (D.bl true)))))
theorem read_law24 {a : Nat → Addr} : ∀ ds s Qd, (spLaw : DSp Mem.deck) ds s Qd → (T_law24 a : DTS Mem.deck) (endsOf Qd) (startD ["_law_script", "_law_deck_here", "_law_turn", "_law_one", "_law_found", "_law_use", "_law_modules_here", "_law_uses_here"] ds) s := by
  intro ds s Qd h
  obtain ⟨ns0, rfl, hl, hs, hn, hQ⟩ := h
  have hlim : drawLim = 1152921504606846976 := rfl
  have zl : ∀ n, n ≤ 2000 → n ≤ sizeLine := fun n h => line_of (by omega)
  refine ⟨ns0, rfl, hl, hs, fun A B C => ?_⟩
  refine ⟨2, rfl, by decide, by decide, fun pre ρ s' => s'.adr = some (A, B, C) ∧ s'.n ≤ 4000 * pre.length ∧ ∃ c2 c3 c4 c5 c6 c7, ρ = [.sh (.fz (ns0.map .int)), .sh (.any (.ref A)), c2, c3, c4, c5, c6, c7],
    ⟨rfl, (by show s.n ≤ 0; omega), .no, .no, .no, .no, .no, .no, rfl⟩, fun pre0 x post ρ s' heq hI => ?_, fun ρ s' hI => hQ _⟩
  obtain ⟨h1, h2, c2, c3, c4, c5, c6, c7, rfl⟩ := hI
  obtain ⟨hp, rfl⟩ := rng_pre heq
  have hp : pre0.length < 2 := hp
  refine ⟨A, B, C, 8, 16, rfl, h1, by decide, by decide, by decide, by decide, by show s'.n + _ < _; omega, fun ms us k2 hm hu hml hul hk2 => ?_⟩
  have hk2 : k2 ≤ s'.n + 1300 := hk2
  refine ⟨_, rfl, rfl, _, _, rfl, _, _, rfl, rfl, ?_⟩
  refine ⟨_, _, rfl, rfl, _, _, rfl, rfl, ms, us, rfl, hm, hu, by omega, by omega, ?_⟩
  refine ⟨ms, us, rfl, hm, hu, by omega, by omega, ?_⟩
  refine ⟨_, rfl, fun pre1 ρ s2 => s2 = ⟨s'.adr, k2⟩ ∧ ∃ vs c5, Uses ms vs ∧ vs.length ≤ 75 ∧ (firstR ms vs = none ∨ vs.length + pre1.length ≤ us.length) ∧
    ρ = [.sh (.fz (ns0.map .int)), .sh (.any (.ref A)), .sh (.int (0 + (pre0.length : Int))), .sh (progD (a 25) ms vs), .sh (optW (firstR ms vs)), c5, .sh (.lst (ms.map .str)), .sh (.lst (us.map ptD))],
    ⟨rfl, us, c5, hu, by omega, .inr (Nat.le_refl _), rfl⟩, ?_, ?_⟩
  · rintro pre1 y post1 ρ s2 e ⟨rfl, vs, c5, hv, lv, dis, rfl⟩
    obtain ⟨u, hu0, rfl, -⟩ := mid_map e
    cases hf : firstR ms vs with
    | none => exact ⟨(by intro w z; cases z), rfl, vs, _, hv, lv, .inl hf, by rw [hf]; rfl⟩
    | some w =>
      obtain ⟨s0, r, rfl, hs0, er, _⟩ := first_group hm hv hf
      have hlast := ring_use hm hv hf
      generalize eu : ((s0 :: r).getLastD Str.empty, (s0 :: r).headD Str.empty) = v at hlast
      obtain ⟨o1, o2, o3⟩ := hv.ok v hlast
      have hend : ∀ x ∈ endsS [v], x ∈ ms := fun x h => by
        obtain ⟨v', hv', e⟩ := ends_mem.mp h
        rw [List.mem_singleton.mp hv'] at e
        rcases e with rfl | rfl
        · exact o1
        · exact o2
      have hme : Mods (endsS [v]) := by
        refine ⟨fun x h => hm.path x (hend x h), ?_⟩
        have nd : (endsS [v]).Nodup := srt_nodup (once_nodup _)
        refine List.Pairwise.imp_of_mem (fun {x y} hx hy ne => ?_) nd
        exact mods_apart hm (hend x hx) (hend y hy) ne
      have le : (endsS [v]).length ≤ 24 := by
        have h : (endsS [v]).length ≤ ms.length := nd_len (srt_nodup (once_nodup _) : (endsS [v]).Nodup) hend
        omega
      have hless : (vs.filter fun u => !decide (u ∈ [v])).length < vs.length := by
        rcases Nat.lt_or_ge (vs.filter fun u => !decide (u ∈ [v])).length vs.length with z | z
        · exact z
        · have e := List.filter_sublist.eq_of_length_le z
          have q := (List.mem_filter.mp (show v ∈ vs.filter (fun u => !decide (u ∈ [v])) by rw [e]; exact hlast)).2
          simp at q
      have hw : Uses ms (vs.filter fun u => !decide (u ∈ [v])) := uses_less hv
      refine ⟨(by intro w z; cases z), ms, vs, s0 :: r, rfl, hm, hv, by omega, lv, hf, _, rfl, ?_⟩
      refine ⟨rfl, _, last_str, _, atI_nat (j := 0) rfl, zl 2 (by decide), zl 1 (by decide), [v], ?_, (fun v' hv' => by rw [List.mem_singleton.mp hv']; exact ⟨hm.path _ o1, hm.path _ o2, o3⟩), by simp, hme, le, by show 1 ≤ 75; decide, ⟨_, _, _, _, rfl, rfl⟩, ms, vs, endsS [v], [v], rfl, hm, hv, by omega, lv, .inr ⟨_, _, _, rfl⟩, ?_⟩
      · rw [← eu]; rfl
      refine ⟨ms, vs.filter fun u => !decide (u ∈ [v]), rfl, hm, hw, by omega, by omega, ?_⟩
      refine ⟨rfl, _, _, hw, by omega, .inr ?_, rfl⟩
      rw [List.length_append, List.length_singleton]
      rcases dis with z | z
      · rw [hf] at z; cases z
      · omega
  · rintro ρ s2 ⟨rfl, vs, c5, hv, lv, dis, rfl⟩
    have h0 : firstR ms vs = none := by
      rcases dis with z | z
      · exact z
      · rw [List.length_map] at z
        have : vs = [] := List.eq_nil_of_length_eq_zero (by omega)
        rw [this]; exact no_uses hm
    rw [h0]
    refine ⟨(by intro w z; cases z), ms, vs, rfl, hm, hv, by omega, lv, h0, _, rfl, ?_⟩
    refine ⟨h1, ?_, _, _, _, _, _, _, rfl⟩
    rw [List.length_append, List.length_singleton]; show k2 ≤ _; omega
end RP

set_option Elab.async false
set_option linter.all false
set_option maxRecDepth 100000
set_option maxHeartbeats 4000000
namespace K24
open PySem PySem.Spec PyProof.Rows L2 TL DL RP RG
def topS (i : Nat) : Stmt := PySem.Challenge.pw_mayrest_k24_whole_rings_cut_open.main.body.getD i (.Pass ⟨0, 0, 0, 0⟩)
abbrev s__law_deck : Stmt := topS 40
abbrev s__law_next : Stmt := topS 41
abbrev s__law_name : Stmt := topS 42
abbrev s__law_pool : Stmt := topS 43
abbrev s__law_path : Stmt := topS 44
abbrev s__law_covers : Stmt := topS 45
abbrev s__law_overlap : Stmt := topS 46
abbrev s__law_modules : Stmt := topS 47
abbrev s__law_uses : Stmt := topS 48
abbrev s__law_data : Stmt := topS 49
abbrev s_Program_modules : Stmt := inClass (topS 25) 2
abbrev s_Program_uses : Stmt := inClass (topS 25) 3
abbrev s_next_table : Stmt := topS 27
abbrev s_chains_from : Stmt := topS 28
abbrev s_ring_from : Stmt := topS 29
abbrev s_ring : Stmt := topS 33
abbrev s__is_spare : Stmt := topS 36
abbrev s_spare_uses : Stmt := topS 37
abbrev s__is_name : Stmt := topS 6
abbrev s_is_path : Stmt := topS 7
abbrev s_covers : Stmt := topS 8
abbrev s_overlap : Stmt := topS 9
abbrev s__modules_error : Stmt := topS 21
abbrev s__is_pair_of : Stmt := topS 19
abbrev s__uses_error : Stmt := topS 22
abbrev s_program_error : Stmt := topS 23
abbrev s_parent : Stmt := topS 10
abbrev s__parts : Stmt := topS 24
abbrev s_Program___init__ : Stmt := inClass (topS 25) 0
abbrev s_reduced : Stmt := topS 38
abbrev s__law_raised : Stmt := topS 50
abbrev s__group_of : Stmt := topS 31
abbrev s_groups : Stmt := topS 32
abbrev s_is_chain : Stmt := topS 30
abbrev s_ring_holds : Stmt := topS 34
abbrev s__law_ring_right : Stmt := topS 51
abbrev s__law_open : Stmt := topS 52
abbrev s__is_pair_of_paths : Stmt := topS 20
abbrev s_Program_of : Stmt := inClass (topS 25) 1
abbrev s_Program___sub__ : Stmt := inClass (topS 25) 12
abbrev s_law : Stmt := topS 53
structure Tx (w : World) (K : PySem.W.Frag) (mg : Str → Option Value) (base : Heap) (a : Nat → Addr) (d : Nat → FuncData) (e : Nat → Addr) (ed : Nat → FuncData) : Prop where
  f40 : Fun K "_law_deck" "_law_deck" (topS 40) (a 40) (d 40)
  g40 : mg "_law_deck" = some (.ref (a 40))
  b40 : Binds K (d 40) ["_law_script"] []
  f41 : Fun K "_law_next" "_law_next" (topS 41) (a 41) (d 41)
  g41 : mg "_law_next" = some (.ref (a 41))
  b41 : Binds K (d 41) ["_law_deck_here", "_law_many"] []
  f42 : Fun K "_law_name" "_law_name" (topS 42) (a 42) (d 42)
  g42 : mg "_law_name" = some (.ref (a 42))
  b42 : Binds K (d 42) ["_law_deck_here"] []
  f43 : Fun K "_law_pool" "_law_pool" (topS 43) (a 43) (d 43)
  g43 : mg "_law_pool" = some (.ref (a 43))
  b43 : Binds K (d 43) ["_law_deck_here", "_law_many"] []
  f44 : Fun K "_law_path" "_law_path" (topS 44) (a 44) (d 44)
  g44 : mg "_law_path" = some (.ref (a 44))
  b44 : Binds K (d 44) ["_law_deck_here", "_law_pool_here", "_law_most"] []
  f45 : Fun K "_law_covers" "_law_covers" (topS 45) (a 45) (d 45)
  g45 : mg "_law_covers" = some (.ref (a 45))
  b45 : Binds K (d 45) ["_law_path_here", "_law_other"] []
  f46 : Fun K "_law_overlap" "_law_overlap" (topS 46) (a 46) (d 46)
  g46 : mg "_law_overlap" = some (.ref (a 46))
  b46 : Binds K (d 46) ["_law_path_here", "_law_other"] []
  f47 : Fun K "_law_modules" "_law_modules" (topS 47) (a 47) (d 47)
  g47 : mg "_law_modules" = some (.ref (a 47))
  b47 : Binds K (d 47) ["_law_deck_here", "_law_pool_here", "_law_most"] []
  f48 : Fun K "_law_uses" "_law_uses" (topS 48) (a 48) (d 48)
  g48 : mg "_law_uses" = some (.ref (a 48))
  b48 : Binds K (d 48) ["_law_deck_here", "_law_modules_here", "_law_most"] []
  f49 : Fun K "_law_data" "_law_data" (topS 49) (a 49) (d 49)
  g49 : mg "_law_data" = some (.ref (a 49))
  b49 : Binds K (d 49) ["_law_deck_here", "_law_most", "_law_uses_here"] []
  f2252 : Fun K "modules" "Program.modules" s_Program_modules (a 2252) (d 2252)
  b2252 : Binds K (d 2252) ["self"] []
  f2253 : Fun K "uses" "Program.uses" s_Program_uses (a 2253) (d 2253)
  b2253 : Binds K (d 2253) ["self"] []
  f27 : FunE K "next_table" "next_table" (topS 27) (a 27) (d 27)
  g27 : mg "next_table" = some (.ref (a 27))
  b27 : Binds K (d 27) ["program", "backward"] []
  bd27 : Binds K (d 27) ["program", "backward"] [.bool false]
  f28 : Fun K "chains_from" "chains_from" (topS 28) (a 28) (d 28)
  g28 : mg "chains_from" = some (.ref (a 28))
  b28 : Binds K (d 28) ["nexts", "start"] []
  f29 : Fun K "ring_from" "ring_from" (topS 29) (a 29) (d 29)
  g29 : mg "ring_from" = some (.ref (a 29))
  b29 : Binds K (d 29) ["nexts", "start"] []
  f33 : Fun K "ring" "ring" (topS 33) (a 33) (d 33)
  g33 : mg "ring" = some (.ref (a 33))
  b33 : Binds K (d 33) ["program", "module"] []
  f36 : Fun K "_is_spare" "_is_spare" (topS 36) (a 36) (d 36)
  g36 : mg "_is_spare" = some (.ref (a 36))
  b36 : Binds K (d 36) ["nexts", "user", "used"] []
  f37 : Fun K "spare_uses" "spare_uses" (topS 37) (a 37) (d 37)
  g37 : mg "spare_uses" = some (.ref (a 37))
  b37 : Binds K (d 37) ["program"] []
  f6 : Fun K "_is_name" "_is_name" (topS 6) (a 6) (d 6)
  g6 : mg "_is_name" = some (.ref (a 6))
  b6 : Binds K (d 6) ["text"] []
  f7 : Fun K "is_path" "is_path" (topS 7) (a 7) (d 7)
  g7 : mg "is_path" = some (.ref (a 7))
  b7 : Binds K (d 7) ["value"] []
  f8 : Fun K "covers" "covers" (topS 8) (a 8) (d 8)
  g8 : mg "covers" = some (.ref (a 8))
  b8 : Binds K (d 8) ["path", "other"] []
  f9 : Fun K "overlap" "overlap" (topS 9) (a 9) (d 9)
  g9 : mg "overlap" = some (.ref (a 9))
  b9 : Binds K (d 9) ["path", "other"] []
  f21 : Fun K "_modules_error" "_modules_error" (topS 21) (a 21) (d 21)
  g21 : mg "_modules_error" = some (.ref (a 21))
  b21 : Binds K (d 21) ["modules"] []
  f19 : Fun K "_is_pair_of" "_is_pair_of" (topS 19) (a 19) (d 19)
  g19 : mg "_is_pair_of" = some (.ref (a 19))
  b19 : Binds K (d 19) ["value", "modules"] []
  f22 : Fun K "_uses_error" "_uses_error" (topS 22) (a 22) (d 22)
  g22 : mg "_uses_error" = some (.ref (a 22))
  b22 : Binds K (d 22) ["modules", "uses"] []
  f23 : Fun K "program_error" "program_error" (topS 23) (a 23) (d 23)
  g23 : mg "program_error" = some (.ref (a 23))
  b23 : Binds K (d 23) ["modules", "uses"] []
  f10 : Fun K "parent" "parent" (topS 10) (a 10) (d 10)
  g10 : mg "parent" = some (.ref (a 10))
  b10 : Binds K (d 10) ["path"] []
  f24 : Fun K "_parts" "_parts" (topS 24) (a 24) (d 24)
  g24 : mg "_parts" = some (.ref (a 24))
  b24 : Binds K (d 24) ["modules"] []
  f2250 : Fun K "__init__" "Program.__init__" s_Program___init__ (a 2250) (d 2250)
  b2250 : Binds K (d 2250) ["self", "modules", "uses"] []
  f38 : Fun K "reduced" "reduced" (topS 38) (a 38) (d 38)
  g38 : mg "reduced" = some (.ref (a 38))
  b38 : Binds K (d 38) ["program"] []
  f50 : Fun K "_law_raised" "_law_raised" (topS 50) (a 50) (d 50)
  g50 : mg "_law_raised" = some (.ref (a 50))
  b50 : Binds K (d 50) ["_law_program"] []
  f31 : Fun K "_group_of" "_group_of" (topS 31) (a 31) (d 31)
  g31 : mg "_group_of" = some (.ref (a 31))
  b31 : Binds K (d 31) ["module", "reach"] []
  f32 : Fun K "groups" "groups" (topS 32) (a 32) (d 32)
  g32 : mg "groups" = some (.ref (a 32))
  b32 : Binds K (d 32) ["program"] []
  f30 : Fun K "is_chain" "is_chain" (topS 30) (a 30) (d 30)
  g30 : mg "is_chain" = some (.ref (a 30))
  b30 : Binds K (d 30) ["program", "value"] []
  f34 : Fun K "ring_holds" "ring_holds" (topS 34) (a 34) (d 34)
  g34 : mg "ring_holds" = some (.ref (a 34))
  b34 : Binds K (d 34) ["program", "value"] []
  f51 : Fun K "_law_ring_right" "_law_ring_right" (topS 51) (a 51) (d 51)
  g51 : mg "_law_ring_right" = some (.ref (a 51))
  b51 : Binds K (d 51) ["_law_program", "_law_found"] []
  f52 : Fun K "_law_open" "_law_open" (topS 52) (a 52) (d 52)
  g52 : mg "_law_open" = some (.ref (a 52))
  b52 : Binds K (d 52) ["_law_program"] []
  f20 : Fun K "_is_pair_of_paths" "_is_pair_of_paths" (topS 20) (a 20) (d 20)
  g20 : mg "_is_pair_of_paths" = some (.ref (a 20))
  b20 : Binds K (d 20) ["value"] []
  f2251 : Fun K "of" "Program.of" s_Program_of (a 2251) (d 2251)
  bs2251 : ∀ us rest : List Value, us.length = [("cls" : Str)].length → bindArgs (d 2251) ⟨us ++ rest, []⟩ = (newTuple rest >>= fun t => pure ((["cls"] : List Str).zip us ++ [(("uses" : Str), t)]))
  f2262 : Fun K "__sub__" "Program.__sub__" s_Program___sub__ (a 2262) (d 2262)
  b2262 : Binds K (d 2262) ["self", "other"] []
  f53 : Fun K "law" "law" (topS 53) (a 53) (d 53)
  g53 : mg "law" = some (.ref (a 53))
  b53 : Binds K (d 53) ["_law_script"] []
  g16 : mg "Ring" = some (.ref (a 16))
  i16 : PySem.W.findIn K (.ref (a 16)) "__init__" = some (some (.ref (e 16)))
  t16 : PySem.W.typeIn K (.ref (e 16)) = some (.type "function")
  fi16 : Fun K "__init__" "Ring.__init__" (inClass (topS 16) 0) (e 16) (ed 16)
  bi16 : Binds K (ed 16) ["self", "ring"] []
  xc16 : XC K (a 16)
  ty16 : PySem.W.typeIn K (.ref (a 16)) = some (.type "type")
  nf16ring : PySem.W.findIn K (.ref (a 16)) "ring" = some none
  em16_16 : PySem.W.exmOne K (.ref (a 16)) (.ref (a 16)) = some true
  g25 : mg "Program" = some (.ref (a 25))
  M25 : Mk K (a 25) (a 2250)
  cl25 : InsK K (a 25)
  ow25 : OwnC K (a 25)
  p2252 : PropOf K (a 25) "modules" (e 2252) (a 2252)
  p2253 : PropOf K (a 25) "uses" (e 2253) (a 2253)
  cr2251 : ClX.CRead K (a 25) (.type "type")
  cm2251 : ClX.CMet K (a 25) (.type "type") "of" (e 2251) (a 2251)
  m2262 : PySem.W.findIn K (.ref (a 25)) "__sub__" = some (some (.ref (a 2262)))
  n2262 : PySem.W.isFn K (.ref (a 2262)) = true
  na25_modules : NoAttr K (a 25) "_modules"
  na25_parts : NoAttr K (a 25) "_parts"
  na25_uses : NoAttr K (a 25) "_uses"
  sys : ∃ o, base.get? sysModules = some o
  z_abs : mg "abs" = none
  z_all : mg "all" = none
  z_any : mg "any" = none
  z_enumerate : mg "enumerate" = none
  z_int : mg "int" = none
  z_isinstance : mg "isinstance" = none
  z_len : mg "len" = none
  z_min : mg "min" = none
  z_range : mg "range" = none
  z_repr : mg "repr" = none
  z_set : mg "set" = none
  z_sorted : mg "sorted" = none
  z_str : mg "str" = none
  z_tuple : mg "tuple" = none
  z_zip : mg "zip" = none
  c_MAX_MODULES : ∃ t, mg "MAX_MODULES" = some (.int 24 t)
  c_MAX_NAMES : ∃ t, mg "MAX_NAMES" = some (.int 6 t)
  c_MAX_USES : ∃ t, mg "MAX_USES" = some (.int 200 t)
  c__MAX_LETTERS : ∃ t, mg "_MAX_LETTERS" = some (.int 8 t)
section
variable {P : Program} {w : World} {K : PySem.W.Frag} {mg : Str → Option Value} {base : Heap} {a : Nat → Addr} {d : Nat → FuncData} {e : Nat → Addr} {ed : Nat → FuncData}
abbrev si_Ring : Stmt := inClass (topS 16) 0
theorem sci_Ring : FnScope ["self", "ring"] ["self", "ring"] (defScope si_Ring) := ⟨rfl, rfl, rfl, by decide +kernel, rfl, by decide +kernel, by decide +kernel⟩
theorem oi_Ring (T : Tx w K mg base a d e ed) : FnG P w K mg base CX0 1 (e 16) (ed 16) ["self", "ring"] (spIn1 (a 16) "ring") := by
  refine Fun.okG T.fi16 sci_Ring (fun vs H Q E h => by obtain ⟨_, _, rfl, _⟩ := h; rfl) (fun cdv A outer s H vs Q E hr h => ?_)
  obtain ⟨x, v, rfl, ea, q⟩ := h
  exact ⟨_, pss_one (ps_xst (pv 0) (pv 1)), _, rfl, _, rfl, x, a 16, rfl, T.xc16, T.nf16ring, .inl ⟨ea, fun dx n ne => q dx n ne⟩⟩
abbrev names__law_deck : List Str := ["_law_script", "_law_cells", "_law_number"]
theorem sc__law_deck : FnScope names__law_deck ["_law_script"] (defScope s__law_deck) := ⟨rfl, rfl, rfl, by decide +kernel, rfl, by decide +kernel, by decide +kernel⟩
theorem ok0__law_deck (T : Tx w K mg base a d e ed) : FnOk P w K mg base CX0 1 (a 40) (d 40) ["_law_script"] (lift K Mem.deck 1 spDeck) := by
  refine T.f40.ok sc__law_deck (fun vs H Q E h => h.1) (fun cdv A outer s H vs Q E hr h => ?_)
  obtain ⟨hl, F, ds, sd, Qd, sub, hm, hreg, rs, ⟨ns, e2, hns, e0, hQd⟩, hQ⟩ := h
  subst e2
  obtain ⟨v, _, rfl, ⟨sc, vs, rfl, hsc, _, rv⟩, rn⟩ := rs
  cases rn
  have ev := reps_ints rv
  subst ev
  have hS : SqL K H sc (ns.map V.int) := Same.seq sub hsc
  refine ⟨_, pss_cons (ps_setLc (i := 1) (own := [("_law_number", 2)]) (g := gName 2) (tt := tYes) rfl sc__law_deck.nd rfl rfl (sw_true rfl rfl rfl (by decide +kernel)) (pi_list (pv 0)) (blkOk_by (N := names__law_deck) (sc := defScope s__law_deck) (by decide +kernel)) (fun _ _ _ _ _ => pg_name (i := 2) sc__law_deck.nd rfl (Or.inl rfl)) (fun _ _ _ _ _ => pts_nil) (fun _ _ _ _ _ => pe_callB call_abs (by rfl) T.z_abs (by decide +kernel) (pa_cons (pv 2) pa_nil)))
    (pss_one (ps_ret (pe_lst (pa_cons (pe_lc (own := [("_law_number", 2)]) (g := gName 2) rfl sc__law_deck.nd (pi_list (pv 1)) (blkOk_by (N := names__law_deck) (sc := defScope s__law_deck) (by decide +kernel)) (fun _ _ _ _ _ => pg_name (i := 2) sc__law_deck.nd rfl (Or.inl rfl)) (fun _ _ _ _ _ => pts_one (pt_cmpR op_ge (pv 2) (pe_op op_pow pe_int pe_int) (nomark _))) (fun _ _ _ _ _ => pv 2))
      (pa_cons (pe_op op_cat (pv 1) (pe_lst (pa_cons (pe_op op_add (pe_callB call_len_seq (by rfl) T.z_len PySem.boot_len (pa_cons (pv 1) pa_nil)) pe_int) pa_nil))) (pa_cons pe_int pa_nil)))))), ?_⟩
  refine ⟨_, rfl, sc, rfl, ⟨_, hS⟩, fun D hD => lc_list (K := K) (a := sc) (xs := ns.map V.int) (fun i H' => H' D = some (.lst ((ns.take i).map fun x => V.int (absI x))) ∧ Same H H') ⟨upd_same, DL.same_upd hD⟩ (fun i H' _ q => Same.seq q.2 hS) (fun i x H' hx q => ?_) (fun H' q => ?_)⟩
  · obtain ⟨q1, q2⟩ := q
    obtain ⟨z, hz, rfl⟩ : ∃ z, ns[i]? = some z ∧ V.int z = x := by
      rw [List.getElem?_map] at hx
      cases e : ns[i]? with
      | none => rw [e] at hx; cases hx
      | some z => rw [e] at hx; exact ⟨z, rfl, Option.some.inj hx⟩
    have hi : i < ns.length := (List.getElem?_eq_some_iff.mp hz).1
    refine ⟨rfl, _, rfl, z, rfl, _, q1, by rw [List.length_map, List.length_take]; exact small1000 (by omega), ?_, fun b o e => ?_⟩
    · rw [upd_same, List.take_add_one, hz, List.map_append]
      rfl
    · rw [upd_ne (ne_of_none e hD)]; exact q2 _ _ e
  · obtain ⟨q1, q2⟩ := q
    have q1' : H' D = some (.lst (ns.map fun x => V.int (absI x))) := by rw [q1]; simp
    obtain ⟨cs, hcs, ecs⟩ : ∃ cs : List Int, cs.length = ns.length ∧ (ns.map fun x => V.int (absI x)) = cs.map V.int := ⟨ns.map absI, List.length_map _, by rw [List.map_map]; rfl⟩
    rw [ecs] at q1'
    have hC : SqL K H' D (cs.map V.int) := .inl (.inl q1')
    refine ⟨_, rfl, D, rfl, ⟨_, hC⟩, fun B hB => lc_list (K := K) (a := D) (xs := cs.map V.int) (fun i H2 => (∃ bg : List Int, bg.length ≤ i ∧ H2 B = some (.lst (bg.map V.int))) ∧ Same H' H2) ⟨⟨[], Nat.le_refl _, upd_same⟩, DL.same_upd hB⟩ (fun i H2 _ q => Same.seq q.2 hC) (fun i x H2 hx q => ?_) (fun H2 q => ?_)⟩
    · obtain ⟨⟨bg, g1, g2⟩, g3⟩ := q
      obtain ⟨z, hz, rfl⟩ : ∃ z, cs[i]? = some z ∧ V.int z = x := by
        rw [List.getElem?_map] at hx
        cases e : cs[i]? with
        | none => rw [e] at hx; cases hx
        | some z => rw [e] at hx; exact ⟨z, rfl, Option.some.inj hx⟩
      have hi : i < cs.length := (List.getElem?_eq_some_iff.mp hz).1
      refine ⟨rfl, _, rfl, 10, 18, rfl, rfl, ⟨by decide, by decide, by decide⟩, z, _, rfl, rfl, _, rfl, ?_⟩
      refine ite2 (fun _ => ?_) fun _ => ?_
      · refine ⟨_, rfl, _, g2, by rw [List.length_map]; exact small1000 (by omega), ⟨bg ++ [z], by rw [List.length_append]; simp; omega, by rw [upd_same, List.map_append]; rfl⟩, fun b o e => ?_⟩
        rw [upd_ne (ne_of_none e hB)]; exact g3 _ _ e
      · exact ⟨⟨bg, by omega, g2⟩, g3⟩
    · obtain ⟨⟨bg, g1, g2⟩, g3⟩ := q
      have hD2 : H2 D = some (.lst (cs.map V.int)) := g3 _ _ q1'
      refine ⟨_, rfl, _, rfl, D, cs.map V.int, rfl, .inl (.inl (.inl hD2)), _, 3, rfl, rfl, by show 1 ≤ sizeLine; decide, fun U hU => ?_⟩
      have nDU : D ≠ U := ne_of_none hD2 hU
      refine ⟨D, U, _, _, rfl, rfl, by rw [upd_ne nDU]; exact hD2, upd_same, ?_, fun C hC2 => ⟨by show 3 ≤ sizeLine; decide, fun a0 ha0 => ?_⟩⟩
      · rw [List.length_map]
        exact Nat.le_of_lt (small1000 (by show cs.length + 1 ≤ 1000; omega))
      · have nUC : U ≠ C := fun e => by rw [← e, upd_same] at hC2; cases hC2
        have hC3 : H2 C = none := by rw [upd_ne nUC.symm] at hC2; exact hC2
        have nBC : B ≠ C := ne_of_none g2 hC3
        have nBU : B ≠ U := ne_of_none g2 hU
        have na0C : a0 ≠ C := fun e => by rw [e, upd_same] at ha0; cases ha0
        have ha1 : (upd H2 U (.lst [V.int (((cs.map V.int).length : Nat) + 3)])) a0 = none := by rw [upd_ne na0C] at ha0; exact ha0
        have na0U : a0 ≠ U := fun e => by rw [e, upd_same] at ha1; cases ha1
        have ha2 : H2 a0 = none := by rw [upd_ne na0U] at ha1; exact ha1
        have na0B : a0 ≠ B := fun e => by rw [e, g2] at ha2; cases ha2
        have s2 : Same H H2 := q2.trans g3
        have fin : ∀ x o, H x = some o → (upd (upd (upd H2 U (.lst [V.int (((cs.map V.int).length : Nat) + 3)])) C (.lst (cs.map V.int ++ [V.int (((cs.map V.int).length : Nat) + 3)]))) a0 (.lst [.ref B, .ref C, .int 0])) x = some o := fun x o e => by
          have e2 := s2 _ _ e
          rw [upd_ne (ne_of_none e2 ha2), upd_ne (ne_of_none e2 hC3), upd_ne (ne_of_none e2 hU)]
          exact e2
        have hBn : H B = none := q2.free hB
        refine hQ (.any (.ref a0)) ⟨some (a0, B, C), sd.n⟩ (.ref a0) F _ (hQd a0 B C) ⟨Same.refl F, fun x o e _ => fin x o e, fun x e => ?_, fun x o e => .inl e, fun x ⟨a', b', c', e, hx⟩ => ?_, sub.trans fin, fun a' b' c' e => ?_, fun x ⟨a', b', c', e, hx⟩ => ?_⟩ rfl
        · cases o : H x with
          | none => exact absurd o e
          | some u => rw [fin x u o]; simp
        · have e' : (some (a0, B, C) : Option (Addr × Addr × Addr)) = some (a', b', c') := e
          cases e'
          rcases hx with rfl | rfl | rfl
          · exact .inr (s2.free ha2)
          · exact .inr hBn
          · exact .inr (s2.free hC3)
        · have e' : (some (a0, B, C) : Option (Addr × Addr × Addr)) = some (a', b', c') := e
          cases e'
          refine ⟨na0B, na0C, nBC, bg, cs ++ [((cs.length : Nat) : Int) + 3], 0, upd_same, by rw [upd_ne na0B.symm, upd_ne nBC, upd_ne nBU]; exact g2, ?_, by simp, ?_, ?_, Int.le_refl _, Int.natCast_nonneg _⟩
          · rw [upd_ne na0C.symm, upd_same, List.map_append, List.length_map]
            rfl
          · rw [List.length_append]; simp; omega
          · rw [List.length_map] at g1; omega
        · have e' : (some (a0, B, C) : Option (Addr × Addr × Addr)) = some (a', b', c') := e
          cases e'
          rcases hx with rfl | rfl | rfl
          · exact sub.free (s2.free ha2)
          · exact sub.free hBn
          · exact sub.free (s2.free hC3)
theorem len__law_deck : ∀ ds s Qd, spDeck ds s Qd → ds.length = 1 := spDeck_len
theorem ok__law_deck (T : Tx w K mg base a d e ed) : FnG P w K mg base CX0 1 (a 40) (d 40) ["_law_script"] (lift K Mem.deck 1 spDeck) := fnG_of (ok0__law_deck T)
abbrev names__law_next : List Str := ["_law_deck_here", "_law_many", "_law_rest", "_law_turn", "_law_number", "_law_mixed"]
theorem sc__law_next : FnScope names__law_next ["_law_deck_here", "_law_many"] (defScope s__law_next) := ⟨rfl, rfl, rfl, by decide +kernel, rfl, by decide +kernel, by decide +kernel⟩
theorem ok0__law_next (T : Tx w K mg base a d e ed) : FnOk P w K mg base CX0 1 (a 41) (d 41) ["_law_deck_here", "_law_many"] (lift K Mem.deck 2 spNext) := by
  refine T.f41.ok sc__law_next (fun vs H Q E h => h.1) (fun cdv A outer s H vs Q E hr h => ?_)
  obtain ⟨hl, F, ds, sd, Qd, sub, hm, hreg, rs, ⟨p, q, r, n, e1, e2, h0, h1, hlim, hQd⟩, hQ⟩ := h
  subst e2
  obtain ⟨v, _, rfl, rv, v2, _, rfl, rv2, rn⟩ := rs
  cases rn
  cases rv
  cases rv2
  refine ⟨_, pss_cons (ps_while PassesOwn.never (pt_cmpR (op_neD (u64R hr)) (pe_ix ix_list (pv 0) pe_int (fun _ _ => rfl)) (pe_lst pa_nil) (nomark _))
      (pss_cons (ps_set (i := 2) sc__law_next.nd rfl (.inl rfl) (pe_ix ix_list (pe_ix ix_list (pv 0) pe_int (fun _ _ => rfl)) pe_int (fun _ _ => rfl)))
      (pss_cons (ps_if (pt_cmpR op_gt (pv 2) pe_int (nomark _))
        (pss_cons (ps_asg (pe_op op_fdiv (pv 2) (pv 1)) (pg_sub (pe_ix ix_list (pv 0) pe_int (fun _ _ => rfl)) pe_int set_list))
        (pss_one (ps_ret (pe_op op_mod (pe_callTy call_int1 (by rfl) T.z_int (by decide +kernel) (pa_cons (pv 2) pa_nil)) (pv 1)))))
        pss_nil)
      (pss_one (ps_expr (pe_bm PySem.F.plainAttrs_list PySem.F.slot_list_pop PySem.F.type_list_pop mt_popAt (pe_ix ix_list (pv 0) pe_int (fun _ _ => rfl)) (pa_cons pe_int pa_nil)))))))
    (pss_cons (ps_asg (pe_op op_add (pe_ix ix_list (pv 0) pe_int (fun _ _ => rfl)) pe_int) (pg_sub (pv 0) pe_int set_list))
    (pss_cons (ps_set (i := 3) sc__law_next.nd rfl (.inl rfl) (pe_ix ix_list (pv 0) pe_int (fun _ _ => rfl)))
    (pss_cons (ps_set (i := 4) sc__law_next.nd rfl (.inl rfl) (pe_op op_mod (pe_callTy call_int1 (by rfl) T.z_int (by decide +kernel) (pa_cons (pe_ix ix_list (pe_ix ix_list (pv 0) pe_int (fun _ _ => rfl)) (pe_op op_mod (pe_callTy call_int1 (by rfl) T.z_int (by decide +kernel) (pa_cons (pv 3) pa_nil)) (pe_callB call_len_seq (by rfl) T.z_len PySem.boot_len (pa_cons (pe_ix ix_list (pv 0) pe_int (fun _ _ => rfl)) pa_nil))) (fun _ _ => rfl)) pa_nil)) pe_int))
    (pss_cons (ps_set (i := 5) sc__law_next.nd rfl (.inl rfl) (pe_op op_mod (pe_callTy call_int1 (by rfl) T.z_int (by decide +kernel) (pa_cons (pe_op op_add (pe_op op_add (pe_op op_mul (pv 4) (pe_op op_add pe_int (pe_op op_mul pe_int (pv 3)))) (pe_op op_mul (pe_op op_mul pe_int (pv 3)) (pv 3))) pe_int) pa_nil)) pe_int))
    (pss_one (ps_ret (pe_op op_mod (pe_op op_fdiv (pe_op op_mod (pe_callTy call_int1 (by rfl) T.z_int (by decide +kernel) (pa_cons (pe_op op_mul (pv 5) (pv 5)) pa_nil)) pe_int) pe_int) (pv 1)))))))), ?_⟩
  obtain ⟨n1, n2, n3, big, all, t, ha, hb, hc, hall, hl1, hl2, ht0, ht1⟩ := hm p q r e1
  have regs : ∀ x, Mem.deck.R sd x → x = p ∨ x = q ∨ x = r := fun x ⟨a', b', c', e, hx⟩ => by
    rw [e1] at e; cases e; exact hx
  have Fp : F p = none := hreg p ⟨p, q, r, e1, .inl rfl⟩
  have Fq : F q = none := hreg q ⟨p, q, r, e1, .inr (.inl rfl)⟩
  have Fr : F r = none := hreg r ⟨p, q, r, e1, .inr (.inr rfl)⟩
  -- the way out: a number below n, the deck as it is then
  have out : ∀ (z : Int) (H' : Hp) (big' : List Int) (t' : Int), 0 ≤ z → z < n → H' p = some (.lst [.ref q, .ref r, .int t']) → H' q = some (.lst (big'.map V.int)) → H' r = some (.lst (all.map V.int)) → big'.length ≤ 1000 → 0 ≤ t' → t' ≤ (sd.n + 1 : Nat) →
      (∀ x o, H x = some o → x ≠ p → x ≠ q → H' x = some o) → Q (.int z) H' := fun z H' big' t' z0 z1 a1 a2 a3 a4 a5 a6 k => by
    have Hp' : H p ≠ none := by rw [ha]; simp
    refine hQ (.int z) ⟨sd.adr, sd.n + 1⟩ (.int z) F H' (hQd z (sd.n + 1) z0 z1 rfl) ⟨Same.refl F, fun x o h nr => k x o h (fun e => nr ⟨p, q, r, e1, .inl e⟩) (fun e => nr ⟨p, q, r, e1, .inr (.inl e)⟩), fun x h => ?_, fun x o h => .inl h, fun x h => ?_, fun x o h => ?_, fun a' b' c' e => ?_, fun x h => hreg x h⟩ rfl
    · by_cases e : x = p
      · rw [e, a1]; simp
      · by_cases e' : x = q
        · rw [e', a2]; simp
        · cases o : H x with
          | none => exact absurd o h
          | some u => rw [k x u o e e']; simp
    · exact .inl h
    · have h' := sub x o h
      exact k x o h' (fun e => by rw [e, Fp] at h; cases h) (fun e => by rw [e, Fq] at h; cases h)
    · have e' : sd.adr = some (a', b', c') := e
      rw [e1] at e'; cases e'
      exact ⟨n1, n2, n3, big', all, t', a1, a2, a3, hall, hl1, a4, a5, a6⟩
  -- the while
  refine ⟨fun m σ H2 => ∃ (bg : List Int) (y2 : Option V), m = bg.length ∧ bg.length ≤ big.length ∧ σ = [some (.ref p), some (.int n), y2, none, none, none] ∧ H2 p = some (.lst [.ref q, .ref r, .int t]) ∧ H2 q = some (.lst (bg.map V.int)) ∧ (∀ x o, H x = some o → x ≠ q → H2 x = some o),
    ⟨big.length, big, none, rfl, Nat.le_refl _, rfl, ha, hb, fun _ _ h _ => h⟩, ?_⟩
  rintro m σ H2 ⟨bg, y2, rfl, hbg, rfl, g1, g2, gk⟩
  have dpI : ∀ (l : List Int), DpAll K H2 (l.map V.int) (l.map PyData.int) := fun l => by
    induction l with
    | nil => exact .nil
    | cons x l ih => exact .cons (.int x) ih
  have layI : ∀ (l : List Int), PyData.canLayAll0 (l.map PyData.int) = true ∧ PyData.depthAll (l.map PyData.int) ≤ 0 := fun l => by
    induction l with
    | nil => exact ⟨rfl, Nat.le_refl _⟩
    | cons x l ih =>
      obtain ⟨i1, i2⟩ := ih
      rw [List.map_cons]
      exact ⟨by simp only [PyData.canLayAll0, PyData.canLay0, i1, Bool.and_self], by simp only [PyData.depthAll, PyData.depth]; omega⟩
  refine ⟨_, rfl, p, _, 0, .ref q, rfl, rfl, .inl (.inl g1), rfl, Nat.zero_le _, fun o no => ?_⟩
  have nop : p ≠ o := ne_of_none g1 no
  have noq : q ≠ o := ne_of_none g2 no
  have g1' : (upd H2 o (.lst [])) p = some (.lst [.ref q, .ref r, .int t]) := by rw [upd_ne nop]; exact g1
  have g2' : (upd H2 o (.lst [])) q = some (.lst (bg.map V.int)) := by rw [upd_ne noq]; exact g2
  have sm : Same H2 (upd H2 o (.lst [])) := DL.same_upd no
  have dp1 : Dp K (upd H2 o (.lst [])) (.ref q) (.list (bg.map PyData.int)) := by
    refine .lst (.inl (.inl g2')) ?_
    clear layI dpI g2 g2' hbg
    induction bg with
    | nil => exact .nil
    | cons x l ih => exact .cons (.int x) ih
  have sh1 : SeqAt.shaped (.list (bg.map PyData.int)) = true := by
    obtain ⟨i1, i2⟩ := layI bg
    unfold SeqAt.shaped
    have d1 : (PyData.list (bg.map PyData.int)).depth ≤ 64 := by simp only [PyData.depth]; omega
    rw [decide_eq_true d1, show (PyData.list (bg.map PyData.int)).canLay0 = true by simp only [PyData.canLay0]; exact i1]
    rfl
  refine ⟨_, _, dp1, .lst (.inl (.inl upd_same)) .nil, sh1, by decide, _, rfl, ?_⟩
  cases bg with
  | nil =>
    refine iteF ?_
    -- behind the while
    refine ⟨_, rfl, p, _, 2, .int t, rfl, rfl, .inl (.inl g1'), rfl, t, 1, rfl, rfl, _, rfl, p, _, 2, 2, rfl, rfl, g1', rfl, ?_⟩
    have hr' : H2 r = some (.lst (all.map V.int)) := gk r _ hc n3.symm
    have nrp : r ≠ p := n2.symm
    have nro : r ≠ o := ne_of_none hr' no
    refine ⟨_, rfl, p, _, 2, .int (t + 1), rfl, rfl, .inl (.inl upd_same), rfl, ?_⟩
    have hrr : (upd (upd H2 o (.lst [])) p (.lst ([V.ref q, .ref r, .int t].set 2 (.int (t + 1))))) r = some (.lst (all.map V.int)) := by rw [upd_ne nrp, upd_ne nro]; exact hr'
    have lpos : (0 : Int) < ((all.map V.int).length : Nat) := by
      cases all with
      | nil => exact absurd rfl hall
      | cons x l => rw [List.length_map, List.length_cons]; omega
    obtain ⟨k, hk, hk2⟩ : ∃ k : Nat, (t + 1) % (((all.map V.int).length : Nat) : Int) = (k : Int) ∧ k < all.length := by
      have m0 := Int.emod_nonneg (t + 1) (Int.ne_of_gt lpos)
      have m1 := Int.emod_lt_of_pos (t + 1) lpos
      rw [List.length_map] at m0 m1 lpos ⊢
      exact ⟨((t + 1) % (all.length : Int)).toNat, by omega, by omega⟩
    have hat : atI (all.map V.int) ((t + 1) % (((all.map V.int).length : Nat) : Int)) = some (.int all[k]) := by
      rw [hk]
      exact atI_nat (by rw [List.getElem?_map, List.getElem?_eq_getElem hk2]; rfl)
    refine ⟨_, rfl, p, _, 1, .ref r, rfl, rfl, .inl (.inl upd_same), rfl, _, rfl, .inl ⟨t + 1, rfl, _, rfl, p, _, 1, .ref r, rfl, rfl, .inl (.inl upd_same), rfl, r, _, rfl, .inl (.inl (.inl hrr)), _, _, rfl, rfl, lpos, r, _, _, .int all[k], rfl, rfl, .inl (.inl hrr), hat, .inl ⟨all[k], rfl, all[k], 2147483647, rfl, rfl, (by show (0 : Int) < 2147483647; decide), ?_⟩⟩⟩
    have u1 : t + 1 ≤ 2 ^ 60 := by
      have : sd.n < 2 ^ 60 := hlim
      omega
    have m0 : 0 ≤ all[k] % 2147483647 := Int.emod_nonneg _ (by decide)
    have m1 : all[k] % 2147483647 < 2147483647 := Int.emod_lt_of_pos _ (by decide)
    refine ⟨_, rfl, _, rfl, 69621, t + 1, rfl, rfl, .inl ⟨by decide, by decide⟩, 48271, _, rfl, rfl, all[k] % 2147483647, _, rfl, rfl, .inl ⟨by omega, by omega⟩, _, rfl, 40692, t + 1, rfl, rfl, .inl ⟨by decide, by decide⟩, _, rfl, 40692 * (t + 1), t + 1, rfl, rfl, .inr ⟨by omega, by omega⟩, _, _, rfl, rfl, _, 11, rfl, rfl, .inl ⟨_, rfl, _, 2147483629, rfl, rfl, (by show (0 : Int) < 2147483629; decide), ?_⟩⟩
    obtain ⟨M, hM⟩ : ∃ M, M = (all[k] % 2147483647 * (48271 + 69621 * (t + 1)) + 40692 * (t + 1) * (t + 1) + 11) % 2147483629 := ⟨_, rfl⟩
    have q0 : 0 ≤ M := by rw [hM]; exact Int.emod_nonneg _ (by decide)
    have q1 : M < 2147483629 := by rw [hM]; exact Int.emod_lt_of_pos _ (by decide)
    refine ⟨_, rfl, _, rfl, M, M, by rw [hM], by rw [hM], .inl ⟨by omega, by omega⟩, .inl ⟨_, rfl, _, 2147483587, rfl, rfl, (by show (0 : Int) < 2147483587; decide), _, 16, rfl, rfl, ⟨by decide, by decide⟩, _, rfl, _, n, rfl, rfl, h0, ?_⟩⟩
    refine out _ _ [] (t + 1) (Int.emod_nonneg _ (Int.ne_of_gt h0)) (Int.emod_lt_of_pos _ h0) upd_same (by rw [upd_ne n1.symm]; exact g2') hrr (Nat.zero_le _) (by omega) (by omega) fun x u e n4 n5 => ?_
    rw [upd_ne n4, upd_ne (ne_of_none (gk x u e n5) no)]
    exact gk x u e n5
  | cons x bg =>
    refine iteT ⟨fun σ' H' => ∃ y2 : Option V, σ' = [some (.ref p), some (.int n), y2, none, none, none] ∧ H' p = some (.lst [.ref q, .ref r, .int t]) ∧ H' q = some (.lst (bg.map V.int)) ∧ (∀ x o, H x = some o → x ≠ q → H' x = some o), fun σ' H' ⟨y, a1, a2, a3, a4⟩ => ⟨bg.length, Nat.lt_succ_self _, bg, y, rfl, by rw [List.length_cons] at hbg; omega, a1, a2, a3, a4⟩, ?_⟩
    refine ⟨_, rfl, p, _, 0, .ref q, rfl, rfl, .inl (.inl g1'), rfl, q, _, 0, .int x, rfl, rfl, .inl (.inl g2'), atI_nat (j := 0) rfl, ?_⟩
    refine ⟨_, rfl, x, 0, rfl, rfl, _, rfl, ?_⟩
    refine ite2 (fun hx => ?_) fun hx => ?_
    · refine ⟨_, rfl, _, rfl, x, n, rfl, rfl, ⟨h0, h1⟩, _, rfl, p, _, 0, .ref q, rfl, rfl, .inl (.inl g1'), rfl, q, _, 0, 0, rfl, rfl, g2', ix0 x bg, ?_⟩
      refine ⟨_, rfl, .inl ⟨x, rfl, _, rfl, x, n, rfl, rfl, h0, ?_⟩⟩
      refine out _ _ (x / n :: bg) t (Int.emod_nonneg _ (Int.ne_of_gt h0)) (Int.emod_lt_of_pos _ h0) (by rw [upd_ne n1]; exact g1') upd_same ?_ (by rw [List.length_cons] at hbg ⊢; omega) ht0 (by omega) fun y u e n4 n5 => ?_
      · have hr' : H2 r = some (.lst (all.map V.int)) := gk r _ hc n3.symm
        rw [upd_ne n3.symm, upd_ne (ne_of_none hr' no)]
        exact hr'
      · rw [upd_ne n5, upd_ne (ne_of_none (gk y u e n5) no)]
        exact gk y u e n5
    · refine ⟨_, rfl, p, _, 0, .ref q, rfl, rfl, .inl (.inl g1'), rfl, .inl ⟨rfl, _, .inl (.inl g2')⟩, q, _, 0, 0, .int x, rfl, rfl, g2', by decide, by decide, ?_, rfl, ?_⟩
      · show seqIndex? 0 (((x :: bg).map V.int).length) = some 0
        rw [List.length_map, List.length_cons]
        exact seqIndex_of (by decide) (by omega)
      · refine ⟨_, rfl, by rw [upd_ne n1]; exact g1', by rw [upd_same]; rfl, fun y u e n5 => ?_⟩
        rw [upd_ne n5, upd_ne (ne_of_none (gk y u e n5) no)]
        exact gk y u e n5
theorem len__law_next : ∀ ds s Qd, spNext ds s Qd → ds.length = 2 := spNext_len
theorem ok__law_next (T : Tx w K mg base a d e ed) : FnG P w K mg base CX0 1 (a 41) (d 41) ["_law_deck_here", "_law_many"] (lift K Mem.deck 2 spNext) := fnG_of (ok0__law_next T)
abbrev names__law_name : List Str := ["_law_deck_here", "_law_letters", "_law_many", "_law_k"]
theorem sc__law_name : FnScope names__law_name ["_law_deck_here"] (defScope s__law_name) := ⟨rfl, rfl, rfl, by decide +kernel, rfl, by decide +kernel, by decide +kernel⟩
theorem len__law_name : ∀ ds s Qd, (spName : DSp Mem.deck) ds s Qd → ds.length = 1 := spName_len
theorem ok__law_name (T : Tx w K mg base a d e ed) : FnG P w K mg base CX0 2 (a 42) (d 42) ["_law_deck_here"] (lift K Mem.deck 1 spName) := by
  have G__law_next := ok__law_next (P := P) (w := w) (base := base) T
  refine dfn T.f42 sc__law_name rfl (fun cdv A outer s0 H E En hr => ⟨_, (dss_cons (ds_set 1 sc__law_name.nd de_str)
      (dss_cons (ds_set 2 sc__law_name.nd (de_ix ix_seq o_ix (de_lst (da_cons de_int (da_cons de_int (da_cons de_int (da_cons de_int (da_cons de_int (da_cons de_int (da_cons de_int (da_cons de_int da_nil))))))))) (de_call G__law_next len__law_next (hr.mono (by decide)) (by rfl) T.g41 T.f41.kp T.b41 (da_cons (dv 0) (da_cons de_int da_nil)))))
      (dss_one (ds_ret (de_m PySem.F.plainAttrs_str PySem.F.slot_str_join PySem.F.type_str_join mt_join o_join de_str (da_cons (de_lc (own := [("_law_k", 3)]) sc__law_name.nd (di_range1 (by rfl) T.z_range (da_cons (dv 2) da_nil)) (blkOk_by (N := names__law_name) (sc := defScope s__law_name) (by decide +kernel)) (fun _ _ _ _ _ => (dg_name 3 sc__law_name.nd)) (fun _ _ _ _ _ => dts_nil) (fun _ _ _ _ _ => (de_ix ix_seq o_ix (dv 1) (de_call G__law_next len__law_next (hr.mono (by decide)) (by rfl) T.g41 T.f41.kp T.b41 (da_cons (dv 0) (da_cons de_int da_nil)))))) da_nil)))))), fun ds s Qd h => ?_⟩)
  exact read__law_name ds s Qd h
abbrev names__law_pool : List Str := ["_law_deck_here", "_law_many", "_law_found", "_law_k"]
theorem sc__law_pool : FnScope names__law_pool ["_law_deck_here", "_law_many"] (defScope s__law_pool) := ⟨rfl, rfl, rfl, by decide +kernel, rfl, by decide +kernel, by decide +kernel⟩
theorem len__law_pool : ∀ ds s Qd, (spPool : DSp Mem.deck) ds s Qd → ds.length = 2 := spPool_len
theorem ok__law_pool (T : Tx w K mg base a d e ed) : FnG P w K mg base CX0 3 (a 43) (d 43) ["_law_deck_here", "_law_many"] (lift K Mem.deck 2 spPool) := by
  have G__law_next := ok__law_next (P := P) (w := w) (base := base) T
  have G__law_name := ok__law_name (P := P) (w := w) (base := base) T
  refine dfn T.f43 sc__law_pool rfl (fun cdv A outer s0 H E En hr => ⟨_, (dss_cons (ds_setLcO 2 (own := [("_law_k", 3)]) sc__law_pool.nd (di_range1 (by rfl) T.z_range (da_cons (dv 1) da_nil)) (blkOk_by (N := names__law_pool) (sc := defScope s__law_pool) (by decide +kernel)) (fun _ _ _ _ _ => (dg_name 3 sc__law_pool.nd)) (fun _ _ _ _ _ => dts_nil) (fun _ _ _ _ _ => (de_call G__law_name len__law_name (hr.mono (by decide)) (by rfl) T.g42 T.f42.kp T.b42 (da_cons (dv 0) da_nil))))
      (dss_cons (ds_if (dt_cmp op_ltA o_lt (de_callB (DL.CallR.or call_len call_lenD) o_len (by rfl) T.z_len (by decide +kernel) (da_cons (de_ixO 2 de_int) da_nil)) de_int)
        (dss_one (ds_stO 2 (de_op op_addA o_add (de_ixO 2 de_int) (de_ix ix_seq o_ix de_str (de_call G__law_next len__law_next (hr.mono (by decide)) (by rfl) T.g41 T.f41.kp T.b41 (da_cons (dv 0) (da_cons de_int da_nil))))) de_int))
        (dss_one (ds_stO 2 (de_slice sl_all o_sl (de_ixO 2 de_int) do_none (do_some de_int)) de_int)))
      (dss_one (ds_ret (dv 2))))), fun ds s Qd h => ?_⟩)
  exact read__law_pool ds s Qd h
abbrev names__law_path : List Str := ["_law_deck_here", "_law_pool_here", "_law_most", "_law_many", "_law_k"]
theorem sc__law_path : FnScope names__law_path ["_law_deck_here", "_law_pool_here", "_law_most"] (defScope s__law_path) := ⟨rfl, rfl, rfl, by decide +kernel, rfl, by decide +kernel, by decide +kernel⟩
theorem len__law_path : ∀ ds s Qd, (spPath : DSp Mem.deck) ds s Qd → ds.length = 3 := spPath_len
theorem ok__law_path (T : Tx w K mg base a d e ed) : FnG P w K mg base CX0 2 (a 44) (d 44) ["_law_deck_here", "_law_pool_here", "_law_most"] (lift K Mem.deck 3 spPath) := by
  have G__law_next := ok__law_next (P := P) (w := w) (base := base) T
  refine dfn T.f44 sc__law_path rfl (fun cdv A outer s0 H E En hr => ⟨_, (dss_cons (ds_set 3 sc__law_path.nd (de_op op_addA o_add de_int (de_callB (call_min2 rfl) o_min (by rfl) T.z_min (by decide +kernel) (da_cons (de_op op_sub o_sub (dv 2) de_int) (da_cons (de_ix ix_seq o_ix (de_lst (da_cons de_int (da_cons de_int (da_cons de_int (da_cons de_int (da_cons de_int (da_cons de_int (da_cons de_int (da_cons de_int da_nil))))))))) (de_call G__law_next len__law_next (hr.mono (by decide)) (by rfl) T.g41 T.f41.kp T.b41 (da_cons (dv 0) (da_cons de_int da_nil)))) da_nil)))))
      (dss_one (ds_ret (de_m PySem.F.plainAttrs_str PySem.F.slot_str_join PySem.F.type_str_join mt_join o_join de_str (da_cons (de_lc (own := [("_law_k", 4)]) sc__law_path.nd (di_range1 (by rfl) T.z_range (da_cons (dv 3) da_nil)) (blkOk_by (N := names__law_path) (sc := defScope s__law_path) (by decide +kernel)) (fun _ _ _ _ _ => (dg_name 4 sc__law_path.nd)) (fun _ _ _ _ _ => dts_nil) (fun _ _ _ _ _ => (de_ix ix_seq o_ix (dv 1) (de_call G__law_next len__law_next (hr.mono (by decide)) (by rfl) T.g41 T.f41.kp T.b41 (da_cons (dv 0) (da_cons (de_callB (DL.CallR.or call_len call_lenD) o_len (by rfl) T.z_len (by decide +kernel) (da_cons (dv 1) da_nil)) da_nil)))))) da_nil))))), fun ds s Qd h => ?_⟩)
  exact read__law_path ds s Qd h
abbrev names__law_covers : List Str := ["_law_path_here", "_law_other", "_law_names"]
theorem sc__law_covers : FnScope names__law_covers ["_law_path_here", "_law_other"] (defScope s__law_covers) := ⟨rfl, rfl, rfl, by decide +kernel, rfl, by decide +kernel, by decide +kernel⟩
theorem len__law_covers {m : Mem} : ∀ ds s Qd, (spLcov : DSp m) ds s Qd → ds.length = 2 := spLcov_len
theorem ok__law_covers {m : Mem} (T : Tx w K mg base a d e ed) : FnG P w K mg base CX0 1 (a 45) (d 45) ["_law_path_here", "_law_other"] (lift K m 2 spLcov) := by
  refine dfn T.f45 sc__law_covers rfl (fun cdv A outer s0 H E En hr => ⟨_, (dss_cons (ds_set 2 sc__law_covers.nd (de_m PySem.F.plainAttrs_str PySem.F.slot_str_split PySem.F.type_str_split mt_split o_split (dv 0) (da_cons de_str da_nil)))
      (dss_one (ds_ret (de_cmp (op_eqD (u64 hr)) o_eq (de_slice sl_all o_sl (de_m PySem.F.plainAttrs_str PySem.F.slot_str_split PySem.F.type_str_split mt_split o_split (dv 1) (da_cons de_str da_nil)) do_none (do_some (de_callB (DL.CallR.or call_len call_lenD) o_len (by rfl) T.z_len (by decide +kernel) (da_cons (dv 2) da_nil)))) (dv 2))))), fun ds s Qd h => ?_⟩)
  exact read__law_covers ds s Qd h
abbrev names__law_overlap : List Str := ["_law_path_here", "_law_other"]
theorem sc__law_overlap : FnScope names__law_overlap ["_law_path_here", "_law_other"] (defScope s__law_overlap) := ⟨rfl, rfl, rfl, by decide +kernel, rfl, by decide +kernel, by decide +kernel⟩
theorem len__law_overlap {m : Mem} : ∀ ds s Qd, (spLover : DSp m) ds s Qd → ds.length = 2 := spLover_len
theorem ok__law_overlap {m : Mem} (T : Tx w K mg base a d e ed) : FnG P w K mg base CX0 2 (a 46) (d 46) ["_law_path_here", "_law_other"] (lift K m 2 spLover) := by
  have G__law_covers := ok__law_covers (P := P) (w := w) (base := base) (m := m) T
  refine dfn T.f46 sc__law_overlap rfl (fun cdv A outer s0 H E En hr => ⟨_, (dss_one (ds_ret (de_or (de_call G__law_covers len__law_covers (hr.mono (by decide)) (by rfl) T.g45 T.f45.kp T.b45 (da_cons (dv 0) (da_cons (dv 1) da_nil))) (de_one (de_call G__law_covers len__law_covers (hr.mono (by decide)) (by rfl) T.g45 T.f45.kp T.b45 (da_cons (dv 1) (da_cons (dv 0) da_nil))))))), fun ds s Qd h => ?_⟩)
  exact read__law_overlap ds s Qd h
abbrev names__law_modules : List Str := ["_law_deck_here", "_law_pool_here", "_law_most", "_law_found", "_law_k", "_law_path_here", "_law_module"]
theorem sc__law_modules : FnScope names__law_modules ["_law_deck_here", "_law_pool_here", "_law_most"] (defScope s__law_modules) := ⟨rfl, rfl, rfl, by decide +kernel, rfl, by decide +kernel, by decide +kernel⟩
theorem len__law_modules : ∀ ds s Qd, (spModules : DSp Mem.deck) ds s Qd → ds.length = 3 := spModules_len
theorem ok__law_modules (T : Tx w K mg base a d e ed) : FnG P w K mg base CX0 3 (a 47) (d 47) ["_law_deck_here", "_law_pool_here", "_law_most"] (lift K Mem.deck 3 spModules) := by
  have G__law_next := ok__law_next (P := P) (w := w) (base := base) T
  have G__law_path := ok__law_path (P := P) (w := w) (base := base) T
  have G__law_overlap := ok__law_overlap (P := P) (w := w) (base := base) (m := Mem.deck) T
  refine dfn T.f47 sc__law_modules rfl (fun cdv A outer s0 H E En hr => ⟨_, (dss_cons (ds_setL 3 sc__law_modules.nd da_nil)
      (dss_cons (ds_for rfl (di_range1 (by rfl) T.z_range (da_cons (de_ix ix_seq o_ix (de_lst (da_cons (dv 2) (da_cons (de_call G__law_next len__law_next (hr.mono (by decide)) (by rfl) T.g41 T.f41.kp T.b41 (da_cons (dv 0) (da_cons (de_op op_addA o_add (dv 2) de_int) da_nil))) da_nil))) (de_call G__law_next len__law_next (hr.mono (by decide)) (by rfl) T.g41 T.f41.kp T.b41 (da_cons (dv 0) (da_cons de_int da_nil)))) da_nil)) (dg_name 4 sc__law_modules.nd)
        (dss_cons (ds_set 5 sc__law_modules.nd (de_call G__law_path len__law_path (hr.mono (by decide)) (by rfl) T.g44 T.f44.kp T.b44 (da_cons (dv 0) (da_cons (dv 1) (da_cons de_int da_nil)))))
        (dss_one (ds_if (dt_back (dt_cmp (op_eqE (u1 hr)) o_eqE (de_lc (own := [("_law_module", 6)]) sc__law_modules.nd (di_seq (dv 3)) (blkOk_by (N := names__law_modules) (sc := defScope s__law_modules) (by decide +kernel)) (fun _ _ _ _ _ => (dg_name 6 sc__law_modules.nd)) (fun _ _ _ _ _ => (dts_one (dt_truth (de_call G__law_overlap len__law_overlap (hr.mono (by decide)) (by rfl) T.g46 T.f46.kp T.b46 (da_cons (dv 6) (da_cons (dv 5) da_nil)))))) (fun _ _ _ _ _ => (dv 6))) (de_lst da_nil)))
          (dss_one (ds_app 3 (dv 5)))
          dss_nil))))
      (dss_one (ds_ret (dv 3))))), fun ds s Qd h => ?_⟩)
  exact read_lmodules05 ds s Qd h
abbrev names__law_uses : List Str := ["_law_deck_here", "_law_modules_here", "_law_most", "_law_found", "_law_k", "_law_user", "_law_used"]
theorem sc__law_uses : FnScope names__law_uses ["_law_deck_here", "_law_modules_here", "_law_most"] (defScope s__law_uses) := ⟨rfl, rfl, rfl, by decide +kernel, rfl, by decide +kernel, by decide +kernel⟩
theorem len__law_uses : ∀ ds s Qd, (spUses : DSp Mem.deck) ds s Qd → ds.length = 3 := spUses_len
theorem ok__law_uses (T : Tx w K mg base a d e ed) : FnG P w K mg base CX0 2 (a 48) (d 48) ["_law_deck_here", "_law_modules_here", "_law_most"] (lift K Mem.deck 3 spUses) := by
  have G__law_next := ok__law_next (P := P) (w := w) (base := base) T
  refine dfn T.f48 sc__law_uses rfl (fun cdv A outer s0 H E En hr => ⟨_, (dss_cons (ds_setL 3 sc__law_uses.nd da_nil)
      (dss_cons (ds_for rfl (di_range1 (by rfl) T.z_range (da_cons (de_op op_mulA o_mul (de_ix ix_seq o_ix (de_lst (da_cons (dv 2) (da_cons (de_call G__law_next len__law_next (hr.mono (by decide)) (by rfl) T.g41 T.f41.kp T.b41 (da_cons (dv 0) (da_cons (de_op op_addA o_add (dv 2) de_int) da_nil))) da_nil))) (de_call G__law_next len__law_next (hr.mono (by decide)) (by rfl) T.g41 T.f41.kp T.b41 (da_cons (dv 0) (da_cons de_int da_nil)))) (de_callTy call_int1 o_intB (by rfl) T.z_int (by decide +kernel) (da_cons (de_cmp op_gtA o_gt (de_callB (DL.CallR.or call_len call_lenD) o_len (by rfl) T.z_len (by decide +kernel) (da_cons (dv 1) da_nil)) de_int) da_nil))) da_nil)) (dg_name 4 sc__law_uses.nd)
        (dss_cons (ds_set 5 sc__law_uses.nd (de_ix ix_seq o_ix (dv 1) (de_call G__law_next len__law_next (hr.mono (by decide)) (by rfl) T.g41 T.f41.kp T.b41 (da_cons (dv 0) (da_cons (de_callB (DL.CallR.or call_len call_lenD) o_len (by rfl) T.z_len (by decide +kernel) (da_cons (dv 1) da_nil)) da_nil)))))
        (dss_cons (ds_set 6 sc__law_uses.nd (de_ix ix_seq o_ix (dv 1) (de_call G__law_next len__law_next (hr.mono (by decide)) (by rfl) T.g41 T.f41.kp T.b41 (da_cons (dv 0) (da_cons (de_callB (DL.CallR.or call_len call_lenD) o_len (by rfl) T.z_len (by decide +kernel) (da_cons (dv 1) da_nil)) da_nil)))))
        (dss_one (ds_if (dt_back (PW.pt (dw_and (dt_cmp (op_neD (u64 hr)) o_ne (dv 5) (dv 6)) (dw_and1 (dt_cmp (op_notInA (u65 hr)) o_notIn (de_tup (da_cons (dv 5) (da_cons (dv 6) da_nil))) (dv 3))))))
          (dss_one (ds_app 3 (de_tup (da_cons (dv 5) (da_cons (dv 6) da_nil)))))
          dss_nil)))))
      (dss_one (ds_ret (dv 3))))), fun ds s Qd h => ?_⟩)
  exact read_luses05 ds s Qd h
abbrev names__law_data : List Str := ["_law_deck_here", "_law_most", "_law_uses_here", "_law_modules_here"]
theorem sc__law_data : FnScope names__law_data ["_law_deck_here", "_law_most", "_law_uses_here"] (defScope s__law_data) := ⟨rfl, rfl, rfl, by decide +kernel, rfl, by decide +kernel, by decide +kernel⟩
theorem len__law_data : ∀ ds s Qd, (spData : DSp Mem.deck) ds s Qd → ds.length = 3 := spData_len
theorem ok__law_data (T : Tx w K mg base a d e ed) : FnG P w K mg base CX0 4 (a 49) (d 49) ["_law_deck_here", "_law_most", "_law_uses_here"] (lift K Mem.deck 3 spData) := by
  have G__law_pool := ok__law_pool (P := P) (w := w) (base := base) T
  have G__law_modules := ok__law_modules (P := P) (w := w) (base := base) T
  have G__law_uses := ok__law_uses (P := P) (w := w) (base := base) T
  refine dfn T.f49 sc__law_data rfl (fun cdv A outer s0 H E En hr => ⟨_, (dss_cons (ds_set 3 sc__law_data.nd (de_call G__law_modules len__law_modules (hr.mono (by decide)) (by rfl) T.g47 T.f47.kp T.b47 (da_cons (dv 0) (da_cons (de_call G__law_pool len__law_pool (hr.mono (by decide)) (by rfl) T.g43 T.f43.kp T.b43 (da_cons (dv 0) (da_cons de_int da_nil))) (da_cons (dv 1) da_nil)))))
      (dss_one (ds_ret (de_tup (da_cons (dv 3) (da_cons (de_call G__law_uses len__law_uses (hr.mono (by decide)) (by rfl) T.g48 T.f48.kp T.b48 (da_cons (dv 0) (da_cons (dv 3) (da_cons (dv 2) da_nil)))) da_nil)))))), fun ds s Qd h => ?_⟩)
  exact read_data11 ds s Qd h
abbrev names_Program_modules : List Str := ["self"]
theorem sc_Program_modules : FnScope names_Program_modules ["self"] (defScope s_Program_modules) := ⟨rfl, rfl, rfl, by decide +kernel, rfl, by decide +kernel, by decide +kernel⟩
theorem len_Program_modules {m : Mem} : ∀ ds s Qd, ((spGetM (a 25)) : DSp m) ds s Qd → ds.length = 1 := spGetM_len
theorem ok_Program_modules {m : Mem} (T : Tx w K mg base a d e ed) : FnG P w K mg base CX0 1 (a 2252) (d 2252) ["self"] (lift K m 1 (spGetM (a 25))) := by
  refine dfn T.f2252 sc_Program_modules rfl (fun cdv A outer s0 H E En hr => ⟨_, (dss_one (ds_ret (de_fld T.cl25.cl T.na25_modules (dv 0)))), fun ds s Qd h => ?_⟩)
  exact read_getm05 (a := fun _ => a 25) ds s Qd h
abbrev names_Program_uses : List Str := ["self"]
theorem sc_Program_uses : FnScope names_Program_uses ["self"] (defScope s_Program_uses) := ⟨rfl, rfl, rfl, by decide +kernel, rfl, by decide +kernel, by decide +kernel⟩
theorem len_Program_uses {m : Mem} : ∀ ds s Qd, ((spGetU (a 25)) : DSp m) ds s Qd → ds.length = 1 := spGetU_len
theorem ok_Program_uses {m : Mem} (T : Tx w K mg base a d e ed) : FnG P w K mg base CX0 1 (a 2253) (d 2253) ["self"] (lift K m 1 (spGetU (a 25))) := by
  refine dfn T.f2253 sc_Program_uses rfl (fun cdv A outer s0 H E En hr => ⟨_, (dss_one (ds_ret (de_fld T.cl25.cl T.na25_uses (dv 0)))), fun ds s Qd h => ?_⟩)
  exact read_getu05 (a := fun _ => a 25) ds s Qd h
abbrev names_next_table : List Str := ["program", "backward", "table", "module", "user", "used"]
theorem sc_next_table : FnScope names_next_table ["program", "backward"] (defScope s_next_table) := ⟨rfl, rfl, rfl, by decide +kernel, rfl, by decide +kernel, by decide +kernel⟩
theorem len_next_table {m : Mem} : ∀ ds s Qd, ((spTable (a 25)) : DSp m) ds s Qd → ds.length = 2 := spTable_len
theorem ok_next_table {m : Mem} (T : Tx w K mg base a d e ed) : FnG P w K mg base CX0 4 (a 27) (d 27) ["program", "backward"] (lift K m 2 (spTable (a 25))) := by
  have G_Program_modules := FnG.imp (ok_Program_modules (P := P) (w := w) (base := base) (m := Mem.nil) T) fun _ _ _ _ => lift_hot
  have len_Program_modules : ∀ ds s Qd, (hotSp (spGetM (a 25) : DSp Mem.nil) : DSp (Mem.hot Mem.nil)) ds s Qd → ds.length = 1 := fun ds s Qd h => len_Program_modules ds s.1 _ h
  have G_Program_uses := FnG.imp (ok_Program_uses (P := P) (w := w) (base := base) (m := Mem.nil) T) fun _ _ _ _ => lift_hot
  have len_Program_uses : ∀ ds s Qd, (hotSp (spGetU (a 25) : DSp Mem.nil) : DSp (Mem.hot Mem.nil)) ds s Qd → ds.length = 1 := fun ds s Qd h => len_Program_uses ds s.1 _ h
  refine FnG.imp (sp := lift K (Mem.hot Mem.nil) 2 (purH (pTable (a 25)))) ?_ fun _ _ _ _ => lift_tab
  refine dfnED (fun s => s.2 = []) (fun ds s Qd h => h.1) T.f27 sc_next_table rfl (fun cdv A outer s0 H E En hE hr => ⟨_, (dss_cons (ds_setD0 2 sc_next_table.nd)
      (dss_cons (ds_for rfl (di_seq (de_prop T.cl25.cl T.p2252 G_Program_modules (hr.mono (by decide)) T.b2252 (dv 0))) (dg_name 3 sc_next_table.nd)
        (dss_one (ds_tabNew 2 (u1 hr) (dv 3))))
      (dss_cons (ds_for rfl (di_seq (de_prop T.cl25.cl T.p2253 G_Program_uses (hr.mono (by decide)) T.b2253 (dv 0))) (dg_tup (n := 2) rfl (dgs_cons (dg_name 4 sc_next_table.nd) (dgs_cons (dg_name 5 sc_next_table.nd) dgs_nil)))
        (dss_one (ds_if (dt_truth (dv 1))
          (dss_one (ds_tabApp 2 (u1 hr) (dv 5) (dv 4)))
          (dss_one (ds_tabApp 2 (u1 hr) (dv 4) (dv 5))))))
      (dss_one (ds_retTab hE 2))))), fun ds s Qd h => ?_⟩)
  exact read_table19 (a := fun _ => a 25) ds s Qd h
abbrev names_chains_from : List Str := ["nexts", "start", "ways", "queue", "at", "way", "other"]
theorem sc_chains_from : FnScope names_chains_from ["nexts", "start"] (defScope s_chains_from) := ⟨rfl, rfl, rfl, by decide +kernel, rfl, by decide +kernel, by decide +kernel⟩
theorem len_chains_from {m : Mem} : ∀ ds s Qd, (spChains : DSp m) ds s Qd → ds.length = 2 := spChains_len
theorem ok_chains_from {m : Mem} (T : Tx w K mg base a d e ed) : FnG P w K mg base CX0 1 (a 28) (d 28) ["nexts", "start"] (lift K m 2 spChains) := by
  refine dfn T.f28 sc_chains_from rfl (fun cdv A outer s0 H E En hr => ⟨_, (dss_cons (ds_setD0 2 sc_chains_from.nd)
      (dss_cons (ds_setL 3 sc_chains_from.nd (da_cons (de_tup (da_cons (dv 1) da_nil)) da_nil))
      (dss_cons (ds_set 4 sc_chains_from.nd de_int)
      (dss_cons (ds_while (dt_cmp op_ltA o_lt (dv 4) (de_lenO 3 (by rfl) T.z_len))
        (dss_cons (ds_set 5 sc_chains_from.nd (de_ixO 3 (dv 4)))
        (dss_cons (ds_for rfl (di_seq (de_get (u1 hr) (dv 0) (de_ix ix_seq o_ix (dv 5) (de_un un_neg o_neg de_int)))) (dg_name 6 sc_chains_from.nd)
          (dss_one (ds_if (PW.pt (dw_and (dt_cmp (op_neD (u64 hr)) o_ne (dv 6) (dv 1)) (dw_and1 (dt_notInO 2 (u1 hr) (dv 6)))))
            (dss_cons (ds_dicPut 2 (u1 hr) (de_tup (da_star (dv 5) (da_cons (dv 6) da_nil))) (dv 6))
            (dss_one (ds_app 3 (de_tup (da_star (dv 5) (da_cons (dv 6) da_nil))))))
            dss_nil)))
        (dss_one (ds_aug 4 sc_chains_from.nd iop_add o_iadd de_int)))))
      (dss_one (ds_ret (dv 2))))))), fun ds s Qd h => ?_⟩)
  exact read_chains19 ds s Qd h
abbrev names_ring_from : List Str := ["nexts", "start", "end", "way"]
theorem sc_ring_from : FnScope names_ring_from ["nexts", "start"] (defScope s_ring_from) := ⟨rfl, rfl, rfl, by decide +kernel, rfl, by decide +kernel, by decide +kernel⟩
theorem len_ring_from {m : Mem} : ∀ ds s Qd, (spRingFrom : DSp m) ds s Qd → ds.length = 2 := spRingFrom_len
theorem ok_ring_from {m : Mem} (T : Tx w K mg base a d e ed) : FnG P w K mg base CX0 2 (a 29) (d 29) ["nexts", "start"] (lift K m 2 spRingFrom) := by
  have G_chains_from := ok_chains_from (P := P) (w := w) (base := base) (m := m) T
  refine dfn T.f29 sc_ring_from rfl (fun cdv A outer s0 H E En hr => ⟨_, (dss_cons (ds_for rfl (di_itemsF G_chains_from len_chains_from (hr.mono (by decide)) (by rfl) T.g28 T.f28.kp T.b28 (da_cons (dv 0) (da_cons (dv 1) da_nil))) (dg_tup (n := 2) rfl (dgs_cons (dg_name 2 sc_ring_from.nd) (dgs_cons (dg_name 3 sc_ring_from.nd) dgs_nil)))
        (dss_one (ds_if (dt_cmp (op_inA (u65 hr)) o_in (dv 1) (de_get (u1 hr) (dv 0) (dv 2)))
          (dss_one (ds_ret (dv 3)))
          dss_nil)))
      (dss_one (ds_ret de_non))), fun ds s Qd h => ?_⟩)
  exact read_ring_from15 ds s Qd h
abbrev names_ring : List Str := ["program", "module"]
theorem sc_ring : FnScope names_ring ["program", "module"] (defScope s_ring) := ⟨rfl, rfl, rfl, by decide +kernel, rfl, by decide +kernel, by decide +kernel⟩
theorem len_ring {m : Mem} : ∀ ds s Qd, ((spRing15 (a 25)) : DSp m) ds s Qd → ds.length = 2 := spRing15_len
theorem ok_ring {m : Mem} (T : Tx w K mg base a d e ed) : FnG P w K mg base CX0 5 (a 33) (d 33) ["program", "module"] (lift K m 2 (spRing15 (a 25))) := by
  have G_next_table := ok_next_table (P := P) (w := w) (base := base) (m := m) T
  have G_ring_from := ok_ring_from (P := P) (w := w) (base := base) (m := m) T
  refine dfn T.f33 sc_ring rfl (fun cdv A outer s0 H E En hr => ⟨_, (dss_one (ds_ret (de_call G_ring_from len_ring_from (hr.mono (by decide)) (by rfl) T.g29 T.f29.kp T.b29 (da_cons (de_callD false G_next_table len_next_table (hr.mono (by decide)) (by rfl) T.g27 T.f27.kp T.bd27 (da_cons (dv 0) da_nil)) (da_cons (dv 1) da_nil))))), fun ds s Qd h => ?_⟩)
  exact read_ring15 (a := fun _ => a 25) ds s Qd h
abbrev names__is_spare : List Str := ["nexts", "user", "used", "others", "module"]
theorem sc__is_spare : FnScope names__is_spare ["nexts", "user", "used"] (defScope s__is_spare) := ⟨rfl, rfl, rfl, by decide +kernel, rfl, by decide +kernel, by decide +kernel⟩
theorem len__is_spare {m : Mem} : ∀ ds s Qd, (spIsSpare : DSp m) ds s Qd → ds.length = 3 := spIsSpare_len
theorem ok__is_spare {m : Mem} (T : Tx w K mg base a d e ed) : FnG P w K mg base CX0 2 (a 36) (d 36) ["nexts", "user", "used"] (lift K m 3 spIsSpare) := by
  have G_chains_from := ok_chains_from (P := P) (w := w) (base := base) (m := m) T
  refine dfn T.f36 sc__is_spare rfl (fun cdv A outer s0 H E En hr => ⟨_, (dss_cons (ds_setLc 3 (own := [("module", 4)]) sc__is_spare.nd (di_seq (de_get (u1 hr) (dv 0) (dv 1))) (blkOk_by (N := names__is_spare) (sc := defScope s__is_spare) (by decide +kernel)) (fun _ _ _ _ _ => (dg_name 4 sc__is_spare.nd)) (fun _ _ _ _ _ => (dts_one (dt_cmp (op_neD (u64 hr)) o_ne (dv 4) (dv 2)))) (fun _ _ _ _ _ => (dv 4)))
      (dss_one (ds_ret (de_inD (u1 hr) (dv 2) (de_call G_chains_from len_chains_from (hr.mono (by decide)) (by rfl) T.g28 T.f28.kp T.b28 (da_cons (de_mrg 0 1 3) (da_cons (dv 1) da_nil))))))), fun ds s Qd h => ?_⟩)
  exact read_is_spare19 ds s Qd h
abbrev names_spare_uses : List Str := ["program", "nexts", "user", "used"]
theorem sc_spare_uses : FnScope names_spare_uses ["program"] (defScope s_spare_uses) := ⟨rfl, rfl, rfl, by decide +kernel, rfl, by decide +kernel, by decide +kernel⟩
theorem len_spare_uses {m : Mem} : ∀ ds s Qd, ((spSpares (a 25)) : DSp m) ds s Qd → ds.length = 1 := spSpares_len
theorem ok_spare_uses {m : Mem} (T : Tx w K mg base a d e ed) : FnG P w K mg base CX0 5 (a 37) (d 37) ["program"] (lift K m 1 (spSpares (a 25))) := by
  have G_next_table := ok_next_table (P := P) (w := w) (base := base) (m := m) T
  have G__is_spare := ok__is_spare (P := P) (w := w) (base := base) (m := m) T
  have G_Program_uses := ok_Program_uses (P := P) (w := w) (base := base) (m := m) T
  refine dfn T.f37 sc_spare_uses rfl (fun cdv A outer s0 H E En hr => ⟨_, (dss_cons (ds_set 1 sc_spare_uses.nd (de_callD false G_next_table len_next_table (hr.mono (by decide)) (by rfl) T.g27 T.f27.kp T.bd27 (da_cons (dv 0) da_nil)))
      (dss_one (ds_ret (de_callTy call_tuple_of o_tuple (by rfl) T.z_tuple (by decide +kernel) (da_cons (de_lc (own := [("user", 2), ("used", 3)]) sc_spare_uses.nd (di_seq (de_prop T.cl25.cl T.p2253 G_Program_uses (hr.mono (by decide)) T.b2253 (dv 0))) (blkOk_by (N := names_spare_uses) (sc := defScope s_spare_uses) (by decide +kernel)) (fun _ _ _ _ _ => (dg_tup (n := 2) rfl (dgs_cons (dg_name 2 sc_spare_uses.nd) (dgs_cons (dg_name 3 sc_spare_uses.nd) dgs_nil)))) (fun _ _ _ _ _ => (dts_one (dt_truth (de_call G__is_spare len__is_spare (hr.mono (by decide)) (by rfl) T.g36 T.f36.kp T.b36 (da_cons (dv 1) (da_cons (dv 2) (da_cons (dv 3) da_nil))))))) (fun _ _ _ _ _ => (de_tup (da_cons (dv 2) (da_cons (dv 3) da_nil))))) da_nil))))), fun ds s Qd h => ?_⟩)
  exact read_spares19 (a := fun _ => a 25) ds s Qd h
abbrev names__is_name : List Str := ["text", "letter"]
theorem sc__is_name : FnScope names__is_name ["text"] (defScope s__is_name) := ⟨rfl, rfl, rfl, by decide +kernel, rfl, by decide +kernel, by decide +kernel⟩
theorem len__is_name {m : Mem} : ∀ ds s Qd, (spIsName : DSp m) ds s Qd → ds.length = 1 := spIsName_len
theorem ok__is_name {m : Mem} (T : Tx w K mg base a d e ed) : FnG P w K mg base CX0 1 (a 6) (d 6) ["text"] (lift K m 1 spIsName) := by
  refine dfn T.f6 sc__is_name rfl (fun cdv A outer s0 H E En hr => ⟨_, (dss_one (ds_ret (de_and (de_chain op_leA op_leA o_le o_le de_int (de_callB (DL.CallR.or call_len call_lenD) o_len (by rfl) T.z_len (by decide +kernel) (da_cons (dv 0) da_nil)) (de_globI (by rfl) T.c__MAX_LETTERS)) (de_one (de_callB (cr_all rfl) o_all (by rfl) T.z_all (by decide +kernel) (da_cons (de_lc (own := [("letter", 1)]) sc__is_name.nd (di_str (dv 0)) (blkOk_by (N := names__is_name) (sc := defScope s__is_name) (by decide +kernel)) (fun _ _ _ _ _ => (dg_name 1 sc__is_name.nd)) (fun _ _ _ _ _ => dts_nil) (fun _ _ _ _ _ => (de_chain op_leA op_leA o_le o_le de_str (dv 1) de_str))) da_nil)))))), fun ds s Qd h => ?_⟩)
  exact read__is_name ds s Qd h
abbrev names_is_path : List Str := ["value", "names", "name"]
theorem sc_is_path : FnScope names_is_path ["value"] (defScope s_is_path) := ⟨rfl, rfl, rfl, by decide +kernel, rfl, by decide +kernel, by decide +kernel⟩
theorem len_is_path {m : Mem} : ∀ ds s Qd, (spIsPath : DSp m) ds s Qd → ds.length = 1 := spIsPath_len
theorem ok_is_path {m : Mem} (T : Tx w K mg base a d e ed) : FnG P w K mg base CX0 2 (a 7) (d 7) ["value"] (lift K m 1 spIsPath) := by
  have G__is_name := ok__is_name (P := P) (w := w) (base := base) (m := m) T
  refine dfn T.f7 sc_is_path rfl (fun cdv A outer s0 H E En hr => ⟨_, (dss_cons (ds_if (dt_not (dt_truth (de_callB call_isi o_isi (by rfl) T.z_isinstance (by decide +kernel) (da_cons (dv 0) (da_cons (de_bltn (v := .ty "str") (by rfl) T.z_str (by decide +kernel) rfl) da_nil)))))
        (dss_one (ds_ret de_bl))
        dss_nil)
      (dss_cons (ds_set 1 sc_is_path.nd (de_m PySem.F.plainAttrs_str PySem.F.slot_str_split PySem.F.type_str_split mt_split o_split (dv 0) (da_cons de_str da_nil)))
      (dss_one (ds_ret (de_and (de_cmp op_leA o_le (de_callB (DL.CallR.or call_len call_lenD) o_len (by rfl) T.z_len (by decide +kernel) (da_cons (dv 1) da_nil)) (de_globI (by rfl) T.c_MAX_NAMES)) (de_one (de_callB (cr_all rfl) o_all (by rfl) T.z_all (by decide +kernel) (da_cons (de_lc (own := [("name", 2)]) sc_is_path.nd (di_seq (dv 1)) (blkOk_by (N := names_is_path) (sc := defScope s_is_path) (by decide +kernel)) (fun _ _ _ _ _ => (dg_name 2 sc_is_path.nd)) (fun _ _ _ _ _ => dts_nil) (fun _ _ _ _ _ => (de_call G__is_name len__is_name (hr.mono (by decide)) (by rfl) T.g6 T.f6.kp T.b6 (da_cons (dv 2) da_nil)))) da_nil)))))))), fun ds s Qd h => ?_⟩)
  exact read_is_path ds s Qd h
abbrev names_covers : List Str := ["path", "other"]
theorem sc_covers : FnScope names_covers ["path", "other"] (defScope s_covers) := ⟨rfl, rfl, rfl, by decide +kernel, rfl, by decide +kernel, by decide +kernel⟩
theorem len_covers {m : Mem} : ∀ ds s Qd, (spCovers : DSp m) ds s Qd → ds.length = 2 := spCovers_len
theorem ok_covers {m : Mem} (T : Tx w K mg base a d e ed) : FnG P w K mg base CX0 1 (a 8) (d 8) ["path", "other"] (lift K m 2 spCovers) := by
  refine dfn T.f8 sc_covers rfl (fun cdv A outer s0 H E En hr => ⟨_, (dss_one (ds_ret (de_or (de_cmp (op_eqD (u64 hr)) o_eq (dv 1) (dv 0)) (de_one (de_m PySem.F.plainAttrs_str PySem.F.slot_str_startswith PySem.F.type_str_startswith mt_startswith o_sw (dv 1) (da_cons (de_op op_addA o_add (dv 0) de_str) da_nil)))))), fun ds s Qd h => ?_⟩)
  exact read_covers ds s Qd h
abbrev names_overlap : List Str := ["path", "other"]
theorem sc_overlap : FnScope names_overlap ["path", "other"] (defScope s_overlap) := ⟨rfl, rfl, rfl, by decide +kernel, rfl, by decide +kernel, by decide +kernel⟩
theorem len_overlap {m : Mem} : ∀ ds s Qd, (spOverlap : DSp m) ds s Qd → ds.length = 2 := spOverlap_len
theorem ok_overlap {m : Mem} (T : Tx w K mg base a d e ed) : FnG P w K mg base CX0 2 (a 9) (d 9) ["path", "other"] (lift K m 2 spOverlap) := by
  have G_covers := ok_covers (P := P) (w := w) (base := base) (m := m) T
  refine dfn T.f9 sc_overlap rfl (fun cdv A outer s0 H E En hr => ⟨_, (dss_one (ds_ret (de_or (de_call G_covers len_covers (hr.mono (by decide)) (by rfl) T.g8 T.f8.kp T.b8 (da_cons (dv 0) (da_cons (dv 1) da_nil))) (de_one (de_call G_covers len_covers (hr.mono (by decide)) (by rfl) T.g8 T.f8.kp T.b8 (da_cons (dv 1) (da_cons (dv 0) da_nil))))))), fun ds s Qd h => ?_⟩)
  exact read_overlap ds s Qd h
abbrev names__modules_error : List Str := ["modules", "index", "module", "earlier"]
theorem sc__modules_error : FnScope names__modules_error ["modules"] (defScope s__modules_error) := ⟨rfl, rfl, rfl, by decide +kernel, rfl, by decide +kernel, by decide +kernel⟩
theorem len__modules_error {m : Mem} : ∀ ds s Qd, (spModErr : DSp m) ds s Qd → ds.length = 1 := spModErr_len
theorem ok__modules_error {m : Mem} (T : Tx w K mg base a d e ed) : FnG P w K mg base CX0 3 (a 21) (d 21) ["modules"] (lift K m 1 spModErr) := by
  have G_is_path := ok_is_path (P := P) (w := w) (base := base) (m := m) T
  have G_overlap := ok_overlap (P := P) (w := w) (base := base) (m := m) T
  refine dfn T.f21 sc__modules_error rfl (fun cdv A outer s0 H E En hr => ⟨_, (dss_cons (ds_if (PW.pt (dw_or (dt_not (dt_truth (de_callB call_isi o_isi (by rfl) T.z_isinstance (by decide +kernel) (da_cons (dv 0) (da_cons (de_bltn (v := .ty "tuple") (by rfl) T.z_tuple (by decide +kernel) rfl) da_nil))))) (dw_or1 (dt_cmp op_gtA o_gt (de_callB (DL.CallR.or call_len call_lenD) o_len (by rfl) T.z_len (by decide +kernel) (da_cons (dv 0) da_nil)) (de_globI (by rfl) T.c_MAX_MODULES)))))
        (dss_one (ds_ret (de_tup (da_cons de_non (da_cons de_str da_nil)))))
        dss_nil)
      (dss_cons (ds_for rfl (di_enumA (by rfl) T.z_enumerate (da_cons (dv 0) da_nil)) (dg_tup (n := 2) rfl (dgs_cons (dg_name 1 sc__modules_error.nd) (dgs_cons (dg_name 2 sc__modules_error.nd) dgs_nil)))
        (dss_cons (ds_if (dt_not (dt_truth (de_call G_is_path len_is_path (hr.mono (by decide)) (by rfl) T.g7 T.f7.kp T.b7 (da_cons (dv 2) da_nil))))
          (dss_one (ds_ret (de_tup (da_cons (dv 1) (da_cons de_str da_nil)))))
          dss_nil)
        (dss_one (ds_if (dt_truth (de_callB (cr_any rfl) o_any (by rfl) T.z_any (by decide +kernel) (da_cons (de_lc (own := [("earlier", 3)]) sc__modules_error.nd (di_seq (de_slice sl_all o_sl (dv 0) do_none (do_some (dv 1)))) (blkOk_by (N := names__modules_error) (sc := defScope s__modules_error) (by decide +kernel)) (fun _ _ _ _ _ => (dg_name 3 sc__modules_error.nd)) (fun _ _ _ _ _ => dts_nil) (fun _ _ _ _ _ => (de_call G_overlap len_overlap (hr.mono (by decide)) (by rfl) T.g9 T.f9.kp T.b9 (da_cons (dv 3) (da_cons (dv 2) da_nil))))) da_nil)))
          (dss_one (ds_ret (de_tup (da_cons (dv 1) (da_cons de_str da_nil)))))
          dss_nil))))
      (dss_one (ds_ret de_non)))), fun ds s Qd h => ?_⟩)
  exact read_mod_error05 ds s Qd h
abbrev names__is_pair_of : List Str := ["value", "modules"]
theorem sc__is_pair_of : FnScope names__is_pair_of ["value", "modules"] (defScope s__is_pair_of) := ⟨rfl, rfl, rfl, by decide +kernel, rfl, by decide +kernel, by decide +kernel⟩
theorem len__is_pair_of {m : Mem} : ∀ ds s Qd, (spIsPair : DSp m) ds s Qd → ds.length = 2 := spIsPair_len
theorem ok__is_pair_of {m : Mem} (T : Tx w K mg base a d e ed) : FnG P w K mg base CX0 1 (a 19) (d 19) ["value", "modules"] (lift K m 2 spIsPair) := by
  refine dfn T.f19 sc__is_pair_of rfl (fun cdv A outer s0 H E En hr => ⟨_, (dss_one (ds_ret (de_and (de_callB call_isi o_isi (by rfl) T.z_isinstance (by decide +kernel) (da_cons (dv 0) (da_cons (de_bltn (v := .ty "tuple") (by rfl) T.z_tuple (by decide +kernel) rfl) da_nil))) (de_and (de_cmp (op_eqD (u64 hr)) o_eq (de_callB (DL.CallR.or call_len call_lenD) o_len (by rfl) T.z_len (by decide +kernel) (da_cons (dv 0) da_nil)) de_int) (de_and (de_cmp (op_neD (u64 hr)) o_ne (de_ix ix_seq o_ix (dv 0) de_int) (de_ix ix_seq o_ix (dv 0) de_int)) (de_and (de_cmp (op_inTP (u65 hr)) (o_inTP (neg := false)) (de_ix ix_seq o_ix (dv 0) de_int) (dv 1)) (de_one (de_cmp (op_inTP (u65 hr)) (o_inTP (neg := false)) (de_ix ix_seq o_ix (dv 0) de_int) (dv 1))))))))), fun ds s Qd h => ?_⟩)
  exact read_is_pair05 ds s Qd h
abbrev names__uses_error : List Str := ["modules", "uses", "seen", "index", "use"]
theorem sc__uses_error : FnScope names__uses_error ["modules", "uses"] (defScope s__uses_error) := ⟨rfl, rfl, rfl, by decide +kernel, rfl, by decide +kernel, by decide +kernel⟩
theorem len__uses_error {m : Mem} : ∀ ds s Qd, (spUseErr : DSp m) ds s Qd → ds.length = 2 := spUseErr_len
theorem ok__uses_error {m : Mem} (T : Tx w K mg base a d e ed) : FnG P w K mg base CX0 2 (a 22) (d 22) ["modules", "uses"] (lift K m 2 spUseErr) := by
  have G__is_pair_of := ok__is_pair_of (P := P) (w := w) (base := base) (m := m) T
  refine dfn T.f22 sc__uses_error rfl (fun cdv A outer s0 H E En hr => ⟨_, (dss_cons (ds_if (PW.pt (dw_or (dt_not (dt_truth (de_callB call_isi o_isi (by rfl) T.z_isinstance (by decide +kernel) (da_cons (dv 1) (da_cons (de_bltn (v := .ty "tuple") (by rfl) T.z_tuple (by decide +kernel) rfl) da_nil))))) (dw_or1 (dt_cmp op_gtA o_gt (de_callB (DL.CallR.or call_len call_lenD) o_len (by rfl) T.z_len (by decide +kernel) (da_cons (dv 1) da_nil)) (de_globI (by rfl) T.c_MAX_USES)))))
        (dss_one (ds_ret (de_tup (da_cons de_non (da_cons de_str da_nil)))))
        dss_nil)
      (dss_cons (ds_setP 2 sc__uses_error.nd (by rfl) T.z_set)
      (dss_cons (ds_for rfl (di_enumA (by rfl) T.z_enumerate (da_cons (dv 1) da_nil)) (dg_tup (n := 2) rfl (dgs_cons (dg_name 3 sc__uses_error.nd) (dgs_cons (dg_name 4 sc__uses_error.nd) dgs_nil)))
        (dss_cons (ds_if (dt_not (dt_truth (de_call G__is_pair_of len__is_pair_of (hr.mono (by decide)) (by rfl) T.g19 T.f19.kp T.b19 (da_cons (dv 4) (da_cons (dv 0) da_nil)))))
          (dss_one (ds_ret (de_tup (da_cons (dv 3) (da_cons de_str da_nil)))))
          dss_nil)
        (dss_cons (ds_if (dt_inP 2 (u64 hr) (dv 4))
          (dss_one (ds_ret (de_tup (da_cons (dv 3) (da_cons de_str da_nil)))))
          dss_nil)
        (dss_one (ds_addP 2 (u64 hr) (dv 4))))))
      (dss_one (ds_ret de_non))))), fun ds s Qd h => ?_⟩)
  exact read_use_error05 ds s Qd h
abbrev names_program_error : List Str := ["modules", "uses", "error"]
theorem sc_program_error : FnScope names_program_error ["modules", "uses"] (defScope s_program_error) := ⟨rfl, rfl, rfl, by decide +kernel, rfl, by decide +kernel, by decide +kernel⟩
theorem len_program_error {m : Mem} : ∀ ds s Qd, (spProgErr : DSp m) ds s Qd → ds.length = 2 := spProgErr_len
theorem ok_program_error {m : Mem} (T : Tx w K mg base a d e ed) : FnG P w K mg base CX0 4 (a 23) (d 23) ["modules", "uses"] (lift K m 2 spProgErr) := by
  have G__modules_error := ok__modules_error (P := P) (w := w) (base := base) (m := m) T
  have G__uses_error := ok__uses_error (P := P) (w := w) (base := base) (m := m) T
  refine dfn T.f23 sc_program_error rfl (fun cdv A outer s0 H E En hr => ⟨_, (dss_cons (ds_set 2 sc_program_error.nd (de_call G__modules_error len__modules_error (hr.mono (by decide)) (by rfl) T.g21 T.f21.kp T.b21 (da_cons (dv 0) da_nil)))
      (dss_cons (ds_if (dt_cmp op_isN o_isN (dv 2) de_non)
        (dss_one (ds_set 2 sc_program_error.nd (de_call G__uses_error len__uses_error (hr.mono (by decide)) (by rfl) T.g22 T.f22.kp T.b22 (da_cons (dv 0) (da_cons (dv 1) da_nil)))))
        dss_nil)
      (dss_one (ds_ret (dv 2))))), fun ds s Qd h => ?_⟩)
  exact read_prog_error05 ds s Qd h
abbrev names_parent : List Str := ["path", "above", "dot", "_"]
theorem sc_parent : FnScope names_parent ["path"] (defScope s_parent) := ⟨rfl, rfl, rfl, by decide +kernel, rfl, by decide +kernel, by decide +kernel⟩
theorem len_parent {m : Mem} : ∀ ds s Qd, (spParent : DSp m) ds s Qd → ds.length = 1 := spParent_len
theorem ok_parent {m : Mem} (T : Tx w K mg base a d e ed) : FnG P w K mg base CX0 1 (a 10) (d 10) ["path"] (lift K m 1 spParent) := by
  refine dfn T.f10 sc_parent rfl (fun cdv A outer s0 H E En hr => ⟨_, (dss_cons (ds_asg (de_m PySem.F.plainAttrs_str PySem.F.slot_str_rpartition PySem.F.type_str_rpartition mt_rpartition o_rpart (dv 0) (da_cons de_str da_nil)) (dg_tup (n := 3) rfl (dgs_cons (dg_name 1 sc_parent.nd) (dgs_cons (dg_name 2 sc_parent.nd) (dgs_cons (dg_name 3 sc_parent.nd) dgs_nil)))))
      (dss_one (ds_ret (de_ifExp (dt_truth (dv 2)) (dv 1) de_non)))), fun ds s Qd h => ?_⟩)
  exact read_parent ds s Qd h
abbrev names__parts : List Str := ["modules", "found", "module", "path"]
theorem sc__parts : FnScope names__parts ["modules"] (defScope s__parts) := ⟨rfl, rfl, rfl, by decide +kernel, rfl, by decide +kernel, by decide +kernel⟩
theorem len__parts {m : Mem} : ∀ ds s Qd, (spParts : DSp m) ds s Qd → ds.length = 1 := spParts_len
theorem ok__parts {m : Mem} (T : Tx w K mg base a d e ed) : FnG P w K mg base CX0 2 (a 24) (d 24) ["modules"] (lift K m 1 spParts) := by
  have G_parent := ok_parent (P := P) (w := w) (base := base) (m := m) T
  refine dfn T.f24 sc__parts rfl (fun cdv A outer s0 H E En hr => ⟨_, (dss_cons (ds_setT 1 sc__parts.nd (by rfl) T.z_set)
      (dss_cons (ds_for rfl (di_seq (dv 0)) (dg_name 2 sc__parts.nd)
        (dss_cons (ds_set 3 sc__parts.nd (dv 2))
        (dss_one (ds_while (dt_cmp op_notN o_notN (dv 3) de_non)
          (dss_cons (ds_addT 1 (dv 3))
          (dss_one (ds_set 3 sc__parts.nd (de_call G_parent len_parent (hr.mono (by decide)) (by rfl) T.g10 T.f10.kp T.b10 (da_cons (dv 3) da_nil)))))))))
      (dss_one (ds_ret (de_callTy call_tuple_of o_tuple (by rfl) T.z_tuple (by decide +kernel) (da_cons (de_sortT 1 (by rfl) (by rfl) T.z_sorted) da_nil)))))), fun ds s Qd h => ?_⟩)
  exact read_parts05 ds s Qd h
abbrev names_Program___init__ : List Str := ["self", "modules", "uses", "error"]
theorem sc_Program___init__ : FnScope names_Program___init__ ["self", "modules", "uses"] (defScope s_Program___init__) := ⟨rfl, rfl, rfl, by decide +kernel, rfl, by decide +kernel, by decide +kernel⟩
theorem len_Program___init__ {m : Mem} : ∀ ds s Qd, (spProgI : ISp m) ds s Qd → ds.length = 2 := spProgI_len
theorem ok_Program___init__ {m : Mem} (T : Tx w K mg base a d e ed) : FnG P w K mg base CX0 5 (a 2250) (d 2250) ["self", "modules", "uses"] (liftI K m (a 25) 2 spProgI) := by
  have G_program_error := ok_program_error (P := P) (w := w) (base := base) (m := m) T
  have G__parts := ok__parts (P := P) (w := w) (base := base) (m := m) T
  refine dfnI T.f2250 sc_Program___init__ rfl (fun cdv A outer s0 H E En hr => ⟨_, (dss_cons (ds_set 3 sc_Program___init__.nd (de_call G_program_error len_program_error (hr.mono (by decide)) (by rfl) T.g23 T.f23.kp T.b23 (da_cons (dv 1) (da_cons (dv 2) da_nil))))
      (dss_cons (ds_if (dt_cmp op_notN o_notN (dv 3) de_non)
        (dss_one ds_never)
        dss_nil)
      (dss_cons (ds_fst 0 T.cl25.cl T.na25_modules (de_callTy call_tuple_of o_tuple (by rfl) T.z_tuple (by decide +kernel) (da_cons (de_callB cr_sortT2 o_sortT (by rfl) T.z_sorted (by decide +kernel) (da_cons (dv 1) da_nil)) da_nil)))
      (dss_cons (ds_fst 0 T.cl25.cl T.na25_uses (de_callTy call_tuple_of o_tuple (by rfl) T.z_tuple (by decide +kernel) (da_cons (de_callB cr_sortT2 o_sortT (by rfl) T.z_sorted (by decide +kernel) (da_cons (dv 2) da_nil)) da_nil)))
      (dss_one (ds_fst 0 T.cl25.cl T.na25_parts (de_call G__parts len__parts (hr.mono (by decide)) (by rfl) T.g24 T.f24.kp T.b24 (da_cons (dv 1) da_nil)))))))), fun ds s Qd x dx h => ?_⟩)
  exact read_prog_init05 (w := w) (a := fun _ => a 25) ds s Qd x dx h
abbrev names_reduced : List Str := ["program", "module", "spare", "circle", "use"]
theorem sc_reduced : FnScope names_reduced ["program"] (defScope s_reduced) := ⟨rfl, rfl, rfl, by decide +kernel, rfl, by decide +kernel, by decide +kernel⟩
theorem len_reduced {m : Mem} : ∀ ds s Qd Qx, ((spRed24 (a 25) (a 16)) : DSpX m) ds s Qd Qx → ds.length = 1 := spRed24_len
theorem ok_reduced {m : Mem} (T : Tx w K mg base a d e ed) : FnG P w K mg base (L2.CX P w) 7 (a 38) (d 38) ["program"] (liftX K m 1 (spRed24 (a 25) (a 16))) := by
  have G_ring := ok_ring (P := P) (w := w) (base := base) (m := m) T
  have G_spare_uses := ok_spare_uses (P := P) (w := w) (base := base) (m := m) T
  have G_Program___init__ := ok_Program___init__ (P := P) (w := w) (base := base) (m := m) T
  have G_Program_modules := ok_Program_modules (P := P) (w := w) (base := base) (m := m) T
  have G_Program_uses := ok_Program_uses (P := P) (w := w) (base := base) (m := m) T
  refine dfnX T.f38 sc_reduced rfl (fun cdv A outer s0 H E F0 s0' hr => ⟨_, (dss_cons (ds_for (hp := passes_of rfl) rfl (di_seq (de_prop T.cl25.cl T.p2252 G_Program_modules (hr.mono (by decide)) T.b2252 (dv 0))) (dg_name 1 sc_reduced.nd)
        (dss_cons (ds_set 3 sc_reduced.nd (de_call G_ring len_ring (hr.mono (by decide)) (by rfl) T.g33 T.f33.kp T.b33 (da_cons (dv 0) (da_cons (dv 1) da_nil))))
        (dss_one (ds_if (dt_cmp op_notN o_notN (dv 3) de_non)
          (dss_one (ds_raise rfl (takes_of rfl rfl rfl rfl) T.xc16 T.ty16 T.i16 T.t16 (oi_Ring T) (hr.mono (by decide)) T.bi16 (by rfl) T.g16 (dv 3)))
          dss_nil))))
      (dss_cons (ds_set 2 sc_reduced.nd (de_call G_spare_uses len_spare_uses (hr.mono (by decide)) (by rfl) T.g37 T.f37.kp T.b37 (da_cons (dv 0) da_nil)))
      (dss_one (ds_ret (de_make T.M25 G_Program___init__ len_Program___init__ (hr.mono (by decide)) (by rfl) T.g25 T.b2250 (da_cons (de_prop T.cl25.cl T.p2252 G_Program_modules (hr.mono (by decide)) T.b2252 (dv 0)) (da_cons (de_callTy call_tuple_of o_tuple (by rfl) T.z_tuple (by decide +kernel) (da_cons (de_lc (own := [("use", 4)]) sc_reduced.nd (di_seq (de_prop T.cl25.cl T.p2253 G_Program_uses (hr.mono (by decide)) T.b2253 (dv 0))) (blkOk_by (N := names_reduced) (sc := defScope s_reduced) (by decide +kernel)) (fun _ _ _ _ _ => (dg_name 4 sc_reduced.nd)) (fun _ _ _ _ _ => (dts_one (dt_cmp (op_notInTP (u65 hr)) (o_inTP (neg := true)) (dv 4) (dv 2)))) (fun _ _ _ _ _ => (dv 4))) da_nil)) da_nil))))))), fun ds s Qd Qx h => ?_⟩)
  exact read_red24 ds s Qd Qx h
abbrev names__law_raised : List Str := ["_law_program", "_law_found", "e"]
theorem sc__law_raised : FnScope names__law_raised ["_law_program"] (defScope s__law_raised) := ⟨rfl, rfl, rfl, by decide +kernel, rfl, by decide +kernel, by decide +kernel⟩
theorem len__law_raised {m : Mem} : ∀ ds s Qd, ((spRaised24 (a 25)) : DSp m) ds s Qd → ds.length = 1 := spRaised24_len
theorem ok__law_raised {m : Mem} (T : Tx w K mg base a d e ed) : FnG P w K mg base CX0 8 (a 50) (d 50) ["_law_program"] (lift K m 1 (spRaised24 (a 25))) := by
  have G_reduced := ok_reduced (P := P) (w := w) (base := base) (m := m) T
  refine dfn T.f50 sc__law_raised rfl (fun cdv A outer s0 H E En hr => ⟨_, (dss_cons (ds_set 1 sc__law_raised.nd de_non)
      (dss_cons (ds_tryA [a 16] rfl rfl sc__law_raised.nd (i := 2) (by rfl) (by rfl) (⟨by rfl, by decide, .inl T.g16⟩) (List.forall_mem_cons.mpr ⟨T.em16_16, fun _ z => absurd z List.not_mem_nil⟩) (fun W pn xe tk hpa => (dss_one (ds_exprX tk G_reduced len_reduced (hr.mono (by decide)) (by rfl) T.g38 T.f38.kp T.b38 (da_cons (dv 0) da_nil)))) (fun a' oe cls' d' pn hz hf => (dss_one (ds_set 1 sc__law_raised.nd (de_cf (C := a 16) ⟨T.xc16.ga, T.xc16.gg, T.xc16.sb, T.xc16.hd⟩ T.nf16ring hz hf (dv 2))))))
      (dss_one (ds_ret (dv 1))))), fun ds s Qd h => ?_⟩)
  exact read_raised24 ds s Qd h
abbrev names__group_of : List Str := ["module", "reach", "other"]
theorem sc__group_of : FnScope names__group_of ["module", "reach"] (defScope s__group_of) := ⟨rfl, rfl, rfl, by decide +kernel, rfl, by decide +kernel, by decide +kernel⟩
theorem len__group_of {m : Mem} : ∀ ds s Qd, (spGroupOf : DSp m) ds s Qd → ds.length = 2 := spGroupOf_len
theorem ok__group_of {m : Mem} (T : Tx w K mg base a d e ed) : FnG P w K mg base CX0 1 (a 31) (d 31) ["module", "reach"] (lift K m 2 spGroupOf) := by
  refine dfn T.f31 sc__group_of rfl (fun cdv A outer s0 H E En hr => ⟨_, (dss_one (ds_ret (de_callTy call_tuple_of o_tuple (by rfl) T.z_tuple (by decide +kernel) (da_cons (de_grpC 0 1 2 (by decide) (by decide) (pe_lock (pe_lc (own := [("other", 2)]) (g := gName 2) (by rfl) sc__group_of.nd (pi_keys (pv 1)) (blkOk_by (N := names__group_of) (sc := defScope s__group_of) (by decide +kernel)) (fun _ _ _ _ _ => pg_name (i := 2) sc__group_of.nd rfl (Or.inl rfl)) (fun _ _ _ _ _ => pts_one (PW.pt (pw_or (pt_cmpR op_eq (pv 2) (pv 0) (nomark _)) (pw_or1 (PW.pt (pw_and (pt_cmp (pc_din (u1 hr) (pv 2) (pe_dget (u1 hr) (pv 1) (pv 0) (fun _ _ => rfl)))) (pw_and1 (pt_cmp (pc_din (u1 hr) (pv 0) (pe_dget (u1 hr) (pv 1) (pv 2) (fun _ _ => rfl))))))))))) (fun _ _ _ _ _ => pv 2)))) da_nil)))), fun ds s Qd h => ?_⟩)
  exact read_groupof17 ds s Qd h
abbrev names_groups : List Str := ["program", "nexts", "reach", "waiting", "module", "placed", "group", "ready", "other"]
theorem sc_groups : FnScope names_groups ["program"] (defScope s_groups) := ⟨rfl, rfl, rfl, by decide +kernel, rfl, by decide +kernel, by decide +kernel⟩
theorem len_groups {m : Mem} : ∀ ds s Qd, ((spGroups (a 25)) : DSp m) ds s Qd → ds.length = 1 := spGroups_len
theorem ok_groups {m : Mem} (T : Tx w K mg base a d e ed) : FnG P w K mg base CX0 5 (a 32) (d 32) ["program"] (lift K m 1 (spGroups (a 25))) := by
  have G_next_table := ok_next_table (P := P) (w := w) (base := base) (m := m) T
  have G_chains_from := ok_chains_from (P := P) (w := w) (base := base) (m := m) T
  have G__group_of := ok__group_of (P := P) (w := w) (base := base) (m := m) T
  have G_Program_modules := ok_Program_modules (P := P) (w := w) (base := base) (m := m) T
  refine dfn T.f32 sc_groups rfl (fun cdv A outer s0 H E En hr => ⟨_, (dss_cons (ds_set 1 sc_groups.nd (de_callD false G_next_table len_next_table (hr.mono (by decide)) (by rfl) T.g27 T.f27.kp T.bd27 (da_cons (dv 0) da_nil)))
      (dss_cons (ds_set 2 sc_groups.nd (de_dc (own := [("module", 4)]) sc_groups.nd (di_seq (de_prop T.cl25.cl T.p2252 G_Program_modules (hr.mono (by decide)) T.b2252 (dv 0))) (blkOk_by (N := names_groups) (sc := defScope s_groups) (by decide +kernel)) (fun _ _ _ _ _ => (dg_name 4 sc_groups.nd)) (fun _ _ _ _ _ => dts_nil) (fun _ _ _ _ _ => (dv 4)) (fun _ _ _ _ _ => (de_call G_chains_from len_chains_from (hr.mono (by decide)) (by rfl) T.g28 T.f28.kp T.b28 (da_cons (dv 1) (da_cons (dv 4) da_nil))))))
      (dss_cons (ds_setL 3 sc_groups.nd da_nil)
      (dss_cons (ds_for rfl (di_seq (de_prop T.cl25.cl T.p2252 G_Program_modules (hr.mono (by decide)) T.b2252 (dv 0))) (dg_name 4 sc_groups.nd)
        (dss_cons (ds_set 6 sc_groups.nd (de_call G__group_of len__group_of (hr.mono (by decide)) (by rfl) T.g31 T.f31.kp T.b31 (da_cons (dv 4) (da_cons (dv 2) da_nil))))
        (dss_one (ds_if (dt_cmp (op_eqD (u64 hr)) o_eq (de_ix ix_seq o_ix (dv 6) de_int) (dv 4))
          (dss_one (ds_app 3 (dv 6)))
          dss_nil))))
      (dss_cons (ds_setL 5 sc_groups.nd da_nil)
      (dss_cons (ds_while (dt_truth (dv 3))
        (dss_cons (ds_set 7 sc_groups.nd (de_lc (own := [("group", 6)]) sc_groups.nd (di_seq (dv 3)) (blkOk_by (N := names_groups) (sc := defScope s_groups) (by decide +kernel)) (fun _ _ _ _ _ => (dg_name 6 sc_groups.nd)) (fun _ _ _ _ _ => (dts_one (dt_not (dt_truth (de_callB (cr_any rfl) o_any (by rfl) T.z_any (by decide +kernel) (da_cons (de_lc (own := [("other", 8)]) sc_groups.nd (di_seq (dv 3)) (blkOk_by (N := names_groups) (by kernel_rfl)) (fun _ _ _ _ _ => (dg_name 8 sc_groups.nd)) (fun _ _ _ _ _ => dts_nil) (fun _ _ _ _ _ => (de_inD (u1 hr) (de_ix ix_seq o_ix (dv 6) de_int) (de_get (u1 hr) (dv 2) (de_ix ix_seq o_ix (dv 8) de_int))))) da_nil)))))) (fun _ _ _ _ _ => (dv 6))))
        (dss_cons (ds_app 5 (de_ix ix_seq o_ix (dv 7) de_int))
        (dss_one (ds_set 3 sc_groups.nd (de_lc (own := [("group", 6)]) sc_groups.nd (di_seq (dv 3)) (blkOk_by (N := names_groups) (sc := defScope s_groups) (by decide +kernel)) (fun _ _ _ _ _ => (dg_name 6 sc_groups.nd)) (fun _ _ _ _ _ => (dts_one (dt_cmp (op_neD (u64 hr)) o_ne (dv 6) (de_ix ix_seq o_ix (dv 7) de_int)))) (fun _ _ _ _ _ => (dv 6))))))))
      (dss_one (ds_ret (de_callTy call_tuple_of o_tuple (by rfl) T.z_tuple (by decide +kernel) (da_cons (dv 5) da_nil)))))))))), fun ds s Qd h => ?_⟩)
  exact read_groups17 (a := fun _ => a 25) ds s Qd h
abbrev names_is_chain : List Str := ["program", "value", "module", "use"]
theorem sc_is_chain : FnScope names_is_chain ["program", "value"] (defScope s_is_chain) := ⟨rfl, rfl, rfl, by decide +kernel, rfl, by decide +kernel, by decide +kernel⟩
theorem len_is_chain {m : Mem} : ∀ ds s Qd, ((spChain (a 25)) : DSp m) ds s Qd → ds.length = 2 := spChain_len
theorem ok_is_chain {m : Mem} (T : Tx w K mg base a d e ed) : FnG P w K mg base CX0 4 (a 30) (d 30) ["program", "value"] (lift K m 2 (spChain (a 25))) := by
  have G_Program_modules := ok_Program_modules (P := P) (w := w) (base := base) (m := m) T
  have G_Program_uses := ok_Program_uses (P := P) (w := w) (base := base) (m := m) T
  refine dfn T.f30 sc_is_chain rfl (fun cdv A outer s0 H E En hr => ⟨_, (dss_cons (ds_if (PW.pt (dw_or (dt_not (dt_truth (de_callB call_isi o_isi (by rfl) T.z_isinstance (by decide +kernel) (da_cons (dv 1) (da_cons (de_bltn (v := .ty "tuple") (by rfl) T.z_tuple (by decide +kernel) rfl) da_nil))))) (dw_or1 (dt_cmp op_ltA o_lt (de_callB (DL.CallR.or call_len call_lenD) o_len (by rfl) T.z_len (by decide +kernel) (da_cons (dv 1) da_nil)) de_int))))
        (dss_one (ds_ret de_bl))
        dss_nil)
      (dss_cons (ds_if (dt_not (dt_truth (de_callB (cr_all rfl) o_all (by rfl) T.z_all (by decide +kernel) (da_cons (de_lc (own := [("module", 2)]) sc_is_chain.nd (di_seq (dv 1)) (blkOk_by (N := names_is_chain) (sc := defScope s_is_chain) (by decide +kernel)) (fun _ _ _ _ _ => (dg_name 2 sc_is_chain.nd)) (fun _ _ _ _ _ => dts_nil) (fun _ _ _ _ _ => (de_cmp (op_inTx (u1 hr)) o_inTx (dv 2) (de_prop T.cl25.cl T.p2252 G_Program_modules (hr.mono (by decide)) T.b2252 (dv 0))))) da_nil))))
        (dss_one (ds_ret de_bl))
        dss_nil)
      (dss_one (ds_ret (de_and (de_cmp (op_eqD (u64 hr)) o_eq (de_lenSet (by rfl) (by rfl) T.z_len (by rfl) T.z_set (dv 1)) (de_callB (DL.CallR.or call_len call_lenD) o_len (by rfl) T.z_len (by decide +kernel) (da_cons (dv 1) da_nil))) (de_one (de_callB (cr_all rfl) o_all (by rfl) T.z_all (by decide +kernel) (da_cons (de_lc (own := [("use", 3)]) sc_is_chain.nd (di_zipN (by rfl) T.z_zip (da_cons (dv 1) (da_cons (de_slice sl_all o_sl (dv 1) (do_some de_int) do_none) da_nil))) (blkOk_by (N := names_is_chain) (sc := defScope s_is_chain) (by decide +kernel)) (fun _ _ _ _ _ => (dg_name 3 sc_is_chain.nd)) (fun _ _ _ _ _ => dts_nil) (fun _ _ _ _ _ => (de_cmp (op_inTP (u65 hr)) (o_inTP (neg := false)) (dv 3) (de_prop T.cl25.cl T.p2253 G_Program_uses (hr.mono (by decide)) T.b2253 (dv 0))))) da_nil)))))))), fun ds s Qd h => ?_⟩)
  exact read_chain11 (a := fun _ => a 25) ds s Qd h
abbrev names_ring_holds : List Str := ["program", "value"]
theorem sc_ring_holds : FnScope names_ring_holds ["program", "value"] (defScope s_ring_holds) := ⟨rfl, rfl, rfl, by decide +kernel, rfl, by decide +kernel, by decide +kernel⟩
theorem len_ring_holds {m : Mem} : ∀ ds s Qd, ((spRing (a 25)) : DSp m) ds s Qd → ds.length = 2 := spRing_len
theorem ok_ring_holds {m : Mem} (T : Tx w K mg base a d e ed) : FnG P w K mg base CX0 5 (a 34) (d 34) ["program", "value"] (lift K m 2 (spRing (a 25))) := by
  have G_is_chain := ok_is_chain (P := P) (w := w) (base := base) (m := m) T
  have G_Program_uses := ok_Program_uses (P := P) (w := w) (base := base) (m := m) T
  refine dfn T.f34 sc_ring_holds rfl (fun cdv A outer s0 H E En hr => ⟨_, (dss_one (ds_ret (de_and (de_call G_is_chain len_is_chain (hr.mono (by decide)) (by rfl) T.g30 T.f30.kp T.b30 (da_cons (dv 0) (da_cons (dv 1) da_nil))) (de_one (de_cmp (op_inTP (u65 hr)) (o_inTP (neg := false)) (de_tup (da_cons (de_ix ix_seq o_ix (dv 1) (de_un un_neg o_neg de_int)) (da_cons (de_ix ix_seq o_ix (dv 1) de_int) da_nil))) (de_prop T.cl25.cl T.p2253 G_Program_uses (hr.mono (by decide)) T.b2253 (dv 0))))))), fun ds s Qd h => ?_⟩)
  exact read_ring16 (a := fun _ => a 25) ds s Qd h
abbrev names__law_ring_right : List Str := ["_law_program", "_law_found", "_law_great", "_law_own", "_law_group", "_law_one"]
theorem sc__law_ring_right : FnScope names__law_ring_right ["_law_program", "_law_found"] (defScope s__law_ring_right) := ⟨rfl, rfl, rfl, by decide +kernel, rfl, by decide +kernel, by decide +kernel⟩
theorem len__law_ring_right {m : Mem} : ∀ ds s Qd, ((spRingR24 (a 25)) : DSp m) ds s Qd → ds.length = 2 := spRingR24_len
theorem ok__law_ring_right {m : Mem} (T : Tx w K mg base a d e ed) : FnG P w K mg base CX0 6 (a 51) (d 51) ["_law_program", "_law_found"] (lift K m 2 (spRingR24 (a 25))) := by
  have G_groups := ok_groups (P := P) (w := w) (base := base) (m := m) T
  have G_ring := ok_ring (P := P) (w := w) (base := base) (m := m) T
  have G_ring_holds := ok_ring_holds (P := P) (w := w) (base := base) (m := m) T
  refine dfn T.f51 sc__law_ring_right rfl (fun cdv A outer s0 H E En hr => ⟨_, (dss_cons (ds_setLc 2 (own := [("_law_group", 4)]) sc__law_ring_right.nd (di_seq (de_call G_groups len_groups (hr.mono (by decide)) (by rfl) T.g32 T.f32.kp T.b32 (da_cons (dv 0) da_nil))) (blkOk_by (N := names__law_ring_right) (sc := defScope s__law_ring_right) (by decide +kernel)) (fun _ _ _ _ _ => (dg_name 4 sc__law_ring_right.nd)) (fun _ _ _ _ _ => (dts_one (dt_cmp op_gtA o_gt (de_callB (DL.CallR.or call_len call_lenD) o_len (by rfl) T.z_len (by decide +kernel) (da_cons (dv 4) da_nil)) de_int))) (fun _ _ _ _ _ => (dv 4)))
      (dss_cons (ds_if (PW.pt (dw_or (dt_cmp (op_eqE (u1 hr)) o_eqE (dv 2) (de_lst da_nil)) (dw_or (dt_not (dt_truth (de_call G_ring_holds len_ring_holds (hr.mono (by decide)) (by rfl) T.g34 T.f34.kp T.b34 (da_cons (dv 0) (da_cons (dv 1) da_nil))))) (dw_or1 (dt_cmp (op_neD (u64 hr)) o_ne (de_call G_ring len_ring (hr.mono (by decide)) (by rfl) T.g33 T.f33.kp T.b33 (da_cons (dv 0) (da_cons (de_ix ix_seq o_ix (dv 1) de_int) da_nil))) (dv 1))))))
        (dss_one (ds_ret de_bl))
        dss_nil)
      (dss_cons (ds_set 3 sc__law_ring_right.nd (de_ix ix_seq o_ix (de_lc (own := [("_law_group", 4)]) sc__law_ring_right.nd (di_seq (dv 2)) (blkOk_by (N := names__law_ring_right) (sc := defScope s__law_ring_right) (by decide +kernel)) (fun _ _ _ _ _ => (dg_name 4 sc__law_ring_right.nd)) (fun _ _ _ _ _ => (dts_one (dt_cmp (op_inTP (u65 hr)) (o_inTP (neg := false)) (de_ix ix_seq o_ix (dv 1) de_int) (dv 4)))) (fun _ _ _ _ _ => (dv 4))) de_int))
      (dss_one (ds_ret (de_and (de_cmp (op_eqD (u64 hr)) o_eq (de_ix ix_seq o_ix (dv 1) de_int) (de_callB (cr_minD rfl T.sys (u65 hr)) o_minD (by rfl) T.z_min (by decide +kernel) (da_cons (de_lc (own := [("_law_group", 4)]) sc__law_ring_right.nd (di_seq (dv 2)) (blkOk_by (N := names__law_ring_right) (sc := defScope s__law_ring_right) (by decide +kernel)) (fun _ _ _ _ _ => (dg_name 4 sc__law_ring_right.nd)) (fun _ _ _ _ _ => dts_nil) (fun _ _ _ _ _ => (de_callB (cr_minT rfl T.sys (u65 hr)) o_minT (by rfl) T.z_min (by decide +kernel) (da_cons (dv 4) da_nil)))) da_nil))) (de_one (de_cmp (op_eqE (u1 hr)) o_eqE (de_lc (own := [("_law_one", 5)]) sc__law_ring_right.nd (di_seq (dv 1)) (blkOk_by (N := names__law_ring_right) (sc := defScope s__law_ring_right) (by decide +kernel)) (fun _ _ _ _ _ => (dg_name 5 sc__law_ring_right.nd)) (fun _ _ _ _ _ => (dts_one (dt_cmp (op_notInTP (u65 hr)) (o_inTP (neg := true)) (dv 5) (dv 3)))) (fun _ _ _ _ _ => (dv 5))) (de_lst da_nil))))))))), fun ds s Qd h => ?_⟩)
  exact read_ringr24 ds s Qd h
abbrev names__law_open : List Str := ["_law_program", "_law_order", "_law_group", "_law_use"]
theorem sc__law_open : FnScope names__law_open ["_law_program"] (defScope s__law_open) := ⟨rfl, rfl, rfl, by decide +kernel, rfl, by decide +kernel, by decide +kernel⟩
theorem len__law_open {m : Mem} : ∀ ds s Qd, ((spOpen24 (a 25)) : DSp m) ds s Qd → ds.length = 1 := spOpen24_len
theorem ok__law_open {m : Mem} (T : Tx w K mg base a d e ed) : FnG P w K mg base CX0 6 (a 52) (d 52) ["_law_program"] (lift K m 1 (spOpen24 (a 25))) := by
  have G_groups := ok_groups (P := P) (w := w) (base := base) (m := m) T
  have G_ring := ok_ring (P := P) (w := w) (base := base) (m := m) T
  have G_Program_uses := ok_Program_uses (P := P) (w := w) (base := base) (m := m) T
  refine dfn T.f52 sc__law_open rfl (fun cdv A outer s0 H E En hr => ⟨_, (dss_cons (ds_setL 1 sc__law_open.nd da_nil)
      (dss_cons (ds_for rfl (di_seq (de_call G_groups len_groups (hr.mono (by decide)) (by rfl) T.g32 T.f32.kp T.b32 (da_cons (dv 0) da_nil))) (dg_name 2 sc__law_open.nd)
        (dss_cons (ds_if (PW.pt (dw_or (dt_cmp (op_neD (u64 hr)) o_ne (de_callB (DL.CallR.or call_len call_lenD) o_len (by rfl) T.z_len (by decide +kernel) (da_cons (dv 2) da_nil)) de_int) (dw_or1 (dt_cmp op_notN o_notN (de_call G_ring len_ring (hr.mono (by decide)) (by rfl) T.g33 T.f33.kp T.b33 (da_cons (dv 0) (da_cons (de_ix ix_seq o_ix (dv 2) de_int) da_nil))) de_non))))
          (dss_one (ds_ret de_bl))
          dss_nil)
        (dss_one (ds_app 1 (de_ix ix_seq o_ix (dv 2) de_int)))))
      (dss_one (ds_ret (de_cmp (op_eqE (u1 hr)) o_eqE (de_lc (own := [("_law_use", 3)]) sc__law_open.nd (di_seq (de_prop T.cl25.cl T.p2253 G_Program_uses (hr.mono (by decide)) T.b2253 (dv 0))) (blkOk_by (N := names__law_open) (sc := defScope s__law_open) (by decide +kernel)) (fun _ _ _ _ _ => (dg_name 3 sc__law_open.nd)) (fun _ _ _ _ _ => (dts_one (dt_cmp op_gtA o_gt (de_indexO 1 (de_ix ix_seq o_ix (dv 3) de_int)) (de_indexO 1 (de_ix ix_seq o_ix (dv 3) de_int))))) (fun _ _ _ _ _ => (dv 3))) (de_lst da_nil)))))), fun ds s Qd h => ?_⟩)
  exact read_open24 ds s Qd h
abbrev names__is_pair_of_paths : List Str := ["value"]
theorem sc__is_pair_of_paths : FnScope names__is_pair_of_paths ["value"] (defScope s__is_pair_of_paths) := ⟨rfl, rfl, rfl, by decide +kernel, rfl, by decide +kernel, by decide +kernel⟩
theorem len__is_pair_of_paths {m : Mem} : ∀ ds s Qd, (spPairP : DSp m) ds s Qd → ds.length = 1 := spPairP_len
theorem ok__is_pair_of_paths {m : Mem} (T : Tx w K mg base a d e ed) : FnG P w K mg base CX0 3 (a 20) (d 20) ["value"] (lift K m 1 spPairP) := by
  have G_is_path := ok_is_path (P := P) (w := w) (base := base) (m := m) T
  refine dfn T.f20 sc__is_pair_of_paths rfl (fun cdv A outer s0 H E En hr => ⟨_, (dss_one (ds_ret (de_and (de_callB call_isi o_isi (by rfl) T.z_isinstance (by decide +kernel) (da_cons (dv 0) (da_cons (de_bltn (v := .ty "tuple") (by rfl) T.z_tuple (by decide +kernel) rfl) da_nil))) (de_and (de_cmp (op_eqD (u64 hr)) o_eq (de_callB (DL.CallR.or call_len call_lenD) o_len (by rfl) T.z_len (by decide +kernel) (da_cons (dv 0) da_nil)) de_int) (de_and (de_call G_is_path len_is_path (hr.mono (by decide)) (by rfl) T.g7 T.f7.kp T.b7 (da_cons (de_ix ix_seq o_ix (dv 0) de_int) da_nil)) (de_and (de_call G_is_path len_is_path (hr.mono (by decide)) (by rfl) T.g7 T.f7.kp T.b7 (da_cons (de_ix ix_seq o_ix (dv 0) de_int) da_nil)) (de_one (de_cmp (op_neD (u64 hr)) o_ne (de_ix ix_seq o_ix (dv 0) de_int) (de_ix ix_seq o_ix (dv 0) de_int))))))))), fun ds s Qd h => ?_⟩)
  exact read_pairp21 ds s Qd h
abbrev names_Program_of : List Str := ["cls", "uses", "modules", "index", "use", "module"]
theorem sc_Program_of : FnScope names_Program_of ["cls", "uses"] (defScope s_Program_of) := ⟨rfl, rfl, rfl, by decide +kernel, rfl, by decide +kernel, by decide +kernel⟩
theorem ok_Program_of {m : Mem} (T : Tx w K mg base a d e ed) : FnS P w K mg base 7 (a 2251) (liftS K m 1 (spOf (a 25))) := by
  have G__is_pair_of_paths := ok__is_pair_of_paths (P := P) (w := w) (base := base) (m := m) T
  have G_Program___init__ := ok_Program___init__ (P := P) (w := w) (base := base) (m := m) T
  refine dfnS (ps := ["cls"]) (pv := "uses") T.f2251 sc_Program_of rfl T.bs2251 (fun cdv A outer s0 H E En hr => ⟨_, (dss_cons (ds_for rfl (di_enumA (by rfl) T.z_enumerate (da_cons (dv 1) da_nil)) (dg_tup (n := 2) rfl (dgs_cons (dg_name 3 sc_Program_of.nd) (dgs_cons (dg_name 4 sc_Program_of.nd) dgs_nil)))
        (dss_one (ds_if (dt_not (dt_truth (de_call G__is_pair_of_paths len__is_pair_of_paths (hr.mono (by decide)) (by rfl) T.g20 T.f20.kp T.b20 (da_cons (dv 4) da_nil))))
          (dss_one ds_never)
          dss_nil)))
      (dss_cons (ds_set 2 sc_Program_of.nd (de_sortTwo (by rfl) T.z_sorted (own := [("use", 4), ("module", 5)]) (vs1 := [5]) sc_Program_of.nd (di_seq (dv 1)) (blkOk_by (N := names_Program_of) (sc := defScope s_Program_of) (by decide +kernel)) (fun _ _ _ _ _ => (dg_name 4 sc_Program_of.nd)) (fun _ _ _ _ _ => (di_seq (dv 4))) (fun _ _ _ _ _ => (dg_name 5 sc_Program_of.nd)) (fun _ _ _ _ _ => (dv 5))))
      (dss_one (ds_ret (de_makeN (dv 0) T.M25 G_Program___init__ len_Program___init__ (hr.mono (by decide)) T.b2250 (da_cons (de_callTy call_tuple_of o_tuple (by rfl) T.z_tuple (by decide +kernel) (da_cons (dv 2) da_nil)) (da_cons (dv 1) da_nil))))))), fun ds s Qd h => ?_⟩)
  exact read_of21 (a := fun _ => a 25) ds s Qd h
abbrev names_Program___sub__ : List Str := ["self", "other", "use"]
theorem sc_Program___sub__ : FnScope names_Program___sub__ ["self", "other"] (defScope s_Program___sub__) := ⟨rfl, rfl, rfl, by decide +kernel, rfl, by decide +kernel, by decide +kernel⟩
theorem ok_Program___sub__ {m : Mem} (T : Tx w K mg base a d e ed) : FnG P w K mg base CX0 7 (a 2262) (d 2262) ["self", "other"] (lift K m 2 (spSub (a 25))) := by
  have G_Program___init__ := ok_Program___init__ (P := P) (w := w) (base := base) (m := m) T
  have G_Program_uses := ok_Program_uses (P := P) (w := w) (base := base) (m := m) T
  refine dfn T.f2262 sc_Program___sub__ rfl (fun cdv A outer s0 H E En hr => ⟨_, (dss_one (ds_ret (de_make T.M25 G_Program___init__ len_Program___init__ (hr.mono (by decide)) (by rfl) T.g25 T.b2250 (da_cons (de_fld T.cl25.cl T.na25_modules (dv 0)) (da_cons (de_callTy call_tuple_of o_tuple (by rfl) T.z_tuple (by decide +kernel) (da_cons (de_lc (own := [("use", 2)]) sc_Program___sub__.nd (di_seq (de_fld T.cl25.cl T.na25_uses (dv 0))) (blkOk_by (N := names_Program___sub__) (sc := defScope s_Program___sub__) (by decide +kernel)) (fun _ _ _ _ _ => (dg_name 2 sc_Program___sub__.nd)) (fun _ _ _ _ _ => (dts_one (dt_cmp (op_notInTP (u65 hr)) (o_inTP (neg := true)) (dv 2) (de_prop T.cl25.cl T.p2253 G_Program_uses (hr.mono (by decide)) T.b2253 (dv 1))))) (fun _ _ _ _ _ => (dv 2))) da_nil)) da_nil))))), fun ds s Qd h => ?_⟩)
  exact read_sub08 (a := fun _ => a 25) ds s Qd h
abbrev names_law : List Str := ["_law_script", "_law_deck_here", "_law_turn", "_law_one", "_law_found", "_law_use", "_law_modules_here", "_law_uses_here"]
theorem sc_law : FnScope names_law ["_law_script"] (defScope s_law) := ⟨rfl, rfl, rfl, by decide +kernel, rfl, by decide +kernel, by decide +kernel⟩
theorem ok_law (T : Tx w K mg base a d e ed) : FnG P w K mg base CX0 10 (a 53) (d 53) ["_law_script"] (lift K Mem.deck 1 spLaw) := by
  have G__law_deck := ok__law_deck (P := P) (w := w) (base := base) T
  have G__law_data := ok__law_data (P := P) (w := w) (base := base) T
  have G__law_raised := ok__law_raised (P := P) (w := w) (base := base) (m := Mem.deck) T
  have G__law_ring_right := ok__law_ring_right (P := P) (w := w) (base := base) (m := Mem.deck) T
  have G__law_open := ok__law_open (P := P) (w := w) (base := base) (m := Mem.deck) T
  have G_Program___init__ := ok_Program___init__ (P := P) (w := w) (base := base) (m := Mem.deck) T
  have G_Program_of := ok_Program_of (P := P) (w := w) (base := base) (m := Mem.deck) T
  have G_Program___sub__ := ok_Program___sub__ (P := P) (w := w) (base := base) (m := Mem.deck) T
  refine dfn T.f53 sc_law rfl (fun cdv A outer s0 H E En hr => ⟨_, (dss_cons (ds_set 1 sc_law.nd (de_call G__law_deck len__law_deck (hr.mono (by decide)) (by rfl) T.g40 T.f40.kp T.b40 (da_cons (dv 0) da_nil)))
      (dss_cons (ds_for rfl (di_range1 (by rfl) T.z_range (da_cons de_int da_nil)) (dg_name 2 sc_law.nd)
        (dss_cons (ds_asg (de_call G__law_data len__law_data (hr.mono (by decide)) (by rfl) T.g49 T.f49.kp T.b49 (da_cons (dv 1) (da_cons de_int (da_cons de_int da_nil)))) (dg_tup (n := 2) rfl (dgs_cons (dg_name 6 sc_law.nd) (dgs_cons (dg_name 7 sc_law.nd) dgs_nil))))
        (dss_cons (ds_set 3 sc_law.nd (de_make T.M25 G_Program___init__ len_Program___init__ (hr.mono (by decide)) (by rfl) T.g25 T.b2250 (da_cons (de_callTy call_tuple_of o_tuple (by rfl) T.z_tuple (by decide +kernel) (da_cons (dv 6) da_nil)) (da_cons (de_callTy call_tuple_of o_tuple (by rfl) T.z_tuple (by decide +kernel) (da_cons (dv 7) da_nil)) da_nil))))
        (dss_cons (ds_set 4 sc_law.nd (de_call G__law_raised len__law_raised (hr.mono (by decide)) (by rfl) T.g50 T.f50.kp T.b50 (da_cons (dv 3) da_nil)))
        (dss_cons (ds_for rfl (di_seq (dv 7)) (dg_name 5 sc_law.nd)
          (dss_one (ds_if (dt_cmp op_notN o_notN (dv 4) de_non)
            (dss_cons (ds_if (dt_not (dt_truth (de_call G__law_ring_right len__law_ring_right (hr.mono (by decide)) (by rfl) T.g51 T.f51.kp T.b51 (da_cons (dv 3) (da_cons (dv 4) da_nil)))))
              (dss_one (ds_ret de_bl))
              dss_nil)
            (dss_cons (ds_set 3 sc_law.nd (de_own G_Program___sub__ (hr.mono (by decide)) T.b2262 T.ow25.sf T.m2262 T.n2262 (dv 3) (de_cmeth T.cr2251 T.cm2251 G_Program_of (hr.mono (by decide)) (de_glob (d := .any (.ref (a 25))) (v := .ref (a 25)) (by rfl) T.g25 rfl (fun _ => rfl)) (da_cons (de_tup (da_cons (de_ix ix_seq o_ix (dv 4) (de_un un_neg o_neg de_int)) (da_cons (de_ix ix_seq o_ix (dv 4) de_int) da_nil))) da_nil))))
            (dss_one (ds_set 4 sc_law.nd (de_call G__law_raised len__law_raised (hr.mono (by decide)) (by rfl) T.g50 T.f50.kp T.b50 (da_cons (dv 3) da_nil))))))
            dss_nil)))
        (dss_one (ds_if (PW.pt (dw_or (dt_cmp op_notN o_notN (dv 4) de_non) (dw_or1 (dt_not (dt_truth (de_call G__law_open len__law_open (hr.mono (by decide)) (by rfl) T.g52 T.f52.kp T.b52 (da_cons (dv 3) da_nil)))))))
          (dss_one (ds_ret de_bl))
          dss_nil)))))))
      (dss_one (ds_ret de_bl)))), fun ds s Qd h => ?_⟩)
  exact read_law24 ds s Qd h
end
theorem all_mk {l : PySem.W.OpenLaw} {w : World} {K : PySem.W.Frag} {h : Heap} {mg : Str → Option Value} {fa : Addr} (X : K.In h) (G : h.Ns mainGlobals mg) (hfa : mg "law" = some (.ref fa))
    {f40 : Addr} {od40 an40 : Option Addr} {sl40 : Array (Option Value)} {oc40 kV40 dc40 pm40 cd40 ct40 : Value}
    (a40 : PySem.W.nsIn K mainGlobals "_law_deck" = some (some (.ref f40))) (l40 : K.lookup f40 = some ⟨oc40, od40, .func (PySem.W.fnOf "_law_deck" "_law_deck" (defArgs s__law_deck) (defBody s__law_deck) (defScope s__law_deck) .none kV40 dc40 pm40 an40 cd40 ct40), sl40⟩) (c40 : PySem.W.codeIn K cd40 "_law_deck" = true) (k40 : PySem.W.keepIn K (.ref f40) = true)
    {f41 : Addr} {od41 an41 : Option Addr} {sl41 : Array (Option Value)} {oc41 kV41 dc41 pm41 cd41 ct41 : Value}
    (a41 : PySem.W.nsIn K mainGlobals "_law_next" = some (some (.ref f41))) (l41 : K.lookup f41 = some ⟨oc41, od41, .func (PySem.W.fnOf "_law_next" "_law_next" (defArgs s__law_next) (defBody s__law_next) (defScope s__law_next) .none kV41 dc41 pm41 an41 cd41 ct41), sl41⟩) (c41 : PySem.W.codeIn K cd41 "_law_next" = true) (k41 : PySem.W.keepIn K (.ref f41) = true)
    {f42 : Addr} {od42 an42 : Option Addr} {sl42 : Array (Option Value)} {oc42 kV42 dc42 pm42 cd42 ct42 : Value}
    (a42 : PySem.W.nsIn K mainGlobals "_law_name" = some (some (.ref f42))) (l42 : K.lookup f42 = some ⟨oc42, od42, .func (PySem.W.fnOf "_law_name" "_law_name" (defArgs s__law_name) (defBody s__law_name) (defScope s__law_name) .none kV42 dc42 pm42 an42 cd42 ct42), sl42⟩) (c42 : PySem.W.codeIn K cd42 "_law_name" = true) (k42 : PySem.W.keepIn K (.ref f42) = true)
    {f43 : Addr} {od43 an43 : Option Addr} {sl43 : Array (Option Value)} {oc43 kV43 dc43 pm43 cd43 ct43 : Value}
    (a43 : PySem.W.nsIn K mainGlobals "_law_pool" = some (some (.ref f43))) (l43 : K.lookup f43 = some ⟨oc43, od43, .func (PySem.W.fnOf "_law_pool" "_law_pool" (defArgs s__law_pool) (defBody s__law_pool) (defScope s__law_pool) .none kV43 dc43 pm43 an43 cd43 ct43), sl43⟩) (c43 : PySem.W.codeIn K cd43 "_law_pool" = true) (k43 : PySem.W.keepIn K (.ref f43) = true)
    {f44 : Addr} {od44 an44 : Option Addr} {sl44 : Array (Option Value)} {oc44 kV44 dc44 pm44 cd44 ct44 : Value}
    (a44 : PySem.W.nsIn K mainGlobals "_law_path" = some (some (.ref f44))) (l44 : K.lookup f44 = some ⟨oc44, od44, .func (PySem.W.fnOf "_law_path" "_law_path" (defArgs s__law_path) (defBody s__law_path) (defScope s__law_path) .none kV44 dc44 pm44 an44 cd44 ct44), sl44⟩) (c44 : PySem.W.codeIn K cd44 "_law_path" = true) (k44 : PySem.W.keepIn K (.ref f44) = true)
    {f45 : Addr} {od45 an45 : Option Addr} {sl45 : Array (Option Value)} {oc45 kV45 dc45 pm45 cd45 ct45 : Value}
    (a45 : PySem.W.nsIn K mainGlobals "_law_covers" = some (some (.ref f45))) (l45 : K.lookup f45 = some ⟨oc45, od45, .func (PySem.W.fnOf "_law_covers" "_law_covers" (defArgs s__law_covers) (defBody s__law_covers) (defScope s__law_covers) .none kV45 dc45 pm45 an45 cd45 ct45), sl45⟩) (c45 : PySem.W.codeIn K cd45 "_law_covers" = true) (k45 : PySem.W.keepIn K (.ref f45) = true)
    {f46 : Addr} {od46 an46 : Option Addr} {sl46 : Array (Option Value)} {oc46 kV46 dc46 pm46 cd46 ct46 : Value}
    (a46 : PySem.W.nsIn K mainGlobals "_law_overlap" = some (some (.ref f46))) (l46 : K.lookup f46 = some ⟨oc46, od46, .func (PySem.W.fnOf "_law_overlap" "_law_overlap" (defArgs s__law_overlap) (defBody s__law_overlap) (defScope s__law_overlap) .none kV46 dc46 pm46 an46 cd46 ct46), sl46⟩) (c46 : PySem.W.codeIn K cd46 "_law_overlap" = true) (k46 : PySem.W.keepIn K (.ref f46) = true)
    {f47 : Addr} {od47 an47 : Option Addr} {sl47 : Array (Option Value)} {oc47 kV47 dc47 pm47 cd47 ct47 : Value}
    (a47 : PySem.W.nsIn K mainGlobals "_law_modules" = some (some (.ref f47))) (l47 : K.lookup f47 = some ⟨oc47, od47, .func (PySem.W.fnOf "_law_modules" "_law_modules" (defArgs s__law_modules) (defBody s__law_modules) (defScope s__law_modules) .none kV47 dc47 pm47 an47 cd47 ct47), sl47⟩) (c47 : PySem.W.codeIn K cd47 "_law_modules" = true) (k47 : PySem.W.keepIn K (.ref f47) = true)
    {f48 : Addr} {od48 an48 : Option Addr} {sl48 : Array (Option Value)} {oc48 kV48 dc48 pm48 cd48 ct48 : Value}
    (a48 : PySem.W.nsIn K mainGlobals "_law_uses" = some (some (.ref f48))) (l48 : K.lookup f48 = some ⟨oc48, od48, .func (PySem.W.fnOf "_law_uses" "_law_uses" (defArgs s__law_uses) (defBody s__law_uses) (defScope s__law_uses) .none kV48 dc48 pm48 an48 cd48 ct48), sl48⟩) (c48 : PySem.W.codeIn K cd48 "_law_uses" = true) (k48 : PySem.W.keepIn K (.ref f48) = true)
    {f49 : Addr} {od49 an49 : Option Addr} {sl49 : Array (Option Value)} {oc49 kV49 dc49 pm49 cd49 ct49 : Value}
    (a49 : PySem.W.nsIn K mainGlobals "_law_data" = some (some (.ref f49))) (l49 : K.lookup f49 = some ⟨oc49, od49, .func (PySem.W.fnOf "_law_data" "_law_data" (defArgs s__law_data) (defBody s__law_data) (defScope s__law_data) .none kV49 dc49 pm49 an49 cd49 ct49), sl49⟩) (c49 : PySem.W.codeIn K cd49 "_law_data" = true) (k49 : PySem.W.keepIn K (.ref f49) = true)
    {f2252 : Addr} {od2252 an2252 : Option Addr} {sl2252 : Array (Option Value)} {oc2252 kV2252 dc2252 pm2252 cd2252 ct2252 : Value}
    (l2252 : K.lookup f2252 = some ⟨oc2252, od2252, .func (PySem.W.fnOf "modules" "Program.modules" (defArgs s_Program_modules) (defBody s_Program_modules) (defScope s_Program_modules) .none kV2252 dc2252 pm2252 an2252 cd2252 ct2252), sl2252⟩) (c2252 : PySem.W.codeIn K cd2252 "Program.modules" = true) (k2252 : PySem.W.keepIn K (.ref f2252) = true)
    {f2253 : Addr} {od2253 an2253 : Option Addr} {sl2253 : Array (Option Value)} {oc2253 kV2253 dc2253 pm2253 cd2253 ct2253 : Value}
    (l2253 : K.lookup f2253 = some ⟨oc2253, od2253, .func (PySem.W.fnOf "uses" "Program.uses" (defArgs s_Program_uses) (defBody s_Program_uses) (defScope s_Program_uses) .none kV2253 dc2253 pm2253 an2253 cd2253 ct2253), sl2253⟩) (c2253 : PySem.W.codeIn K cd2253 "Program.uses" = true) (k2253 : PySem.W.keepIn K (.ref f2253) = true)
    {f27 : Addr} {od27 an27 : Option Addr} {sl27 : Array (Option Value)} {oc27 kV27 dc27 pm27 cd27 ct27 : Value}
    {T27 : Addr} {odt27 : Option Addr} {nnt27 : Nat} {slt27 : Array (Option Value)} (ldt27 : K.lookup T27 = some ⟨.type "tuple", odt27, .seq #[.bool false] nnt27, slt27⟩)
    (a27 : PySem.W.nsIn K mainGlobals "next_table" = some (some (.ref f27))) (l27 : K.lookup f27 = some ⟨oc27, od27, .func (PySem.W.fnOf "next_table" "next_table" (defArgs s_next_table) (defBody s_next_table) (defScope s_next_table) (.ref T27) kV27 dc27 pm27 an27 cd27 ct27), sl27⟩) (c27 : PySem.W.codeIn K cd27 "next_table" = true) (k27 : PySem.W.keepIn K (.ref f27) = true)
    {f28 : Addr} {od28 an28 : Option Addr} {sl28 : Array (Option Value)} {oc28 kV28 dc28 pm28 cd28 ct28 : Value}
    (a28 : PySem.W.nsIn K mainGlobals "chains_from" = some (some (.ref f28))) (l28 : K.lookup f28 = some ⟨oc28, od28, .func (PySem.W.fnOf "chains_from" "chains_from" (defArgs s_chains_from) (defBody s_chains_from) (defScope s_chains_from) .none kV28 dc28 pm28 an28 cd28 ct28), sl28⟩) (c28 : PySem.W.codeIn K cd28 "chains_from" = true) (k28 : PySem.W.keepIn K (.ref f28) = true)
    {f29 : Addr} {od29 an29 : Option Addr} {sl29 : Array (Option Value)} {oc29 kV29 dc29 pm29 cd29 ct29 : Value}
    (a29 : PySem.W.nsIn K mainGlobals "ring_from" = some (some (.ref f29))) (l29 : K.lookup f29 = some ⟨oc29, od29, .func (PySem.W.fnOf "ring_from" "ring_from" (defArgs s_ring_from) (defBody s_ring_from) (defScope s_ring_from) .none kV29 dc29 pm29 an29 cd29 ct29), sl29⟩) (c29 : PySem.W.codeIn K cd29 "ring_from" = true) (k29 : PySem.W.keepIn K (.ref f29) = true)
    {f33 : Addr} {od33 an33 : Option Addr} {sl33 : Array (Option Value)} {oc33 kV33 dc33 pm33 cd33 ct33 : Value}
    (a33 : PySem.W.nsIn K mainGlobals "ring" = some (some (.ref f33))) (l33 : K.lookup f33 = some ⟨oc33, od33, .func (PySem.W.fnOf "ring" "ring" (defArgs s_ring) (defBody s_ring) (defScope s_ring) .none kV33 dc33 pm33 an33 cd33 ct33), sl33⟩) (c33 : PySem.W.codeIn K cd33 "ring" = true) (k33 : PySem.W.keepIn K (.ref f33) = true)
    {f36 : Addr} {od36 an36 : Option Addr} {sl36 : Array (Option Value)} {oc36 kV36 dc36 pm36 cd36 ct36 : Value}
    (a36 : PySem.W.nsIn K mainGlobals "_is_spare" = some (some (.ref f36))) (l36 : K.lookup f36 = some ⟨oc36, od36, .func (PySem.W.fnOf "_is_spare" "_is_spare" (defArgs s__is_spare) (defBody s__is_spare) (defScope s__is_spare) .none kV36 dc36 pm36 an36 cd36 ct36), sl36⟩) (c36 : PySem.W.codeIn K cd36 "_is_spare" = true) (k36 : PySem.W.keepIn K (.ref f36) = true)
    {f37 : Addr} {od37 an37 : Option Addr} {sl37 : Array (Option Value)} {oc37 kV37 dc37 pm37 cd37 ct37 : Value}
    (a37 : PySem.W.nsIn K mainGlobals "spare_uses" = some (some (.ref f37))) (l37 : K.lookup f37 = some ⟨oc37, od37, .func (PySem.W.fnOf "spare_uses" "spare_uses" (defArgs s_spare_uses) (defBody s_spare_uses) (defScope s_spare_uses) .none kV37 dc37 pm37 an37 cd37 ct37), sl37⟩) (c37 : PySem.W.codeIn K cd37 "spare_uses" = true) (k37 : PySem.W.keepIn K (.ref f37) = true)
    {f6 : Addr} {od6 an6 : Option Addr} {sl6 : Array (Option Value)} {oc6 kV6 dc6 pm6 cd6 ct6 : Value}
    (a6 : PySem.W.nsIn K mainGlobals "_is_name" = some (some (.ref f6))) (l6 : K.lookup f6 = some ⟨oc6, od6, .func (PySem.W.fnOf "_is_name" "_is_name" (defArgs s__is_name) (defBody s__is_name) (defScope s__is_name) .none kV6 dc6 pm6 an6 cd6 ct6), sl6⟩) (c6 : PySem.W.codeIn K cd6 "_is_name" = true) (k6 : PySem.W.keepIn K (.ref f6) = true)
    {f7 : Addr} {od7 an7 : Option Addr} {sl7 : Array (Option Value)} {oc7 kV7 dc7 pm7 cd7 ct7 : Value}
    (a7 : PySem.W.nsIn K mainGlobals "is_path" = some (some (.ref f7))) (l7 : K.lookup f7 = some ⟨oc7, od7, .func (PySem.W.fnOf "is_path" "is_path" (defArgs s_is_path) (defBody s_is_path) (defScope s_is_path) .none kV7 dc7 pm7 an7 cd7 ct7), sl7⟩) (c7 : PySem.W.codeIn K cd7 "is_path" = true) (k7 : PySem.W.keepIn K (.ref f7) = true)
    {f8 : Addr} {od8 an8 : Option Addr} {sl8 : Array (Option Value)} {oc8 kV8 dc8 pm8 cd8 ct8 : Value}
    (a8 : PySem.W.nsIn K mainGlobals "covers" = some (some (.ref f8))) (l8 : K.lookup f8 = some ⟨oc8, od8, .func (PySem.W.fnOf "covers" "covers" (defArgs s_covers) (defBody s_covers) (defScope s_covers) .none kV8 dc8 pm8 an8 cd8 ct8), sl8⟩) (c8 : PySem.W.codeIn K cd8 "covers" = true) (k8 : PySem.W.keepIn K (.ref f8) = true)
    {f9 : Addr} {od9 an9 : Option Addr} {sl9 : Array (Option Value)} {oc9 kV9 dc9 pm9 cd9 ct9 : Value}
    (a9 : PySem.W.nsIn K mainGlobals "overlap" = some (some (.ref f9))) (l9 : K.lookup f9 = some ⟨oc9, od9, .func (PySem.W.fnOf "overlap" "overlap" (defArgs s_overlap) (defBody s_overlap) (defScope s_overlap) .none kV9 dc9 pm9 an9 cd9 ct9), sl9⟩) (c9 : PySem.W.codeIn K cd9 "overlap" = true) (k9 : PySem.W.keepIn K (.ref f9) = true)
    {f21 : Addr} {od21 an21 : Option Addr} {sl21 : Array (Option Value)} {oc21 kV21 dc21 pm21 cd21 ct21 : Value}
    (a21 : PySem.W.nsIn K mainGlobals "_modules_error" = some (some (.ref f21))) (l21 : K.lookup f21 = some ⟨oc21, od21, .func (PySem.W.fnOf "_modules_error" "_modules_error" (defArgs s__modules_error) (defBody s__modules_error) (defScope s__modules_error) .none kV21 dc21 pm21 an21 cd21 ct21), sl21⟩) (c21 : PySem.W.codeIn K cd21 "_modules_error" = true) (k21 : PySem.W.keepIn K (.ref f21) = true)
    {f19 : Addr} {od19 an19 : Option Addr} {sl19 : Array (Option Value)} {oc19 kV19 dc19 pm19 cd19 ct19 : Value}
    (a19 : PySem.W.nsIn K mainGlobals "_is_pair_of" = some (some (.ref f19))) (l19 : K.lookup f19 = some ⟨oc19, od19, .func (PySem.W.fnOf "_is_pair_of" "_is_pair_of" (defArgs s__is_pair_of) (defBody s__is_pair_of) (defScope s__is_pair_of) .none kV19 dc19 pm19 an19 cd19 ct19), sl19⟩) (c19 : PySem.W.codeIn K cd19 "_is_pair_of" = true) (k19 : PySem.W.keepIn K (.ref f19) = true)
    {f22 : Addr} {od22 an22 : Option Addr} {sl22 : Array (Option Value)} {oc22 kV22 dc22 pm22 cd22 ct22 : Value}
    (a22 : PySem.W.nsIn K mainGlobals "_uses_error" = some (some (.ref f22))) (l22 : K.lookup f22 = some ⟨oc22, od22, .func (PySem.W.fnOf "_uses_error" "_uses_error" (defArgs s__uses_error) (defBody s__uses_error) (defScope s__uses_error) .none kV22 dc22 pm22 an22 cd22 ct22), sl22⟩) (c22 : PySem.W.codeIn K cd22 "_uses_error" = true) (k22 : PySem.W.keepIn K (.ref f22) = true)
    {f23 : Addr} {od23 an23 : Option Addr} {sl23 : Array (Option Value)} {oc23 kV23 dc23 pm23 cd23 ct23 : Value}
    (a23 : PySem.W.nsIn K mainGlobals "program_error" = some (some (.ref f23))) (l23 : K.lookup f23 = some ⟨oc23, od23, .func (PySem.W.fnOf "program_error" "program_error" (defArgs s_program_error) (defBody s_program_error) (defScope s_program_error) .none kV23 dc23 pm23 an23 cd23 ct23), sl23⟩) (c23 : PySem.W.codeIn K cd23 "program_error" = true) (k23 : PySem.W.keepIn K (.ref f23) = true)
    {f10 : Addr} {od10 an10 : Option Addr} {sl10 : Array (Option Value)} {oc10 kV10 dc10 pm10 cd10 ct10 : Value}
    (a10 : PySem.W.nsIn K mainGlobals "parent" = some (some (.ref f10))) (l10 : K.lookup f10 = some ⟨oc10, od10, .func (PySem.W.fnOf "parent" "parent" (defArgs s_parent) (defBody s_parent) (defScope s_parent) .none kV10 dc10 pm10 an10 cd10 ct10), sl10⟩) (c10 : PySem.W.codeIn K cd10 "parent" = true) (k10 : PySem.W.keepIn K (.ref f10) = true)
    {f24 : Addr} {od24 an24 : Option Addr} {sl24 : Array (Option Value)} {oc24 kV24 dc24 pm24 cd24 ct24 : Value}
    (a24 : PySem.W.nsIn K mainGlobals "_parts" = some (some (.ref f24))) (l24 : K.lookup f24 = some ⟨oc24, od24, .func (PySem.W.fnOf "_parts" "_parts" (defArgs s__parts) (defBody s__parts) (defScope s__parts) .none kV24 dc24 pm24 an24 cd24 ct24), sl24⟩) (c24 : PySem.W.codeIn K cd24 "_parts" = true) (k24 : PySem.W.keepIn K (.ref f24) = true)
    {f2250 : Addr} {od2250 an2250 : Option Addr} {sl2250 : Array (Option Value)} {oc2250 kV2250 dc2250 pm2250 cd2250 ct2250 : Value}
    (l2250 : K.lookup f2250 = some ⟨oc2250, od2250, .func (PySem.W.fnOf "__init__" "Program.__init__" (defArgs s_Program___init__) (defBody s_Program___init__) (defScope s_Program___init__) .none kV2250 dc2250 pm2250 an2250 cd2250 ct2250), sl2250⟩) (c2250 : PySem.W.codeIn K cd2250 "Program.__init__" = true) (k2250 : PySem.W.keepIn K (.ref f2250) = true)
    {f38 : Addr} {od38 an38 : Option Addr} {sl38 : Array (Option Value)} {oc38 kV38 dc38 pm38 cd38 ct38 : Value}
    (a38 : PySem.W.nsIn K mainGlobals "reduced" = some (some (.ref f38))) (l38 : K.lookup f38 = some ⟨oc38, od38, .func (PySem.W.fnOf "reduced" "reduced" (defArgs s_reduced) (defBody s_reduced) (defScope s_reduced) .none kV38 dc38 pm38 an38 cd38 ct38), sl38⟩) (c38 : PySem.W.codeIn K cd38 "reduced" = true) (k38 : PySem.W.keepIn K (.ref f38) = true)
    {f50 : Addr} {od50 an50 : Option Addr} {sl50 : Array (Option Value)} {oc50 kV50 dc50 pm50 cd50 ct50 : Value}
    (a50 : PySem.W.nsIn K mainGlobals "_law_raised" = some (some (.ref f50))) (l50 : K.lookup f50 = some ⟨oc50, od50, .func (PySem.W.fnOf "_law_raised" "_law_raised" (defArgs s__law_raised) (defBody s__law_raised) (defScope s__law_raised) .none kV50 dc50 pm50 an50 cd50 ct50), sl50⟩) (c50 : PySem.W.codeIn K cd50 "_law_raised" = true) (k50 : PySem.W.keepIn K (.ref f50) = true)
    {f31 : Addr} {od31 an31 : Option Addr} {sl31 : Array (Option Value)} {oc31 kV31 dc31 pm31 cd31 ct31 : Value}
    (a31 : PySem.W.nsIn K mainGlobals "_group_of" = some (some (.ref f31))) (l31 : K.lookup f31 = some ⟨oc31, od31, .func (PySem.W.fnOf "_group_of" "_group_of" (defArgs s__group_of) (defBody s__group_of) (defScope s__group_of) .none kV31 dc31 pm31 an31 cd31 ct31), sl31⟩) (c31 : PySem.W.codeIn K cd31 "_group_of" = true) (k31 : PySem.W.keepIn K (.ref f31) = true)
    {f32 : Addr} {od32 an32 : Option Addr} {sl32 : Array (Option Value)} {oc32 kV32 dc32 pm32 cd32 ct32 : Value}
    (a32 : PySem.W.nsIn K mainGlobals "groups" = some (some (.ref f32))) (l32 : K.lookup f32 = some ⟨oc32, od32, .func (PySem.W.fnOf "groups" "groups" (defArgs s_groups) (defBody s_groups) (defScope s_groups) .none kV32 dc32 pm32 an32 cd32 ct32), sl32⟩) (c32 : PySem.W.codeIn K cd32 "groups" = true) (k32 : PySem.W.keepIn K (.ref f32) = true)
    {f30 : Addr} {od30 an30 : Option Addr} {sl30 : Array (Option Value)} {oc30 kV30 dc30 pm30 cd30 ct30 : Value}
    (a30 : PySem.W.nsIn K mainGlobals "is_chain" = some (some (.ref f30))) (l30 : K.lookup f30 = some ⟨oc30, od30, .func (PySem.W.fnOf "is_chain" "is_chain" (defArgs s_is_chain) (defBody s_is_chain) (defScope s_is_chain) .none kV30 dc30 pm30 an30 cd30 ct30), sl30⟩) (c30 : PySem.W.codeIn K cd30 "is_chain" = true) (k30 : PySem.W.keepIn K (.ref f30) = true)
    {f34 : Addr} {od34 an34 : Option Addr} {sl34 : Array (Option Value)} {oc34 kV34 dc34 pm34 cd34 ct34 : Value}
    (a34 : PySem.W.nsIn K mainGlobals "ring_holds" = some (some (.ref f34))) (l34 : K.lookup f34 = some ⟨oc34, od34, .func (PySem.W.fnOf "ring_holds" "ring_holds" (defArgs s_ring_holds) (defBody s_ring_holds) (defScope s_ring_holds) .none kV34 dc34 pm34 an34 cd34 ct34), sl34⟩) (c34 : PySem.W.codeIn K cd34 "ring_holds" = true) (k34 : PySem.W.keepIn K (.ref f34) = true)
    {f51 : Addr} {od51 an51 : Option Addr} {sl51 : Array (Option Value)} {oc51 kV51 dc51 pm51 cd51 ct51 : Value}
    (a51 : PySem.W.nsIn K mainGlobals "_law_ring_right" = some (some (.ref f51))) (l51 : K.lookup f51 = some ⟨oc51, od51, .func (PySem.W.fnOf "_law_ring_right" "_law_ring_right" (defArgs s__law_ring_right) (defBody s__law_ring_right) (defScope s__law_ring_right) .none kV51 dc51 pm51 an51 cd51 ct51), sl51⟩) (c51 : PySem.W.codeIn K cd51 "_law_ring_right" = true) (k51 : PySem.W.keepIn K (.ref f51) = true)
    {f52 : Addr} {od52 an52 : Option Addr} {sl52 : Array (Option Value)} {oc52 kV52 dc52 pm52 cd52 ct52 : Value}
    (a52 : PySem.W.nsIn K mainGlobals "_law_open" = some (some (.ref f52))) (l52 : K.lookup f52 = some ⟨oc52, od52, .func (PySem.W.fnOf "_law_open" "_law_open" (defArgs s__law_open) (defBody s__law_open) (defScope s__law_open) .none kV52 dc52 pm52 an52 cd52 ct52), sl52⟩) (c52 : PySem.W.codeIn K cd52 "_law_open" = true) (k52 : PySem.W.keepIn K (.ref f52) = true)
    {f20 : Addr} {od20 an20 : Option Addr} {sl20 : Array (Option Value)} {oc20 kV20 dc20 pm20 cd20 ct20 : Value}
    (a20 : PySem.W.nsIn K mainGlobals "_is_pair_of_paths" = some (some (.ref f20))) (l20 : K.lookup f20 = some ⟨oc20, od20, .func (PySem.W.fnOf "_is_pair_of_paths" "_is_pair_of_paths" (defArgs s__is_pair_of_paths) (defBody s__is_pair_of_paths) (defScope s__is_pair_of_paths) .none kV20 dc20 pm20 an20 cd20 ct20), sl20⟩) (c20 : PySem.W.codeIn K cd20 "_is_pair_of_paths" = true) (k20 : PySem.W.keepIn K (.ref f20) = true)
    {f2251 : Addr} {od2251 an2251 : Option Addr} {sl2251 : Array (Option Value)} {oc2251 kV2251 dc2251 pm2251 cd2251 ct2251 : Value}
    (l2251 : K.lookup f2251 = some ⟨oc2251, od2251, .func (PySem.W.fnOf "of" "Program.of" (defArgs s_Program_of) (defBody s_Program_of) (defScope s_Program_of) .none kV2251 dc2251 pm2251 an2251 cd2251 ct2251), sl2251⟩) (c2251 : PySem.W.codeIn K cd2251 "Program.of" = true) (k2251 : PySem.W.keepIn K (.ref f2251) = true)
    {f2262 : Addr} {od2262 an2262 : Option Addr} {sl2262 : Array (Option Value)} {oc2262 kV2262 dc2262 pm2262 cd2262 ct2262 : Value}
    (l2262 : K.lookup f2262 = some ⟨oc2262, od2262, .func (PySem.W.fnOf "__sub__" "Program.__sub__" (defArgs s_Program___sub__) (defBody s_Program___sub__) (defScope s_Program___sub__) .none kV2262 dc2262 pm2262 an2262 cd2262 ct2262), sl2262⟩) (c2262 : PySem.W.codeIn K cd2262 "Program.__sub__" = true) (k2262 : PySem.W.keepIn K (.ref f2262) = true)
    {f53 : Addr} {od53 an53 : Option Addr} {sl53 : Array (Option Value)} {oc53 kV53 dc53 pm53 cd53 ct53 : Value}
    (a53 : PySem.W.nsIn K mainGlobals "law" = some (some (.ref f53))) (l53 : K.lookup f53 = some ⟨oc53, od53, .func (PySem.W.fnOf "law" "law" (defArgs s_law) (defBody s_law) (defScope s_law) .none kV53 dc53 pm53 an53 cd53 ct53), sl53⟩) (c53 : PySem.W.codeIn K cd53 "law" = true) (k53 : PySem.W.keepIn K (.ref f53) = true)
    {f16 : Addr} (a16 : PySem.W.nsIn K mainGlobals "Ring" = some (some (.ref f16)))
    {h16 : Addr} {odI16 anI16 : Option Addr} {slI16 : Array (Option Value)} {ocI16 kVI16 dcI16 pmI16 cdI16 ctI16 : Value}
    (i16 : PySem.W.findIn K (.ref f16) "__init__" = some (some (.ref h16))) (t16 : PySem.W.typeIn K (.ref h16) = some (.type "function")) (lI16 : K.lookup h16 = some ⟨ocI16, odI16, .func (PySem.W.fnOf "__init__" "Ring.__init__" (defArgs si_Ring) (defBody si_Ring) (defScope si_Ring) .none kVI16 dcI16 pmI16 anI16 cdI16 ctI16), slI16⟩) (cI16 : PySem.W.codeIn K cdI16 "Ring.__init__" = true) (kI16 : PySem.W.keepIn K (.ref h16) = true)
    (kxc16 : xcB K f16 bmV "ValueError.__new__" = true) (kty16 : PySem.W.typeIn K (.ref f16) = some (.type "type"))
    (knf16ring : PySem.W.findIn K (.ref f16) "ring" = some none)
    (kem16_16 : PySem.W.exmOne K (.ref f16) (.ref f16) = some true)
    {f25 : Addr} (a25 : PySem.W.nsIn K mainGlobals "Program" = some (some (.ref f25))) (kow25 : ownB K f25 = true)
    (kmk25 : PySem.W.makesIn K f25 = true) (i25 : PySem.W.findIn K (.ref f25) "__init__" = some (some (.ref f2250))) (kfn25 : PySem.W.isFn K (.ref f2250) = true) (kkp25 : PySem.W.keepIn K (.ref f25) = true)
    (kpg25 : PySem.W.plainGet K f25 Str.empty = true) (khd25 : PySem.W.hasDictIn K f25 = true) (kpo25 : PySem.W.plainOver K f25 = true) (ksa25 : PySem.W.findIn K (.ref f25) "__setattr__" = some (some (.builtin "object.__setattr__")))
    (kha25 : PySem.W.findIn K (.ref f25) "__class__" = some (some (.builtin "object.__class__"))) (khn25 : PySem.W.specialIn K (.builtin "object.__class__") "__get__" = some (some (.builtin "getset_descriptor.__get__"))) (kht25 : PySem.W.takesIn K (.builtin "object.__class__") = some true) (khm25 : PySem.W.mroIn K f25 (.type "object") = some true) (kno25 : PySem.W.kitOne K (.ref f25) (.type "tuple") = some false)
    {q2252 : Addr} {re2252 : List Value} (kpa2252 : PySem.W.findIn K (.ref f25) "modules" = some (some (.ref q2252))) (kpb2252 : PySem.W.specialIn K (.ref q2252) "__get__" = some (some (.builtin "property.__get__"))) (kpc2252 : PySem.W.takesIn K (.ref q2252) = some true) (kpd2252 : PySem.W.recIn K q2252 "property" = some (.ref f2252 :: re2252))
    {q2253 : Addr} {re2253 : List Value} (kpa2253 : PySem.W.findIn K (.ref f25) "uses" = some (some (.ref q2253))) (kpb2253 : PySem.W.specialIn K (.ref q2253) "__get__" = some (some (.builtin "property.__get__"))) (kpc2253 : PySem.W.takesIn K (.ref q2253) = some true) (kpd2253 : PySem.W.recIn K q2253 "property" = some (.ref f2253 :: re2253))
    {q2251 : Addr} {re2251 : List Value} (kca2251 : PySem.W.findCls K (.ref f25) (.type "type") "of" = some (.get (.builtin "classmethod.__get__") (.ref q2251) .none (.ref f25))) (kcd2251 : PySem.W.recIn K q2251 "classmethod" = some (.ref f2251 :: re2251))
    (kcr2251 : PySem.W.readsIn K f25 (.type "type") = true) (kcg2251 : PySem.W.specialIn K (.ref f25) "__getattribute__" = some (some (.builtin "type.__getattribute__"))) (kcf2251 : PySem.W.fnIn K f2251 = true)
    (km2262 : PySem.W.findIn K (.ref f25) "__sub__" = some (some (.ref f2262))) (kn2262 : PySem.W.isFn K (.ref f2262) = true)
    (kna25_modules : PySem.W.findIn K (.ref f25) "_modules" = some none)
    (kna25_parts : PySem.W.findIn K (.ref f25) "_parts" = some none)
    (kna25_uses : PySem.W.findIn K (.ref f25) "_uses" = some none)
    (z_abs : PySem.W.nsIn K mainGlobals "abs" = some none)
    (z_all : PySem.W.nsIn K mainGlobals "all" = some none)
    (z_any : PySem.W.nsIn K mainGlobals "any" = some none)
    (z_enumerate : PySem.W.nsIn K mainGlobals "enumerate" = some none)
    (z_int : PySem.W.nsIn K mainGlobals "int" = some none)
    (z_isinstance : PySem.W.nsIn K mainGlobals "isinstance" = some none)
    (z_len : PySem.W.nsIn K mainGlobals "len" = some none)
    (z_min : PySem.W.nsIn K mainGlobals "min" = some none)
    (z_range : PySem.W.nsIn K mainGlobals "range" = some none)
    (z_repr : PySem.W.nsIn K mainGlobals "repr" = some none)
    (z_set : PySem.W.nsIn K mainGlobals "set" = some none)
    (z_sorted : PySem.W.nsIn K mainGlobals "sorted" = some none)
    (z_str : PySem.W.nsIn K mainGlobals "str" = some none)
    (z_tuple : PySem.W.nsIn K mainGlobals "tuple" = some none)
    (z_zip : PySem.W.nsIn K mainGlobals "zip" = some none)
    {t_MAX_MODULES : Tok} (c_MAX_MODULES : PySem.W.nsIn K mainGlobals "MAX_MODULES" = some (some (.int 24 t_MAX_MODULES)))
    {t_MAX_NAMES : Tok} (c_MAX_NAMES : PySem.W.nsIn K mainGlobals "MAX_NAMES" = some (some (.int 6 t_MAX_NAMES)))
    {t_MAX_USES : Tok} (c_MAX_USES : PySem.W.nsIn K mainGlobals "MAX_USES" = some (some (.int 200 t_MAX_USES)))
    {t__MAX_LETTERS : Tok} (c__MAX_LETTERS : PySem.W.nsIn K mainGlobals "_MAX_LETTERS" = some (some (.int 8 t__MAX_LETTERS)))
    : ∃ fd : FuncData, (∀ (s : Shared) (v : Value), BindsTo s fd ⟨[v], []⟩ [("_law_script", v)]) ∧ ∀ base : Heap, K.In base → base.Ns mainGlobals mg → (∃ o, base.get? sysModules = some o) → FnG l.prog w K mg base CX0 10 fa fd ["_law_script"] (lift K Mem.deck 1 spLaw) := by
  have eL := hfa.symm.trans (PySem.W.mg_of X G a53)
  cases eL
  have F40 := fun_mk (st := s__law_deck) l40 c40 k40
  have b40 := F40.binds (ps := ["_law_script"]) fun _ _ _ _ _ _ us hl => match us, hl with | [_], _ => rfl
  have F41 := fun_mk (st := s__law_next) l41 c41 k41
  have b41 := F41.binds (ps := ["_law_deck_here", "_law_many"]) fun _ _ _ _ _ _ us hl => match us, hl with | [_, _], _ => rfl
  have F42 := fun_mk (st := s__law_name) l42 c42 k42
  have b42 := F42.binds (ps := ["_law_deck_here"]) fun _ _ _ _ _ _ us hl => match us, hl with | [_], _ => rfl
  have F43 := fun_mk (st := s__law_pool) l43 c43 k43
  have b43 := F43.binds (ps := ["_law_deck_here", "_law_many"]) fun _ _ _ _ _ _ us hl => match us, hl with | [_, _], _ => rfl
  have F44 := fun_mk (st := s__law_path) l44 c44 k44
  have b44 := F44.binds (ps := ["_law_deck_here", "_law_pool_here", "_law_most"]) fun _ _ _ _ _ _ us hl => match us, hl with | [_, _, _], _ => rfl
  have F45 := fun_mk (st := s__law_covers) l45 c45 k45
  have b45 := F45.binds (ps := ["_law_path_here", "_law_other"]) fun _ _ _ _ _ _ us hl => match us, hl with | [_, _], _ => rfl
  have F46 := fun_mk (st := s__law_overlap) l46 c46 k46
  have b46 := F46.binds (ps := ["_law_path_here", "_law_other"]) fun _ _ _ _ _ _ us hl => match us, hl with | [_, _], _ => rfl
  have F47 := fun_mk (st := s__law_modules) l47 c47 k47
  have b47 := F47.binds (ps := ["_law_deck_here", "_law_pool_here", "_law_most"]) fun _ _ _ _ _ _ us hl => match us, hl with | [_, _, _], _ => rfl
  have F48 := fun_mk (st := s__law_uses) l48 c48 k48
  have b48 := F48.binds (ps := ["_law_deck_here", "_law_modules_here", "_law_most"]) fun _ _ _ _ _ _ us hl => match us, hl with | [_, _, _], _ => rfl
  have F49 := fun_mk (st := s__law_data) l49 c49 k49
  have b49 := F49.binds (ps := ["_law_deck_here", "_law_most", "_law_uses_here"]) fun _ _ _ _ _ _ us hl => match us, hl with | [_, _, _], _ => rfl
  have F2252 := fun_mk (st := s_Program_modules) l2252 c2252 k2252
  have b2252 := F2252.binds (ps := ["self"]) fun _ _ _ _ _ _ us hl => match us, hl with | [_], _ => rfl
  have F2253 := fun_mk (st := s_Program_uses) l2253 c2253 k2253
  have b2253 := F2253.binds (ps := ["self"]) fun _ _ _ _ _ _ us hl => match us, hl with | [_], _ => rfl
  have F27 := funE_mk (st := s_next_table) l27 c27 k27
  have FD27 := funD_mk (st := s_next_table) (b := false) l27 c27 k27 ldt27 rfl
  have b27 := bindE (ps := ["program", "backward"]) FD27 2 rfl fun _ _ _ _ _ _ _ us its h1 h2 => match us, its, h1, h2 with | [_, _], [_], _, _ => ⟨_, rfl, rfl⟩
  have bd27 := bindD (ps := ["program", "backward"]) FD27 1 rfl fun _ _ _ _ _ _ _ us its h1 h2 => match us, its, h1, h2 with | [_], [_], _, _ => ⟨_, rfl, rfl⟩
  have F28 := fun_mk (st := s_chains_from) l28 c28 k28
  have b28 := F28.binds (ps := ["nexts", "start"]) fun _ _ _ _ _ _ us hl => match us, hl with | [_, _], _ => rfl
  have F29 := fun_mk (st := s_ring_from) l29 c29 k29
  have b29 := F29.binds (ps := ["nexts", "start"]) fun _ _ _ _ _ _ us hl => match us, hl with | [_, _], _ => rfl
  have F33 := fun_mk (st := s_ring) l33 c33 k33
  have b33 := F33.binds (ps := ["program", "module"]) fun _ _ _ _ _ _ us hl => match us, hl with | [_, _], _ => rfl
  have F36 := fun_mk (st := s__is_spare) l36 c36 k36
  have b36 := F36.binds (ps := ["nexts", "user", "used"]) fun _ _ _ _ _ _ us hl => match us, hl with | [_, _, _], _ => rfl
  have F37 := fun_mk (st := s_spare_uses) l37 c37 k37
  have b37 := F37.binds (ps := ["program"]) fun _ _ _ _ _ _ us hl => match us, hl with | [_], _ => rfl
  have F6 := fun_mk (st := s__is_name) l6 c6 k6
  have b6 := F6.binds (ps := ["text"]) fun _ _ _ _ _ _ us hl => match us, hl with | [_], _ => rfl
  have F7 := fun_mk (st := s_is_path) l7 c7 k7
  have b7 := F7.binds (ps := ["value"]) fun _ _ _ _ _ _ us hl => match us, hl with | [_], _ => rfl
  have F8 := fun_mk (st := s_covers) l8 c8 k8
  have b8 := F8.binds (ps := ["path", "other"]) fun _ _ _ _ _ _ us hl => match us, hl with | [_, _], _ => rfl
  have F9 := fun_mk (st := s_overlap) l9 c9 k9
  have b9 := F9.binds (ps := ["path", "other"]) fun _ _ _ _ _ _ us hl => match us, hl with | [_, _], _ => rfl
  have F21 := fun_mk (st := s__modules_error) l21 c21 k21
  have b21 := F21.binds (ps := ["modules"]) fun _ _ _ _ _ _ us hl => match us, hl with | [_], _ => rfl
  have F19 := fun_mk (st := s__is_pair_of) l19 c19 k19
  have b19 := F19.binds (ps := ["value", "modules"]) fun _ _ _ _ _ _ us hl => match us, hl with | [_, _], _ => rfl
  have F22 := fun_mk (st := s__uses_error) l22 c22 k22
  have b22 := F22.binds (ps := ["modules", "uses"]) fun _ _ _ _ _ _ us hl => match us, hl with | [_, _], _ => rfl
  have F23 := fun_mk (st := s_program_error) l23 c23 k23
  have b23 := F23.binds (ps := ["modules", "uses"]) fun _ _ _ _ _ _ us hl => match us, hl with | [_, _], _ => rfl
  have F10 := fun_mk (st := s_parent) l10 c10 k10
  have b10 := F10.binds (ps := ["path"]) fun _ _ _ _ _ _ us hl => match us, hl with | [_], _ => rfl
  have F24 := fun_mk (st := s__parts) l24 c24 k24
  have b24 := F24.binds (ps := ["modules"]) fun _ _ _ _ _ _ us hl => match us, hl with | [_], _ => rfl
  have F2250 := fun_mk (st := s_Program___init__) l2250 c2250 k2250
  have b2250 := F2250.binds (ps := ["self", "modules", "uses"]) fun _ _ _ _ _ _ us hl => match us, hl with | [_, _, _], _ => rfl
  have F38 := fun_mk (st := s_reduced) l38 c38 k38
  have b38 := F38.binds (ps := ["program"]) fun _ _ _ _ _ _ us hl => match us, hl with | [_], _ => rfl
  have F50 := fun_mk (st := s__law_raised) l50 c50 k50
  have b50 := F50.binds (ps := ["_law_program"]) fun _ _ _ _ _ _ us hl => match us, hl with | [_], _ => rfl
  have F31 := fun_mk (st := s__group_of) l31 c31 k31
  have b31 := F31.binds (ps := ["module", "reach"]) fun _ _ _ _ _ _ us hl => match us, hl with | [_, _], _ => rfl
  have F32 := fun_mk (st := s_groups) l32 c32 k32
  have b32 := F32.binds (ps := ["program"]) fun _ _ _ _ _ _ us hl => match us, hl with | [_], _ => rfl
  have F30 := fun_mk (st := s_is_chain) l30 c30 k30
  have b30 := F30.binds (ps := ["program", "value"]) fun _ _ _ _ _ _ us hl => match us, hl with | [_, _], _ => rfl
  have F34 := fun_mk (st := s_ring_holds) l34 c34 k34
  have b34 := F34.binds (ps := ["program", "value"]) fun _ _ _ _ _ _ us hl => match us, hl with | [_, _], _ => rfl
  have F51 := fun_mk (st := s__law_ring_right) l51 c51 k51
  have b51 := F51.binds (ps := ["_law_program", "_law_found"]) fun _ _ _ _ _ _ us hl => match us, hl with | [_, _], _ => rfl
  have F52 := fun_mk (st := s__law_open) l52 c52 k52
  have b52 := F52.binds (ps := ["_law_program"]) fun _ _ _ _ _ _ us hl => match us, hl with | [_], _ => rfl
  have F20 := fun_mk (st := s__is_pair_of_paths) l20 c20 k20
  have b20 := F20.binds (ps := ["value"]) fun _ _ _ _ _ _ us hl => match us, hl with | [_], _ => rfl
  have F2251 := fun_mk (st := s_Program_of) l2251 c2251 k2251
  have bs2251 := bindS (p1 := "cls") (pv := "uses") F2251 (fun _ _ _ _ _ _ _ => rfl) (fun _ _ _ _ _ _ _ _ _ => rfl)
  have F2262 := fun_mk (st := s_Program___sub__) l2262 c2262 k2262
  have b2262 := F2262.binds (ps := ["self", "other"]) fun _ _ _ _ _ _ us hl => match us, hl with | [_, _], _ => rfl
  have F53 := fun_mk (st := s_law) l53 c53 k53
  have b53 := F53.binds (ps := ["_law_script"]) fun _ _ _ _ _ _ us hl => match us, hl with | [_], _ => rfl
  have FI16 := fun_mk (st := si_Ring) lI16 cI16 kI16
  have bI16 := FI16.binds (ps := ["self", "ring"]) fun _ _ _ _ _ _ us hl => match us, hl with | [_, _], _ => rfl
  have T : ∀ base : Heap, (∃ o, base.get? sysModules = some o) → Tx w K mg base (fun i => if i = 16 then f16 else if i = 40 then f40 else if i = 41 then f41 else if i = 42 then f42 else if i = 43 then f43 else if i = 44 then f44 else if i = 45 then f45 else if i = 46 then f46 else if i = 47 then f47 else if i = 48 then f48 else if i = 49 then f49 else if i = 2252 then f2252 else if i = 2253 then f2253 else if i = 27 then f27 else if i = 28 then f28 else if i = 29 then f29 else if i = 33 then f33 else if i = 36 then f36 else if i = 37 then f37 else if i = 6 then f6 else if i = 7 then f7 else if i = 8 then f8 else if i = 9 then f9 else if i = 21 then f21 else if i = 19 then f19 else if i = 22 then f22 else if i = 23 then f23 else if i = 10 then f10 else if i = 24 then f24 else if i = 2250 then f2250 else if i = 38 then f38 else if i = 50 then f50 else if i = 31 then f31 else if i = 32 then f32 else if i = 30 then f30 else if i = 34 then f34 else if i = 51 then f51 else if i = 52 then f52 else if i = 20 then f20 else if i = 2251 then f2251 else if i = 2262 then f2262 else if i = 53 then fa else if i = 25 then f25 else 0) (fun i => if i = 40 then PySem.W.fnOf "_law_deck" "_law_deck" (defArgs s__law_deck) (defBody s__law_deck) (defScope s__law_deck) .none kV40 dc40 pm40 an40 cd40 ct40 else if i = 41 then PySem.W.fnOf "_law_next" "_law_next" (defArgs s__law_next) (defBody s__law_next) (defScope s__law_next) .none kV41 dc41 pm41 an41 cd41 ct41 else if i = 42 then PySem.W.fnOf "_law_name" "_law_name" (defArgs s__law_name) (defBody s__law_name) (defScope s__law_name) .none kV42 dc42 pm42 an42 cd42 ct42 else if i = 43 then PySem.W.fnOf "_law_pool" "_law_pool" (defArgs s__law_pool) (defBody s__law_pool) (defScope s__law_pool) .none kV43 dc43 pm43 an43 cd43 ct43 else if i = 44 then PySem.W.fnOf "_law_path" "_law_path" (defArgs s__law_path) (defBody s__law_path) (defScope s__law_path) .none kV44 dc44 pm44 an44 cd44 ct44 else if i = 45 then PySem.W.fnOf "_law_covers" "_law_covers" (defArgs s__law_covers) (defBody s__law_covers) (defScope s__law_covers) .none kV45 dc45 pm45 an45 cd45 ct45 else if i = 46 then PySem.W.fnOf "_law_overlap" "_law_overlap" (defArgs s__law_overlap) (defBody s__law_overlap) (defScope s__law_overlap) .none kV46 dc46 pm46 an46 cd46 ct46 else if i = 47 then PySem.W.fnOf "_law_modules" "_law_modules" (defArgs s__law_modules) (defBody s__law_modules) (defScope s__law_modules) .none kV47 dc47 pm47 an47 cd47 ct47 else if i = 48 then PySem.W.fnOf "_law_uses" "_law_uses" (defArgs s__law_uses) (defBody s__law_uses) (defScope s__law_uses) .none kV48 dc48 pm48 an48 cd48 ct48 else if i = 49 then PySem.W.fnOf "_law_data" "_law_data" (defArgs s__law_data) (defBody s__law_data) (defScope s__law_data) .none kV49 dc49 pm49 an49 cd49 ct49 else if i = 2252 then PySem.W.fnOf "modules" "Program.modules" (defArgs s_Program_modules) (defBody s_Program_modules) (defScope s_Program_modules) .none kV2252 dc2252 pm2252 an2252 cd2252 ct2252 else if i = 2253 then PySem.W.fnOf "uses" "Program.uses" (defArgs s_Program_uses) (defBody s_Program_uses) (defScope s_Program_uses) .none kV2253 dc2253 pm2253 an2253 cd2253 ct2253 else if i = 27 then PySem.W.fnOf "next_table" "next_table" (defArgs s_next_table) (defBody s_next_table) (defScope s_next_table) (.ref T27) kV27 dc27 pm27 an27 cd27 ct27 else if i = 28 then PySem.W.fnOf "chains_from" "chains_from" (defArgs s_chains_from) (defBody s_chains_from) (defScope s_chains_from) .none kV28 dc28 pm28 an28 cd28 ct28 else if i = 29 then PySem.W.fnOf "ring_from" "ring_from" (defArgs s_ring_from) (defBody s_ring_from) (defScope s_ring_from) .none kV29 dc29 pm29 an29 cd29 ct29 else if i = 33 then PySem.W.fnOf "ring" "ring" (defArgs s_ring) (defBody s_ring) (defScope s_ring) .none kV33 dc33 pm33 an33 cd33 ct33 else if i = 36 then PySem.W.fnOf "_is_spare" "_is_spare" (defArgs s__is_spare) (defBody s__is_spare) (defScope s__is_spare) .none kV36 dc36 pm36 an36 cd36 ct36 else if i = 37 then PySem.W.fnOf "spare_uses" "spare_uses" (defArgs s_spare_uses) (defBody s_spare_uses) (defScope s_spare_uses) .none kV37 dc37 pm37 an37 cd37 ct37 else if i = 6 then PySem.W.fnOf "_is_name" "_is_name" (defArgs s__is_name) (defBody s__is_name) (defScope s__is_name) .none kV6 dc6 pm6 an6 cd6 ct6 else if i = 7 then PySem.W.fnOf "is_path" "is_path" (defArgs s_is_path) (defBody s_is_path) (defScope s_is_path) .none kV7 dc7 pm7 an7 cd7 ct7 else if i = 8 then PySem.W.fnOf "covers" "covers" (defArgs s_covers) (defBody s_covers) (defScope s_covers) .none kV8 dc8 pm8 an8 cd8 ct8 else if i = 9 then PySem.W.fnOf "overlap" "overlap" (defArgs s_overlap) (defBody s_overlap) (defScope s_overlap) .none kV9 dc9 pm9 an9 cd9 ct9 else if i = 21 then PySem.W.fnOf "_modules_error" "_modules_error" (defArgs s__modules_error) (defBody s__modules_error) (defScope s__modules_error) .none kV21 dc21 pm21 an21 cd21 ct21 else if i = 19 then PySem.W.fnOf "_is_pair_of" "_is_pair_of" (defArgs s__is_pair_of) (defBody s__is_pair_of) (defScope s__is_pair_of) .none kV19 dc19 pm19 an19 cd19 ct19 else if i = 22 then PySem.W.fnOf "_uses_error" "_uses_error" (defArgs s__uses_error) (defBody s__uses_error) (defScope s__uses_error) .none kV22 dc22 pm22 an22 cd22 ct22 else if i = 23 then PySem.W.fnOf "program_error" "program_error" (defArgs s_program_error) (defBody s_program_error) (defScope s_program_error) .none kV23 dc23 pm23 an23 cd23 ct23 else if i = 10 then PySem.W.fnOf "parent" "parent" (defArgs s_parent) (defBody s_parent) (defScope s_parent) .none kV10 dc10 pm10 an10 cd10 ct10 else if i = 24 then PySem.W.fnOf "_parts" "_parts" (defArgs s__parts) (defBody s__parts) (defScope s__parts) .none kV24 dc24 pm24 an24 cd24 ct24 else if i = 2250 then PySem.W.fnOf "__init__" "Program.__init__" (defArgs s_Program___init__) (defBody s_Program___init__) (defScope s_Program___init__) .none kV2250 dc2250 pm2250 an2250 cd2250 ct2250 else if i = 38 then PySem.W.fnOf "reduced" "reduced" (defArgs s_reduced) (defBody s_reduced) (defScope s_reduced) .none kV38 dc38 pm38 an38 cd38 ct38 else if i = 50 then PySem.W.fnOf "_law_raised" "_law_raised" (defArgs s__law_raised) (defBody s__law_raised) (defScope s__law_raised) .none kV50 dc50 pm50 an50 cd50 ct50 else if i = 31 then PySem.W.fnOf "_group_of" "_group_of" (defArgs s__group_of) (defBody s__group_of) (defScope s__group_of) .none kV31 dc31 pm31 an31 cd31 ct31 else if i = 32 then PySem.W.fnOf "groups" "groups" (defArgs s_groups) (defBody s_groups) (defScope s_groups) .none kV32 dc32 pm32 an32 cd32 ct32 else if i = 30 then PySem.W.fnOf "is_chain" "is_chain" (defArgs s_is_chain) (defBody s_is_chain) (defScope s_is_chain) .none kV30 dc30 pm30 an30 cd30 ct30 else if i = 34 then PySem.W.fnOf "ring_holds" "ring_holds" (defArgs s_ring_holds) (defBody s_ring_holds) (defScope s_ring_holds) .none kV34 dc34 pm34 an34 cd34 ct34 else if i = 51 then PySem.W.fnOf "_law_ring_right" "_law_ring_right" (defArgs s__law_ring_right) (defBody s__law_ring_right) (defScope s__law_ring_right) .none kV51 dc51 pm51 an51 cd51 ct51 else if i = 52 then PySem.W.fnOf "_law_open" "_law_open" (defArgs s__law_open) (defBody s__law_open) (defScope s__law_open) .none kV52 dc52 pm52 an52 cd52 ct52 else if i = 20 then PySem.W.fnOf "_is_pair_of_paths" "_is_pair_of_paths" (defArgs s__is_pair_of_paths) (defBody s__is_pair_of_paths) (defScope s__is_pair_of_paths) .none kV20 dc20 pm20 an20 cd20 ct20 else if i = 2251 then PySem.W.fnOf "of" "Program.of" (defArgs s_Program_of) (defBody s_Program_of) (defScope s_Program_of) .none kV2251 dc2251 pm2251 an2251 cd2251 ct2251 else if i = 2262 then PySem.W.fnOf "__sub__" "Program.__sub__" (defArgs s_Program___sub__) (defBody s_Program___sub__) (defScope s_Program___sub__) .none kV2262 dc2262 pm2262 an2262 cd2262 ct2262 else if i = 53 then PySem.W.fnOf "law" "law" (defArgs s_law) (defBody s_law) (defScope s_law) .none kV53 dc53 pm53 an53 cd53 ct53 else PySem.W.fnOf "" "" (defArgs (topS 0)) [] (defScope (topS 0)) .none .none .none .none none .none .none) (fun i => if i = 16 then h16 else if i = 2252 then q2252 else if i = 2253 then q2253 else if i = 2251 then q2251 else 0) (fun i => if i = 16 then PySem.W.fnOf "__init__" "Ring.__init__" (defArgs si_Ring) (defBody si_Ring) (defScope si_Ring) .none kVI16 dcI16 pmI16 anI16 cdI16 ctI16 else PySem.W.fnOf "" "" (defArgs (topS 0)) [] (defScope (topS 0)) .none .none .none .none none .none .none) := fun base hsys => ⟨F40, PySem.W.mg_of X G a40, b40, F41, PySem.W.mg_of X G a41, b41, F42, PySem.W.mg_of X G a42, b42, F43, PySem.W.mg_of X G a43, b43, F44, PySem.W.mg_of X G a44, b44, F45, PySem.W.mg_of X G a45, b45, F46, PySem.W.mg_of X G a46, b46, F47, PySem.W.mg_of X G a47, b47, F48, PySem.W.mg_of X G a48, b48, F49, PySem.W.mg_of X G a49, b49, F2252, b2252, F2253, b2253, F27, PySem.W.mg_of X G a27, b27, bd27, F28, PySem.W.mg_of X G a28, b28, F29, PySem.W.mg_of X G a29, b29, F33, PySem.W.mg_of X G a33, b33, F36, PySem.W.mg_of X G a36, b36, F37, PySem.W.mg_of X G a37, b37, F6, PySem.W.mg_of X G a6, b6, F7, PySem.W.mg_of X G a7, b7, F8, PySem.W.mg_of X G a8, b8, F9, PySem.W.mg_of X G a9, b9, F21, PySem.W.mg_of X G a21, b21, F19, PySem.W.mg_of X G a19, b19, F22, PySem.W.mg_of X G a22, b22, F23, PySem.W.mg_of X G a23, b23, F10, PySem.W.mg_of X G a10, b10, F24, PySem.W.mg_of X G a24, b24, F2250, b2250, F38, PySem.W.mg_of X G a38, b38, F50, PySem.W.mg_of X G a50, b50, F31, PySem.W.mg_of X G a31, b31, F32, PySem.W.mg_of X G a32, b32, F30, PySem.W.mg_of X G a30, b30, F34, PySem.W.mg_of X G a34, b34, F51, PySem.W.mg_of X G a51, b51, F52, PySem.W.mg_of X G a52, b52, F20, PySem.W.mg_of X G a20, b20, F2251, bs2251, F2262, b2262, F53, PySem.W.mg_of X G a53, b53, PySem.W.mg_of X G a16, i16, t16, FI16, bI16, xc_of PySem.F.excBase_ValueError PySem.F.store_ValueError kxc16, kty16, knf16ring, kem16_16, PySem.W.mg_of X G a25, ⟨kmk25, i25, kfn25, kkp25⟩, ⟨⟨kpg25, khd25, kpo25, ksa25⟩, kha25, khn25, kht25, khm25, kno25⟩, ownC_of kow25, propOf_mk kpa2252 kpb2252 kpc2252 kpd2252, propOf_mk kpa2253 kpb2253 kpc2253 kpd2253, ⟨kcr2251, kcg2251⟩, ⟨kca2251, ⟨_, kcd2251⟩, kcf2251⟩, km2262, kn2262, kna25_modules, kna25_parts, kna25_uses, hsys, PySem.W.mg_none_of X G z_abs, PySem.W.mg_none_of X G z_all, PySem.W.mg_none_of X G z_any, PySem.W.mg_none_of X G z_enumerate, PySem.W.mg_none_of X G z_int, PySem.W.mg_none_of X G z_isinstance, PySem.W.mg_none_of X G z_len, PySem.W.mg_none_of X G z_min, PySem.W.mg_none_of X G z_range, PySem.W.mg_none_of X G z_repr, PySem.W.mg_none_of X G z_set, PySem.W.mg_none_of X G z_sorted, PySem.W.mg_none_of X G z_str, PySem.W.mg_none_of X G z_tuple, PySem.W.mg_none_of X G z_zip, ⟨t_MAX_MODULES, PySem.W.mg_of X G c_MAX_MODULES⟩, ⟨t_MAX_NAMES, PySem.W.mg_of X G c_MAX_NAMES⟩, ⟨t_MAX_USES, PySem.W.mg_of X G c_MAX_USES⟩, ⟨t__MAX_LETTERS, PySem.W.mg_of X G c__MAX_LETTERS⟩⟩
  exact ⟨PySem.W.fnOf "law" "law" (defArgs s_law) (defBody s_law) (defScope s_law) .none kV53 dc53 pm53 an53 cd53 ct53, fun s v => .of_eq rfl, fun base _ _ hsys => ok_law (P := l.prog) (w := w) (base := base) (T base hsys)⟩
end K24
open PySem PySem.W PyProof.Rows
set_option maxRecDepth 100000 in
set_option maxHeartbeats 0 in
theorem PySem.Challenge.cw_mayrest_k24_whole_rings_cut_open_holds : PySem.Challenge.rw_mayrest_k24_whole_rings_cut_open.Holds := by
  w_on; o_law; k_head; (case hw => w_witness2)
  k_fill
  refine DL.walkG (l := PySem.Challenge.rw_mayrest_k24_whole_rings_cut_open) (n := 63) (k := 10) (x := "_law_script") (sp := fun K => DL.lift K DL.Mem.deck 1 DL.spLaw) rfl (by decide) rfl ⟨rfl, by decide, by decide⟩ (by decide +kernel) (fun w h Y => by first | exact PySem.W.kIn_of Y | exact PySem.W.km_in_of Y) ?F (fun K H a ns hl hO hS => DL.law_start hl hO hS)
  case F =>
    intro w mg fa h KX G hmg
    refine' K24.all_mk KX G hmg ?a40 ?l40 ?c40 ?k40 ?a41 ?l41 ?c41 ?k41 ?a42 ?l42 ?c42 ?k42 ?a43 ?l43 ?c43 ?k43 ?a44 ?l44 ?c44 ?k44 ?a45 ?l45 ?c45 ?k45 ?a46 ?l46 ?c46 ?k46 ?a47 ?l47 ?c47 ?k47 ?a48 ?l48 ?c48 ?k48 ?a49 ?l49 ?c49 ?k49 ?l2252 ?c2252 ?k2252 ?l2253 ?c2253 ?k2253 ?ldt27 ?a27 ?l27 ?c27 ?k27 ?a28 ?l28 ?c28 ?k28 ?a29 ?l29 ?c29 ?k29 ?a33 ?l33 ?c33 ?k33 ?a36 ?l36 ?c36 ?k36 ?a37 ?l37 ?c37 ?k37 ?a6 ?l6 ?c6 ?k6 ?a7 ?l7 ?c7 ?k7 ?a8 ?l8 ?c8 ?k8 ?a9 ?l9 ?c9 ?k9 ?a21 ?l21 ?c21 ?k21 ?a19 ?l19 ?c19 ?k19 ?a22 ?l22 ?c22 ?k22 ?a23 ?l23 ?c23 ?k23 ?a10 ?l10 ?c10 ?k10 ?a24 ?l24 ?c24 ?k24 ?l2250 ?c2250 ?k2250 ?a38 ?l38 ?c38 ?k38 ?a50 ?l50 ?c50 ?k50 ?a31 ?l31 ?c31 ?k31 ?a32 ?l32 ?c32 ?k32 ?a30 ?l30 ?c30 ?k30 ?a34 ?l34 ?c34 ?k34 ?a51 ?l51 ?c51 ?k51 ?a52 ?l52 ?c52 ?k52 ?a20 ?l20 ?c20 ?k20 ?l2251 ?c2251 ?k2251 ?l2262 ?c2262 ?k2262 ?a53 ?l53 ?c53 ?k53 ?a16 ?i16 ?t16 ?lI16 ?cI16 ?kI16 ?kxc16 ?kty16 ?knf16ring ?kem16_16 ?a25 ?kow25 ?kmk25 ?i25 ?kfn25 ?kkp25 ?kpg25 ?khd25 ?kpo25 ?ksa25 ?kha25 ?khn25 ?kht25 ?khm25 ?kno25 ?kpa2252 ?kpb2252 ?kpc2252 ?kpd2252 ?kpa2253 ?kpb2253 ?kpc2253 ?kpd2253 ?kca2251 ?kcd2251 ?kcr2251 ?kcg2251 ?kcf2251 ?km2262 ?kn2262 ?kna25_modules ?kna25_parts ?kna25_uses ?z_abs ?z_all ?z_any ?z_enumerate ?z_int ?z_isinstance ?z_len ?z_min ?z_range ?z_repr ?z_set ?z_sorted ?z_str ?z_tuple ?z_zip ?c_MAX_MODULES ?c_MAX_NAMES ?c_MAX_USES ?c__MAX_LETTERS
    (case a16 => first | k_is | kernel_rfl | rfl); (case i16 => first | k_is | kernel_rfl | rfl); (case a25 => first | k_is | kernel_rfl | rfl); (case i25 => first | k_is | kernel_rfl | rfl); (case kpa2252 => first | k_is | kernel_rfl | rfl); (case kpd2252 => first | k_is | kernel_rfl | rfl); (case kpa2253 => first | k_is | kernel_rfl | rfl); (case kpd2253 => first | k_is | kernel_rfl | rfl); (case kca2251 => first | k_is | kernel_rfl | rfl); (case kcd2251 => first | k_is | kernel_rfl | rfl); (case km2262 => first | k_is | kernel_rfl | rfl); (case a40 => k_is); (case l40 => k_is); (case c40 => k_is); (case k40 => k_is); (case a41 => k_is); (case l41 => k_is); (case c41 => k_is); (case k41 => k_is); (case a42 => k_is); (case l42 => k_is); (case c42 => k_is); (case k42 => k_is); (case a43 => k_is); (case l43 => k_is); (case c43 => k_is); (case k43 => k_is); (case a44 => k_is); (case l44 => k_is); (case c44 => k_is); (case k44 => k_is); (case a45 => k_is); (case l45 => k_is); (case c45 => k_is); (case k45 => k_is); (case a46 => k_is); (case l46 => k_is); (case c46 => k_is); (case k46 => k_is); (case a47 => k_is); (case l47 => k_is); (case c47 => k_is); (case k47 => k_is); (case a48 => k_is); (case l48 => k_is); (case c48 => k_is); (case k48 => k_is); (case a49 => k_is); (case l49 => k_is); (case c49 => k_is); (case k49 => k_is); (case l2252 => k_is); (case c2252 => k_is); (case k2252 => k_is); (case l2253 => k_is); (case c2253 => k_is); (case k2253 => k_is); (case a27 => k_is); (case l27 => k_is); (case c27 => k_is); (case k27 => k_is); (case a28 => k_is); (case l28 => k_is); (case c28 => k_is); (case k28 => k_is); (case a29 => k_is); (case l29 => k_is); (case c29 => k_is); (case k29 => k_is); (case a33 => k_is); (case l33 => k_is); (case c33 => k_is); (case k33 => k_is); (case a36 => k_is); (case l36 => k_is); (case c36 => k_is); (case k36 => k_is); (case a37 => k_is); (case l37 => k_is); (case c37 => k_is); (case k37 => k_is); (case a6 => k_is); (case l6 => k_is); (case c6 => k_is); (case k6 => k_is); (case a7 => k_is); (case l7 => k_is); (case c7 => k_is); (case k7 => k_is); (case a8 => k_is); (case l8 => k_is); (case c8 => k_is); (case k8 => k_is); (case a9 => k_is); (case l9 => k_is); (case c9 => k_is); (case k9 => k_is); (case a21 => k_is); (case l21 => k_is); (case c21 => k_is); (case k21 => k_is); (case a19 => k_is); (case l19 => k_is); (case c19 => k_is); (case k19 => k_is); (case a22 => k_is); (case l22 => k_is); (case c22 => k_is); (case k22 => k_is); (case a23 => k_is); (case l23 => k_is); (case c23 => k_is); (case k23 => k_is); (case a10 => k_is); (case l10 => k_is); (case c10 => k_is); (case k10 => k_is); (case a24 => k_is); (case l24 => k_is); (case c24 => k_is); (case k24 => k_is); (case l2250 => k_is); (case c2250 => k_is); (case k2250 => k_is); (case a38 => k_is); (case l38 => k_is); (case c38 => k_is); (case k38 => k_is); (case a50 => k_is); (case l50 => k_is); (case c50 => k_is); (case k50 => k_is); (case a31 => k_is); (case l31 => k_is); (case c31 => k_is); (case k31 => k_is); (case a32 => k_is); (case l32 => k_is); (case c32 => k_is); (case k32 => k_is); (case a30 => k_is); (case l30 => k_is); (case c30 => k_is); (case k30 => k_is); (case a34 => k_is); (case l34 => k_is); (case c34 => k_is); (case k34 => k_is); (case a51 => k_is); (case l51 => k_is); (case c51 => k_is); (case k51 => k_is); (case a52 => k_is); (case l52 => k_is); (case c52 => k_is); (case k52 => k_is); (case a20 => k_is); (case l20 => k_is); (case c20 => k_is); (case k20 => k_is); (case l2251 => k_is); (case c2251 => k_is); (case k2251 => k_is); (case l2262 => k_is); (case c2262 => k_is); (case k2262 => k_is); (case a53 => k_is); (case l53 => k_is); (case c53 => k_is); (case k53 => k_is); (case t16 => k_is); (case lI16 => k_is); (case cI16 => k_is); (case kI16 => k_is); (case z_abs => k_is); (case z_all => k_is); (case z_any => k_is); (case z_enumerate => k_is); (case z_int => k_is); (case z_isinstance => k_is); (case z_len => k_is); (case z_min => k_is); (case z_range => k_is); (case z_repr => k_is); (case z_set => k_is); (case z_sorted => k_is); (case z_str => k_is); (case z_tuple => k_is); (case z_zip => k_is); (case c_MAX_MODULES => k_is); (case c_MAX_NAMES => k_is); (case c_MAX_USES => k_is); (case c__MAX_LETTERS => k_is); (case ldt27 => k_is)
    (case kxc16 => first | k_is | kernel_rfl | rfl | decide +kernel); (case kty16 => first | k_is | kernel_rfl | rfl | decide +kernel); (case knf16ring => first | k_is | kernel_rfl | rfl | decide +kernel); (case kem16_16 => first | k_is | kernel_rfl | rfl | decide +kernel); (case kow25 => first | k_is | kernel_rfl | rfl | decide +kernel); (case kmk25 => first | k_is | kernel_rfl | rfl | decide +kernel); (case kfn25 => first | k_is | kernel_rfl | rfl | decide +kernel); (case kkp25 => first | k_is | kernel_rfl | rfl | decide +kernel); (case kpg25 => first | k_is | kernel_rfl | rfl | decide +kernel); (case khd25 => first | k_is | kernel_rfl | rfl | decide +kernel); (case kpo25 => first | k_is | kernel_rfl | rfl | decide +kernel); (case ksa25 => first | k_is | kernel_rfl | rfl | decide +kernel); (case kha25 => first | k_is | kernel_rfl | rfl | decide +kernel); (case khn25 => first | k_is | kernel_rfl | rfl | decide +kernel); (case kht25 => first | k_is | kernel_rfl | rfl | decide +kernel); (case khm25 => first | k_is | kernel_rfl | rfl | decide +kernel); (case kno25 => first | k_is | kernel_rfl | rfl | decide +kernel); (case kpb2252 => first | k_is | kernel_rfl | rfl | decide +kernel); (case kpc2252 => first | k_is | kernel_rfl | rfl | decide +kernel); (case kpb2253 => first | k_is | kernel_rfl | rfl | decide +kernel); (case kpc2253 => first | k_is | kernel_rfl | rfl | decide +kernel); (case kcr2251 => first | k_is | kernel_rfl | rfl | decide +kernel); (case kcg2251 => first | k_is | kernel_rfl | rfl | decide +kernel); (case kcf2251 => first | k_is | kernel_rfl | rfl | decide +kernel); (case kn2262 => first | k_is | kernel_rfl | rfl | decide +kernel); (case kna25_modules => first | k_is | kernel_rfl | rfl | decide +kernel); (case kna25_parts => first | k_is | kernel_rfl | rfl | decide +kernel); (case kna25_uses => first | k_is | kernel_rfl | rfl | decide +kernel)


import PyProof.Rows.All
import Wide.All
import OpenK.AllK
import Wide.FinOn
import HandS.Base
import HandS.Call
import HandS.List
import HandS.Comp
import HandS.Words
import HandS.ExcInit
import HandS.Ends
import HandS.Flow
import HandS.Iter
import HandS.WordsList
import HandS.Text
import HandS.TupAny
import HandS.TupLe
import HandS.Wide
import HandS.IsInst
import HandS.Deep
import HandS.Style
import HandS.StrMore
import HandS.WordsDict
import PyProof.StrBlock2
import PyProof.Rows.RegStrFacts
import HandS.ExcIs
import HandS.ExcValue
import KE.KExcInit
import KE.KExcIs
import HandS.Zip
import PyProof.StrLawsRepr
import HandS.Dict
import HandS.Small
import PyProof.Rows.StrCut
import HandS.More
import KE.GoesMore
import PyProof.Draws
import PyProof.EnumMake
import PyProof.NeKinds
import PyProof.StrLawsIn
import PyProof.StrLawsLast
import PyProof.ReprLen
import HandS.SortOrd
import HandS.Strs
import HandS.Property
import HandS.OwnEq
import HandS.FStr
import HandS.Star
import KE.KCallOwn
import HandS.TupSets
import HandS.SetTxt0
import HandS.SortInts
import HandS.SetFor
import HandS.NoneIn
import PyProof.SetRoads
import HandS.Defaults
import HandS.MakeKwOnly
import PyProof.DictUpdate
import PyProof.DictDisplay
import KE.DataMinMax
import KE.SortData
import HandS.SetBool
import KE.DataMinKey
import HandS.SortKw
import PyProof.ListStr
import HandS.ClsMeth
import HandS.ExcOwn
import HandS.ExcField
import HandS.TryOnly
import HandS.WordsExc
import PySem.Challenge.RW_mayrest_k42_books_made
set_option Elab.async false
set_option linter.all false
set_option maxRecDepth 100000
/-! DL: a layer of data over HandS: values as trees, one state of what may change, and readings that speak of data alone. -/
namespace DL
open PySem PySem.Spec PyProof.Rows L2

/-- an exception of the class C that has been caught, at a: its dict d -/
def exr (a C : Addr) (d : Option Addr) : HO := .ext fun h => ∃ (oe : Obj) (vs : Array Value), h.get? a = some oe ∧ oe.cls = .ref C ∧ oe.dict = d ∧ oe.data = .fields vs
/-- data: what a value is, all the way down -/
inductive D where
  | non | bl (b : Bool) | int (i : Int) | str (x : Str) | lst (xs : List D) | tup (xs : List D)
  | dic (ks : List Key) (vs : List D) | ins (C : Addr) (ns : List Str) (vs : List D) | any (v : V) | fz (xs : List D) | exc (C : Addr) (ns : List Str) (vs : List D) | cau (a x : Addr) (ns : List Str) (vs : List D) | exk (C : Addr) (ns : List Str) (vs : List D)

/-- the texts that are spoken of -/
abbrev strLim : Nat := 1000000
def sOk (x : Str) : Bool := decide (x.length ≤ strLim) && x.cps.toList.all (fun c => decide (c < 0x110000))
theorem sOk_len {x : Str} (h : sOk x = true) : x.length ≤ strLim := by
  unfold sOk at h
  rw [Bool.and_eq_true] at h
  exact of_decide_eq_true h.1
theorem sOk_cps {x : Str} (h : sOk x = true) : ∀ c ∈ x.cps.toList, c < 0x110000 := fun c hc => by
  unfold sOk at h
  rw [Bool.and_eq_true] at h
  exact of_decide_eq_true (List.all_eq_true.mp h.2 c hc)
theorem sOk_of {x : Str} (h : x.length ≤ strLim) (k : ∀ c ∈ x.cps.toList, c < 0x110000) : sOk x = true := by
  unfold sOk
  rw [Bool.and_eq_true]
  exact ⟨decide_eq_true h, List.all_eq_true.mpr fun c hc => decide_eq_true (k c hc)⟩
theorem strLim_line : strLim + 2 ≤ sizeLine := by decide
mutual
/-- the value v is the data d, by what stands in F (which never changes) -/
def Rep (K : PySem.W.Frag) (F : Hp) : D → V → Prop
  | .non, v => v = .non
  | .bl b, v => v = .bl b
  | .int i, v => v = .int i
  | .str x, v => v = .str x ∧ sOk x = true
  | .lst ds, v => ∃ a vs, v = .ref a ∧ F a = some (.lst vs) ∧ vs.length ≤ sizeLine ∧ Reps K F ds vs
  | .tup ds, v => ∃ a vs, v = .ref a ∧ SqT K F a vs ∧ vs.length ≤ sizeLine ∧ Reps K F ds vs
  | .dic ks ds, v => ∃ a kvs, v = .ref a ∧ F a = some (.dK kvs) ∧ kvs.length ≤ sizeLine ∧ kvs.map (·.1) = ks ∧ Reps K F ds (kvs.map (·.2))
  | .ins C ns ds, v => ∃ a dx fs, v = .ref a ∧ F a = some (.ins C dx fs) ∧ fs.map (·.1) = ns ∧ Reps K F ds (fs.map (·.2))
  | .any w, v => v = w
  | .fz ds, v => ∃ a vs, v = .ref a ∧ SqL K F a vs ∧ vs.length ≤ sizeLine ∧ Reps K F ds vs
  | .exc C ns ds, v => ∃ a d fs, v = .ref a ∧ F a = some (exo a C d) ∧ (∀ x, d = some x → F x = some (exd x fs)) ∧ (d = none → fs = []) ∧ fs.map (·.1) = ns ∧ Reps K F ds (fs.map (·.2))
  | .cau a x ns ds, v => v = .ref a ∧ ∃ fs, F x = some (.xd fs) ∧ fs.map (·.1) = ns ∧ Reps K F ds (fs.map (·.2))
  | .exk C ns ds, v => ∃ a x fs, v = .ref a ∧ F a = some (exr a C (some x)) ∧ F x = some (.xd fs) ∧ fs.map (·.1) = ns ∧ Reps K F ds (fs.map (·.2))
def Reps (K : PySem.W.Frag) (F : Hp) : List D → List V → Prop
  | [], vs => vs = []
  | d :: ds, vs => ∃ v r, vs = v :: r ∧ Rep K F d v ∧ Reps K F ds r
end

theorem Same.seqT {K : PySem.W.Frag} {H H' : Hp} {a : Addr} {xs : List V} (e : Same H H') (h : SqT K H a xs) : SqT K H' a xs := by
  rcases h with (h | ⟨o, h⟩) | h
  · exact .inl (.inl (e _ _ h))
  · exact .inl (.inr ⟨o, e _ _ h⟩)
  · exact .inr h
mutual
theorem Rep.mono {K : PySem.W.Frag} {F F' : Hp} (s : Same F F') : ∀ (d : D) (v : V), Rep K F d v → Rep K F' d v
  | .non, _, h => h
  | .bl _, _, h => h
  | .int _, _, h => h
  | .str _, _, h => h
  | .lst ds, _, ⟨a, vs, e, h, l, r⟩ => ⟨a, vs, e, s _ _ h, l, Reps.mono s ds _ r⟩
  | .tup ds, _, ⟨a, vs, e, h, l, r⟩ => ⟨a, vs, e, Same.seqT s h, l, Reps.mono s ds _ r⟩
  | .dic _ ds, _, ⟨a, kvs, e, h, l, k, r⟩ => ⟨a, kvs, e, s _ _ h, l, k, Reps.mono s ds _ r⟩
  | .ins _ _ ds, _, ⟨a, dx, fs, e, h, k, r⟩ => ⟨a, dx, fs, e, s _ _ h, k, Reps.mono s ds _ r⟩
  | .any _, _, h => h
  | .fz ds, _, ⟨a, vs, e, h, l, r⟩ => ⟨a, vs, e, Same.seq s h, l, Reps.mono s ds _ r⟩
  | .exc _ _ ds, _, ⟨a, d, fs, e, h, h2, h3, k, r⟩ => ⟨a, d, fs, e, s _ _ h, fun x ex => s _ _ (h2 x ex), h3, k, Reps.mono s ds _ r⟩
  | .cau _ _ _ ds, _, ⟨e, fs, h, k, r⟩ => ⟨e, fs, s _ _ h, k, Reps.mono s ds _ r⟩
  | .exk _ _ ds, _, ⟨a, x, fs, e, h, h2, k, r⟩ => ⟨a, x, fs, e, s _ _ h, s _ _ h2, k, Reps.mono s ds _ r⟩
theorem Reps.mono {K : PySem.W.Frag} {F F' : Hp} (s : Same F F') : ∀ (ds : List D) (vs : List V), Reps K F ds vs → Reps K F' ds vs
  | [], _, h => h
  | d :: ds, _, ⟨v, r, e, h, t⟩ => ⟨v, r, e, Rep.mono s d v h, Reps.mono s ds r t⟩
end
theorem Reps.length {K : PySem.W.Frag} {F : Hp} : ∀ {ds : List D} {vs : List V}, Reps K F ds vs → vs.length = ds.length
  | [], _, h => by cases h; rfl
  | d :: ds, _, ⟨v, r, e, _, t⟩ => by subst e; rw [List.length_cons, List.length_cons, Reps.length t]
theorem Reps.nil {K : PySem.W.Frag} {F : Hp} : Reps K F [] [] := rfl
theorem Reps.cons {K : PySem.W.Frag} {F : Hp} {d : D} {ds : List D} {v : V} {vs : List V} (h : Rep K F d v) (t : Reps K F ds vs) : Reps K F (d :: ds) (v :: vs) := ⟨v, vs, rfl, h, t⟩
theorem Reps.get {K : PySem.W.Frag} {F : Hp} : ∀ {ds : List D} {vs : List V} {i : Nat} {d : D}, Reps K F ds vs → ds[i]? = some d → ∃ v, vs[i]? = some v ∧ Rep K F d v
  | [], _, _, _, _, e => by simp at e
  | x :: ds, _, 0, d, ⟨v, r, e, h, _⟩, q => by
    subst e
    have q' : x = d := by simpa using q
    subst q'
    exact ⟨v, rfl, h⟩
  | x :: ds, _, i + 1, d, ⟨v, r, e, _, t⟩, q => by
    subst e
    have q' : ds[i]? = some d := by simpa using q
    obtain ⟨w, h1, h2⟩ := Reps.get t q'
    exact ⟨w, by simpa using h1, h2⟩
theorem Reps.append {K : PySem.W.Frag} {F : Hp} : ∀ {ds es : List D} {vs ws : List V}, Reps K F ds vs → Reps K F es ws → Reps K F (ds ++ es) (vs ++ ws)
  | [], _, _, _, h, t => by cases h; exact t
  | d :: ds, _, _, _, ⟨v, r, e, h, t⟩, u => by subst e; exact ⟨v, _, rfl, h, Reps.append t u⟩
theorem Reps.one {K : PySem.W.Frag} {F : Hp} {d : D} {v : V} (h : Rep K F d v) : Reps K F [d] [v] := .cons h .nil
theorem Reps.take {K : PySem.W.Frag} {F : Hp} : ∀ {ds : List D} {vs : List V} (n : Nat), Reps K F ds vs → Reps K F (ds.take n) (vs.take n)
  | _, _, 0, _ => by simp; exact .nil
  | [], _, _ + 1, h => by cases h; simp; exact .nil
  | d :: ds, _, n + 1, ⟨v, r, e, h, t⟩ => by subst e; exact .cons h (Reps.take n t)
theorem Reps.drop {K : PySem.W.Frag} {F : Hp} : ∀ {ds : List D} {vs : List V} (n : Nat), Reps K F ds vs → Reps K F (ds.drop n) (vs.drop n)
  | _, _, 0, h => h
  | [], _, _ + 1, h => by cases h; simp; exact .nil
  | d :: ds, _, n + 1, ⟨v, r, e, h, t⟩ => by subst e; exact Reps.drop n t
theorem Reps.set {K : PySem.W.Frag} {F : Hp} {d : D} {v : V} (h : Rep K F d v) : ∀ {ds : List D} {vs : List V} (i : Nat), Reps K F ds vs → Reps K F (ds.set i d) (vs.set i v)
  | [], _, _, t => by cases t; exact .nil
  | _ :: _, _, 0, ⟨w, r, e, _, t⟩ => by subst e; exact .cons h t
  | _ :: _, _, i + 1, ⟨w, r, e, h', t⟩ => by subst e; exact .cons h' (Reps.set h i t)
theorem Reps.reverse {K : PySem.W.Frag} {F : Hp} : ∀ {ds : List D} {vs : List V}, Reps K F ds vs → Reps K F ds.reverse vs.reverse
  | [], _, h => by cases h; exact .nil
  | d :: ds, _, ⟨v, r, e, h, t⟩ => by
    subst e
    rw [List.reverse_cons, List.reverse_cons]
    exact (Reps.reverse t).append (.one h)
theorem Reps.split {K : PySem.W.Frag} {F : Hp} {x : D} : ∀ {pre post : List D} {vs : List V}, Reps K F (pre ++ x :: post) vs → ∃ v, vs[pre.length]? = some v ∧ Rep K F x v := fun h => h.get (by simp)
theorem reps_ints {K : PySem.W.Frag} {F : Hp} : ∀ {ns : List Int} {vs : List V}, Reps K F (ns.map D.int) vs → vs = ns.map V.int
  | [], _, h => by cases h; rfl
  | n :: ns, _, ⟨v, r, e, h, t⟩ => by subst e; cases h; rw [reps_ints t]; rfl
theorem reps_of_ints {K : PySem.W.Frag} {F : Hp} : ∀ (ns : List Int), Reps K F (ns.map D.int) (ns.map V.int)
  | [] => .nil
  | n :: ns => .cons rfl (reps_of_ints ns)
theorem reps_strs {K : PySem.W.Frag} {F : Hp} : ∀ {ns : List Str} {vs : List V}, Reps K F (ns.map D.str) vs → vs = ns.map V.str ∧ ∀ x ∈ ns, sOk x = true
  | [], _, h => by cases h; exact ⟨rfl, by simp⟩
  | n :: ns, _, ⟨v, r, e, h, t⟩ => by
    subst e
    obtain ⟨h1, h2⟩ := h
    obtain ⟨h3, h4⟩ := reps_strs t
    subst h1 h3
    exact ⟨rfl, fun x hx => by rcases List.mem_cons.mp hx with e | hx; · subst e; exact h2
                               · exact h4 x hx⟩
theorem reps_of_strs {K : PySem.W.Frag} {F : Hp} : ∀ (ns : List Str), (∀ x ∈ ns, sOk x = true) → Reps K F (ns.map D.str) (ns.map V.str)
  | [], _ => .nil
  | n :: ns, h => .cons ⟨rfl, h n List.mem_cons_self⟩ (reps_of_strs ns fun x hx => h x (List.mem_cons_of_mem _ hx))
theorem reps_bls {K : PySem.W.Frag} {F : Hp} : ∀ {ns : List Bool} {vs : List V}, Reps K F (ns.map D.bl) vs → vs = ns.map V.bl
  | [], _, h => by cases h; rfl
  | n :: ns, _, ⟨v, r, e, h, t⟩ => by subst e; cases h; rw [reps_bls t]; rfl

/-! ### what may change -/
/-- what a law's defs change: its state, how the heap bears it, where it lies -/
structure Mem where
  S : Type
  M : S → Hp → Prop
  R : S → Addr → Prop
  loc : ∀ s H H', M s H → (∀ a, R s a → H' a = H a) → M s H'
  there : ∀ s H a, M s H → R s a → H a ≠ none
/-- nothing -/
def Mem.nil : Mem := ⟨Unit, fun _ _ => True, fun _ _ => False, fun _ _ _ _ _ => trivial, fun _ _ _ _ h => h.elim⟩

/-- an object that a def has made and alone knows: it may be changed -/
inductive Ob where
  | lst (ds : List D)
  | dic (ks : List Key) (ds : List D)
  | ins (x dx C : Addr) (ns : List Str) (ds : List D)
  | box (g : Addr → HO)
  | bag (g : List (Addr × List Str) → Addr → HO) (ks : List (List Str))
inductive Sl where
  | no
  | sh (d : D)
  | ow (o : Ob)
def ObAt (K : PySem.W.Frag) (F : Hp) : Ob → Addr → HO → Prop
  | .ins x dx C ns ds, p, o => p = x ∧ ∃ fs : List (Str × V), o = .ins C dx fs ∧ fs.map (·.1) = ns ∧ Reps K F ds (fs.map (·.2))
  | .box g, p, o => o = g p
  | .bag g ks, p, o => ∃ L : List (Addr × List Str), o = g L p ∧ (L.map (·.2)).Perm ks ∧ ∀ q ∈ L, SqT K F q.1 (q.2.map V.str)
  | .lst ds, _, o => ∃ vs, o = .lst vs ∧ vs.length ≤ sizeLine ∧ Reps K F ds vs
  | .dic ks ds, _, o => ∃ kvs : List (Key × V), o = .dK kvs ∧ kvs.length ≤ sizeLine ∧ kvs.map (·.1) = ks ∧ Reps K F ds (kvs.map (·.2))
theorem ObAt.mono {K : PySem.W.Frag} {F F' : Hp} (s : Same F F') {o : Ob} {p : Addr} {ho : HO} (h : ObAt K F o p ho) : ObAt K F' o p ho := by
  cases o with
  | lst ds => obtain ⟨vs, e, l, r⟩ := h; exact ⟨vs, e, l, Reps.mono s _ _ r⟩
  | dic ks ds => obtain ⟨kvs, e, l, k, r⟩ := h; exact ⟨kvs, e, l, k, Reps.mono s _ _ r⟩
  | ins x dx C ns ds => obtain ⟨e0, fs, e, k, r⟩ := h; exact ⟨e0, fs, e, k, Reps.mono s _ _ r⟩
  | box g => exact h
  | bag g ks => obtain ⟨L, e, p, a⟩ := h; exact ⟨L, e, p, fun q hq => Same.seqT s (a q hq)⟩
/-- .. as data that does not change any more -/
def Ob.d : Ob → Option D
  | .lst ds => some (.lst ds)
  | .dic ks ds => some (.dic ks ds)
  | .ins _ _ C ns ds => some (.ins C ns ds)
  | .box _ => none
  | .bag _ _ => none
theorem ObAt.rep {K : PySem.W.Frag} {F F' : Hp} {o : Ob} {ho : HO} {a : Addr} {d : D} (h : ObAt K F o a ho) (s : Same F F') (e : F' a = some ho) (hd : o.d = some d) : Rep K F' d (.ref a) := by
  cases o with
  | lst ds => cases hd; obtain ⟨vs, rfl, l, r⟩ := h; exact ⟨a, vs, rfl, e, l, Reps.mono s _ _ r⟩
  | dic ks ds => cases hd; obtain ⟨kvs, rfl, l, k, r⟩ := h; exact ⟨a, kvs, rfl, e, l, k, Reps.mono s _ _ r⟩
  | ins x dx C ns ds => cases hd; obtain ⟨e0, fs, rfl, k, r⟩ := h; exact ⟨a, dx, fs, rfl, e, k, Reps.mono s _ _ r⟩
  | box g => cases hd
  | bag g ks => cases hd

/-- the slot i owns the object at p -/
def Owns (σ : L2.St) (ρ : List Sl) (i : Nat) (p : Addr) : Prop := (∃ o, ρ[i]? = some (Sl.ow o)) ∧ σ[i]? = some (some (V.ref p))

structure Rel (K : PySem.W.Frag) (m : Mem) (F H : Hp) (σ : L2.St) (ρ : List Sl) (s : m.S) : Prop where
  sub : Same F H
  mem : m.M s H
  reg : ∀ a, m.R s a → F a = none
  len : σ.length = ρ.length
  sh : ∀ (i : Nat) d, ρ[i]? = some (Sl.sh d) → ∃ v, σ[i]? = some (some v) ∧ Rep K F d v
  ow : ∀ (i : Nat) o, ρ[i]? = some (Sl.ow o) → ∃ p ho, σ[i]? = some (some (V.ref p)) ∧ H p = some ho ∧ ObAt K F o p ho
  owF : ∀ (i : Nat) p, Owns σ ρ i p → F p = none ∧ ¬ m.R s p
  uq : ∀ (i j : Nat) p, Owns σ ρ i p → Owns σ ρ j p → i = j

/-- from one state to a later one, the slots' values σ the same -/
structure Stp (m : Mem) (F H : Hp) (σ : L2.St) (ρ : List Sl) (s : m.S) (F' H' : Hp) (ρ' : List Sl) (s' : m.S) : Prop where
  ext : Same F F'
  keep : ∀ a o, H a = some o → ¬ m.R s a → H' a = some o
  alive : ∀ a, H a ≠ none → H' a ≠ none
  fresh : ∀ a o, F' a = some o → F a = some o ∨ H a = none ∨ ∃ i, Owns σ ρ i a
  regf : ∀ a, m.R s' a → m.R s a ∨ H a = none
  shr : ∀ (i : Nat) o, ρ'[i]? = some (Sl.ow o) → ρ[i]? = some (Sl.ow o)
theorem Stp.refl {m : Mem} {F H : Hp} {σ : L2.St} {ρ : List Sl} {s : m.S} : Stp m F H σ ρ s F H ρ s :=
  ⟨Same.refl F, fun _ _ h _ => h, fun _ h => h, fun _ _ h => .inl h, fun _ h => .inl h, fun _ _ h => h⟩
theorem Stp.owns {m : Mem} {F H F' H' : Hp} {σ : L2.St} {ρ ρ' : List Sl} {s s' : m.S} (a : Stp m F H σ ρ s F' H' ρ' s') {i : Nat} {p : Addr} (h : Owns σ ρ' i p) : Owns σ ρ i p := by
  obtain ⟨⟨o, e⟩, q⟩ := h
  exact ⟨⟨o, a.shr i o e⟩, q⟩
theorem Stp.trans {m : Mem} {F H F1 H1 F2 H2 : Hp} {σ : L2.St} {ρ ρ1 ρ2 : List Sl} {s s1 s2 : m.S} (a : Stp m F H σ ρ s F1 H1 ρ1 s1) (b : Stp m F1 H1 σ ρ1 s1 F2 H2 ρ2 s2) : Stp m F H σ ρ s F2 H2 ρ2 s2 where
  ext := a.ext.trans b.ext
  keep := fun p o h n => b.keep p o (a.keep p o h n) fun r => by
    rcases a.regf p r with r | r
    · exact n r
    · rw [r] at h; cases h
  alive := fun p h => b.alive p (a.alive p h)
  fresh := fun p o h => by
    rcases b.fresh p o h with h | h | ⟨i, h⟩
    · exact a.fresh p o h
    · refine .inr (.inl ?_)
      cases q : H p with
      | none => rfl
      | some u => exact absurd h (a.alive p (by rw [q]; simp))
    · exact .inr (.inr ⟨i, a.owns h⟩)
  regf := fun p h => by
    rcases b.regf p h with h | h
    · exact a.regf p h
    · refine .inr ?_
      cases q : H p with
      | none => rfl
      | some u => exact absurd h (a.alive p (by rw [q]; simp))
  shr := fun i o h => a.shr i o (b.shr i o h)

/-- new objects alone -/
structure Grow (F H F' H' : Hp) : Prop where
  fF : Same F F'
  hH : Same H H'
  fH : Same F' H'
  fresh : ∀ a o, F' a = some o → F a = some o ∨ H a = none
theorem Grow.refl {F H : Hp} (h : Same F H) : Grow F H F H := ⟨Same.refl _, Same.refl _, h, fun _ _ h => .inl h⟩
theorem same_upd {H : Hp} {p : Addr} {o : HO} (h : H p = none) : Same H (upd H p o) := fun b x e => by
  rw [upd_ne (ne_of_none e h)]
  exact e
theorem Grow.new {F H : Hp} {p : Addr} {o : HO} (h : Same F H) (n : H p = none) : Grow F H (upd F p o) (upd H p o) := by
  have nF : F p = none := h.free n
  refine ⟨same_upd nF, same_upd n, fun b x e => ?_, fun b x e => ?_⟩
  · by_cases hb : b = p
    · subst hb; rw [upd_same] at e ⊢; exact e
    · rw [upd_ne hb] at e ⊢; exact h _ _ e
  · by_cases hb : b = p
    · subst hb; exact .inr n
    · rw [upd_ne hb] at e; exact .inl e
theorem Grow.trans {F H F1 H1 F2 H2 : Hp} (a : Grow F H F1 H1) (b : Grow F1 H1 F2 H2) : Grow F H F2 H2 :=
  ⟨a.fF.trans b.fF, a.hH.trans b.hH, b.fH, fun p o h => by
    rcases b.fresh p o h with h | h
    · exact a.fresh p o h
    · exact .inr (a.hH.free h)⟩
section
variable {K : PySem.W.Frag} {m : Mem} {F H F' H' : Hp} {σ : L2.St} {ρ : List Sl} {s : m.S}
theorem Grow.stp (g : Grow F H F' H') : Stp m F H σ ρ s F' H' ρ s :=
  ⟨g.fF, fun a o h _ => g.hH a o h, fun a h => by
    cases q : H a with
    | none => exact absurd q h
    | some u => rw [g.hH a u q]; simp, fun a o h => (g.fresh a o h).elim .inl fun z => .inr (.inl z), fun _ h => .inl h, fun _ _ h => h⟩
theorem Rel.grow (r : Rel K m F H σ ρ s) (g : Grow F H F' H') : Rel K m F' H' σ ρ s where
  sub := g.fH
  mem := m.loc s H H' r.mem fun a ha => by
    have q := m.there s H a r.mem ha
    cases e : H a with
    | none => exact absurd e q
    | some u => exact g.hH a u e
  reg := fun a ha => by
    cases e : F' a with
    | none => rfl
    | some u =>
      rcases g.fresh a u e with z | z
      · rw [r.reg a ha] at z; cases z
      · exact absurd z (m.there s H a r.mem ha)
  len := r.len
  sh := fun i d e => by
    obtain ⟨v, h1, h2⟩ := r.sh i d e
    exact ⟨v, h1, Rep.mono g.fF _ _ h2⟩
  ow := fun i o e => by
    obtain ⟨p, ho, h1, h2, h3⟩ := r.ow i o e
    exact ⟨p, ho, h1, g.hH _ _ h2, h3.mono g.fF⟩
  owF := fun i p h => by
    obtain ⟨h1, h2⟩ := r.owF i p h
    refine ⟨?_, h2⟩
    cases e : F' p with
    | none => rfl
    | some u =>
      rcases g.fresh p u e with z | z
      · rw [h1] at z; cases z
      · obtain ⟨⟨o, q1⟩, q2⟩ := h
        obtain ⟨p', ho, e1, e2, _⟩ := r.ow i o q1
        rw [q2] at e1; cases e1
        rw [z] at e2; cases e2
  uq := r.uq
/-- an owned object is known, and changes no more -/
theorem Rel.own_at (r : Rel K m F H σ ρ s) {i : Nat} {o : Ob} (e : ρ[i]? = some (Sl.ow o)) : ∃ p ho, σ[i]? = some (some (V.ref p)) ∧ H p = some ho ∧ ObAt K F o p ho ∧ F p = none ∧ ¬ m.R s p := by
  obtain ⟨p, ho, h1, h2, h3⟩ := r.ow i o e
  obtain ⟨h4, h5⟩ := r.owF i p ⟨⟨o, e⟩, h1⟩
  exact ⟨p, ho, h1, h2, h3, h4, h5⟩
/-- an object that no slot owns becomes known -/
theorem Rel.adopt (r : Rel K m F H σ ρ s) {p : Addr} {ho : HO} (h : H p = some ho) (n : F p = none) (nr : ¬ m.R s p) (no : ∀ i, ¬ Owns σ ρ i p) : Rel K m (upd F p ho) H σ ρ s where
  sub := fun b x e => by
    by_cases hb : b = p
    · subst hb; rw [upd_same] at e; cases e; exact h
    · rw [upd_ne hb] at e; exact r.sub _ _ e
  mem := r.mem
  reg := fun a ha => by
    have hb : a ≠ p := fun z => nr (z ▸ ha)
    rw [upd_ne hb]; exact r.reg a ha
  len := r.len
  sh := fun i d e => by
    obtain ⟨v, h1, h2⟩ := r.sh i d e
    exact ⟨v, h1, Rep.mono (same_upd n) _ _ h2⟩
  ow := fun i o e => by
    obtain ⟨q, ho', h1, h2, h3⟩ := r.ow i o e
    exact ⟨q, ho', h1, h2, h3.mono (same_upd n)⟩
  owF := fun i q hq => by
    obtain ⟨h1, h2⟩ := r.owF i q hq
    have hb : q ≠ p := fun z => no i (z ▸ hq)
    exact ⟨by rw [upd_ne hb]; exact h1, h2⟩
  uq := r.uq
/-- a slot forgotten, or one that was owned now shared -/
theorem Rel.share (r : Rel K m F H σ ρ s) {i : Nat} {o : Ob} {p : Addr} {ho : HO} {d : D} (hd : o.d = some d) (e : ρ[i]? = some (Sl.ow o)) (eσ : σ[i]? = some (some (V.ref p))) (h : H p = some ho) (ob : ObAt K F o p ho) :
    Rel K m (upd F p ho) H σ (ρ.set i (.sh d)) s ∧ Stp m F H σ ρ s (upd F p ho) H (ρ.set i (.sh d)) s ∧ Rep K (upd F p ho) d (.ref p) := by
  obtain ⟨n, nr⟩ := r.owF i p ⟨⟨o, e⟩, eσ⟩
  have hi : i < ρ.length := (List.getElem?_eq_some_iff.mp e).1
  have sm : Same F (upd F p ho) := same_upd n
  have rp : Rep K (upd F p ho) d (.ref p) := ob.rep sm upd_same hd
  have back : ∀ j q, Owns σ (ρ.set i (.sh d)) j q → j ≠ i ∧ Owns σ ρ j q := fun j q ⟨⟨o', h1⟩, h2⟩ => by
    by_cases hj : i = j
    · subst hj; rw [List.getElem?_set_self hi] at h1; cases h1
    · rw [List.getElem?_set_ne hj] at h1; exact ⟨Ne.symm hj, ⟨o', h1⟩, h2⟩
  refine ⟨⟨fun b x z => ?_, r.mem, fun a ha => ?_, by rw [List.length_set]; exact r.len, fun j d' z => ?_, fun j o' z => ?_, fun j q z => ?_, fun j k q h1 h2 => r.uq j k q (back j q h1).2 (back k q h2).2⟩, ?_, rp⟩
  · by_cases hb : b = p
    · subst hb; rw [upd_same] at z; cases z; exact h
    · rw [upd_ne hb] at z; exact r.sub _ _ z
  · have hb : a ≠ p := fun z => nr (z ▸ ha)
    rw [upd_ne hb]; exact r.reg a ha
  · by_cases hj : i = j
    · subst hj
      rw [List.getElem?_set_self hi] at z
      cases z
      exact ⟨_, eσ, rp⟩
    · rw [List.getElem?_set_ne hj] at z
      obtain ⟨v, h1, h2⟩ := r.sh j d' z
      exact ⟨v, h1, Rep.mono sm _ _ h2⟩
  · by_cases hj : i = j
    · subst hj
      rw [List.getElem?_set_self hi] at z
      cases z
    · rw [List.getElem?_set_ne hj] at z
      obtain ⟨q, ho', h1, h2, h3⟩ := r.ow j o' z
      exact ⟨q, ho', h1, h2, h3.mono sm⟩
  · obtain ⟨hj, hq⟩ := back j q z
    obtain ⟨h1, h2⟩ := r.owF j q hq
    have hb : q ≠ p := fun w => hj (r.uq j i q hq (by rw [w]; exact ⟨⟨o, e⟩, eσ⟩))
    exact ⟨by rw [upd_ne hb]; exact h1, h2⟩
  · refine ⟨sm, fun _ _ z _ => z, fun _ z => z, fun a x z => ?_, fun _ z => .inl z, fun j o' z => ?_⟩
    · by_cases hb : a = p
      · subst hb; exact .inr (.inr ⟨i, ⟨o, e⟩, eσ⟩)
      · rw [upd_ne hb] at z; exact .inl z
    · by_cases hj : i = j
      · subst hj; rw [List.getElem?_set_self hi] at z; cases z
      · rw [List.getElem?_set_ne hj] at z; exact z
/-- a slot is set to known data -/
theorem Rel.put (r : Rel K m F H σ ρ s) {i : Nat} {d : D} {v : V} (h : Rep K F d v) : Rel K m F H (σ.set i (some v)) (ρ.set i (.sh d)) s := by
  have back : ∀ j q, Owns (σ.set i (some v)) (ρ.set i (.sh d)) j q → Owns σ ρ j q := fun j q ⟨⟨o', h1⟩, h2⟩ => by
    by_cases hj : i = j
    · subst hj
      by_cases hi : i < ρ.length
      · rw [List.getElem?_set_self hi] at h1; cases h1
      · rw [List.getElem?_eq_none (by simpa using hi)] at h1; cases h1
    · rw [List.getElem?_set_ne hj] at h1 h2; exact ⟨⟨o', h1⟩, h2⟩
  refine ⟨r.sub, r.mem, r.reg, by rw [List.length_set, List.length_set]; exact r.len, fun j d' z => ?_, fun j o' z => ?_, fun j q z => r.owF j q (back j q z), fun j k q h1 h2 => r.uq j k q (back j q h1) (back k q h2)⟩
  · by_cases hj : i = j
    · subst hj
      have hi : i < ρ.length := by
        have := (List.getElem?_eq_some_iff.mp z).1
        rw [List.length_set] at this; exact this
      rw [List.getElem?_set_self hi] at z
      cases z
      exact ⟨v, List.getElem?_set_self (by rw [r.len]; exact hi), h⟩
    · rw [List.getElem?_set_ne hj] at z
      obtain ⟨w, h1, h2⟩ := r.sh j d' z
      exact ⟨w, by rw [List.getElem?_set_ne hj]; exact h1, h2⟩
  · by_cases hj : i = j
    · subst hj
      have hi : i < ρ.length := by
        have := (List.getElem?_eq_some_iff.mp z).1
        rw [List.length_set] at this; exact this
      rw [List.getElem?_set_self hi] at z
      cases z
    · rw [List.getElem?_set_ne hj] at z
      obtain ⟨q, ho', h1, h2, h3⟩ := r.ow j o' z
      exact ⟨q, ho', by rw [List.getElem?_set_ne hj]; exact h1, h2, h3⟩
/-- a slot is set to a new object of its own -/
theorem Rel.putO (r : Rel K m F H σ ρ s) {i : Nat} {o : Ob} {p : Addr} {ho : HO} (n : H p = none) (ob : ObAt K F o p ho) : Rel K m F (upd H p ho) (σ.set i (some (.ref p))) (ρ.set i (.ow o)) s := by
  have nF : F p = none := r.sub.free n
  have nr : ¬ m.R s p := fun z => m.there s H p r.mem z n
  have other : ∀ j q, i ≠ j → Owns (σ.set i (some (.ref p))) (ρ.set i (.ow o)) j q → Owns σ ρ j q := fun j q hj ⟨⟨o', h1⟩, h2⟩ => by
    rw [List.getElem?_set_ne hj] at h1 h2; exact ⟨⟨o', h1⟩, h2⟩
  have old : ∀ j q, Owns σ ρ j q → q ≠ p := fun j q ⟨⟨o', h1⟩, h2⟩ z => by
    obtain ⟨q', ho', e1, e2, _⟩ := r.ow j o' h1
    rw [h2] at e1; cases e1
    rw [z, n] at e2; cases e2
  have self : ∀ q, Owns (σ.set i (some (.ref p))) (ρ.set i (.ow o)) i q → q = p := fun q ⟨⟨o', h1⟩, h2⟩ => by
    have hi : i < σ.length := by
      have := (List.getElem?_eq_some_iff.mp h2).1
      rw [List.length_set] at this; exact this
    rw [List.getElem?_set_self hi] at h2
    cases h2; rfl
  refine ⟨fun b x e => ?_, m.loc s H _ r.mem fun a ha => upd_ne fun z => nr (z ▸ ha), r.reg, by rw [List.length_set, List.length_set]; exact r.len, fun j d' z => ?_, fun j o' z => ?_, fun j q z => ?_, fun j k q h1 h2 => ?_⟩
  · have hb : b ≠ p := fun z => by subst z; rw [nF] at e; cases e
    rw [upd_ne hb]; exact r.sub _ _ e
  · by_cases hj : i = j
    · subst hj
      have hi : i < ρ.length := by
        have := (List.getElem?_eq_some_iff.mp z).1
        rw [List.length_set] at this; exact this
      rw [List.getElem?_set_self hi] at z
      cases z
    · rw [List.getElem?_set_ne hj] at z
      obtain ⟨w, h1, h2⟩ := r.sh j d' z
      exact ⟨w, by rw [List.getElem?_set_ne hj]; exact h1, h2⟩
  · by_cases hj : i = j
    · subst hj
      have hi : i < ρ.length := by
        have := (List.getElem?_eq_some_iff.mp z).1
        rw [List.length_set] at this; exact this
      rw [List.getElem?_set_self hi] at z
      cases z
      exact ⟨p, ho, List.getElem?_set_self (by rw [r.len]; exact hi), upd_same, ob⟩
    · rw [List.getElem?_set_ne hj] at z
      obtain ⟨q, ho', h1, h2, h3⟩ := r.ow j o' z
      have hq : q ≠ p := old j q ⟨⟨o', z⟩, h1⟩
      exact ⟨q, ho', by rw [List.getElem?_set_ne hj]; exact h1, by rw [upd_ne hq]; exact h2, h3⟩
  · by_cases hj : i = j
    · subst hj
      rw [self q z]; exact ⟨nF, nr⟩
    · exact r.owF j q (other j q hj z)
  · by_cases hj : i = j
    · subst hj
      by_cases hk : i = k
      · exact hk
      · exact absurd (self q h1) (old k q (other k q hk h2))
    · by_cases hk : i = k
      · subst hk
        exact absurd (self q h2) (old j q (other j q hj h1))
      · exact r.uq j k q (other j q hj h1) (other k q hk h2)
/-- an owned object is written -/
theorem Rel.write (r : Rel K m F H σ ρ s) {i : Nat} {o o' : Ob} {p : Addr} {ho : HO} (e : ρ[i]? = some (Sl.ow o)) (eσ : σ[i]? = some (some (V.ref p))) (ob : ObAt K F o' p ho) : Rel K m F (upd H p ho) σ (ρ.set i (.ow o')) s := by
  obtain ⟨nF, nr⟩ := r.owF i p ⟨⟨o, e⟩, eσ⟩
  have hi : i < ρ.length := (List.getElem?_eq_some_iff.mp e).1
  have back : ∀ j q, Owns σ (ρ.set i (.ow o')) j q → Owns σ ρ j q := fun j q ⟨⟨u, h1⟩, h2⟩ => by
    by_cases hj : i = j
    · subst hj; exact ⟨⟨o, e⟩, h2⟩
    · rw [List.getElem?_set_ne hj] at h1; exact ⟨⟨u, h1⟩, h2⟩
  refine ⟨fun b x z => ?_, m.loc s H _ r.mem fun a ha => upd_ne fun z => nr (z ▸ ha), r.reg, by rw [List.length_set]; exact r.len, fun j d' z => ?_, fun j u z => ?_, fun j q z => r.owF j q (back j q z), fun j k q h1 h2 => r.uq j k q (back j q h1) (back k q h2)⟩
  · have hb : b ≠ p := fun w => by subst w; rw [nF] at z; cases z
    rw [upd_ne hb]; exact r.sub _ _ z
  · by_cases hj : i = j
    · subst hj; rw [List.getElem?_set_self hi] at z; cases z
    · rw [List.getElem?_set_ne hj] at z; exact r.sh j d' z
  · by_cases hj : i = j
    · subst hj
      rw [List.getElem?_set_self hi] at z
      cases z
      exact ⟨p, ho, eσ, upd_same, ob⟩
    · rw [List.getElem?_set_ne hj] at z
      obtain ⟨q, ho', h1, h2, h3⟩ := r.ow j u z
      have hq : q ≠ p := fun w => hj (r.uq i j p ⟨⟨o, e⟩, eσ⟩ ⟨⟨u, z⟩, by rw [← w]; exact h1⟩)
      exact ⟨q, ho', h1, by rw [upd_ne hq]; exact h2, h3⟩
end
end DL

set_option Elab.async false
set_option linter.all false
set_option maxRecDepth 100000
/-! DG: calls that also know that no repr is under way (FnG, RoomG), from the law's call down. -/
namespace DL
open PySem PySem.Spec PyProof.Rows L2
/-- room for so many calls, and no repr around -/
structure RoomG (k : Nat) (A : Around) : Prop where
  r : Room k A
  g : A.guards = some []
theorem RoomG.mono {j k : Nat} {A : Around} (h : RoomG k A) (l : j ≤ k) : RoomG j A := ⟨h.r.mono l, h.g⟩
theorem RoomG.deeper {k : Nat} {A : Around} (h : RoomG (k + 1) A) (env : Env) : RoomG k (A.deeper env) := ⟨h.r.deeper env, h.g⟩
theorem RoomG.in1 {k : Nat} {A : Around} (h : RoomG (k + 1) A) : RoomG k A.in1 := ⟨h.r.in1, h.g⟩
theorem RoomG.make {k : Nat} {A : Around} (h : RoomG (k + 1) A) (C : Addr) (us : List Value) (kw : List (Str × Value)) : RoomG k (A.under (.builtin "type.__call__" ⟨.ref C :: us, kw⟩)) :=
  ⟨h.r.make C us kw, by
    have e : (A.under (.builtin "type.__call__" ⟨.ref C :: us, kw⟩)).guards = A.guards := by
      first | rfl | (simp [Around.under, Code.guards, Code.isGuard, pushGuards, guardIds])
    rw [e]; exact h.g⟩
/-- a def keeps its promise wherever it is called with no repr around -/
structure FnG (P : Program) (w : World) (K : PySem.W.Frag) (mg : Str → Option Value) (base : Heap) (CX : CXT) (k : Nat) (f : Addr) (fd : FuncData) (ps : List Str) (sp : Sp) : Prop where
  len : ∀ vs H Q E, sp vs H Q E → vs.length = ps.length
  run : ∀ (A : Around) (outer : List Env) (s : Shared) (H : Hp) (args : Args) (us : List Value) (vs : List V) (Q : VK) (E : XK),
    RoomG k A → Env0 P w K mg base A outer s H → BindsTo s fd args (ps.zip us) → Vals vs us → sp vs H Q E → codeAny (model P w) A (.call (.ref f) args) (CR CX outer P w H s Q E) s
section
variable {P : Program} {w : World} {K : PySem.W.Frag} {mg : Str → Option Value} {base : Heap} {CX : CXT} {k : Nat} {f : Addr} {fd : FuncData} {ps : List Str} {sp : Sp}
theorem fnG_of (F : FnOk P w K mg base CX k f fd ps sp) : FnG P w K mg base CX k f fd ps sp := ⟨F.len, fun A o s H a us vs Q E hr => F.run A o s H a us vs Q E hr.r⟩
theorem FnG.mono {j : Nat} (F : FnG P w K mg base CX j f fd ps sp) (h : j ≤ k) : FnG P w K mg base CX k f fd ps sp := ⟨F.len, fun A o s H a us vs Q E hr => F.run A o s H a us vs Q E (hr.mono h)⟩
theorem FnG.imp {sp' : Sp} (F : FnG P w K mg base CX k f fd ps sp) (h : ∀ vs H Q E, sp' vs H Q E → sp vs H Q E) : FnG P w K mg base CX k f fd ps sp' :=
  ⟨fun vs H Q E q => F.len _ _ _ _ (h vs H Q E q), fun A o s H a us vs Q E hr e b r q => F.run A o s H a us vs Q E hr e b r (h vs H Q E q)⟩
end
section
variable {X : Cx} {CX : CXT} {k : Nat} {f : Addr} {fd : FuncData} {ps : List Str} {sp : Sp} {dvs : List V} {ds : List Value} {E : XK} {x : Str} {p pos : Pos} {e : Expr} {es : List Expr} {t : TA}
theorem go_fn {pins : List (Addr × Obj)} {σ : L2.St} {H : Hp} {s : Shared} {Q : VK} {us : List Value} {vs : List V} (G : FnG X.prog X.w X.K X.mg X.base CX k f fd ps sp) (hr : RoomG k X.A) (hb : Binds X.K fd ps ds) (hd : Vals dvs ds) (hx : Passes CX X E)
    (I : Inv X pins σ H s) (rv : Vals vs us) (q : sp (vs ++ dvs) H Q E) : wpAny (model X.prog X.w) X.A (call (.ref f) us) (EP X pins σ Q) X.xe s := by
  have rr : Vals (vs ++ dvs) (us ++ ds) := rv.append hd
  have many : (us ++ ds).length = ps.length := rr.length.symm.trans (G.len _ _ _ _ q)
  refine wpAny_call (codeAny_mono (G.run X.A X.stack s H ⟨us, []⟩ (us ++ ds) (vs ++ dvs) Q E hr I.env0 (hb s us I.kIn many) rr q) fun r s' z => ?_)
  rcases r with er | (_ | _ | _ | u)
  · exact hx pins σ H s er s' I z
  · exact z.elim
  · exact z.elim
  · exact z.elim
  · exact I.after z
theorem pg_call (G : FnG X.prog X.w X.K X.mg X.base CX k f fd ps sp) (hr : RoomG k X.A) (hg : Gl X x) (hm : X.mg x = some (.ref f)) (hk : PySem.W.keepIn X.K (.ref f) = true) (hb : Binds X.K fd ps ds) (hd : Vals dvs ds) (hx : Passes CX X E) (ha : PA X (e :: es) t)
    (hdb : (x == ("__debug__" : Str)) = false := by decide) (he : starEach (e :: es) X.env = (false, eval e X.env) :: starEach es X.env := by rfl) (hpl : (backTo pos (starEach es X.env)).any (·.1) = false := by rfl) : PE X (.Call (.Name x p) (e :: es) [] pos) (tCall sp dvs E t) :=
  ⟨fun pins s σ H Q I h => wpAny_Call_Name_kw (ld_glob I hg hm (PySem.W.callWith_K (h₀ := X.base) I.ok.mod.kin hk (thn (ha.run pos pins s σ H _ I h) fun us s1 ⟨vs, H1, I1, rv, q⟩ => ⟨I1.kIn, go_fn G hr hb hd hx I1 rv q⟩) he hpl) hdb)⟩
end
section
variable {P : Program} {w : World} {K : PySem.W.Frag} {mg : Str → Option Value} {base : Heap}
/-- a def by its body -/
theorem Fun.okG {CX : CXT} {x qual : Str} {st : Stmt} {f : Addr} {fd : FuncData} {N ps : List Str} {k : Nat} {sp : Sp} (F : Fun K x qual st f fd) (S : FnScope N ps (defScope st)) (len : ∀ vs H Q E, sp vs H Q E → vs.length = ps.length)
    (body : ∀ (cdv : Value) (A : Around) (outer : List Env) (s : Shared) (H : Hp) (vs : List V) (Q : VK) (E : XK), RoomG k (A.deeper (envOfC qual (defScope st) s.heap.objs.size f cdv)) → sp vs H Q E →
      ∃ t, PSs (cxOf CX P w K mg base N qual (defScope st) f cdv A outer s H E) (defBody st) t ∧ t { nx := fun _ H' => Q .non H', rt := Q } (start N vs) H) : FnG P w K mg base CX (k + 1) f fd ps sp := by
  obtain ⟨oc, od, kV, doc, pm, an, cdv, ct, osl, rfl, lk, code⟩ := F.ex
  refine ⟨len, fun A outer s H args us vs Q E hr e0 hb rv hsp => ?_⟩
  have Kin : K.In s.heap := e0.mod.kin.keeps fun b o z => (e0.bs b o z).1
  have nl : s.heap.NoLimit := e0.mod.nolimit.keeps fun b o z => (e0.bs b o z).1
  have places : ∀ y ∈ ps.zip us, (defScope st).names.lookup y.1 = some .local ∨ ((defScope st).names.lookup y.1 = some .cell ∧ ((cellsFrom (s.heap.objs.size + 1) (defScope st).names []).lookup y.1).isSome = true) := fun y hy =>
    (S.par y.1 (List.of_mem_zip (show (y.1, y.2) ∈ ps.zip us from hy)).1).elim .inl fun q => .inr ⟨q, PySem.W.cellsFrom_some _ _ _ (.inl q)⟩
  refine codeAny_call_function hr.r.depth (Kin _ _ lk) rfl S.co S.gen rfl (PySem.W.codeRec_of Kin code) (hb _ _ _ _ (wpAny_newFunctionEnv_cells S.kind places fun env he s1 new => ?_))
  subst he
  obtain ⟨t, ht, hq⟩ := body cdv A outer s H vs Q E (hr.deeper _) hsp
  have J : Inv (cxOf CX P w K mg base N qual (defScope st) f cdv A outer s H E) [] (start N vs) H s1 := inv_start S hr.r.hd e0 (len _ _ _ _ hsp) rv new
  refine ⟨nl.keeps new.toInCall.keep, codeAny_func (wpAny_mono (ht.run [] s1 (start N vs) H _ J hq) (fun fl s' z => ?_) fun _ _ z => z)⟩
  rcases fl with _ | _ | _ | u
  · obtain ⟨σ', H', J', q⟩ := z
    exact ⟨V.non, H', J'.os, J'.bare, J'.base, J'.hok, rfl, q⟩
  · obtain ⟨_, _, _, q⟩ := z
    exact q.elim
  · obtain ⟨_, _, _, q⟩ := z
    exact q.elim
  · obtain ⟨v, σ', H', J', r', q⟩ := z
    exact ⟨v, H', J'.os, J'.bare, J'.base, J'.hok, r', q⟩
end
/-! ### the law's call -/
section
/-- the script as it is handed over: known, unless it is one of the module's own objects -/
def scrO (vs : List Value) : Obj := { cls := .type "list", data := .seq vs.toArray }
def scrH (K : PySem.W.Frag) (a : Addr) (vs : List Value) (ns : List Int) : Hp := fun b => if b = a ∧ K.lookup a = none then some (.frz (scrO vs) (.lst (ns.map V.int))) else none
theorem scrH_some {K : PySem.W.Frag} {a b : Addr} {vs : List Value} {ns : List Int} {u : HO} (h : scrH K a vs ns b = some u) : b = a ∧ K.lookup a = none ∧ u = .frz (scrO vs) (.lst (ns.map V.int)) := by
  unfold scrH at h
  split at h
  · rename_i c
    exact ⟨c.1, c.2, (Option.some.inj h).symm⟩
  · cases h
theorem scrH_ne {K : PySem.W.Frag} {a b : Addr} {vs : List Value} {ns : List Int} (h : b ≠ a) : scrH K a vs ns b = none := if_neg fun z => h z.1
theorem scrH_only {K : PySem.W.Frag} {a : Addr} {vs : List Value} {ns : List Int} : Only (scrH K a vs ns) := fun b => by
  cases e : scrH K a vs ns b with
  | none => exact .inl rfl
  | some u => exact .inr ⟨_, _, congrArg some (scrH_some e).2.2⟩
variable {P : Program} {w : World} {K : PySem.W.Frag} {mg mb : Str → Option Value} {k : Nat} {fa a : Addr} {fd : FuncData} {x : Str} {sp : Sp} {s : Shared} {vs : List Value} {ns : List Int}
theorem scr_ok (ha : s.heap.get? a = some (scrO vs)) (hi : IntsAre vs ns) (hl : ns.length ≤ sizeLine) : HOk P w (scrH K a vs ns) s.heap := fun b u e => by
  obtain ⟨rfl, _, rfl⟩ := scrH_some e
  exact ⟨ha, by rw [List.length_map]; exact hl, vs, _, vals_ints hi, ha⟩
theorem scr_seq (KX : K.In s.heap) (ha : s.heap.get? a = some (scrO vs)) (hi : IntsAre vs ns) (hl : ns.length ≤ sizeLine) : SqL K (scrH K a vs ns) a (ns.map V.int) := by
  cases hk : K.lookup a with
  | none => exact .inl (.inr ⟨scrO vs, if_pos ⟨rfl, hk⟩⟩)
  | some o =>
    have q : o = scrO vs := Option.some.inj ((KX a o hk).symm.trans ha)
    subst q
    exact .inr ⟨_, vs.toArray, _, hk, rfl, rfl, rfl, by rw [List.size_toArray, hi.length]; exact hl, by simpa using vals_ints hi⟩
theorem scr_end {H' : Hp} {s' : Shared} (ha : s.heap.get? a = some (scrO vs)) (un : Un (frs []) [] (scrH K a vs ns) H' s.heap s'.heap) (ok' : HOk P w H' s'.heap) : OldK s.heap s'.heap := OldK.of_keep fun b o e => by
  by_cases hb : b = a
  · subst hb
    cases q : scrH K b vs ns b with
    | none => exact un.keep b o e q (fun z => nomatch z) (fun z => nomatch z)
    | some u =>
      obtain ⟨_, _, rfl⟩ := scrH_some q
      have z := (ok' b _ (un.frzs b _ _ q)).1
      have e' : o = scrO vs := Option.some.inj (e.symm.trans ha)
      rw [e']
      exact z
  · exact un.keep b o e (scrH_ne hb) (fun z => nomatch z) (fun z => nomatch z)
/-- the law's def is called by the row, with no repr around -/
theorem law_goG (KX : K.In s.heap) (hns : s.heap.Ns mainGlobals mg) (hbn : s.heap.Ns builtinsNs mb) (hbb : ∀ x : Str, x ≠ "__name__" → mb x = bootBuiltins x) (nl : s.heap.NoLimit) (hg : s.gens = #[]) (ha : s.heap.get? a = some (scrO vs)) (hi : IntsAre vs ns) (hl : ns.length ≤ sizeLine) (hr : Room k callerA) (hsm : ∃ mm, s.heap.Ns sysModules mm)
    (G : ∀ base : Heap, K.In base → base.Ns mainGlobals mg → (∃ o, base.get? sysModules = some o) → FnG P w K mg base CX0 k fa fd [x] sp) (bind : ∀ (s : Shared) (u : Value), BindsTo s fd ⟨[u], []⟩ [(x, u)]) (hsp : ∀ H : Hp, Only H → SqL K H a (ns.map V.int) → sp [.ref a] H (fun v _ => v = .bl true) E0) :
    codeAny (model P w) callerA (.call (.ref fa) ⟨[.ref a], []⟩) (fun r s' => r = .ok (.ret (.bool true)) ∧ OldK s.heap s'.heap ∧ s'.os = s.os ∧ AllBare s'.gens) s := by
  have low : ∀ {b : Addr} {o : Obj}, s.heap.get? b = some o → scrH K a vs ns b = none → (hidT s.heap (scrH K a vs ns)).get? b = some o := fun e n => hidT_get e n
  have dictNe : ∀ {b : Addr} {o : Obj} {es : Array DictEntry} {ep : Nat}, s.heap.get? b = some o → o.data = .dict es ep → b ≠ a := fun {b o es ep} e q z => by
    rw [z, ha] at e
    have r := (congrArg Obj.data (Option.some.inj e)).trans q
    cases (show Data.seq vs.toArray _ = Data.dict es ep from r)
  have keepNs : ∀ {b : Addr} {m : Str → Option Value}, s.heap.Ns b m → (hidT s.heap (scrH K a vs ns)).Ns b m := fun {b m} ⟨o, es, ep, e, q, r⟩ => ⟨o, es, ep, low e (scrH_ne (dictNe e q)), q, r⟩
  have KB : K.In (hidT s.heap (scrH K a vs ns)) := fun b o e => low (KX b o e) (by
    cases q : scrH K a vs ns b with
    | none => rfl
    | some u =>
      obtain ⟨rfl, n, _⟩ := scrH_some q
      rw [n] at e
      cases e)
  have md : Mod K mg (hidT s.heap (scrH K a vs ns)) := by
    obtain ⟨mc, l1, l2⟩ := nl
    exact ⟨KB, keepNs hns, ⟨mb, keepNs hbn, hbb⟩, ⟨mc, keepNs l1, l2⟩⟩
  have sysL : ∃ o, (hidT s.heap (scrH K a vs ns)).get? sysModules = some o := by
    obtain ⟨mm, q⟩ := hsm
    obtain ⟨o, _, _, z, _⟩ := keepNs q
    exact ⟨o, z⟩
  have start : Env0 P w K mg (hidT s.heap (scrH K a vs ns)) callerA [] s (scrH K a vs ns) :=
    { frames := rfl, mod := md, bs := fun b o e => of_hidT e, bsz := Nat.le_of_eq (hidT_size _ _), funs := trivial, frf := (fun b z => nomatch z), hok := scr_ok ha hi hl, bare := .of_eq hg }
  refine codeAny_mono ((G _ KB (keepNs hns) sysL).run callerA [] s _ ⟨[.ref a], []⟩ [.ref a] [.ref a] _ _ ⟨hr, rfl⟩ start (bind s (.ref a)) (.cons rfl .nil) (hsp _ scrH_only (scr_seq KX ha hi hl))) fun r s' z => ?_
  rcases r with er | (_ | _ | _ | u)
  · exact z.elim
  · exact z.elim
  · exact z.elim
  · exact z.elim
  · obtain ⟨v, H', os, bare, un, ok', rv, q⟩ := z
    have q' : v = .bl true := q
    subst q'
    have e : u = Value.bool true := rv
    subst e
    exact ⟨rfl, scr_end ha un ok', os, bare⟩
end
/-- from the law's promise to the row's walk, with no repr around -/
theorem walkG {l : PySem.W.OpenLaw} {n k : Nat} {q : Program} {loose : List Str} {XP : (Str → Option Value) → Heap → Prop} {YP : World → Heap → Prop} {d : DefRec} {K : Params → PySem.W.Frag} {sp : PySem.W.Frag → Sp} {x : Str}
    (hn : l.most = some n) (hn2 : n ≤ sizeLine) (hdf : d.params.defaults = []) (hr : Room k callerA) (hno : importsNone q = true) (hY : ∀ (w : World) (h : Heap), YP w h → (K w.params).In h)
    (G : ∀ (w : World) (mg : Str → Option Value) (fa : Addr) (h : Heap), (K w.params).In h → h.Ns mainGlobals mg → mg d.name = some (.ref fa) →
      ∃ fd : FuncData, (∀ (s : Shared) (u : Value), BindsTo s fd ⟨[u], []⟩ [(x, u)]) ∧ ∀ base : Heap, (K w.params).In base → base.Ns mainGlobals mg → (∃ o, base.get? sysModules = some o) → FnG l.prog w (K w.params) mg base CX0 k fa fd [x] (sp (K w.params)))
    (hsp : ∀ (K : PySem.W.Frag) (H : Hp) (a : Addr) (ns : List Int), ns.length ≤ n → Only H → SqL K H a (ns.map V.int) → sp K [.ref a] H (fun v _ => v = .bl true) E0) : PySem.W.WalkO q loose XP YP l.row.toRowW d [] (fun f vs => PySem.call f vs) :=
  Att.attach_call hn hdf fun w _ s₁ mg mb fa o pm cd doc a vs ns Gr Y _ _ _ hmg hobj hints hlen hg => by
    have KX := hY w _ Y
    obtain ⟨fd, hb, hF⟩ := G w mg fa _ KX Gr.T.g hmg
    exact law_goG KX Gr.T.g Gr.T.b Gr.T.builtins Gr.T.nolimit hg hobj hints (Nat.le_trans hlen hn2) hr (by obtain ⟨mm, z, _⟩ := (Gr.T.seer hno).mods; exact ⟨mm, z⟩) hF hb fun H hO hS => hsp _ H a ns hlen hO hS
end DL

set_option Elab.async false
set_option linter.all false
set_option maxRecDepth 100000
namespace DL
open PySem PySem.Spec PyProof.Rows L2

/-! ### readings over data -/
abbrev DK (m : Mem) := D → List Sl → m.S → Prop
abbrev DT (m : Mem) := List Sl → m.S → DK m → Prop
abbrev DTT (m : Mem) := List Sl → m.S → (Bool → List Sl → m.S → Prop) → Prop
abbrev DTA (m : Mem) := List Sl → m.S → (List D → List Sl → m.S → Prop) → Prop
def up (K : PySem.W.Frag) (m : Mem) (t : DT m) : TE := fun σ H Q => ∃ F ρ s Qd, Rel K m F H σ ρ s ∧ t ρ s Qd ∧ ∀ d ρ' s' v F' H', Qd d ρ' s' → Rel K m F' H' σ ρ' s' → Stp m F H σ ρ s F' H' ρ' s' → Rep K F' d v → Q v H'
def upT (K : PySem.W.Frag) (m : Mem) (t : DTT m) : TT := fun σ H Q => ∃ F ρ s Qd, Rel K m F H σ ρ s ∧ t ρ s Qd ∧ ∀ b ρ' s' F' H', Qd b ρ' s' → Rel K m F' H' σ ρ' s' → Stp m F H σ ρ s F' H' ρ' s' → Q b H'
def upA (K : PySem.W.Frag) (m : Mem) (t : DTA m) : TA := fun σ H Q => ∃ F ρ s Qd, Rel K m F H σ ρ s ∧ t ρ s Qd ∧ ∀ ds ρ' s' vs F' H', Qd ds ρ' s' → Rel K m F' H' σ ρ' s' → Stp m F H σ ρ s F' H' ρ' s' → Reps K F' ds vs → Q vs H'

section
variable {X : Cx} {e a b c : Expr} {es : List Expr} {pos : Pos}
theorem PE.imp {t t' : TE} (h : PE X e t) (w : ∀ σ H Q, t' σ H Q → t σ H Q) : PE X e t' := ⟨fun pins s σ H Q I q => h.run pins s σ H Q I (w σ H Q q)⟩
theorem PT.imp {t t' : TT} (h : PT X e t) (w : ∀ σ H Q, t' σ H Q → t σ H Q) : PT X e t' := ⟨fun pins s σ H Q I q => h.run pins s σ H Q I (w σ H Q q)⟩
theorem PW.imp {t t' : TT} (h : PW X e t) (w : ∀ σ H Q, t' σ H Q → t σ H Q) : PW X e t' := ⟨fun wh pins s σ H Q I q => h.run wh pins s σ H Q I (w σ H Q q)⟩
theorem PA.imp {t t' : TA} (h : PA X es t) (w : ∀ σ H Q, t' σ H Q → t σ H Q) : PA X es t' := ⟨fun p pins s σ H Q I q => h.run p pins s σ H Q I (w σ H Q q)⟩
theorem PS.imp {st : Stmt} {t t' : TS} (h : PS X st t) (w : ∀ D σ H, t' D σ H → t D σ H) : PS X st t' := ⟨fun pins s σ H D I q => h.run pins s σ H D I (w D σ H q)⟩
theorem PSs.imp {st : List Stmt} {t t' : TS} (h : PSs X st t) (w : ∀ D σ H, t' D σ H → t D σ H) : PSs X st t' := ⟨fun pins s σ H D I q => h.run pins s σ H D I (w D σ H q)⟩
end

/-- a way by a bool -/
def ifB (b : Bool) (x y : Prop) : Prop := match b with
  | true => x
  | false => y
theorem ifB_t {x y : Prop} (h : ifB true x y) : x := h
theorem ifB_f {x y : Prop} (h : ifB false x y) : y := h
theorem ifB2 {b : Bool} {x y : Prop} (h1 : b = true → x) (h2 : b = false → y) : ifB b x y := by
  cases b with
  | true => exact h1 rfl
  | false => exact h2 rfl
theorem ifBd {c : Prop} [Decidable c] {x y : Prop} (h1 : c → x) (h2 : ¬ c → y) : ifB (decide c) x y := ifB2 (fun h => h1 (of_decide_eq_true h)) fun h => h2 (of_decide_eq_false h)
/-! ### names and constants -/
def dVar {m : Mem} (i : Nat) : DT m := fun ρ s Q => match ρ[i]? with
  | some (.sh d) => Q d ρ s
  | some (.ow o) => match o.d with
    | some d => Q d (ρ.set i (.sh d)) s
    | none => False
  | _ => False
def dC {m : Mem} (d : D) : DT m := fun ρ s Q => Q d ρ s
section
variable {X : Cx} {m : Mem} {e a b c : Expr} {es : List Expr} {pos : Pos}
theorem up_var {K : PySem.W.Frag} {i : Nat} {σ : L2.St} {H : Hp} {Q : VK} (h : up K m (dVar i) σ H Q) : tVar i σ H Q := by
  obtain ⟨F, ρ, s, Qd, r, ht, hQ⟩ := h
  unfold dVar at ht
  cases e : ρ[i]? with
  | none => rw [e] at ht; exact ht.elim
  | some sl =>
    rw [e] at ht
    cases sl with
    | no => exact ht.elim
    | sh d =>
      obtain ⟨v, h1, h2⟩ := r.sh i d e
      exact ⟨v, h1, hQ d ρ s v F H ht r Stp.refl h2⟩
    | ow o =>
      obtain ⟨p, ho, h1, h2, h3, h4, h5⟩ := r.own_at e
      cases hd : o.d with
      | none =>
        dsimp only at ht
        rw [hd] at ht
        exact ht.elim
      | some d =>
        dsimp only at ht
        rw [hd] at ht
        obtain ⟨r', st, rp⟩ := r.share hd e h1 h2 h3
        exact ⟨_, h1, hQ _ _ _ _ _ _ ht r' st rp⟩
theorem dv (i : Nat) {x : Str} (hN : X.N[i]? = some x := by rfl) (hv : Vis X.env.scope x := by first | exact Or.inl rfl | exact Or.inr (Or.inl rfl) | exact Or.inr (Or.inr rfl)) (hd : (x == ("__debug__" : Str)) = false := by decide)
    (hcd : (x == ("__classdict__" : Str)) = false := by decide) : PE X (.Name x pos) (up X.K m (dVar i)) := PE.imp (pv i hN hv hd hcd) fun _ _ _ h => up_var h
theorem up_const {K : PySem.W.Frag} {d : D} {v : V} {σ : L2.St} {H : Hp} {Q : VK} (hr : ∀ F, Rep K F d v) (h : up K m (dC d) σ H Q) : tC v σ H Q := by
  obtain ⟨F, ρ, s, Qd, r, ht, hQ⟩ := h
  exact hQ d ρ s v F H ht r Stp.refl (hr F)
theorem de_int {i : Int} {j pos} : PE X (.Constant (.int i) j pos) (up X.K m (dC (.int i))) := PE.imp pe_int fun _ _ _ h => up_const (d := .int i) (fun _ => rfl) h
theorem de_bl {b : Bool} {j pos} : PE X (.Constant (.bool b) j pos) (up X.K m (dC (.bl b))) := PE.imp pe_bl fun _ _ _ h => up_const (d := .bl b) (fun _ => rfl) h
theorem de_non {j pos} : PE X (.Constant .none j pos) (up X.K m (dC .non)) := PE.imp pe_non fun _ _ _ h => up_const (d := .non) (fun _ => rfl) h
theorem de_str {x : Str} {j pos} (hl : sOk x = true := by decide +kernel) : PE X (.Constant (.str x) j pos) (up X.K m (dC (.str x))) := PE.imp pe_str fun _ _ _ h => up_const (d := .str x) (fun _ => ⟨rfl, hl⟩) h
/-- a module's constant -/
theorem de_glob {x : Str} {d : D} {v : V} {u : Value} (hg : Gl X x) (hm : X.mg x = some u) (r : RelV v u) (hr : ∀ F, Rep X.K F d v) (hd : (x == ("__debug__" : Str)) = false := by decide) : PE X (.Name x pos) (up X.K m (dC d)) :=
  PE.imp (pe_glob hg hm r hd) fun _ _ _ h => up_const hr h
/-- a builtin's name as a value -/
theorem de_bltn {x : Str} {v : V} {u : Value} (hg : Gl X x) (hm : X.mg x = none) (hv : bootBuiltins x = some u) (r : RelV v u) (hn : x ≠ "__name__" := by decide) (hd : (x == ("__debug__" : Str)) = false := by decide) : PE X (.Name x pos) (up X.K m (dC (.any v))) :=
  PE.imp (pe_bltn hg hm hv r hn hd) fun _ _ _ h => up_const (d := .any v) (fun _ => rfl) h

/-! ### operations by data -/
def Op2 (K : PySem.W.Frag) (r : R2) (f : D → D → (D → Prop) → Prop) : Prop := ∀ F H dx dy x y Qd Q, Same F H → Rep K F dx x → Rep K F dy y → f dx dy Qd → (∀ d v F' H', Qd d → Grow F H F' H' → Rep K F' d v → Q v H') → r x y H Q
def Op1 (K : PySem.W.Frag) (r : V → Hp → VK → Prop) (f : D → (D → Prop) → Prop) : Prop := ∀ F H dx x Qd Q, Same F H → Rep K F dx x → f dx Qd → (∀ d v F' H', Qd d → Grow F H F' H' → Rep K F' d v → Q v H') → r x H Q
def OpN (K : PySem.W.Frag) (r : List V → Hp → VK → Prop) (f : List D → (D → Prop) → Prop) : Prop := ∀ F H ds vs Qd Q, Same F H → Reps K F ds vs → f ds Qd → (∀ d v F' H', Qd d → Grow F H F' H' → Rep K F' d v → Q v H') → r vs H Q
def OpM (K : PySem.W.Frag) (r : V → List V → Hp → VK → Prop) (f : D → List D → (D → Prop) → Prop) : Prop := ∀ F H dx x ds vs Qd Q, Same F H → Rep K F dx x → Reps K F ds vs → f dx ds Qd → (∀ d v F' H', Qd d → Grow F H F' H' → Rep K F' d v → Q v H') → r x vs H Q
/-- a comparison: its answer is a bool -/
def Cm2 (K : PySem.W.Frag) (r : R2) (f : D → D → (Bool → Prop) → Prop) : Prop := ∀ F H dx dy x y Qd Q, Same F H → Rep K F dx x → Rep K F dy y → f dx dy Qd → (∀ b F' H', Qd b → Grow F H F' H' → Q (.bl b) H') → r x y H Q
def dOp {m : Mem} (f : D → D → (D → Prop) → Prop) (ta tb : DT m) : DT m := fun ρ s Q => ta ρ s fun x ρ1 s1 => tb ρ1 s1 fun y ρ2 s2 => f x y fun d => Q d ρ2 s2
def dUn {m : Mem} (f : D → (D → Prop) → Prop) (ta : DT m) : DT m := fun ρ s Q => ta ρ s fun x ρ1 s1 => f x fun d => Q d ρ1 s1
def dCm {m : Mem} (f : D → D → (Bool → Prop) → Prop) (ta tb : DT m) : DT m := fun ρ s Q => ta ρ s fun x ρ1 s1 => tb ρ1 s1 fun y ρ2 s2 => f x y fun k => Q (.bl k) ρ2 s2
def dCmT {m : Mem} (f : D → D → (Bool → Prop) → Prop) (ta tb : DT m) : DTT m := fun ρ s Q => ta ρ s fun x ρ1 s1 => tb ρ1 s1 fun y ρ2 s2 => f x y fun k => Q k ρ2 s2
/-- two expressions in a row -/
theorem up2 {K : PySem.W.Frag} {ta tb : DT m} {F H : Hp} {σ : L2.St} {ρ : List Sl} {s : m.S} {R : V → V → Hp → Prop} {Qd : D → D → List Sl → m.S → Prop} (r : Rel K m F H σ ρ s) (h : ta ρ s fun x ρ1 s1 => tb ρ1 s1 fun y ρ2 s2 => Qd x y ρ2 s2)
    (hR : ∀ dx dy x y F2 H2 ρ2 s2, Qd dx dy ρ2 s2 → Rel K m F2 H2 σ ρ2 s2 → Stp m F H σ ρ s F2 H2 ρ2 s2 → Rep K F2 dx x → Rep K F2 dy y → R x y H2) : up K m ta σ H fun x H1 => up K m tb σ H1 fun y H2 => R x y H2 :=
  ⟨F, ρ, s, _, r, h, fun dx ρ1 s1 x F1 H1 q1 r1 st1 rx => ⟨F1, ρ1, s1, _, r1, q1, fun dy ρ2 s2 y F2 H2 q2 r2 st2 ry => hR dx dy x y F2 H2 ρ2 s2 q2 r2 (st1.trans st2) (Rep.mono st2.ext _ _ rx) ry⟩⟩
theorem up_op {K : PySem.W.Frag} {r : R2} {f : D → D → (D → Prop) → Prop} {ta tb : DT m} {σ : L2.St} {H : Hp} {Q : VK} (ho : Op2 K r f) (h : up K m (dOp f ta tb) σ H Q) : tOp r (up K m ta) (up K m tb) σ H Q := by
  obtain ⟨F, ρ, s, Qd, rl, ht, hQ⟩ := h
  refine up2 (R := fun x y H2 => r x y H2 Q) rl ht fun dx dy x y F2 H2 ρ2 s2 q r2 st rx ry => ?_
  exact ho F2 H2 dx dy x y _ Q r2.sub rx ry q fun d v F' H' qd g rv => hQ d ρ2 s2 v F' H' qd (r2.grow g) (st.trans g.stp) rv
theorem up_cm {K : PySem.W.Frag} {r : R2} {f : D → D → (Bool → Prop) → Prop} {ta tb : DT m} {σ : L2.St} {H : Hp} {Q : VK} (ho : Cm2 K r f) (h : up K m (dCm f ta tb) σ H Q) : tOp r (up K m ta) (up K m tb) σ H Q := by
  obtain ⟨F, ρ, s, Qd, rl, ht, hQ⟩ := h
  refine up2 (R := fun x y H2 => r x y H2 Q) rl ht fun dx dy x y F2 H2 ρ2 s2 q r2 st rx ry => ?_
  exact ho F2 H2 dx dy x y _ Q r2.sub rx ry q fun b F' H' qd g => hQ (.bl b) ρ2 s2 _ F' H' qd (r2.grow g) (st.trans g.stp) rfl
variable {ta tb tc : DT m}
theorem de_op {op : Operator} {r : R2} {f : D → D → (D → Prop) → Prop} (ho : OpR X (binaryOp op) r) (hf : Op2 X.K r f) (ha : PE X a (up X.K m ta)) (hb : PE X b (up X.K m tb)) : PE X (.BinOp a op b pos) (up X.K m (dOp f ta tb)) :=
  PE.imp (pe_op ho ha hb) fun _ _ _ h => up_op hf h
theorem de_un {op : UnaryOp} {r : V → Hp → VK → Prop} {f : D → (D → Prop) → Prop} (ho : UnR X (unaryOp op) r) (hf : Op1 X.K r f) (ha : PE X a (up X.K m ta)) : PE X (.UnaryOp op a pos) (up X.K m (dUn f ta)) :=
  PE.imp (pe_un ho ha) fun σ H Q h => by
    obtain ⟨F, ρ, s, Qd, rl, ht, hQ⟩ := h
    exact ⟨F, ρ, s, _, rl, ht, fun dx ρ1 s1 x F1 H1 q1 r1 st1 rx => hf F1 H1 dx x _ Q r1.sub rx q1 fun d v F' H' qd g rv => hQ d ρ1 s1 v F' H' qd (r1.grow g) (st1.trans g.stp) rv⟩
theorem de_cmp {op : CmpOp} {r : R2} {f : D → D → (Bool → Prop) → Prop} (ho : OpR X (compareOp op) r) (hf : Cm2 X.K r f) (ha : PE X a (up X.K m ta)) (hb : PE X b (up X.K m tb)) (hm : behindInMarks op b = false := by first | exact nomark _ | rfl) :
    PE X (.Compare a [op] [b] pos) (up X.K m (dCm f ta tb)) := PE.imp (pe_cmpR ho ha hb hm) fun _ _ _ h => up_cm hf h
theorem dt_cmp {op : CmpOp} {r : R2} {f : D → D → (Bool → Prop) → Prop} (ho : OpR X (compareOp op) r) (hf : Cm2 X.K r f) (ha : PE X a (up X.K m ta)) (hb : PE X b (up X.K m tb)) (hm : behindInMarks op b = false := by first | exact nomark _ | rfl) :
    PT X (.Compare a [op] [b] pos) (upT X.K m (dCmT f ta tb)) := PT.imp (pt_cmpR ho ha hb hm) fun σ H Q h => by
  obtain ⟨F, ρ, s, Qd, rl, ht, hQ⟩ := h
  refine up2 (R := fun x y H2 => r x y H2 _) rl ht fun dx dy x y F2 H2 ρ2 s2 q r2 st rx ry => ?_
  exact hf F2 H2 dx dy x y _ _ r2.sub rx ry q fun b F' H' qd g => ⟨b, rfl, hQ b ρ2 s2 F' H' qd (r2.grow g) (st.trans g.stp)⟩
/-- a op1 b op2 c -/
def dCh {m : Mem} (f g : D → D → (Bool → Prop) → Prop) (ta tb tc : DT m) : DT m := fun ρ s Q => ta ρ s fun x ρ1 s1 => tb ρ1 s1 fun y ρ2 s2 => f x y fun k => ifB k (tc ρ2 s2 fun z ρ3 s3 => g y z fun k' => Q (.bl k') ρ3 s3) (Q (.bl false) ρ2 s2)
def dChT {m : Mem} (f g : D → D → (Bool → Prop) → Prop) (ta tb tc : DT m) : DTT m := fun ρ s Q => ta ρ s fun x ρ1 s1 => tb ρ1 s1 fun y ρ2 s2 => f x y fun k => ifB k (tc ρ2 s2 fun z ρ3 s3 => g y z fun k' => Q k' ρ3 s3) (Q false ρ2 s2)
theorem de_chain {op op' : CmpOp} {r r' : R2} {f g : D → D → (Bool → Prop) → Prop} (ho : OpR X (compareOp op) r) (ho' : OpR X (compareOp op') r') (hf : Cm2 X.K r f) (hg : Cm2 X.K r' g)
    (ha : PE X a (up X.K m ta)) (hb : PE X b (up X.K m tb)) (hc : PE X c (up X.K m tc)) (hm : lastMarks [op, op'] [b, c] = false := by with_unfolding_all rfl) : PE X (.Compare a [op, op'] [b, c] pos) (up X.K m (dCh f g ta tb tc)) :=
  PE.imp (pe_chain ho ho' ha hb hc hm) fun σ H Q h => by
    obtain ⟨F, ρ, s, Qd, rl, ht, hQ⟩ := h
    refine up2 (R := fun x y H2 => r x y H2 _) rl ht fun dx dy x y F2 H2 ρ2 s2 q r2 st rx ry => ?_
    refine hf F2 H2 dx dy x y _ _ r2.sub rx ry q fun b F' H' qd gr => ⟨b, rfl, ?_⟩
    cases b with
    | false => exact iteF (hQ (.bl false) ρ2 s2 _ F' H' (ifB_f qd) (r2.grow gr) (st.trans gr.stp) rfl)
    | true =>
      have qd := ifB_t qd
      refine iteT ⟨F', ρ2, s2, _, r2.grow gr, qd, fun dz ρ3 s3 z F3 H3 q3 r3 st3 rz => ?_⟩
      exact hg F3 H3 dy dz y z _ _ r3.sub (Rep.mono (gr.fF.trans st3.ext) _ _ ry) rz q3 fun b' F4 H4 q4 g4 => hQ (.bl b') ρ3 s3 _ F4 H4 q4 (r3.grow g4) ((st.trans gr.stp).trans (st3.trans g4.stp)) rfl
theorem dt_chain {op op' : CmpOp} {r r' : R2} {f g : D → D → (Bool → Prop) → Prop} (ho : OpR X (compareOp op) r) (ho' : OpR X (compareOp op') r') (hf : Cm2 X.K r f) (hg : Cm2 X.K r' g)
    (ha : PE X a (up X.K m ta)) (hb : PE X b (up X.K m tb)) (hc : PE X c (up X.K m tc)) (hm : lastMarks [op, op'] [b, c] = false := by with_unfolding_all rfl) : PT X (.Compare a [op, op'] [b, c] pos) (upT X.K m (dChT f g ta tb tc)) :=
  PT.imp (pt_chain ho ho' ha hb hc hm) fun σ H Q h => by
    obtain ⟨F, ρ, s, Qd, rl, ht, hQ⟩ := h
    refine up2 (R := fun x y H2 => r x y H2 _) rl ht fun dx dy x y F2 H2 ρ2 s2 q r2 st rx ry => ?_
    refine hf F2 H2 dx dy x y _ _ r2.sub rx ry q fun b F' H' qd gr => ⟨b, rfl, ?_⟩
    cases b with
    | false => exact iteF ⟨false, rfl, hQ false ρ2 s2 F' H' (ifB_f qd) (r2.grow gr) (st.trans gr.stp)⟩
    | true =>
      have qd := ifB_t qd
      refine iteT ⟨F', ρ2, s2, _, r2.grow gr, qd, fun dz ρ3 s3 z F3 H3 q3 r3 st3 rz => ?_⟩
      exact hg F3 H3 dy dz y z _ _ r3.sub (Rep.mono (gr.fF.trans st3.ext) _ _ ry) rz q3 fun b' F4 H4 q4 g4 => ⟨b', rfl, hQ b' ρ3 s3 F4 H4 q4 (r3.grow g4) ((st.trans gr.stp).trans (st3.trans g4.stp))⟩

/-! ### tests -/
/-- a value's truth -/
def tru : D → Option Bool
  | .non => some false
  | .bl b => some b
  | .int i => some (i != 0)
  | .str x => some ((x.length : Int) != 0)
  | .lst xs => some (!xs.isEmpty)
  | .tup xs => some (!xs.isEmpty)
  | .dic ks _ => some (!ks.isEmpty)
  | _ => none
theorem reps_empty {K : PySem.W.Frag} {F : Hp} {ds : List D} {vs : List V} (h : Reps K F ds vs) : vs.isEmpty = ds.isEmpty := by
  have := h.length
  cases ds <;> cases vs <;> simp_all
theorem tru_rep {K : PySem.W.Frag} {F H : Hp} {d : D} {v : V} {k : Bool} (h : Rep K F d v) (sub : Same F H) (e : tru d = some k) : TruV K v H k := by
  cases d with
  | non => cases h; exact (Option.some.inj e).symm
  | bl b => cases h; exact (Option.some.inj e).symm
  | int i => cases h; exact (Option.some.inj e).symm
  | str x => obtain ⟨rfl, hl⟩ := h; exact ⟨Nat.le_trans (sOk_len hl) (Nat.le_trans (Nat.le_add_right _ 2) strLim_line), (Option.some.inj e).symm⟩
  | lst xs =>
    obtain ⟨a, vs, rfl, h1, _, r⟩ := h
    exact .inl ⟨vs, .inl (.inl (sub _ _ h1)), by rw [reps_empty r]; exact (Option.some.inj e).symm⟩
  | tup xs =>
    obtain ⟨a, vs, rfl, h1, _, r⟩ := h
    exact .inr (.inl ⟨vs, Same.seqT sub h1, by rw [reps_empty r]; exact (Option.some.inj e).symm⟩)
  | dic ks ds =>
    obtain ⟨a, kvs, rfl, h1, _, r, _⟩ := h
    refine .inr (.inr ⟨kvs, sub _ _ h1, ?_⟩)
    have e' := (Option.some.inj e).symm
    rw [e', ← r]
    cases kvs <;> rfl
  | ins _ _ _ => cases e
  | any _ => cases e
  | fz _ => cases e
  | exc _ _ _ => cases e
  | cau _ _ _ _ => cases e
  | exk _ _ _ => cases e
def dTr {m : Mem} (ta : DT m) : DTT m := fun ρ s Q => ta ρ s fun x ρ1 s1 => ∃ k, tru x = some k ∧ Q k ρ1 s1
theorem dt_truth (ha : PE X a (up X.K m ta)) (he : ∀ whole, isTrue a X.env whole = (do let v ← whole; standAt a.pos; holding [v] (truthy v)) := by intro _; rfl) : PT X a (upT X.K m (dTr ta)) :=
  PT.imp (pt_truth ha he) fun σ H Q h => by
    obtain ⟨F, ρ, s, Qd, rl, ht, hQ⟩ := h
    exact ⟨F, ρ, s, _, rl, ht, fun dx ρ1 s1 x F1 H1 ⟨k, e, q1⟩ r1 st1 rx => ⟨k, tru_rep rx r1.sub e, hQ k ρ1 s1 F1 H1 q1 r1 st1⟩⟩
variable {tA tB : DTT m} {rest : List Expr}
def dAndT {m : Mem} (t u : DTT m) : DTT m := fun ρ s Q => t ρ s fun k ρ1 s1 => ifB k (u ρ1 s1 Q) (Q false ρ1 s1)
def dOrT {m : Mem} (t u : DTT m) : DTT m := fun ρ s Q => t ρ s fun k ρ1 s1 => ifB k (Q true ρ1 s1) (u ρ1 s1 Q)
def dNotT {m : Mem} (t : DTT m) : DTT m := fun ρ s Q => t ρ s fun k ρ1 s1 => Q (!k) ρ1 s1
theorem dw_and1 (ha : PT X a (upT X.K m tA)) : PW X (.BoolOp .And [a] pos) (upT X.K m tA) := pw_and1 ha
theorem dw_or1 (ha : PT X a (upT X.K m tA)) : PW X (.BoolOp .Or [a] pos) (upT X.K m tA) := pw_or1 ha
theorem dw_and (ha : PT X a (upT X.K m tA)) (hb : PW X (.BoolOp .And (b :: rest) pos) (upT X.K m tB)) : PW X (.BoolOp .And (a :: b :: rest) pos) (upT X.K m (dAndT tA tB)) :=
  PW.imp (pw_and ha hb) fun σ H Q h => by
    obtain ⟨F, ρ, s, Qd, rl, ht, hQ⟩ := h
    refine ⟨F, ρ, s, _, rl, ht, fun k ρ1 s1 F1 H1 q1 r1 st1 => ?_⟩
    cases k with
    | true =>
      have q1 := ifB_t q1
      exact iteT ⟨F1, ρ1, s1, _, r1, q1, fun k ρ2 s2 F2 H2 q2 r2 st2 => hQ k ρ2 s2 F2 H2 q2 r2 (st1.trans st2)⟩
    | false => exact iteF (hQ false ρ1 s1 F1 H1 (ifB_f q1) r1 st1)
theorem dw_or (ha : PT X a (upT X.K m tA)) (hb : PW X (.BoolOp .Or (b :: rest) pos) (upT X.K m tB)) : PW X (.BoolOp .Or (a :: b :: rest) pos) (upT X.K m (dOrT tA tB)) :=
  PW.imp (pw_or ha hb) fun σ H Q h => by
    obtain ⟨F, ρ, s, Qd, rl, ht, hQ⟩ := h
    refine ⟨F, ρ, s, _, rl, ht, fun k ρ1 s1 F1 H1 q1 r1 st1 => ?_⟩
    cases k with
    | false =>
      exact iteF ⟨F1, ρ1, s1, _, r1, ifB_f q1, fun k ρ2 s2 F2 H2 q2 r2 st2 => hQ k ρ2 s2 F2 H2 q2 r2 (st1.trans st2)⟩
    | true => exact iteT (hQ true ρ1 s1 F1 H1 (ifB_t q1) r1 st1)
theorem dt_not (ha : PT X a (upT X.K m tA)) : PT X (.UnaryOp .Not a pos) (upT X.K m (dNotT tA)) :=
  PT.imp (pt_not ha) fun σ H Q h => by
    obtain ⟨F, ρ, s, Qd, rl, ht, hQ⟩ := h
    exact ⟨F, ρ, s, _, rl, ht, fun k ρ1 s1 F1 H1 q1 r1 st1 => hQ (!k) ρ1 s1 F1 H1 q1 r1 st1⟩
/-- a if t else b -/
def dIfE {m : Mem} (t : DTT m) (ta tb : DT m) : DT m := fun ρ s Q => t ρ s fun k ρ1 s1 => ifB k (ta ρ1 s1 Q) (tb ρ1 s1 Q)
theorem de_ifExp (hc : PT X c (upT X.K m tA)) (ha : PE X a (up X.K m ta)) (hb : PE X b (up X.K m tb)) : PE X (.IfExp c a b pos) (up X.K m (dIfE tA ta tb)) :=
  PE.imp (pe_ifExp hc ha hb) fun σ H Q h => by
    obtain ⟨F, ρ, s, Qd, rl, ht, hQ⟩ := h
    refine ⟨F, ρ, s, _, rl, ht, fun k ρ1 s1 F1 H1 q1 r1 st1 => ?_⟩
    cases k with
    | true =>
      have q1 := ifB_t q1
      exact iteT ⟨F1, ρ1, s1, _, r1, q1, fun d ρ2 s2 v F2 H2 q2 r2 st2 rv => hQ d ρ2 s2 v F2 H2 q2 r2 (st1.trans st2) rv⟩
    | false => exact iteF ⟨F1, ρ1, s1, _, r1, ifB_f q1, fun d ρ2 s2 v F2 H2 q2 r2 st2 rv => hQ d ρ2 s2 v F2 H2 q2 r2 (st1.trans st2) rv⟩

/-! ### argument lists, displays, calls -/
def daNil {m : Mem} : DTA m := fun ρ s Q => Q [] ρ s
def daCons {m : Mem} (t : DT m) (u : DTA m) : DTA m := fun ρ s Q => t ρ s fun d ρ1 s1 => u ρ1 s1 fun ds ρ2 s2 => Q (d :: ds) ρ2 s2
theorem da_nil : PA X [] (upA X.K m daNil) := PA.imp pa_nil fun σ H Q h => by
  obtain ⟨F, ρ, s, Qd, rl, ht, hQ⟩ := h
  exact hQ [] ρ s [] F H ht rl Stp.refl .nil
theorem up_cons {K : PySem.W.Frag} {t : DT m} {u : DTA m} {σ : L2.St} {H : Hp} {Q : List V → Hp → Prop} (h : upA K m (daCons t u) σ H Q) : tCons (up K m t) (upA K m u) σ H Q := by
  obtain ⟨F, ρ, s, Qd, rl, ht, hQ⟩ := h
  exact ⟨F, ρ, s, _, rl, ht, fun d ρ1 s1 v F1 H1 q1 r1 st1 rv => ⟨F1, ρ1, s1, _, r1, q1, fun ds ρ2 s2 vs F2 H2 q2 r2 st2 rs => hQ (d :: ds) ρ2 s2 (v :: vs) F2 H2 q2 r2 (st1.trans st2) (.cons (Rep.mono st2.ext _ _ rv) rs)⟩⟩
theorem da_cons {t : DT m} {u : DTA m} (ha : PE X e (up X.K m t)) (hr : PA X es (upA X.K m u)) (hs : starEach (e :: es) X.env = (false, eval e X.env) :: starEach es X.env := by rfl) : PA X (e :: es) (upA X.K m (daCons t u)) :=
  PA.imp (pa_cons ha hr hs) fun _ _ _ h => up_cons h
def dTup {m : Mem} (t : DTA m) : DT m := fun ρ s Q => t ρ s fun ds ρ1 s1 => ds.length ≤ sizeLine ∧ Q (.tup ds) ρ1 s1
def dLst {m : Mem} (t : DTA m) : DT m := fun ρ s Q => t ρ s fun ds ρ1 s1 => ds.length ≤ sizeLine ∧ Q (.lst ds) ρ1 s1
variable {u : DTA m}
theorem de_tup {k : Nat} (h : PA X es (upA X.K m u)) : PE X (.Tuple es k pos) (up X.K m (dTup u)) := PE.imp (pe_tup h) fun σ H Q h => by
  obtain ⟨F, ρ, s, Qd, rl, ht, hQ⟩ := h
  refine ⟨F, ρ, s, _, rl, ht, fun ds ρ1 s1 vs F1 H1 ⟨hl, q1⟩ r1 st1 rs => ⟨by rw [rs.length]; exact hl, fun p np => ?_⟩⟩
  have g : Grow F1 H1 (upd F1 p (.tup vs)) (upd H1 p (.tup vs)) := Grow.new r1.sub np
  exact hQ _ ρ1 s1 _ _ _ q1 (r1.grow g) (st1.trans g.stp) ⟨p, vs, rfl, .inl (.inl upd_same), by rw [rs.length]; exact hl, Reps.mono g.fF _ _ rs⟩
theorem de_lst (h : PA X es (upA X.K m u)) : PE X (.List es pos) (up X.K m (dLst u)) := PE.imp (pe_lst h) fun σ H Q h => by
  obtain ⟨F, ρ, s, Qd, rl, ht, hQ⟩ := h
  refine ⟨F, ρ, s, _, rl, ht, fun ds ρ1 s1 vs F1 H1 ⟨hl, q1⟩ r1 st1 rs => ⟨by rw [rs.length]; exact hl, fun p np => ?_⟩⟩
  have g : Grow F1 H1 (upd F1 p (.lst vs)) (upd H1 p (.lst vs)) := Grow.new r1.sub np
  exact hQ _ ρ1 s1 _ _ _ q1 (r1.grow g) (st1.trans g.stp) ⟨p, vs, rfl, upd_same, by rw [rs.length]; exact hl, Reps.mono g.fF _ _ rs⟩
/-- a call of a builtin by name: by its rule over data -/
def dB {m : Mem} (f : List D → (D → Prop) → Prop) (t : DTA m) : DT m := fun ρ s Q => t ρ s fun ds ρ1 s1 => f ds fun d => Q d ρ1 s1
theorem up_b {K : PySem.W.Frag} {r : List V → Hp → VK → Prop} {f : List D → (D → Prop) → Prop} {σ : L2.St} {H : Hp} {Q : VK} (hf : OpN K r f) (h : up K m (dB f u) σ H Q) : tCB r (upA K m u) σ H Q := by
  obtain ⟨F, ρ, s, Qd, rl, ht, hQ⟩ := h
  exact ⟨F, ρ, s, _, rl, ht, fun ds ρ1 s1 vs F1 H1 q1 r1 st1 rs => hf F1 H1 ds vs _ Q r1.sub rs q1 fun d v F2 H2 q2 g rv => hQ d ρ1 s1 v F2 H2 q2 (r1.grow g) (st1.trans g.stp) rv⟩
variable {x : Str} {p : Pos} {id T : String} {r : List V → Hp → VK → Prop} {f : List D → (D → Prop) → Prop}
theorem de_callB (hc : CallR X (.builtin id) r) (hf : OpN X.K r f) (hg : Gl X x) (hm : X.mg x = none) (hv : bootBuiltins x = some (.builtin id)) (ha : PA X (e :: es) (upA X.K m u)) (hn : x ≠ "__name__" := by decide) (hdb : (x == ("__debug__" : Str)) = false := by decide)
    (he : starEach (e :: es) X.env = (false, eval e X.env) :: starEach es X.env := by rfl) (hpl : (backTo pos (starEach es X.env)).any (·.1) = false := by rfl) : PE X (.Call (.Name x p) (e :: es) [] pos) (up X.K m (dB f u)) :=
  PE.imp (pe_callB hc hg hm hv ha hn hdb he hpl) fun _ _ _ h => up_b hf h
theorem de_callTy (hc : CallR X (.type T) r) (hf : OpN X.K r f) (hg : Gl X x) (hm : X.mg x = none) (hv : bootBuiltins x = some (.type T)) (ha : PA X (e :: es) (upA X.K m u)) (hn : x ≠ "__name__" := by decide) (hdb : (x == ("__debug__" : Str)) = false := by decide)
    (he : starEach (e :: es) X.env = (false, eval e X.env) :: starEach es X.env := by rfl) (hpl : (backTo pos (starEach es X.env)).any (·.1) = false := by rfl) : PE X (.Call (.Name x p) (e :: es) [] pos) (up X.K m (dB f u)) :=
  PE.imp (pe_callTy hc hg hm hv ha hn hdb he hpl) fun _ _ _ h => up_b hf h
/-! ### methods of built-in types -/
def tyD : D → String → Bool
  | .str _, T => T == "str"
  | .lst _, T => T == "list"
  | .dic _ _, T => T == "dict"
  | _, _ => false
theorem tyD_ok {K : PySem.W.Frag} {F H : Hp} {d : D} {v : V} {T : String} (h : Rep K F d v) (sub : Same F H) (e : tyD d T = true) : tyV K T v H := by
  cases d with
  | str x => obtain ⟨rfl, _⟩ := h; exact beq_iff_eq.mp e
  | lst xs => obtain ⟨a, vs, rfl, h1, _, _⟩ := h; exact .inl ⟨beq_iff_eq.mp e, vs, .inl (.inl (sub _ _ h1))⟩
  | dic ks ds => obtain ⟨a, kvs, rfl, h1, _, _⟩ := h; exact .inr (.inr (.inl ⟨beq_iff_eq.mp e, .inl ⟨kvs, sub _ _ h1⟩⟩))
  | _ => exact absurd e (by simp [tyD])
def dMt {m : Mem} (T : String) (f : D → List D → (D → Prop) → Prop) (to : DT m) (t : DTA m) : DT m := fun ρ s Q => to ρ s fun x ρ1 s1 => tyD x T = true ∧ t ρ1 s1 fun ds ρ2 s2 => f x ds fun d => Q d ρ2 s2
def dMt0 {m : Mem} (T : String) (f : D → List D → (D → Prop) → Prop) (to : DT m) : DT m := fun ρ s Q => to ρ s fun x ρ1 s1 => tyD x T = true ∧ f x [] fun d => Q d ρ1 s1
variable {o : Expr} {to : DT m} {name : Str} {apos cpos : Pos} {rM : V → List V → Hp → VK → Prop} {fM : D → List D → (D → Prop) → Prop}
theorem de_m (pa : PlainAttrs T) (slot : Slot T name id) (hty : typeOf (.builtin id) = pure (.type "method_descriptor")) (hm : MtR X id rM) (hf : OpM X.K rM fM) (ho : PE X o (up X.K m to)) (ha : PA X (e :: es) (upA X.K m u))
    (hbase : attributeBase o name X.env (eval o X.env) = eval o X.env := by rfl)
    (hfew : ((backTo cpos (starEach (e :: es) X.env)).all (fun x => !x.1) && (backToKw cpos (keywordEach [] X.env)).all (fun x => x.1.isSome)
      && decide ((e :: es).length + ([] : List Keyword).length + (if ([] : List Keyword).isEmpty then 0 else 1) < 30)) = true := by rfl)
    (hline : (apos.endLine == cpos.line) = true := by rfl) (hs : starEach (e :: es) X.env = (false, eval e X.env) :: starEach es X.env := by rfl) (hplain : (backTo cpos (starEach es X.env)).any (·.1) = false := by rfl) :
    PE X (.Call (.Attribute o name apos) (e :: es) [] cpos) (up X.K m (dMt T fM to u)) := PE.imp (pe_bm pa slot hty hm ho ha hbase hfew hline hs hplain) fun σ H Q h => by
  obtain ⟨F, ρ, s, Qd, rl, ht, hQ⟩ := h
  refine ⟨F, ρ, s, _, rl, ht, fun dx ρ1 s1 x F1 H1 ⟨hT, q1⟩ r1 st1 rx => ⟨tyD_ok rx r1.sub hT, F1, ρ1, s1, _, r1, q1, fun ds ρ2 s2 vs F2 H2 q2 r2 st2 rs => ?_⟩⟩
  exact hf F2 H2 dx x ds vs _ Q r2.sub (Rep.mono st2.ext _ _ rx) rs q2 fun d v F3 H3 q3 g rv => hQ d ρ2 s2 v F3 H3 q3 (r2.grow g) ((st1.trans st2).trans g.stp) rv
theorem de_m0 (pa : PlainAttrs T) (slot : Slot T name id) (hty : typeOf (.builtin id) = pure (.type "method_descriptor")) (hm : MtR X id rM) (hf : OpM X.K rM fM) (ho : PE X o (up X.K m to))
    (hbase : attributeBase o name X.env (eval o X.env) = eval o X.env := by rfl) (hline : (apos.endLine == cpos.line) = true := by rfl) : PE X (.Call (.Attribute o name apos) [] [] cpos) (up X.K m (dMt0 T fM to)) :=
  PE.imp (pe_bm0 pa slot hty hm ho hbase hline) fun σ H Q h => by
    obtain ⟨F, ρ, s, Qd, rl, ht, hQ⟩ := h
    refine ⟨F, ρ, s, _, rl, ht, fun dx ρ1 s1 x F1 H1 ⟨hT, q1⟩ r1 st1 rx => ⟨tyD_ok rx r1.sub hT, ?_⟩⟩
    exact hf F1 H1 dx x [] [] _ Q r1.sub rx .nil q1 fun d v F3 H3 q3 g rv => hQ d ρ1 s1 v F3 H3 q3 (r1.grow g) (st1.trans g.stp) rv
/-! ### subscripts, slices -/
theorem de_ix {r2 : R2} {f2 : D → D → (D → Prop) → Prop} (hr : IxR X r2) (hf : Op2 X.K r2 f2) (ha : PE X a (up X.K m ta)) (hb : PE X b (up X.K m tb)) (hs : PlainIx b := by exact fun _ _ => rfl) : PE X (.Subscript a b pos) (up X.K m (dOp f2 ta tb)) :=
  PE.imp (pe_ix hr ha hb hs) fun _ _ _ h => up_op hf h
abbrev DTO (m : Mem) := List Sl → m.S → (Option Int → List Sl → m.S → Prop) → Prop
def upO (K : PySem.W.Frag) (m : Mem) (t : DTO m) : TO := fun σ H Q => ∃ F ρ s Qd, Rel K m F H σ ρ s ∧ t ρ s Qd ∧ ∀ b ρ' s' F' H', Qd b ρ' s' → Rel K m F' H' σ ρ' s' → Stp m F H σ ρ s F' H' ρ' s' → Q b H'
theorem PO.imp {eo : Option Expr} {t t' : TO} (h : PO X eo t) (w : ∀ σ H Q, t' σ H Q → t σ H Q) : PO X eo t' := ⟨fun pins s σ H Q I q => h.run pins s σ H Q I (w σ H Q q)⟩
def doNone {m : Mem} : DTO m := fun ρ s Q => Q none ρ s
def doSome {m : Mem} (t : DT m) : DTO m := fun ρ s Q => t ρ s fun d ρ1 s1 => ∃ i, d = .int i ∧ Q (some i) ρ1 s1
theorem do_none : PO X none (upO X.K m doNone) := PO.imp po_none fun σ H Q h => by
  obtain ⟨F, ρ, s, Qd, rl, ht, hQ⟩ := h
  exact hQ none ρ s F H ht rl Stp.refl
theorem do_some (he : PE X e (up X.K m ta)) : PO X (some e) (upO X.K m (doSome ta)) := PO.imp (po_some he) fun σ H Q h => by
  obtain ⟨F, ρ, s, Qd, rl, ht, hQ⟩ := h
  refine ⟨F, ρ, s, _, rl, ht, fun d ρ1 s1 x F1 H1 ⟨i, e, q1⟩ r1 st1 rx => ?_⟩
  subst e
  cases rx
  exact ⟨i, rfl, hQ (some i) ρ1 s1 F1 H1 q1 r1 st1⟩
def OpS (K : PySem.W.Frag) (r : V → Option Int → Option Int → Hp → VK → Prop) (f : D → Option Int → Option Int → (D → Prop) → Prop) : Prop := ∀ F H dx x lo hi Qd Q, Same F H → Rep K F dx x → f dx lo hi Qd → (∀ d v F' H', Qd d → Grow F H F' H' → Rep K F' d v → Q v H') → r x lo hi H Q
def dSl {m : Mem} (f : D → Option Int → Option Int → (D → Prop) → Prop) (te : DT m) (tl th : DTO m) : DT m := fun ρ s Q => te ρ s fun x ρ1 s1 => tl ρ1 s1 fun l ρ2 s2 => th ρ2 s2 fun h ρ3 s3 => f x l h fun d => Q d ρ3 s3
theorem de_slice {rs : V → Option Int → Option Int → Hp → VK → Prop} {fs : D → Option Int → Option Int → (D → Prop) → Prop} {lo hi : Option Expr} {tl th : DTO m} {p2 : Pos} (hr : SlR X rs) (hf : OpS X.K rs fs) (he : PE X e (up X.K m ta)) (hl : PO X lo (upO X.K m tl)) (hh : PO X hi (upO X.K m th)) :
    PE X (.Subscript e (.Slice lo hi none p2) pos) (up X.K m (dSl fs ta tl th)) := PE.imp (pe_slice hr he hl hh) fun σ H Q h => by
  obtain ⟨F, ρ, s, Qd, rl, ht, hQ⟩ := h
  refine ⟨F, ρ, s, _, rl, ht, fun dx ρ1 s1 x F1 H1 q1 r1 st1 rx => ⟨F1, ρ1, s1, _, r1, q1, fun l ρ2 s2 F2 H2 q2 r2 st2 => ⟨F2, ρ2, s2, _, r2, q2, fun h ρ3 s3 F3 H3 q3 r3 st3 => ?_⟩⟩⟩
  exact hf F3 H3 dx x l h _ Q r3.sub (Rep.mono (st2.ext.trans st3.ext) _ _ rx) q3 fun d v F4 H4 q4 g rv => hQ d ρ3 s3 v F4 H4 q4 (r3.grow g) ((st1.trans st2).trans (st3.trans g.stp)) rv
/-! ### and, or, not of values by truth -/
def dAndV {m : Mem} (ta tb : DT m) : DT m := fun ρ s Q => ta ρ s fun x ρ1 s1 => ∃ k, tru x = some k ∧ ifB k (tb ρ1 s1 Q) (Q x ρ1 s1)
def dOrV {m : Mem} (ta tb : DT m) : DT m := fun ρ s Q => ta ρ s fun x ρ1 s1 => ∃ k, tru x = some k ∧ ifB k (Q x ρ1 s1) (tb ρ1 s1 Q)
theorem de_one {op} (h : PE X a (up X.K m ta)) : PE X (.BoolOp op [a] pos) (up X.K m ta) := pe_one h
theorem de_and (ha : PE X a (up X.K m ta)) (hb : PE X (.BoolOp .And (b :: rest) pos) (up X.K m tb)) : PE X (.BoolOp .And (a :: b :: rest) pos) (up X.K m (dAndV ta tb)) :=
  PE.imp (pe_andT ha hb) fun σ H Q h => by
    obtain ⟨F, ρ, s, Qd, rl, ht, hQ⟩ := h
    refine ⟨F, ρ, s, _, rl, ht, fun d ρ1 s1 x F1 H1 ⟨k, ek, q1⟩ r1 st1 rx => ⟨k, tru_rep rx r1.sub ek, ?_⟩⟩
    cases k with
    | true =>
      have q1 := ifB_t q1
      exact iteT ⟨F1, ρ1, s1, _, r1, q1, fun d ρ2 s2 v F2 H2 q2 r2 st2 rv => hQ d ρ2 s2 v F2 H2 q2 r2 (st1.trans st2) rv⟩
    | false => exact iteF (hQ d ρ1 s1 x F1 H1 (ifB_f q1) r1 st1 rx)
theorem de_or (ha : PE X a (up X.K m ta)) (hb : PE X (.BoolOp .Or (b :: rest) pos) (up X.K m tb)) : PE X (.BoolOp .Or (a :: b :: rest) pos) (up X.K m (dOrV ta tb)) :=
  PE.imp (pe_orT ha hb) fun σ H Q h => by
    obtain ⟨F, ρ, s, Qd, rl, ht, hQ⟩ := h
    refine ⟨F, ρ, s, _, rl, ht, fun d ρ1 s1 x F1 H1 ⟨k, ek, q1⟩ r1 st1 rx => ⟨k, tru_rep rx r1.sub ek, ?_⟩⟩
    cases k with
    | false => exact iteF ⟨F1, ρ1, s1, _, r1, ifB_f q1, fun d ρ2 s2 v F2 H2 q2 r2 st2 rv => hQ d ρ2 s2 v F2 H2 q2 r2 (st1.trans st2) rv⟩
    | true => exact iteT (hQ d ρ1 s1 x F1 H1 (ifB_t q1) r1 st1 rx)
/-! ### a def's promise over data, its call -/
abbrev DSp (m : Mem) := List D → m.S → (D → m.S → Prop) → Prop
structure CStp (m : Mem) (F H : Hp) (s : m.S) (F' H' : Hp) (s' : m.S) : Prop where
  ext : Same F F'
  keep : ∀ a o, H a = some o → ¬ m.R s a → H' a = some o
  alive : ∀ a, H a ≠ none → H' a ≠ none
  fresh : ∀ a o, F' a = some o → F a = some o ∨ H a = none
  regf : ∀ a, m.R s' a → m.R s a ∨ H a = none
  sub : Same F' H'
  mem : m.M s' H'
  reg : ∀ a, m.R s' a → F' a = none
def lift (K : PySem.W.Frag) (m : Mem) (n : Nat) (sp : DSp m) : Sp := fun vs H Q _ => vs.length = n ∧ ∃ F ds s Qd, Same F H ∧ m.M s H ∧ (∀ a, m.R s a → F a = none) ∧ Reps K F ds vs ∧ sp ds s Qd ∧
  ∀ d s' v F' H', Qd d s' → CStp m F H s F' H' s' → Rep K F' d v → Q v H'
theorem CStp.stp {F H F' H' : Hp} {s s' : m.S} (c : CStp m F H s F' H' s') {σ : L2.St} {ρ : List Sl} : Stp m F H σ ρ s F' H' ρ s' :=
  ⟨c.ext, c.keep, c.alive, fun a o h => (c.fresh a o h).elim .inl fun z => .inr (.inl z), c.regf, fun _ _ h => h⟩
theorem Rel.call {K : PySem.W.Frag} {F H F' H' : Hp} {σ : L2.St} {ρ : List Sl} {s s' : m.S} (r : Rel K m F H σ ρ s) (c : CStp m F H s F' H' s') : Rel K m F' H' σ ρ s' where
  sub := c.sub
  mem := c.mem
  reg := c.reg
  len := r.len
  sh := fun i d e => by
    obtain ⟨v, h1, h2⟩ := r.sh i d e
    exact ⟨v, h1, Rep.mono c.ext _ _ h2⟩
  ow := fun i o e => by
    obtain ⟨p, ho, h1, h2, h3, h4, h5⟩ := r.own_at e
    exact ⟨p, ho, h1, c.keep p ho h2 h5, h3.mono c.ext⟩
  owF := fun i p h => by
    obtain ⟨⟨o, e⟩, hσ⟩ := id h
    obtain ⟨p', ho, h1, h2, h3, h4, h5⟩ := r.own_at e
    rw [hσ] at h1; cases h1
    refine ⟨?_, fun z => ?_⟩
    · cases q : F' p with
      | none => rfl
      | some u =>
        rcases c.fresh p u q with z | z
        · rw [h4] at z; cases z
        · rw [z] at h2; cases h2
    · rcases c.regf p z with z | z
      · exact h5 z
      · rw [z] at h2; cases h2
  uq := r.uq
def dCall {m : Mem} (sp : DSp m) (t : DTA m) : DT m := fun ρ s Q => t ρ s fun ds ρ1 s1 => sp ds s1 fun d s' => Q d ρ1 s'
theorem up_call {K : PySem.W.Frag} {n : Nat} {sp : DSp m} {σ : L2.St} {H : Hp} {Q : VK} {E : XK} (hn : ∀ ds s Qd, sp ds s Qd → ds.length = n) (h : up K m (dCall sp u) σ H Q) : tCall (lift K m n sp) [] E (upA K m u) σ H Q := by
  obtain ⟨F, ρ, s, Qd, rl, ht, hQ⟩ := h
  refine ⟨F, ρ, s, _, rl, ht, fun ds ρ1 s1 vs F1 H1 q1 r1 st1 rs => ?_⟩
  show lift K m n sp (vs ++ []) H1 Q E
  rw [List.append_nil]
  exact ⟨by rw [rs.length]; exact hn _ _ _ q1, F1, ds, s1, _, r1.sub, r1.mem, r1.reg, rs, q1, fun d s' v F2 H2 q2 c rv => hQ d ρ1 s' v F2 H2 q2 (r1.call c) (st1.trans c.stp) rv⟩
theorem de_call {k n : Nat} {fa : Addr} {fd : FuncData} {ps : List Str} {sp : DSp m} (G : FnG X.prog X.w X.K X.mg X.base CX0 k fa fd ps (lift X.K m n sp)) (hn : ∀ ds s Qd, sp ds s Qd → ds.length = n) (hr : RoomG k X.A) (hg : Gl X x) (hm : X.mg x = some (.ref fa)) (hk : PySem.W.keepIn X.K (.ref fa) = true) (hb : Binds X.K fd ps [])
    (ha : PA X (e :: es) (upA X.K m u)) (hdb : (x == ("__debug__" : Str)) = false := by decide) (he : starEach (e :: es) X.env = (false, eval e X.env) :: starEach es X.env := by rfl) (hpl : (backTo pos (starEach es X.env)).any (·.1) = false := by rfl) :
    PE X (.Call (.Name x p) (e :: es) [] pos) (up X.K m (dCall sp u)) := PE.imp (pg_call G hr hg hm hk hb .nil pass0 ha hdb he hpl) fun _ _ _ h => up_call hn h
end
end DL

set_option Elab.async false
set_option linter.all false
set_option maxRecDepth 100000
namespace DL
open PySem PySem.Spec PyProof.Rows L2

/-! ### statements -/
/-- the state at a def's entry -/
structure Ent (m : Mem) where
  F : Hp
  H : Hp
  s : m.S
  W : WX := fun _ _ _ _ => False
/-- what has become of it -/
structure Own (m : Mem) (E : Ent m) (F H : Hp) (σ : L2.St) (ρ : List Sl) (s : m.S) : Prop where
  ext : Same E.F F
  keep : ∀ a o, E.H a = some o → ¬ m.R E.s a → H a = some o
  alive : ∀ a, E.H a ≠ none → H a ≠ none
  fresh : ∀ a o, F a = some o → E.F a = some o ∨ E.H a = none
  regf : ∀ a, m.R s a → m.R E.s a ∨ E.H a = none
  own : ∀ (i : Nat) p, Owns σ ρ i p → E.H p = none
theorem Own.stp {m : Mem} {E : Ent m} {F H F' H' : Hp} {σ : L2.St} {ρ ρ' : List Sl} {s s' : m.S} (o : Own m E F H σ ρ s) (st : Stp m F H σ ρ s F' H' ρ' s') : Own m E F' H' σ ρ' s' where
  ext := o.ext.trans st.ext
  keep := fun a x h n => st.keep a x (o.keep a x h n) fun r => by
    rcases o.regf a r with z | z
    · exact n z
    · rw [z] at h; cases h
  alive := fun a h => st.alive a (o.alive a h)
  fresh := fun a x h => by
    rcases st.fresh a x h with z | z | ⟨i, z⟩
    · exact o.fresh a x z
    · refine .inr ?_
      cases q : E.H a with
      | none => rfl
      | some u => exact absurd z (o.alive a (by rw [q]; simp))
    · exact .inr (o.own i a z)
  regf := fun a h => by
    rcases st.regf a h with z | z
    · exact o.regf a z
    · refine .inr ?_
      cases q : E.H a with
      | none => rfl
      | some u => exact absurd z (o.alive a (by rw [q]; simp))
  own := fun i p h => o.own i p (st.owns h)
structure DEnds (m : Mem) where
  nx : List Sl → m.S → Prop
  rt : D → m.S → Prop
  bk : List Sl → m.S → Prop := fun _ _ => False
  ct : List Sl → m.S → Prop := fun _ _ => False
  ex : Addr → List Str → List D → List Sl → m.S → Prop := fun _ _ _ _ _ => False
abbrev DTS (m : Mem) := DEnds m → List Sl → m.S → Prop
structure Fits (K : PySem.W.Frag) (m : Mem) (E : Ent m) (F0 : Hp) (dd : DEnds m) (DD : Ends) : Prop where
  nx : ∀ F H σ ρ s, Same F0 F → Rel K m F H σ ρ s → Own m E F H σ ρ s → dd.nx ρ s → DD.nx σ H
  rt : ∀ F H σ ρ s d v, Same F0 F → Rel K m F H σ ρ s → Own m E F H σ ρ s → Rep K F d v → dd.rt d s → DD.rt v H
  bk : ∀ F H σ ρ s, Same F0 F → Rel K m F H σ ρ s → Own m E F H σ ρ s → dd.bk ρ s → DD.bk σ H
  ct : ∀ F H σ ρ s, Same F0 F → Rel K m F H σ ρ s → Own m E F H σ ρ s → dd.ct ρ s → DD.ct σ H
  ex : ∀ F H σ ρ s C ns ds dx fs, Same F0 F → Rel K m F H σ ρ s → Own m E F H σ ρ s → H dx = some (.xd fs) → E.H dx = none → F dx = none → ¬ m.R s dx → (∀ i, ¬ Owns σ ρ i dx) → fs.map (·.1) = ns → Reps K F ds (fs.map (·.2)) → dd.ex C ns ds ρ s → E.W (.ref C) (some dx) σ H
theorem Fits.mono {K : PySem.W.Frag} {m : Mem} {E : Ent m} {F0 F1 : Hp} {dd : DEnds m} {DD : Ends} (f : Fits K m E F0 dd DD) (h : Same F0 F1) : Fits K m E F1 dd DD :=
  ⟨fun F H σ ρ s q => f.nx F H σ ρ s (h.trans q), fun F H σ ρ s d v q => f.rt F H σ ρ s d v (h.trans q), fun F H σ ρ s q => f.bk F H σ ρ s (h.trans q), fun F H σ ρ s q => f.ct F H σ ρ s (h.trans q), fun F H σ ρ s C ns ds dx fs q => f.ex F H σ ρ s C ns ds dx fs (h.trans q)⟩
def upS (K : PySem.W.Frag) (m : Mem) (E : Ent m) (t : DTS m) : TS := fun DD σ H => ∃ F ρ s dd, Rel K m F H σ ρ s ∧ Own m E F H σ ρ s ∧ t dd ρ s ∧ Fits K m E F dd DD

section
variable {X : Cx} {m : Mem} {E : Ent m} {st : Stmt} {rest : List Stmt} {t u : DTS m} {e : Expr} {te : DT m} {pos : Pos}
def dNext {m : Mem} : DTS m := fun dd ρ s => dd.nx ρ s
def dSeq {m : Mem} (t u : DTS m) : DTS m := fun dd ρ s => t { dd with nx := u dd } ρ s
theorem dss_nil : PSs X [] (upS X.K m E dNext) := PSs.imp pss_nil fun DD σ H h => by
  obtain ⟨F, ρ, s, dd, r, o, ht, f⟩ := h
  exact f.nx F H σ ρ s (Same.refl F) r o ht
theorem dss_cons (h1 : PS X st (upS X.K m E t)) (h2 : PSs X rest (upS X.K m E u)) : PSs X (st :: rest) (upS X.K m E (dSeq t u)) := PSs.imp (pss_cons h1 h2) fun DD σ H h => by
  obtain ⟨F, ρ, s, dd, r, o, ht, f⟩ := h
  exact ⟨F, ρ, s, _, r, o, ht, ⟨fun F' H' σ' ρ' s' sm r' o' q => ⟨F', ρ', s', dd, r', o', q, f.mono sm⟩, f.rt, f.bk, f.ct, f.ex⟩⟩
theorem dss_one (h1 : PS X st (upS X.K m E t)) : PSs X [st] (upS X.K m E t) := pss_one h1
def dRet {m : Mem} (te : DT m) : DTS m := fun dd ρ s => te ρ s fun d _ s1 => dd.rt d s1
theorem ds_ret (he : PE X e (up X.K m te)) : PS X (.Return (some e) pos) (upS X.K m E (dRet te)) := PS.imp (ps_ret he) fun DD σ H h => by
  obtain ⟨F, ρ, s, dd, r, o, ht, f⟩ := h
  exact ⟨F, ρ, s, _, r, ht, fun d ρ1 s1 v F1 H1 q1 r1 st1 rv => f.rt F1 H1 σ ρ1 s1 d v st1.ext r1 (o.stp st1) rv q1⟩
def dIf {m : Mem} (c : DTT m) (t u : DTS m) : DTS m := fun dd ρ s => c ρ s fun b ρ1 s1 => ifB b (t dd ρ1 s1) (u dd ρ1 s1)
theorem ds_if {c : Expr} {a b : List Stmt} {tc : DTT m} (hc : PT X c (upT X.K m tc)) (ha : PSs X a (upS X.K m E t)) (hb : PSs X b (upS X.K m E u)) : PS X (.If c a b pos) (upS X.K m E (dIf tc t u)) := PS.imp (ps_if hc ha hb) fun DD σ H h => by
  obtain ⟨F, ρ, s, dd, r, o, ht, f⟩ := h
  refine ⟨F, ρ, s, _, r, ht, fun b ρ1 s1 F1 H1 q1 r1 st1 => ?_⟩
  cases b with
  | true =>
    have q1 := ifB_t q1
    exact iteT ⟨F1, ρ1, s1, dd, r1, o.stp st1, q1, f.mono st1.ext⟩
  | false => exact iteF ⟨F1, ρ1, s1, dd, r1, o.stp st1, ifB_f q1, f.mono st1.ext⟩

/-! ### names stored -/
theorem Own.put {K : PySem.W.Frag} {F H : Hp} {σ : L2.St} {ρ : List Sl} {s : m.S} (o : Own m E F H σ ρ s) {i : Nat} {d : D} {v : V} : Own m E F H (σ.set i (some v)) (ρ.set i (.sh d)) s :=
  ⟨o.ext, o.keep, o.alive, o.fresh, o.regf, fun j p ⟨⟨ob, h1⟩, h2⟩ => by
    by_cases hj : i = j
    · subst hj
      by_cases hi : i < ρ.length
      · rw [List.getElem?_set_self hi] at h1; cases h1
      · rw [List.getElem?_eq_none (by simpa using hi)] at h1; cases h1
    · rw [List.getElem?_set_ne hj] at h1 h2; exact o.own j p ⟨⟨ob, h1⟩, h2⟩⟩
def dSet {m : Mem} (i : Nat) (te : DT m) : DTS m := fun dd ρ s => te ρ s fun d ρ1 s1 => dd.nx (ρ1.set i (.sh d)) s1
theorem ds_set (i : Nat) {x : Str} {pos' : Pos} (hN : X.N.Nodup) (he : PE X e (up X.K m te)) (hi : X.N[i]? = some x := by rfl) (hx : Loc X.env.scope x := by first | exact Or.inl rfl | exact Or.inr rfl) (hs : swapsWith e (some (.Name x pos')) pos.line X.env = pure false := by rfl)
    (hf : X.fn x = true ∨ X.env.scope.names.lookup x = some .local := by first | exact .inl rfl | exact .inr rfl) :
    PS X (.Assign [.Name x pos'] e pos) (upS X.K m E (dSet i te)) := PS.imp (ps_set hN hi hx he hs hf) fun DD σ H h => by
  obtain ⟨F, ρ, s, dd, r, o, ht, f⟩ := h
  exact ⟨F, ρ, s, _, r, ht, fun d ρ1 s1 v F1 H1 q1 r1 st1 rv => f.nx F1 H1 _ _ s1 st1.ext (r1.put rv) ((o.stp st1).put (K := X.K)) q1⟩
/-- x = [..], the list to be changed by this def -/
theorem Own.putO {K : PySem.W.Frag} {F H : Hp} {σ : L2.St} {ρ : List Sl} {s : m.S} (r : Rel K m F H σ ρ s) (o : Own m E F H σ ρ s) {i : Nat} {ob : Ob} {p : Addr} {ho : HO} (n : H p = none) : Own m E F (upd H p ho) (σ.set i (some (.ref p))) (ρ.set i (.ow ob)) s := by
  have eH : E.H p = none := by
    cases q : E.H p with
    | none => rfl
    | some u => exact absurd n (o.alive p (by rw [q]; simp))
  refine ⟨o.ext, fun a x h nr => ?_, fun a h => ?_, o.fresh, o.regf, fun j q ⟨⟨ob', h1⟩, h2⟩ => ?_⟩
  · rw [upd_ne (ne_of_none h eH)]; exact o.keep a x h nr
  · have hp : a ≠ p := fun z => h (z ▸ eH)
    rw [upd_ne hp]; exact o.alive a h
  · by_cases hj : i = j
    · subst hj
      have hi : i < σ.length := by
        have := (List.getElem?_eq_some_iff.mp h2).1
        rw [List.length_set] at this; exact this
      rw [List.getElem?_set_self hi] at h2
      cases h2
      exact eH
    · rw [List.getElem?_set_ne hj] at h1 h2; exact o.own j q ⟨⟨ob', h1⟩, h2⟩
def dSetL {m : Mem} (i : Nat) (ta : DTA m) : DTS m := fun dd ρ s => ta ρ s fun ds ρ1 s1 => ds.length ≤ sizeLine ∧ dd.nx (ρ1.set i (.ow (.lst ds))) s1
theorem ds_setL (i : Nat) {x : Str} {es : List Expr} {pos' lpos : Pos} {ta : DTA m} (hN : X.N.Nodup) (ha : PA X es (upA X.K m ta)) (hi : X.N[i]? = some x := by rfl) (hx : Loc X.env.scope x := by first | exact Or.inl rfl | exact Or.inr rfl)
    (hs : swapsWith (.List es lpos) (some (.Name x pos')) pos.line X.env = pure false := by rfl) (hf : X.fn x = true ∨ X.env.scope.names.lookup x = some .local := by first | exact .inl rfl | exact .inr rfl) :
    PS X (.Assign [.Name x pos'] (.List es lpos) pos) (upS X.K m E (dSetL i ta)) := PS.imp (ps_set hN hi hx (pe_lst ha) hs hf) fun DD σ H h => by
  obtain ⟨F, ρ, s, dd, r, o, ht, f⟩ := h
  refine ⟨F, ρ, s, _, r, ht, fun ds ρ1 s1 vs F1 H1 ⟨hl, q1⟩ r1 st1 rs => ⟨by rw [rs.length]; exact hl, fun p np => ?_⟩⟩
  exact f.nx F1 _ _ _ s1 st1.ext (r1.putO (o := .lst ds) np ⟨vs, rfl, by rw [rs.length]; exact hl, rs⟩) (Own.putO r1 (o.stp st1) np) q1
/-- x.append(e), the list x's own -/
def dApp {m : Mem} (i : Nat) (te : DT m) : DTS m := fun dd ρ s => (∃ ds0, ρ[i]? = some (.ow (.lst ds0))) ∧ te ρ s fun d ρ1 s1 => ∃ ds, ρ1[i]? = some (.ow (.lst ds)) ∧ ds.length < sizeLine ∧ dd.nx (ρ1.set i (.ow (.lst (ds ++ [d])))) s1
theorem Own.write {K : PySem.W.Frag} {F H : Hp} {σ : L2.St} {ρ : List Sl} {s : m.S} (o : Own m E F H σ ρ s) {i : Nat} {ob ob' : Ob} {p : Addr} {ho : HO} (e : ρ[i]? = some (.ow ob)) (eσ : σ[i]? = some (some (V.ref p))) : Own m E F (upd H p ho) σ (ρ.set i (.ow ob')) s := by
  have eH : E.H p = none := o.own i p ⟨⟨ob, e⟩, eσ⟩
  refine ⟨o.ext, fun a x h nr => ?_, fun a h => ?_, o.fresh, o.regf, fun j q ⟨⟨u, h1⟩, h2⟩ => ?_⟩
  · rw [upd_ne (ne_of_none h eH)]; exact o.keep a x h nr
  · have hp : a ≠ p := fun z => h (z ▸ eH)
    rw [upd_ne hp]; exact o.alive a h
  · by_cases hj : i = j
    · subst hj; exact o.own i q ⟨⟨ob, e⟩, h2⟩
    · rw [List.getElem?_set_ne hj] at h1; exact o.own j q ⟨⟨u, h1⟩, h2⟩
theorem ds_app (i : Nat) {x : Str} {xpos apos cpos : Pos} (he : PE X e (up X.K m te)) (hN : X.N[i]? = some x := by rfl) (hv : Vis X.env.scope x := by first | exact Or.inl rfl | exact Or.inr (Or.inl rfl) | exact Or.inr (Or.inr rfl))
    (hd : (x == ("__debug__" : Str)) = false := by decide) (hcd : (x == ("__classdict__" : Str)) = false := by decide)
    (hbase : attributeBase (.Name x xpos) "append" X.env (eval (.Name x xpos) X.env) = eval (.Name x xpos) X.env := by rfl)
    (hfew : ((backTo cpos (starEach [e] X.env)).all (fun x => !x.1) && (backToKw cpos (keywordEach [] X.env)).all (fun x => x.1.isSome)
      && decide ([e].length + ([] : List Keyword).length + (if ([] : List Keyword).isEmpty then 0 else 1) < 30)) = true := by rfl)
    (hline : (apos.endLine == cpos.line) = true := by rfl) (hs : starEach [e] X.env = [(false, eval e X.env)] := by rfl)
    (hsw : swapsWith (.Call (.Attribute (.Name x xpos) "append" apos) [e] [] cpos) none pos.line X.env = pure false := by rfl) :
    PS X (.Expr (.Call (.Attribute (.Name x xpos) "append" apos) [e] [] cpos) pos) (upS X.K m E (dApp i te)) :=
  PS.imp (ps_expr (pe_bm PySem.F.plainAttrs_list PySem.F.slot_list_append PySem.F.type_list_append mt_append (pv i hN hv hd hcd) (pa_cons he pa_nil (by rw [hs]; rfl)) hbase hfew hline (by rw [hs]; rfl) rfl) hsw) fun DD σ H h => by
  obtain ⟨F, ρ, s, dd, r, o, ⟨⟨ds0, e0⟩, ht⟩, f⟩ := h
  obtain ⟨p, ho, h1, h2, ⟨vs0, rfl, hl0, rs0⟩, h4, h5⟩ := r.own_at e0
  refine ⟨_, h1, .inl ⟨rfl, vs0, .inl (.inl h2)⟩, F, ρ, s, _, r, ht, fun d ρ1 s1 v F1 H1 ⟨ds, e1, hz, q1⟩ r1 st1 rv => ?_⟩
  obtain ⟨p', ho, g1, g2, ⟨vs, rfl, hl, rs⟩, g4, g5⟩ := r1.own_at e1
  rw [h1] at g1; cases g1
  have hlen := rs.length
  refine ⟨p, vs, v, rfl, rfl, g2, by omega, ?_⟩
  refine f.nx F1 _ σ _ s1 st1.ext (r1.write (o' := .lst (ds ++ [d])) e1 h1 ⟨vs ++ [v], rfl, by rw [List.length_append]; exact (by simp; omega), rs.append (.one rv)⟩) ((o.stp st1).write (K := X.K) e1 h1) q1

/-! ### what a target is bound to -/
abbrev DG := D → List Sl → (List Sl → Prop) → Prop
/-- ts: the slots that the target stores -/
def upG (K : PySem.W.Frag) (m : Mem) (ts : List Nat) (g : DG) : TG := fun v σ H Q => ∃ F ρ s d Qd, Rel K m F H σ ρ s ∧ Rep K F d v ∧ g d ρ Qd ∧
  ∀ σ' ρ', Qd ρ' → Rel K m F H σ' ρ' s → (∀ i p, Owns σ' ρ' i p → Owns σ ρ i p) → (σ'.length = σ.length ∧ ∀ j, j ∉ ts → σ'[j]? = σ[j]?) → Q σ' H
def upGs (K : PySem.W.Frag) (m : Mem) (ts : List Nat) (g : List D → List Sl → (List Sl → Prop) → Prop) : TGs := fun vs σ H Q => ∃ F ρ s ds Qd, Rel K m F H σ ρ s ∧ Reps K F ds vs ∧ g ds ρ Qd ∧
  ∀ σ' ρ', Qd ρ' → Rel K m F H σ' ρ' s → (∀ i p, Owns σ' ρ' i p → Owns σ ρ i p) → (σ'.length = σ.length ∧ ∀ j, j ∉ ts → σ'[j]? = σ[j]?) → Q σ' H
theorem PG.imp {tg : Expr} {g g' : TG} (h : PG X tg g) (w : ∀ v σ H Q, g' v σ H Q → g v σ H Q) : PG X tg g' := ⟨fun pins s σ H v u Q I r q => h.run pins s σ H v u Q I r (w v σ H Q q)⟩
theorem PGs.imp {tg : List Expr} {g g' : TGs} (h : PGs X tg g) (w : ∀ v σ H Q, g' v σ H Q → g v σ H Q) : PGs X tg g' := ⟨fun pins s σ H v u Q I r q => h.run pins s σ H v u Q I r (w v σ H Q q)⟩
def gN (i : Nat) : DG := fun d ρ Q => Q (ρ.set i (.sh d))
theorem owns_put {σ : L2.St} {ρ : List Sl} {i : Nat} {d : D} {v : V} {j : Nat} {q : Addr} (h : Owns (σ.set i (some v)) (ρ.set i (.sh d)) j q) : Owns σ ρ j q := by
  obtain ⟨⟨o', h1⟩, h2⟩ := h
  by_cases hj : i = j
  · subst hj
    by_cases hi : i < ρ.length
    · rw [List.getElem?_set_self hi] at h1; cases h1
    · rw [List.getElem?_eq_none (by simpa using hi)] at h1; cases h1
  · rw [List.getElem?_set_ne hj] at h1 h2; exact ⟨⟨o', h1⟩, h2⟩
theorem dg_name (i : Nat) {x : Str} (hN : X.N.Nodup) (hi : X.N[i]? = some x := by rfl) (hx : Loc X.env.scope x := by first | exact Or.inl rfl | exact Or.inr rfl) (hf : X.fn x = true ∨ X.env.scope.names.lookup x = some .local := by first | exact .inl rfl | exact .inr rfl) :
    PG X (.Name x pos) (upG X.K m [i] (gN i)) := PG.imp (pg_name hN hi hx hf) fun v σ H Q h => by
  obtain ⟨F, ρ, s, d, Qd, r, rv, hg, hQ⟩ := h
  exact hQ _ _ hg (r.put rv) (fun j p h => owns_put h) ⟨by rw [List.length_set], fun j hj => List.getElem?_set_ne (by simpa using Ne.symm (by simpa using hj))⟩
def gNil' : List D → List Sl → (List Sl → Prop) → Prop := fun ds ρ Q => ds = [] ∧ Q ρ
def gCons' (g : DG) (u : List D → List Sl → (List Sl → Prop) → Prop) : List D → List Sl → (List Sl → Prop) → Prop := fun ds ρ Q => ∃ d r, ds = d :: r ∧ g d ρ fun ρ1 => u r ρ1 Q
theorem dgs_nil : PGs X [] (upGs X.K m [] gNil') := PGs.imp pgs_nil fun vs σ H Q h => by
  obtain ⟨F, ρ, s, ds, Qd, r, rv, ⟨hg, hq⟩, hQ⟩ := h
  subst hg
  cases rv
  exact ⟨rfl, hQ σ ρ hq r (fun _ _ h => h) ⟨rfl, fun _ _ => rfl⟩⟩
theorem dgs_cons {es : List Expr} {ts us : List Nat} {g : DG} {u : List D → List Sl → (List Sl → Prop) → Prop} (h1 : PG X e (upG X.K m ts g)) (h2 : PGs X es (upGs X.K m us u)) (hs : (assignEach (e :: es) X.env).map (·.2) = assign e X.env :: (assignEach es X.env).map (·.2) := by rfl) :
    PGs X (e :: es) (upGs X.K m (ts ++ us) (gCons' g u)) := PGs.imp (pgs_cons h1 h2 hs) fun vs σ H Q h => by
  obtain ⟨F, ρ, s, ds, Qd, r, rv, ⟨d, rr, hd, hg⟩, hQ⟩ := h
  subst hd
  obtain ⟨v, vr, rfl, rv1, rv2⟩ := rv
  refine ⟨v, vr, rfl, F, ρ, s, d, _, r, rv1, hg, fun σ1 ρ1 q1 r1 o1 k1 => ⟨F, ρ1, s, rr, _, r1, rv2, q1, fun σ2 ρ2 q2 r2 o2 k2 => ?_⟩⟩
  exact hQ σ2 ρ2 q2 r2 (fun i p h => o1 i p (o2 i p h)) ⟨k2.1.trans k1.1, fun j hj => (k2.2 j fun z => hj (List.mem_append_right _ z)).trans (k1.2 j fun z => hj (List.mem_append_left _ z))⟩
def gTup' (n : Nat) (u : List D → List Sl → (List Sl → Prop) → Prop) : DG := fun d ρ Q => ∃ ds, d = .tup ds ∧ ds.length = n ∧ u ds ρ Q
theorem dg_tup {es : List Expr} {k : Nat} {us : List Nat} {u : List D → List Sl → (List Sl → Prop) → Prop} {n : Nat} (hc : X.calm = true) (h : PGs X es (upGs X.K m us u)) (hn : (assignEach es X.env).length = n := by rfl) (hst : (assignEach es X.env).findIdx? (·.1) = none := by rfl) :
    PG X (.Tuple es k pos) (upG X.K m us (gTup' n u)) := PG.imp (pg_tup hc h hn hst) fun v σ H Q h => by
  obtain ⟨F, ρ, s, d, Qd, r, rv, ⟨ds, hd, hl, hg⟩, hQ⟩ := h
  subst hd
  obtain ⟨a, vs, rfl, hT, _, rs⟩ := rv
  exact ⟨a, vs, rfl, Same.seqT r.sub hT, by rw [rs.length]; exact hl, F, ρ, s, ds, Qd, r, rs, hg, hQ⟩
theorem Own.tgt {F H : Hp} {σ σ' : L2.St} {ρ ρ' : List Sl} {s : m.S} (o : Own m E F H σ ρ s) (h : ∀ i p, Owns σ' ρ' i p → Owns σ ρ i p) : Own m E F H σ' ρ' s := ⟨o.ext, o.keep, o.alive, o.fresh, o.regf, fun i p q => o.own i p (h i p q)⟩
/-- target = e, any target -/
def dAsg {m : Mem} (te : DT m) (g : DG) : DTS m := fun dd ρ s => te ρ s fun d ρ1 s1 => g d ρ1 fun ρ2 => dd.nx ρ2 s1
theorem ds_asg {tg : Expr} {ts : List Nat} {g : DG} (he : PE X e (up X.K m te)) (hg : PG X tg (upG X.K m ts g)) (hs : swapsWithSole [tg] e pos.line X.env = pure false := by rfl) (hw : swappedStores [tg] e X.env = pure none := by rfl)
    (h1 : (assignEach [tg] X.env).map (·.2) = [assign tg X.env] := by rfl) : PS X (.Assign [tg] e pos) (upS X.K m E (dAsg te g)) := PS.imp (ps_asg he hg hs hw h1) fun DD σ H h => by
  obtain ⟨F, ρ, s, dd, r, o, ht, f⟩ := h
  refine ⟨F, ρ, s, _, r, ht, fun d ρ1 s1 v F1 H1 q1 r1 st1 rv => ⟨F1, ρ1, s1, d, _, r1, rv, q1, fun σ2 ρ2 q2 r2 o2 _ => ?_⟩⟩
  exact f.nx F1 H1 σ2 ρ2 s1 st1.ext r2 ((o.stp st1).tgt o2) q2
/-- a, b = x, y with plain local names -/
def dPar {m : Mem} (i j : Nat) (ta : DTA m) : DTS m := fun dd ρ s => ta ρ s fun ds ρ1 s1 => ∃ d d', ds = [d, d'] ∧ dd.nx ((ρ1.set i (.sh d)).set j (.sh d')) s1
theorem ds_par (i j : Nat) {x y : Str} {a b : Expr} {ta : DTA m} {px py pt : Pos} {kt k2 pt2} (hN : X.N.Nodup) (ha : PA X [a, b] (upA X.K m ta)) (hc : X.calm = true := by rfl) (hi : X.N[i]? = some x := by rfl) (hj : X.N[j]? = some y := by rfl) (hij : i ≠ j := by decide)
    (hx : X.env.scope.names.lookup x = some .local := by rfl) (hy : X.env.scope.names.lookup y = some .local := by rfl)
    (hw : swappedStores [.Tuple [.Name x px, .Name y py] kt pt] (.Tuple [a, b] k2 pt2) X.env = pure (some [x, y]) := by rfl)
    (hs : swapsWithSole [.Tuple [.Name x px, .Name y py] kt pt] (.Tuple [a, b] k2 pt2) pos.line X.env = pure false := by rfl) :
    PS X (.Assign [.Tuple [.Name x px, .Name y py] kt pt] (.Tuple [a, b] k2 pt2) pos) (upS X.K m E (dPar i j ta)) := PS.imp (ps_par hc hN hi hj hij hx hy ha hw hs) fun DD σ H h => by
  obtain ⟨F, ρ, s, dd, r, o, ht, f⟩ := h
  refine ⟨F, ρ, s, _, r, ht, fun ds ρ1 s1 vs F1 H1 ⟨d, d', e, q1⟩ r1 st1 rs => ?_⟩
  subst e
  obtain ⟨v, _, rfl, rv, w, _, rfl, rw', rn⟩ := rs
  cases rn
  exact ⟨v, w, rfl, f.nx F1 H1 _ _ s1 st1.ext ((r1.put rv).put rw') (((o.stp st1).put (K := X.K)).put (K := X.K)) q1⟩
/-! ### loops -/
/-- an iterator over known items: what it hands out is the data, in their order -/
def Walks (K : PySem.W.Frag) (F : Hp) (J : It) (ds : List D) : Prop := ∀ F' H', Same F F' → Same F' H' →
  (∀ i, ds.length ≤ i → J.stop i H') ∧ ∀ i d, ds[i]? = some d → J.go i H' ∧ ∀ x H2, J.yld i H' x H2 → ∃ F2, Grow F' H' F2 H2 ∧ Rep K F2 d x
theorem Walks.mono {K : PySem.W.Frag} {F F1 : Hp} {J : It} {ds : List D} (w : Walks K F J ds) (h : Same F F1) : Walks K F1 J ds := fun F' H' a b => w F' H' (h.trans a) b
abbrev DTI (m : Mem) := List Sl → m.S → (List D → List Sl → m.S → Prop) → Prop
def upI (K : PySem.W.Frag) (m : Mem) (t : DTI m) : TI := fun σ H R => ∃ F ρ s Qd, Rel K m F H σ ρ s ∧ t ρ s Qd ∧ ∀ ds ρ' s' J F' H', Qd ds ρ' s' → Rel K m F' H' σ ρ' s' → Stp m F H σ ρ s F' H' ρ' s' → Walks K F' J ds → R J H'
theorem PI.imp {tg iter : Expr} {t t' : TI} (h : PI X tg iter t) (w : ∀ σ H Q, t' σ H Q → t σ H Q) : PI X tg iter t' := ⟨fun pins s σ H R I q => h.run pins s σ H R I (w σ H R q)⟩
/-- a list or a tuple -/
def seqD : D → Option (List D)
  | .lst ds => some ds
  | .tup ds => some ds
  | .fz ds => some ds
  | _ => none
def diSeq {m : Mem} (te : DT m) : DTI m := fun ρ s Q => te ρ s fun d ρ1 s1 => ∃ ds, seqD d = some ds ∧ Q ds ρ1 s1
theorem walks_list {K : PySem.W.Frag} {F : Hp} {a : Addr} {ds : List D} {vs : List V} (h : SqL K F a vs) (rs : Reps K F ds vs) : Walks K F (Itl K a) ds := fun F' H' s1 s2 => by
  have q : SqL K H' a vs := Same.seq s2 (Same.seq s1 h)
  have hl := rs.length
  refine ⟨fun i hi => ⟨vs, q, by omega⟩, fun i d e => ?_⟩
  obtain ⟨v, ev, rv⟩ := rs.get e
  refine ⟨⟨vs, v, q, ev⟩, fun x H2 y => ?_⟩
  obtain ⟨e1, y⟩ := y
  subst e1
  have e2 := y vs q
  rw [ev] at e2
  cases e2
  exact ⟨F', Grow.refl s2, Rep.mono s1 _ _ rv⟩
theorem walks_tup {K : PySem.W.Frag} {F : Hp} {a : Addr} {ds : List D} {vs : List V} (h : SqT K F a vs) (rs : Reps K F ds vs) : Walks K F (Itt K a) ds := fun F' H' s1 s2 => by
  have q : SqT K H' a vs := Same.seqT s2 (Same.seqT s1 h)
  have hl := rs.length
  refine ⟨fun i hi => ⟨vs, q, by omega⟩, fun i d e => ?_⟩
  obtain ⟨v, ev, rv⟩ := rs.get e
  refine ⟨⟨vs, v, q, ev⟩, fun x H2 y => ?_⟩
  obtain ⟨e1, y⟩ := y
  subst e1
  have e2 := y vs q
  rw [ev] at e2
  cases e2
  exact ⟨F', Grow.refl s2, Rep.mono s1 _ _ rv⟩
theorem pi_seq {tg l : Expr} {tl : TE} (hl : PE X l tl) : PI X tg l (fun σ H R => tl σ H fun x H1 => ∃ a, x = .ref a ∧ (((∃ xs, SqL X.K H1 a xs) ∧ R (Itl X.K a) H1) ∨ ((∃ xs, SqT X.K H1 a xs) ∧ R (Itt X.K a) H1))) := by
  refine ⟨fun pins s σ H R I h => ?_⟩
  refine thn (hl.run pins s σ H _ I h) fun v s1 ⟨x, H1, I1, r1, q1⟩ => ?_
  obtain ⟨a, e, q⟩ := q1
  subst e
  cases r1
  rcases q with ⟨⟨xs, hq⟩, q⟩ | ⟨⟨xs, hq⟩, q⟩
  · obtain ⟨its, rv, p, hz⟩ := I1.list hq
    refine wpAny_pyIter_list p.isList ?_
    refine ⟨s1.heap.objs.size, [s1.heap.objs.size], _, _, H1, rfl, I1.kept (t' := s1.toks) fun b o e => Heap.get?_push_of_some _ e, turn_list a _, ⟨_, Heap.get?_push_size _ rfl, rfl, rfl⟩, fun b hb => ?_, q⟩
    have e : b = s1.heap.objs.size := by simpa using hb
    subst e
    exact I1.fpOk (Nat.le_refl _) (I1.hok.fresh (Nat.le_refl _))
  · obtain ⟨its, rv, p, hz⟩ := I1.tuple hq
    refine wpAny_pyIter_tuple (show s1.heap.IsTuple a its.toArray from p) ?_
    refine ⟨s1.heap.objs.size, [s1.heap.objs.size], _, _, H1, rfl, I1.kept (t' := s1.toks) fun b o e => Heap.get?_push_of_some _ e, turn_tuple a _, ⟨_, Heap.get?_push_size _ rfl, rfl, rfl⟩, fun b hb => ?_, q⟩
    have e : b = s1.heap.objs.size := by simpa using hb
    subst e
    exact I1.fpOk (Nat.le_refl _) (I1.hok.fresh (Nat.le_refl _))
theorem di_seq {tg l : Expr} (hl : PE X l (up X.K m te)) : PI X tg l (upI X.K m (diSeq te)) := PI.imp (pi_seq hl) fun σ H R h => by
  obtain ⟨F, ρ, s, Qd, r, ht, hQ⟩ := h
  refine ⟨F, ρ, s, _, r, ht, fun d ρ1 s1 v F1 H1 ⟨ds, e, q1⟩ r1 st1 rv => ?_⟩
  cases d with
  | lst es =>
    cases e
    obtain ⟨a, vs, rfl, h1, _, rs⟩ := rv
    exact ⟨a, rfl, .inl ⟨⟨vs, .inl (.inl (r1.sub _ _ h1))⟩, hQ _ ρ1 s1 _ F1 H1 q1 r1 st1 (walks_list (.inl (.inl h1)) rs)⟩⟩
  | tup es =>
    cases e
    obtain ⟨a, vs, rfl, h1, _, rs⟩ := rv
    exact ⟨a, rfl, .inr ⟨⟨vs, Same.seqT r1.sub h1⟩, hQ _ ρ1 s1 _ F1 H1 q1 r1 st1 (walks_tup h1 rs)⟩⟩
  | fz es =>
    cases e
    obtain ⟨a, vs, rfl, h1, _, rs⟩ := rv
    exact ⟨a, rfl, .inl ⟨⟨vs, Same.seq r1.sub h1⟩, hQ _ ρ1 s1 _ F1 H1 q1 r1 st1 (walks_list h1 rs)⟩⟩
  | _ => cases e
/-- lo, lo + 1, .. -/
def rngD (lo : Int) (n : Nat) : List D := (List.range n).map fun (i : Nat) => D.int (lo + (i : Int))
theorem rngD_length (lo : Int) (n : Nat) : (rngD lo n).length = n := by simp [rngD]
theorem walks_rng {K : PySem.W.Frag} {F : Hp} (lo : Int) (n : Nat) : Walks K F (Itr lo n) (rngD lo n) := fun F' H' s1 s2 => by
  refine ⟨fun i hi => by rw [rngD_length] at hi; exact hi, fun i d e => ?_⟩
  have hi : i < n := by
    have := (List.getElem?_eq_some_iff.mp e).1
    rw [rngD_length] at this; exact this
  refine ⟨hi, fun x H2 y => ?_⟩
  obtain ⟨e1, e2⟩ := y
  subst e1 e2
  refine ⟨F', Grow.refl s2, ?_⟩
  have e' : d = D.int (lo + (i : Int)) := by
    unfold rngD at e
    rw [List.getElem?_map, List.getElem?_range hi] at e
    exact (Option.some.inj e).symm
  subst e'
  rfl
def diR1 {m : Mem} (ta : DTA m) : DTI m := fun ρ s Q => ta ρ s fun ds ρ1 s1 => ∃ j : Int, ds = [.int j] ∧ -(2 ^ 62) ≤ j ∧ j < 2 ^ 62 ∧ Q (rngD 0 j.toNat) ρ1 s1
theorem di_range1 {tg a : Expr} {ta : DTA m} {p pos : Pos} (hg : Gl X "range") (hm : X.mg "range" = none) (ha : PA X [a] (upA X.K m ta)) (hs : starEach [a] X.env = [(false, eval a X.env)] := by rfl) : PI X tg (.Call (.Name "range" p) [a] [] pos) (upI X.K m (diR1 ta)) :=
  PI.imp (pi_range1 hg hm ha hs) fun σ H R h => by
    obtain ⟨F, ρ, s, Qd, r, ht, hQ⟩ := h
    refine ⟨F, ρ, s, _, r, ht, fun ds ρ1 s1 vs F1 H1 ⟨j, e, h1, h2, q1⟩ r1 st1 rs => ?_⟩
    subst e
    have e2 := reps_ints (ns := [j]) rs
    exact ⟨j, e2, h1, h2, hQ _ ρ1 s1 _ F1 H1 q1 r1 st1 (walks_rng 0 j.toNat)⟩
/-- a text, sign by sign -/
def chD (x : Str) : List D := x.cps.toList.map fun c => D.str ⟨#[c]⟩
def diStr {m : Mem} (te : DT m) : DTI m := fun ρ s Q => te ρ s fun d ρ1 s1 => ∃ x, d = .str x ∧ Q (chD x) ρ1 s1
theorem walks_str {K : PySem.W.Frag} {F : Hp} (x : Str) (hx : ∀ c ∈ x.cps.toList, c < 0x110000) : Walks K F (Its x) (chD x) := fun F' H' s1 s2 => by
  have hl : (chD x).length = x.cps.size := by simp [chD]
  refine ⟨fun i hi => by rw [hl] at hi; exact hi, fun i d e => ?_⟩
  have hi : i < x.cps.size := by
    have := (List.getElem?_eq_some_iff.mp e).1
    rw [hl] at this; exact this
  refine ⟨hi, fun y H2 q => ?_⟩
  obtain ⟨e1, c, e2, e3⟩ := q
  subst e1 e3
  refine ⟨F', Grow.refl s2, ?_⟩
  have e' : d = D.str ⟨#[c]⟩ := by
    unfold chD at e
    rw [List.getElem?_map, Array.getElem?_toList, e2] at e
    exact (Option.some.inj e).symm
  subst e'
  refine ⟨rfl, sOk_of (by show 1 ≤ strLim; decide) fun c' hc' => ?_⟩
  have hc2 : c' = c := by simpa using hc'
  subst hc2
  exact hx c' (by rw [← Array.getElem?_toList] at e2; exact List.mem_of_getElem? e2)
theorem di_str {tg l : Expr} (hl : PE X l (up X.K m te)) : PI X tg l (upI X.K m (diStr te)) := PI.imp (pi_str hl) fun σ H R h => by
  obtain ⟨F, ρ, s, Qd, r, ht, hQ⟩ := h
  refine ⟨F, ρ, s, _, r, ht, fun d ρ1 s1 v F1 H1 ⟨x, e, q1⟩ r1 st1 rv => ?_⟩
  subst e
  obtain ⟨rfl, hx⟩ := rv
  exact ⟨x, rfl, hQ _ ρ1 s1 _ F1 H1 q1 r1 st1 (walks_str x (sOk_cps hx))⟩
/-- for target in a walked thing: I says what holds when some are done -/
def dFor {m : Mem} (src : DTI m) (g : DG) (tb : DTS m) : DTS m := fun dd ρ s => src ρ s fun ds ρ1 s1 => ∃ I : List D → List Sl → m.S → Prop, I [] ρ1 s1 ∧
  (∀ pre x post ρ s, ds = pre ++ x :: post → I pre ρ s → g x ρ fun ρ2 => tb { dd with nx := I (pre ++ [x]), ct := I (pre ++ [x]), bk := dd.nx } ρ2 s) ∧ (∀ ρ s, I ds ρ s → dd.nx ρ s)
theorem for_core {K : PySem.W.Frag} {g : DG} {ts : List Nat} {tb : DTS m} {DD : Ends} {dd : DEnds m} {J : It} {σ : L2.St} {F0 F H : Hp} {ρ : List Sl} {s : m.S} {ds : List D} (r : Rel K m F H σ ρ s) (o : Own m E F H σ ρ s) (f : Fits K m E F0 dd DD) (h0 : Same F0 F) (hJ : Walks K F J ds)
    {I : List D → List Sl → m.S → Prop} (i0 : I [] ρ s) (turn : ∀ pre x post ρ s, ds = pre ++ x :: post → I pre ρ s → g x ρ fun ρ2 => tb { dd with nx := I (pre ++ [x]), ct := I (pre ++ [x]), bk := dd.nx } ρ2 s) (done : ∀ ρ s, I ds ρ s → dd.nx ρ s) :
    ∃ W : Nat → Nat → L2.St → Hp → Prop, (∃ m, W 0 m σ H) ∧ ∀ i n σ H, W i n σ H →
      (J.stop i H ∧ DD.nx σ H) ∨ (J.go i H ∧ ∃ N : L2.St → Hp → Prop, (∀ σ' H', N σ' H' → ∃ m', m' < n ∧ W (i + 1) m' σ' H') ∧ ∀ x H', J.yld i H x H' → upG K m ts g x σ H' fun σ2 H2 => upS K m E tb { DD with nx := N, ct := N, bk := DD.nx } σ2 H2) := by
  refine ⟨fun i n σ H => n = ds.length - i ∧ i ≤ ds.length ∧ ∃ F' ρ' s', Same F F' ∧ Rel K m F' H σ ρ' s' ∧ Own m E F' H σ ρ' s' ∧ I (ds.take i) ρ' s', ⟨ds.length, by simp, Nat.zero_le _, F, ρ, s, Same.refl F, r, o, by simpa using i0⟩, ?_⟩
  rintro i n σ1 H1 ⟨rfl, hi, F1, ρ1, s1, sm, r1, o1, hI⟩
  obtain ⟨hstop, hgo⟩ := hJ F1 H1 sm r1.sub
  by_cases hlt : i < ds.length
  · obtain ⟨h1, h2⟩ := hgo i _ (List.getElem?_eq_getElem hlt)
    refine .inr ⟨h1, fun σ' H' => ∃ F' ρ' s', Same F F' ∧ Rel K m F' H' σ' ρ' s' ∧ Own m E F' H' σ' ρ' s' ∧ I (ds.take (i + 1)) ρ' s', fun σ' H' ⟨F', ρ', s', q1, q2, q3, q4⟩ => ⟨ds.length - (i + 1), by omega, rfl, hlt, F', ρ', s', q1, q2, q3, q4⟩, fun x H' y => ?_⟩
    obtain ⟨F2, g2, rv⟩ := h2 x H' y
    have hsplit : ds = ds.take i ++ ds[i] :: ds.drop (i + 1) := by
      rw [List.getElem_cons_drop, List.take_append_drop]
    have etake : ds.take (i + 1) = ds.take i ++ [ds[i]] := List.take_succ_eq_append_getElem hlt
    have o2 := o1.stp (g2.stp (m := m) (s := s1) (ρ := ρ1) (σ := σ1))
    refine ⟨F2, ρ1, s1, ds[i], _, r1.grow g2, rv, turn _ _ _ _ _ hsplit hI, fun σ2 ρ2 q2 r2 o3 _ => ⟨F2, ρ2, s1, _, r2, o2.tgt o3, q2, ?_⟩⟩
    have fit : ∀ F' H' σ' ρ' s', Same F2 F' → Rel K m F' H' σ' ρ' s' → Own m E F' H' σ' ρ' s' → I (ds.take i ++ [ds[i]]) ρ' s' → ∃ F'' ρ'' s'', Same F F'' ∧ Rel K m F'' H' σ' ρ'' s'' ∧ Own m E F'' H' σ' ρ'' s'' ∧ I (ds.take (i + 1)) ρ'' s'' :=
      fun F' H' σ' ρ' s' a b c d => ⟨F', ρ', s', (sm.trans g2.fF).trans a, b, c, by rw [etake]; exact d⟩
    have f1 := f.mono ((h0.trans sm).trans g2.fF)
    exact ⟨fit, f1.rt, f1.nx, fit, f1.ex⟩
  · have e : i = ds.length := by omega
    subst e
    rw [List.take_length] at hI
    exact .inl ⟨hstop _ (Nat.le_refl _), f.nx F1 H1 σ1 ρ1 s1 (h0.trans sm) r1 o1 (done _ _ hI)⟩
theorem ds_for {tg iter : Expr} {body : List Stmt} {src : DTI m} {g : DG} {ts : List Nat} {tb : DTS m} (hc : X.calm = true) (hi : PI X tg iter (upI X.K m src)) (hg : PG X tg (upG X.K m ts g)) (hb : PSs X body (upS X.K m E tb)) (hp : PassesOwn (model X.prog X.w) X.A X.env X.xe := by exact PassesOwn.never)
    (hs : ∀ x, foldedSetIterable iter X.env x = pure x := by intro _; rfl) : PS X (.For tg iter body [] pos) (upS X.K m E (dFor src g tb)) := PS.imp (ps_for hp hc hi hg hb hs) fun DD σ H h => by
  obtain ⟨F, ρ, s, dd, r, o, ht, f⟩ := h
  exact ⟨F, ρ, s, _, r, ht, fun ds ρ1 s1 J F1 H1 ⟨I, i0, turn, done⟩ r1 st1 w => for_core r1 (o.stp st1) f st1.ext w i0 turn done⟩
end
end DL

set_option Elab.async false
set_option linter.all false
set_option maxRecDepth 100000
namespace DL
open PySem PySem.Spec PyProof.Rows L2

/-! ### comprehensions -/
section
variable {X : Cx} {m : Mem}
/-- from an inner state (the same heaps, other slots) the outer one is carried along -/
theorem Rel.carry {K : PySem.W.Frag} {F H F' H' : Hp} {σ σ2 : L2.St} {ρ ρ2 : List Sl} {s s' : m.S} (r : Rel K m F H σ ρ s) (st : Stp m F H σ2 ρ2 s F' H' ρ2 s') (r2 : Rel K m F' H' σ2 ρ2 s') : Rel K m F' H' σ ρ s' where
  sub := r2.sub
  mem := r2.mem
  reg := r2.reg
  len := r.len
  sh := fun i d e => by
    obtain ⟨v, h1, h2⟩ := r.sh i d e
    exact ⟨v, h1, Rep.mono st.ext _ _ h2⟩
  ow := fun i o e => by
    obtain ⟨p, ho, h1, h2, h3, h4, h5⟩ := r.own_at e
    exact ⟨p, ho, h1, st.keep p ho h2 h5, h3.mono st.ext⟩
  owF := fun i p h => by
    obtain ⟨⟨o, e⟩, hσ⟩ := id h
    obtain ⟨p', ho, h1, h2, h3, h4, h5⟩ := r.own_at e
    rw [hσ] at h1; cases h1
    refine ⟨?_, fun z => ?_⟩
    · cases q : F' p with
      | none => rfl
      | some u =>
        rcases st.fresh p u q with z | z | ⟨j, z⟩
        · rw [h4] at z; cases z
        · rw [z] at h2; cases h2
        · rw [(r2.owF j p z).1] at q; cases q
    · rcases st.regf p z with z | z
      · exact h5 z
      · rw [z] at h2; cases h2
  uq := r.uq
/-- an object that is known to nobody stays so -/
theorem Stp.hid {F H F' H' : Hp} {K : PySem.W.Frag} {σ2 : L2.St} {ρ2 : List Sl} {s s' : m.S} (st : Stp m F H σ2 ρ2 s F' H' ρ2 s') (r2 : Rel K m F' H' σ2 ρ2 s') {p : Addr} {ho : HO} (h : H p = some ho) (n : F p = none) (nr : ¬ m.R s p) : H' p = some ho ∧ F' p = none ∧ ¬ m.R s' p := by
  refine ⟨st.keep p ho h nr, ?_, fun z => ?_⟩
  · cases q : F' p with
    | none => rfl
    | some u =>
      rcases st.fresh p u q with z | z | ⟨j, z⟩
      · rw [n] at z; cases z
      · rw [z] at h; cases h
      · rw [(r2.owF j p z).1] at q; cases q
  · rcases st.regf p z with z | z
    · exact nr z
    · rw [z] at h; cases h
/-- the block's own names forgotten -/
def wipeD (ρ : List Sl) : List Nat → List Sl
  | [] => ρ
  | v :: vs => (wipeD ρ vs).set v .no
theorem wipeD_length (ρ : List Sl) : ∀ vs : List Nat, (wipeD ρ vs).length = ρ.length
  | [] => rfl
  | v :: vs => by unfold wipeD; rw [List.length_set, wipeD_length ρ vs]
theorem wipeD_some {ρ : List Sl} {i : Nat} {x : Sl} (hx : x ≠ .no) : ∀ {vs : List Nat}, (wipeD ρ vs)[i]? = some x → ρ[i]? = some x ∧ i ∉ vs
  | [], h => ⟨h, by simp⟩
  | v :: vs, h => by
    unfold wipeD at h
    by_cases hi : v = i
    · subst hi
      by_cases hv : v < (wipeD ρ vs).length
      · rw [List.getElem?_set_self hv] at h
        exact absurd (Option.some.inj h).symm hx
      · rw [List.getElem?_eq_none (by simpa using hv)] at h; cases h
    · rw [List.getElem?_set_ne hi] at h
      obtain ⟨h1, h2⟩ := wipeD_some hx h
      exact ⟨h1, by simp only [List.mem_cons, not_or]; exact ⟨fun e => hi e.symm, h2⟩⟩
theorem wipe_get {σ : L2.St} {i : Nat} : ∀ {vs : List Nat}, i ∉ vs → (wipe σ vs)[i]? = σ[i]?
  | [], _ => rfl
  | v :: vs, h => by
    have h1 : v ≠ i := fun e => h (by rw [e]; exact List.mem_cons_self)
    have h2 : i ∉ vs := fun m => h (List.mem_cons_of_mem _ m)
    unfold wipe
    rw [List.getElem?_set_ne h1]
    exact wipe_get h2
theorem wipe_in {σ : L2.St} {i : Nat} : ∀ {vs : List Nat}, i ∈ vs → i < σ.length → (wipe σ vs)[i]? = some none
  | [], h, _ => by cases h
  | v :: vs, h, hi => by
    unfold wipe
    by_cases e : v = i
    · subst e
      exact List.getElem?_set_self (by rw [wipe_length]; exact hi)
    · rw [List.getElem?_set_ne e]
      exact wipe_in ((List.mem_cons.mp h).resolve_left (Ne.symm e)) hi
theorem wipe_eq {σ σ' : L2.St} {vs ts : List Nat} (hl : σ'.length = σ.length) (h : ∀ j, j ∉ ts → σ'[j]? = σ[j]?) (hs : ∀ j ∈ ts, j ∈ vs) : wipe σ' vs = wipe σ vs := by
  refine List.ext_getElem? fun i => ?_
  by_cases hi : i ∈ vs
  · by_cases hlt : i < σ.length
    · rw [wipe_in hi (by omega), wipe_in hi hlt]
    · rw [List.getElem?_eq_none (by rw [wipe_length]; omega), List.getElem?_eq_none (by rw [wipe_length]; omega)]
  · rw [wipe_get hi, wipe_get hi]
    exact h i fun z => hi (hs i z)
theorem Rel.wipe {K : PySem.W.Frag} {F H : Hp} {σ : L2.St} {ρ : List Sl} {s : m.S} (r : Rel K m F H σ ρ s) (vs : List Nat) : Rel K m F H (L2.wipe σ vs) (wipeD ρ vs) s := by
  have back : ∀ i p, Owns (L2.wipe σ vs) (wipeD ρ vs) i p → Owns σ ρ i p := fun i p ⟨⟨o, h1⟩, h2⟩ => by
    obtain ⟨e1, n⟩ := wipeD_some (by intro z; cases z) h1
    rw [wipe_get n] at h2
    exact ⟨⟨o, e1⟩, h2⟩
  refine ⟨r.sub, r.mem, r.reg, by rw [wipe_length, wipeD_length]; exact r.len, fun i d e => ?_, fun i o e => ?_, fun i p h => r.owF i p (back i p h), fun i j p h1 h2 => r.uq i j p (back i p h1) (back j p h2)⟩
  · obtain ⟨e1, n⟩ := wipeD_some (by intro z; cases z) e
    obtain ⟨v, h1, h2⟩ := r.sh i d e1
    exact ⟨v, by rw [wipe_get n]; exact h1, h2⟩
  · obtain ⟨e1, n⟩ := wipeD_some (by intro z; cases z) e
    obtain ⟨p, ho, h1, h2, h3⟩ := r.ow i o e1
    exact ⟨p, ho, by rw [wipe_get n]; exact h1, h2, h3⟩

theorem wipe_wipe {σ : L2.St} {vs : List Nat} : wipe (wipe σ vs) vs = wipe σ vs := by
  refine List.ext_getElem? fun i => ?_
  by_cases hi : i ∈ vs
  · by_cases hlt : i < σ.length
    · rw [wipe_in hi (by rw [wipe_length]; exact hlt), wipe_in hi hlt]
    · rw [List.getElem?_eq_none (by rw [wipe_length, wipe_length]; omega), List.getElem?_eq_none (by rw [wipe_length]; omega)]
  · rw [wipe_get hi]
/-- an inner step is one for the outer slots, too -/
theorem Stp.outer {K : PySem.W.Frag} {F H F' H' : Hp} {σ σ2 : L2.St} {ρ ρ2 : List Sl} {s s' : m.S} (st : Stp m F H σ2 ρ2 s F' H' ρ2 s') (r2 : Rel K m F' H' σ2 ρ2 s') : Stp m F H σ ρ s F' H' ρ s' :=
  ⟨st.ext, st.keep, st.alive, fun a o h => by
    rcases st.fresh a o h with z | z | ⟨j, z⟩
    · exact .inl z
    · exact .inr (.inl z)
    · have z' := (r2.owF j a z).1
      rw [h] at z'
      exact absurd z' (by simp), st.regf, fun _ _ h => h⟩
/-- a hidden object is written -/
theorem Rel.hidW {K : PySem.W.Frag} {F H : Hp} {σ : L2.St} {ρ : List Sl} {s : m.S} (r : Rel K m F H σ ρ s) {p : Addr} {ho : HO} (n : F p = none) (nr : ¬ m.R s p) (no : ∀ i, ¬ Owns σ ρ i p) : Rel K m F (upd H p ho) σ ρ s := by
  refine ⟨fun b x e => ?_, m.loc s H _ r.mem fun a ha => upd_ne fun z => nr (z ▸ ha), r.reg, r.len, r.sh, fun i o e => ?_, r.owF, r.uq⟩
  · rw [upd_ne (ne_of_none e n)]; exact r.sub _ _ e
  · obtain ⟨q, ho', h1, h2, h3⟩ := r.ow i o e
    have hq : q ≠ p := fun z => no i (z ▸ ⟨⟨o, e⟩, h1⟩)
    exact ⟨q, ho', h1, by rw [upd_ne hq]; exact h2, h3⟩
theorem Stp.hidW {F H F' H' : Hp} {σ : L2.St} {ρ ρ' : List Sl} {s s' : m.S} (st : Stp m F H σ ρ s F' H' ρ' s') {p : Addr} {ho : HO} (n : H p = none) : Stp m F H σ ρ s F' (upd H' p ho) ρ' s' :=
  ⟨st.ext, fun a o h nr => by rw [upd_ne (ne_of_none h n)]; exact st.keep a o h nr, fun a h => by
    by_cases e : a = p
    · subst e; rw [upd_same]; simp
    · rw [upd_ne e]; exact st.alive a h, st.fresh, st.regf, st.shr⟩

abbrev dYes {m : Mem} : DTT m := fun ρ s Q => Q true ρ s
theorem PTs.imp {ifs : List Expr} {t t' : TT} (h : PTs X ifs t) (w : ∀ σ H Q, t' σ H Q → t σ H Q) : PTs X ifs t' := ⟨fun pins s σ H Q I q => h.run pins s σ H Q I (w σ H Q q)⟩
theorem dts_nil : PTs X [] (upT X.K m dYes) := PTs.imp pts_nil fun σ H Q h => by
  obtain ⟨F, ρ, s, Qd, r, ht, hQ⟩ := h
  exact hQ true ρ s F H ht r Stp.refl
theorem dts_one {c : Expr} {t : DTT m} (h : PT X c (upT X.K m t)) : PTs X [c] (upT X.K m t) := pts_one h
/-- [e for target in source if test], the source's items known: I says what list has been made of those that are done -/
def lcK {m : Mem} (g : DG) (tt : DTT m) (te : DT m) (vs : List Nat) (Q : DK m) : List D → List Sl → m.S → Prop := fun ds ρ1 s1 => ds.length ≤ sizeLine ∧ ∃ I : List D → List D → m.S → Prop, I [] [] s1 ∧
  (∀ pre x post acc s, ds = pre ++ x :: post → acc.length ≤ pre.length → I pre acc s → g x (wipeD ρ1 vs) fun ρ2 => tt ρ2 s fun b ρ3 s3 => ρ3 = ρ2 ∧ ifB b (te ρ2 s3 fun y ρ4 s4 => ρ4 = ρ2 ∧ I (pre ++ [x]) (acc ++ [y]) s4) (I (pre ++ [x]) acc s3)) ∧
  (∀ acc s, acc.length ≤ ds.length → I ds acc s → Q (.lst acc) ρ1 s)
/-- [e for target in source if test] -/
def dLc {m : Mem} (src : DTI m) (g : DG) (tt : DTT m) (te : DT m) (vs : List Nat) : DT m := fun ρ s Q => src ρ s (lcK g tt te vs Q)
theorem up_lc {K : PySem.W.Frag} {src : DTI m} {g : DG} {tt : DTT m} {te : DT m} {vs ts : List Nat} (hts : ∀ j ∈ ts, j ∈ vs) {σ : L2.St} {H : Hp} {Q : VK} {Qd : DK m} {F : Hp} {ρ : List Sl} {s : m.S} (r : Rel K m F H σ ρ s) (ht : dLc src g tt te vs ρ s Qd)
    (hQ : ∀ ds ρ' s' p ws F' H', Qd (.lst ds) ρ' s' → Rel K m F' H' σ ρ' s' → Stp m F H σ ρ s F' H' ρ' s' → H' p = some (.lst ws) → F' p = none → ¬ m.R s' p → (∀ i, ¬ Owns σ ρ' i p) → H p = none → ws.length ≤ sizeLine → Reps K F' ds ws → Q (.ref p) H') :
    tLc (upI K m src) (upG K m ts g) (upT K m tt) (up K m te) vs σ H Q := by
  refine ⟨F, ρ, s, _, r, ht, fun ds ρ1 s1 J F1 H1 ⟨hz, I, i0, turn, done⟩ r1 st1 w D nD => ?_⟩
  have nF : F1 D = none := r1.sub.free nD
  have nR : ¬ m.R s1 D := fun z => m.there s1 H1 D r1.mem z nD
  have nO : ∀ i, ¬ Owns σ ρ1 i D := fun i ⟨⟨o, e⟩, hσ⟩ => by
    obtain ⟨p, ho, h1, h2, _⟩ := r1.own_at e
    rw [hσ] at h1; cases h1
    rw [nD] at h2; cases h2
  have nD0 : H D = none := by
    cases q : H D with
    | none => rfl
    | some u => exact absurd nD (st1.alive D (by rw [q]; simp))
  -- the start: the new list at D
  have r0 : Rel K m F1 (upd H1 D (.lst [])) σ ρ1 s1 := by
    refine ⟨fun b x e => ?_, m.loc s1 H1 _ r1.mem fun a ha => upd_ne fun z => nR (z ▸ ha), r1.reg, r1.len, r1.sh, fun i o e => ?_, r1.owF, r1.uq⟩
    · rw [upd_ne (ne_of_none e nF)]; exact r1.sub _ _ e
    · obtain ⟨p, ho, h1, h2, h3⟩ := r1.ow i o e
      exact ⟨p, ho, h1, by rw [upd_ne (ne_of_none h2 nD)]; exact h2, h3⟩
  have st0 : Stp m F H σ ρ s F1 (upd H1 D (.lst [])) ρ1 s1 :=
    ⟨st1.ext, fun a o h n => by rw [upd_ne (ne_of_none h nD0)]; exact st1.keep a o h n, fun a h => by
      by_cases e : a = D
      · subst e; rw [upd_same]; simp
      · rw [upd_ne e]; exact st1.alive a h, st1.fresh, st1.regf, st1.shr⟩
  refine ⟨fun i n H2 => n = ds.length - i ∧ i ≤ ds.length ∧ ∃ F2 s2 acc ws, Rel K m F2 H2 σ ρ1 s2 ∧ Stp m F H σ ρ s F2 H2 ρ1 s2 ∧ Same F1 F2 ∧ H2 D = some (.lst ws) ∧ F2 D = none ∧ ¬ m.R s2 D ∧ Reps K F2 acc ws ∧ acc.length ≤ i ∧ I (ds.take i) acc s2,
    ⟨ds.length, by simp, Nat.zero_le _, F1, s1, [], [], r0, st0, Same.refl _, upd_same, nF, nR, .nil, Nat.le_refl _, by simpa using i0⟩, ?_⟩
  rintro i n H2 ⟨rfl, hi, F2, s2, acc, ws, r2, st2, sm, hD, nF2, nR2, rs, hacc, hI⟩
  obtain ⟨hstop, hgo⟩ := w F2 H2 sm r2.sub
  by_cases hlt : i < ds.length
  · obtain ⟨h1, h2⟩ := hgo i _ (List.getElem?_eq_getElem hlt)
    have hsplit : ds = ds.take i ++ ds[i] :: ds.drop (i + 1) := by
      rw [List.getElem_cons_drop, List.take_append_drop]
    have etake : ds.take (i + 1) = ds.take i ++ [ds[i]] := List.take_succ_eq_append_getElem hlt
    refine .inr ⟨h1, fun H' => ∃ F' s' acc' ws', Rel K m F' H' σ ρ1 s' ∧ Stp m F H σ ρ s F' H' ρ1 s' ∧ Same F1 F' ∧ H' D = some (.lst ws') ∧ F' D = none ∧ ¬ m.R s' D ∧ Reps K F' acc' ws' ∧ acc'.length ≤ i + 1 ∧ I (ds.take (i + 1)) acc' s',
      fun H' ⟨F', s', acc', ws', q⟩ => ⟨ds.length - (i + 1), by omega, rfl, hlt, F', s', acc', ws', q⟩, fun x H3 y => ?_⟩
    obtain ⟨F3, g3, rv⟩ := h2 x H3 y
    have r3 := r2.grow g3
    have hD3 : H3 D = some (.lst ws) := g3.hH _ _ hD
    have nF3 : F3 D = none := by
      cases q : F3 D with
      | none => rfl
      | some u =>
        rcases g3.fresh D u q with z | z
        · rw [nF2] at z; cases z
        · rw [z] at hD; cases hD
    have st3 := st2.trans (g3.stp (m := m) (s := s2) (ρ := ρ1) (σ := σ))
    have htk : (ds.take i).length = i := by rw [List.length_take]; omega
    refine ⟨F3, wipeD ρ1 vs, s2, ds[i], _, r3.wipe vs, rv, turn _ _ _ acc _ hsplit (by omega) hI, fun σ2 ρ2 q2 r4 o4 k4 => ⟨(wipe_eq k4.1 k4.2 hts).trans wipe_wipe, ?_⟩⟩
    refine ⟨F3, ρ2, s2, _, r4, q2, fun b ρ3 s3 F4 H4 ⟨e, q3⟩ r5 st5 => ?_⟩
    subst e
    obtain ⟨hD4, nF4, nR4⟩ := st5.hid r5 hD3 nF3 nR2
    have r6 := r3.carry st5 r5
    have st6 := st3.trans (st5.outer (σ := σ) (ρ := ρ1) r5)
    have sm4 : Same F1 F4 := (sm.trans g3.fF).trans st5.ext
    have rs4 := Reps.mono (g3.fF.trans st5.ext) _ _ rs
    have hlw := rs.length
    cases b with
    | false =>
      have q3 := ifB_f q3
      exact iteF ⟨F4, s3, acc, ws, r6, st6, sm4, hD4, nF4, nR4, rs4, by omega, by rw [etake]; exact q3⟩
    | true =>
      have q3 := ifB_t q3
      refine iteT ⟨F4, ρ3, s3, _, r5, q3, fun y ρ4 s4 v F5 H5 ⟨e, q4⟩ r7 st7 rvy => ?_⟩
      subst e
      obtain ⟨hD5, nF5, nR5⟩ := st7.hid r7 hD4 nF4 nR4
      have r8 := r6.carry st7 r7
      have st8 := st6.trans (st7.outer (σ := σ) (ρ := ρ1) r7)
      refine ⟨ws, hD5, by omega, F5, s4, acc ++ [y], ws ++ [v], r8.hidW nF5 nR5 nO, st8.hidW nD0, sm4.trans st7.ext, upd_same, nF5, nR5, (Reps.mono st7.ext _ _ rs4).append (.one rvy), by rw [List.length_append]; simp; omega, by rw [etake]; exact q4⟩
  · have e : i = ds.length := by omega
    subst e
    rw [List.take_length] at hI
    exact .inl ⟨hstop _ (Nat.le_refl _), hQ acc ρ1 s2 D ws F2 H2 (done acc s2 (by omega) hI) r2 st2 hD nF2 nR2 nO nD0 (by rw [rs.length]; omega) rs⟩
theorem de_lc {elt tg iter : Expr} {ifs : List Expr} {scope : Scope} {own : List (Str × Nat)} {pos : Pos} {src : DTI m} {g : DG} {ts : List Nat} {tt : DTT m} {te : DT m} (hN : X.N.Nodup) (hi : PI X tg iter (upI X.K m src)) (ok : BlkOk X.N X.env.scope scope own)
    (hg : ∀ (s : Shared) (H : Hp) (C : Addr) (cl : List (Str × Addr)) (fp : List Addr), PG (X.blk s H scope (compEnvC scope cl C X.env) fp) tg (upG X.K m ts g)) (ht : ∀ (s : Shared) (H : Hp) (C : Addr) (cl : List (Str × Addr)) (fp : List Addr), PTs (X.blk s H scope (compEnvC scope cl C X.env) fp) ifs (upT X.K m tt))
    (he : ∀ (s : Shared) (H : Hp) (C : Addr) (cl : List (Str × Addr)) (fp : List Addr), PE (X.blk s H scope (compEnvC scope cl C X.env) fp) elt (up X.K m te)) (hts : ∀ j ∈ ts, j ∈ own.map (·.2) := by decide) (hc : X.calm = true := by rfl) (hs : ∀ x, foldedSetIterable iter X.env x = pure x := by intro _; rfl) :
    PE X (.ListComp elt [⟨tg, iter, ifs, 0⟩] scope pos) (up X.K m (dLc src g tt te (own.map (·.2)))) := PE.imp (pe_lc hc hN hi ok hg ht he hs) fun σ H Q h => by
  obtain ⟨F, ρ, s, Qd, r, h, hQ⟩ := h
  refine up_lc hts r h fun ds ρ' s' p ws F' H' q r' st hp nF nR nO nH hz rs => ?_
  have sm : Same F' (upd F' p (.lst ws)) := same_upd nF
  refine hQ _ ρ' s' _ (upd F' p (.lst ws)) H' q (r'.adopt hp nF nR nO) ⟨st.ext.trans sm, st.keep, st.alive, fun a o e => ?_, st.regf, st.shr⟩ ⟨p, ws, rfl, upd_same, hz, Reps.mono sm _ _ rs⟩
  by_cases ha : a = p
  · subst ha; exact .inr (.inl nH)
  · rw [upd_ne ha] at e; exact st.fresh a o e
variable {E : Ent m}
/-- y = [..] -/
theorem ds_setLc (i : Nat) {y : Str} {py : Pos} {elt tg iter : Expr} {ifs : List Expr} {scope : Scope} {own : List (Str × Nat)} {pos spos : Pos} {src : DTI m} {g : DG} {ts : List Nat} {tt : DTT m} {te : DT m} (hN : X.N.Nodup) (hi : PI X tg iter (upI X.K m src)) (ok : BlkOk X.N X.env.scope scope own)
    (hg : ∀ (s : Shared) (H : Hp) (C : Addr) (cl : List (Str × Addr)) (fp : List Addr), PG (X.blk s H scope (compEnvC scope cl C X.env) fp) tg (upG X.K m ts g)) (ht : ∀ (s : Shared) (H : Hp) (C : Addr) (cl : List (Str × Addr)) (fp : List Addr), PTs (X.blk s H scope (compEnvC scope cl C X.env) fp) ifs (upT X.K m tt))
    (he : ∀ (s : Shared) (H : Hp) (C : Addr) (cl : List (Str × Addr)) (fp : List Addr), PE (X.blk s H scope (compEnvC scope cl C X.env) fp) elt (up X.K m te)) (hy : X.N[i]? = some y := by rfl) (hyl : X.env.scope.names.lookup y = some .local := by rfl)
    (hsw : swapsWith (.ListComp elt [⟨tg, iter, ifs, 0⟩] scope pos) (some (.Name y py)) spos.line X.env = pure true := by exact sw_true rfl rfl rfl (by decide +kernel)) (hts : ∀ j ∈ ts, j ∈ own.map (·.2) := by decide) (hc : X.calm = true := by rfl) (hs : ∀ x, foldedSetIterable iter X.env x = pure x := by intro _; rfl) :
    PS X (.Assign [.Name y py] (.ListComp elt [⟨tg, iter, ifs, 0⟩] scope pos) spos) (upS X.K m E (dSet i (dLc src g tt te (own.map (·.2))))) := PS.imp (ps_setLc hc hN hy hyl hsw hi ok hg ht he hs) fun DD σ H h => by
  obtain ⟨F, ρ, s, dd, r, o, h, f⟩ := h
  refine up_lc hts r h fun ds ρ' s' p ws F' H' q r' st hp nF nR nO nH hz rs => ?_
  have sm : Same F' (upd F' p (.lst ws)) := same_upd nF
  have st' : Stp m F H σ ρ s (upd F' p (.lst ws)) H' ρ' s' := ⟨st.ext.trans sm, st.keep, st.alive, fun a o e => by
    by_cases ha : a = p
    · subst ha; exact .inr (.inl nH)
    · rw [upd_ne ha] at e; exact st.fresh a o e, st.regf, st.shr⟩
  exact f.nx _ H' _ _ s' st'.ext ((r'.adopt hp nF nR nO).put (d := .lst ds) ⟨p, ws, rfl, upd_same, hz, Reps.mono sm _ _ rs⟩) ((o.stp st').put (K := X.K)) q
/-- .. a list that this def will change -/
def dSetLcO {m : Mem} (i : Nat) (src : DTI m) (g : DG) (tt : DTT m) (te : DT m) (vs : List Nat) : DTS m := fun dd ρ s => dLc src g tt te vs ρ s fun d ρ1 s1 => ∃ ds, d = .lst ds ∧ dd.nx (ρ1.set i (.ow (.lst ds))) s1
theorem ds_setLcO (i : Nat) {y : Str} {py : Pos} {elt tg iter : Expr} {ifs : List Expr} {scope : Scope} {own : List (Str × Nat)} {pos spos : Pos} {src : DTI m} {g : DG} {ts : List Nat} {tt : DTT m} {te : DT m} (hN : X.N.Nodup) (hi : PI X tg iter (upI X.K m src)) (ok : BlkOk X.N X.env.scope scope own)
    (hg : ∀ (s : Shared) (H : Hp) (C : Addr) (cl : List (Str × Addr)) (fp : List Addr), PG (X.blk s H scope (compEnvC scope cl C X.env) fp) tg (upG X.K m ts g)) (ht : ∀ (s : Shared) (H : Hp) (C : Addr) (cl : List (Str × Addr)) (fp : List Addr), PTs (X.blk s H scope (compEnvC scope cl C X.env) fp) ifs (upT X.K m tt))
    (he : ∀ (s : Shared) (H : Hp) (C : Addr) (cl : List (Str × Addr)) (fp : List Addr), PE (X.blk s H scope (compEnvC scope cl C X.env) fp) elt (up X.K m te)) (hy : X.N[i]? = some y := by rfl) (hyl : X.env.scope.names.lookup y = some .local := by rfl)
    (hsw : swapsWith (.ListComp elt [⟨tg, iter, ifs, 0⟩] scope pos) (some (.Name y py)) spos.line X.env = pure true := by exact sw_true rfl rfl rfl (by decide +kernel)) (hts : ∀ j ∈ ts, j ∈ own.map (·.2) := by decide) (hc : X.calm = true := by rfl) (hs : ∀ x, foldedSetIterable iter X.env x = pure x := by intro _; rfl) :
    PS X (.Assign [.Name y py] (.ListComp elt [⟨tg, iter, ifs, 0⟩] scope pos) spos) (upS X.K m E (dSetLcO i src g tt te (own.map (·.2)))) := PS.imp (ps_setLc hc hN hy hyl hsw hi ok hg ht he hs) fun DD σ H h => by
  obtain ⟨F, ρ, s, dd, r, o, h, f⟩ := h
  refine up_lc hts r h fun ds ρ' s' p ws F' H' ⟨es, e, q⟩ r' st hp nF nR nO nH hz rs => ?_
  cases e
  have o' := o.stp st
  have eH : E.H p = none := by
    cases q : E.H p with
    | none => rfl
    | some u => exact absurd nH (o.alive p (by rw [q]; simp))
  have other : ∀ (j : Nat) q, i ≠ j → Owns (σ.set i (some (.ref p))) (ρ'.set i (.ow (.lst ds))) j q → Owns σ ρ' j q := fun j q hj ⟨⟨o', h1⟩, h2⟩ => by
    rw [List.getElem?_set_ne hj] at h1 h2; exact ⟨⟨o', h1⟩, h2⟩
  have self : ∀ q, Owns (σ.set i (some (.ref p))) (ρ'.set i (.ow (.lst ds))) i q → q = p := fun q ⟨⟨o', h1⟩, h2⟩ => by
    have hi : i < σ.length := by
      have := (List.getElem?_eq_some_iff.mp h2).1
      rw [List.length_set] at this; exact this
    rw [List.getElem?_set_self hi] at h2
    cases h2; rfl
  refine f.nx F' H' _ _ s' st.ext ⟨r'.sub, r'.mem, r'.reg, by rw [List.length_set, List.length_set]; exact r'.len, fun j d' z => ?_, fun j o' z => ?_, fun j q z => ?_, fun j k q h1 h2 => ?_⟩ ⟨o'.ext, o'.keep, o'.alive, o'.fresh, o'.regf, fun j q z => ?_⟩ q
  · by_cases hj : i = j
    · subst hj
      have hi : i < ρ'.length := by
        have := (List.getElem?_eq_some_iff.mp z).1
        rw [List.length_set] at this; exact this
      rw [List.getElem?_set_self hi] at z
      cases z
    · rw [List.getElem?_set_ne hj] at z
      obtain ⟨w, h1, h2⟩ := r'.sh j d' z
      exact ⟨w, by rw [List.getElem?_set_ne hj]; exact h1, h2⟩
  · by_cases hj : i = j
    · subst hj
      have hi : i < ρ'.length := by
        have := (List.getElem?_eq_some_iff.mp z).1
        rw [List.length_set] at this; exact this
      rw [List.getElem?_set_self hi] at z
      cases z
      exact ⟨p, _, List.getElem?_set_self (by rw [r'.len]; exact hi), hp, ws, rfl, hz, rs⟩
    · rw [List.getElem?_set_ne hj] at z
      obtain ⟨q, ho', h1, h2, h3⟩ := r'.ow j o' z
      exact ⟨q, ho', by rw [List.getElem?_set_ne hj]; exact h1, h2, h3⟩
  · by_cases hj : i = j
    · subst hj
      rw [self q z]; exact ⟨nF, nR⟩
    · exact r'.owF j q (other j q hj z)
  · by_cases hj : i = j
    · subst hj
      by_cases hk : i = k
      · exact hk
      · exact absurd ((self q h1) ▸ other k q hk h2) (nO k)
    · by_cases hk : i = k
      · subst hk
        exact absurd ((self q h2) ▸ other j q hj h1) (nO j)
      · exact r'.uq j k q (other j q hj h1) (other k q hk h2)
  · by_cases hj : i = j
    · subst hj
      rw [self q z]; exact eH
    · exact o'.own j q (other j q hj z)
end

/-! ### a def -/
/-- the slots at a def's entry -/
def startD (N : List Str) (ds : List D) : List Sl := ds.map .sh ++ List.replicate (N.length - ds.length) .no
section
variable {P : Program} {w : World} {K : PySem.W.Frag} {mg : Str → Option Value} {base : Heap} {m : Mem}
theorem rel_start {F H : Hp} {s : m.S} {N : List Str} {ds : List D} {vs : List V} (sub : Same F H) (hm : m.M s H) (hr : ∀ a, m.R s a → F a = none) (rs : Reps K F ds vs) : Rel K m F H (L2.start N vs) (startD N ds) s := by
  have hl := rs.length
  have no : ∀ (i : Nat) o, (startD N ds)[i]? ≠ some (Sl.ow o) := fun i o e => by
    unfold startD at e
    by_cases hi : i < ds.length
    · rw [List.getElem?_append_left (by simpa using hi), List.getElem?_map, List.getElem?_eq_getElem hi] at e; cases e
    · rw [List.getElem?_append_right (by simpa using hi), List.getElem?_replicate] at e
      split at e <;> cases e
  refine ⟨sub, hm, hr, by unfold L2.start startD; simp [hl], fun i d e => ?_, fun i o e => absurd e (no i o), fun i p ⟨⟨o, e⟩, _⟩ => absurd e (no i o), fun i j p ⟨⟨o, e⟩, _⟩ _ => absurd e (no i o)⟩
  unfold startD at e
  by_cases hi : i < ds.length
  · rw [List.getElem?_append_left (by simpa using hi), List.getElem?_map, List.getElem?_eq_getElem hi] at e
    cases e
    obtain ⟨v, h1, h2⟩ := rs.get (List.getElem?_eq_getElem hi)
    refine ⟨v, ?_, h2⟩
    unfold L2.start
    rw [List.getElem?_append_left (by simp; omega), List.getElem?_map, h1]
    rfl
  · rw [List.getElem?_append_right (by simpa using hi), List.getElem?_replicate] at e
    split at e <;> cases e
/-- what a def's body is to reach -/
abbrev endsOf {m : Mem} (Qd : D → m.S → Prop) : DEnds m := { nx := fun _ s' => Qd .non s', rt := Qd }
/-- THE RULE for a def, over data -/
theorem dfn {x qual : Str} {st : Stmt} {f : Addr} {fd : FuncData} {N ps : List Str} {k n : Nat} {sp : DSp m} (F : Fun K x qual st f fd) (S : FnScope N ps (defScope st)) (hn : n = ps.length)
    (hb : ∀ (cdv : Value) (A : Around) (outer : List Env) (s : Shared) (H : Hp) (E : XK) (En : Ent m), RoomG k (A.deeper (envOfC qual (defScope st) s.heap.objs.size f cdv)) →
      ∃ t, PSs (cxOf CX0 P w K mg base N qual (defScope st) f cdv A outer s H E).nox (defBody st) (upS K m En t) ∧ ∀ ds s Qd, sp ds s Qd → t (endsOf Qd) (startD N ds) s) : FnG P w K mg base CX0 (k + 1) f fd ps (lift K m n sp) := by
  subst hn
  refine Fun.okG F S (fun vs H Q E h => h.1) (fun cdv A outer s H vs Q E hr h => ?_)
  obtain ⟨hl, F0, ds, s0, Qd, sub, hm, hreg, rs, hsp, hQ⟩ := h
  obtain ⟨t, ht, hq⟩ := hb cdv A outer s H E ⟨F0, H, s0, fun _ _ _ _ => False⟩ hr
  refine ⟨_, ht.nox, F0, startD N ds, s0, _, rel_start sub hm hreg rs, ⟨Same.refl _, fun _ _ h _ => h, fun _ h => h, fun _ _ h => .inl h, fun _ h => .inl h, fun i p ⟨⟨o, e⟩, _⟩ => ?_⟩, hq ds s0 Qd hsp, ?_⟩
  · unfold startD at e
    by_cases hi : i < ds.length
    · rw [List.getElem?_append_left (by simpa using hi), List.getElem?_map, List.getElem?_eq_getElem hi] at e; cases e
    · rw [List.getElem?_append_right (by simpa using hi), List.getElem?_replicate] at e
      split at e <;> cases e
  · have cs : ∀ F' H' σ ρ s, Rel K m F' H' σ ρ s → Own m ⟨F0, H, s0, fun _ _ _ _ => False⟩ F' H' σ ρ s → CStp m F0 H s0 F' H' s := fun F' H' σ ρ s r o => ⟨o.ext, o.keep, o.alive, o.fresh, o.regf, r.sub, r.mem, r.reg⟩
    exact ⟨fun F' H' σ ρ s _ r o q => hQ .non s _ F' H' q (cs F' H' σ ρ s r o) rfl, fun F' H' σ ρ s d v _ r o rv q => hQ d s v F' H' q (cs F' H' σ ρ s r o) rv, fun _ _ _ _ _ _ _ _ q => q.elim, fun _ _ _ _ _ _ _ _ q => q.elim, fun _ _ _ _ _ _ _ _ _ _ _ _ _ _ _ _ _ _ _ _ q => q.elim⟩
end
end DL

set_option Elab.async false
set_option linter.all false
set_option maxRecDepth 100000
namespace DL
open PySem PySem.Spec PyProof.Rows L2 TL

/-! ### what operations do with data -/
section
variable {K : PySem.W.Frag} {X : Cx}
/-- + -/
def addD : D → D → (D → Prop) → Prop
  | .int i, .int j, Q => Q (.int (i + j))
  | .str a, .str b, Q => a.length + b.length ≤ strLim ∧ Q (.str (a ++ b))
  | .lst a, .lst b, Q => a.length + b.length ≤ sizeLine ∧ Q (.lst (a ++ b))
  | .tup a, .tup b, Q => a.length + b.length ≤ sizeLine ∧ Q (.tup (a ++ b))
  | _, _, _ => False
def rAddA (K : PySem.W.Frag) : R2 := fun x y H Q => (∃ i j, x = .int i ∧ y = .int j ∧ Q (.int (i + j)) H) ∨ (∃ i j, x = .str i ∧ y = .str j ∧ i.length + j.length ≤ sizeLine ∧ Q (.str (i ++ j)) H) ∨ rCat x y H Q ∨ rCatA K x y H Q
theorem op_addA : OpR X (binaryOp .Add) (rAddA X.K) := op_add.or (op_add_str.or (op_cat.or op_catA))
theorem sOk_app {a b : Str} (h : sOk a = true) (k : sOk b = true) (l : a.length + b.length ≤ strLim) : sOk (a ++ b) = true := by
  refine sOk_of ?_ fun c hc => ?_
  · rw [len_tl, tl_append, List.length_append, ← len_tl, ← len_tl]; exact l
  · rw [show (a ++ b).cps.toList = tl a ++ tl b from tl_append a b] at hc
    rcases List.mem_append.mp hc with z | z
    · exact sOk_cps h c z
    · exact sOk_cps k c z
theorem o_add : Op2 K (rAddA K) addD := by
  intro F H dx dy x y Qd Q sub rx ry h hQ
  cases dx with
  | int i =>
    cases dy with
    | int j => cases rx; cases ry; exact .inl ⟨i, j, rfl, rfl, hQ _ _ F H h (Grow.refl sub) rfl⟩
    | _ => exact False.elim h
  | str a =>
    cases dy with
    | str b =>
      obtain ⟨rfl, ha⟩ := rx
      obtain ⟨rfl, hb⟩ := ry
      obtain ⟨hl, h⟩ := h
      exact .inr (.inl ⟨a, b, rfl, rfl, Nat.le_trans hl (Nat.le_trans (Nat.le_add_right _ 2) strLim_line), hQ _ _ F H h (Grow.refl sub) ⟨rfl, sOk_app ha hb hl⟩⟩)
    | _ => exact False.elim h
  | lst a =>
    cases dy with
    | lst b =>
      obtain ⟨p, vs, rfl, h1, _, rs⟩ := rx
      obtain ⟨q, ws, rfl, h2, _, rt⟩ := ry
      obtain ⟨hl, h⟩ := h
      have l1 := rs.length
      have l2 := rt.length
      refine .inr (.inr (.inl ⟨p, q, vs, ws, rfl, rfl, sub _ _ h1, sub _ _ h2, by omega, fun n nn => ?_⟩))
      have g : Grow F H (upd F n (.lst (vs ++ ws))) (upd H n (.lst (vs ++ ws))) := Grow.new sub nn
      exact hQ _ _ _ _ h g ⟨n, _, rfl, upd_same, by rw [List.length_append]; omega, (Reps.mono g.fF _ _ rs).append (Reps.mono g.fF _ _ rt)⟩
    | _ => exact False.elim h
  | tup a =>
    cases dy with
    | tup b =>
      have rx' := rx
      have ry' := ry
      obtain ⟨p, vs, rfl, h1, _, rs⟩ := rx
      obtain ⟨q, ws, rfl, h2, _, rt⟩ := ry
      obtain ⟨hl, h⟩ := h
      have l1 := rs.length
      have l2 := rt.length
      refine .inr (.inr (.inr ⟨p, q, vs, ws, rfl, rfl, Same.seqT sub h1, Same.seqT sub h2, by omega, fun e => ?_, fun _ e => ?_, fun _ _ n nn => ?_⟩))
      · subst e
        have e' : a = [] := by cases a with | nil => rfl | cons _ _ => cases l1
        subst e'
        exact hQ _ _ F H h (Grow.refl sub) ry'
      · subst e
        have e' : b = [] := by cases b with | nil => rfl | cons _ _ => cases l2
        subst e'
        rw [List.append_nil] at h
        exact hQ _ _ F H h (Grow.refl sub) rx'
      · have g : Grow F H (upd F n (.tup (vs ++ ws))) (upd H n (.tup (vs ++ ws))) := Grow.new sub nn
        exact hQ _ _ _ _ h g ⟨n, _, rfl, .inl (.inl upd_same), by rw [List.length_append]; omega, (Reps.mono g.fF _ _ rs).append (Reps.mono g.fF _ _ rt)⟩
    | _ => exact False.elim h
  | _ => cases dy <;> exact False.elim h
/-- - -/
def subD : D → D → (D → Prop) → Prop
  | .int i, .int j, Q => Q (.int (i - j))
  | _, _, _ => False
theorem o_ints {C : Int → Int → Prop} {g : Int → Int → Int} {f : D → D → (D → Prop) → Prop} (h : ∀ x y Qd, f x y Qd → ∃ i j, x = .int i ∧ y = .int j ∧ C i j ∧ Qd (.int (g i j))) : Op2 K (rI C fun i j => .int (g i j)) f := by
  intro F H dx dy x y Qd Q sub rx ry q hQ
  obtain ⟨i, j, rfl, rfl, c, q2⟩ := h _ _ _ q
  cases rx
  cases ry
  exact ⟨i, j, rfl, rfl, c, hQ _ _ F H q2 (Grow.refl sub) rfl⟩
theorem o_ints0 {g : Int → Int → Int} {f : D → D → (D → Prop) → Prop} (h : ∀ x y Qd, f x y Qd → ∃ i j, x = .int i ∧ y = .int j ∧ Qd (.int (g i j))) : Op2 K (rI0 fun i j => .int (g i j)) f := by
  intro F H dx dy x y Qd Q sub rx ry q hQ
  obtain ⟨i, j, rfl, rfl, q2⟩ := h _ _ _ q
  cases rx
  cases ry
  exact ⟨i, j, rfl, rfl, hQ _ _ F H q2 (Grow.refl sub) rfl⟩
theorem o_sub : Op2 K (rI0 fun i j => .int (i - j)) subD := o_ints0 fun x y Qd h => by
  cases x with
  | int i => cases y with
    | int j => exact ⟨i, j, rfl, rfl, h⟩
    | _ => exact False.elim h
  | _ => cases y <;> exact False.elim h
/-- % by a positive number -/
def modD : D → D → (D → Prop) → Prop
  | .int i, .int j, Q => 0 < j ∧ Q (.int (i % j))
  | _, _, _ => False
theorem o_mod : Op2 K (rI (fun _ j => 0 < j) fun i j => .int (i % j)) modD := o_ints fun x y Qd h => by
  cases x with
  | int i => cases y with
    | int j => exact ⟨i, j, rfl, rfl, h.1, h.2⟩
    | _ => exact False.elim h
  | _ => cases y <;> exact False.elim h
/-- -x -/
def negD : D → (D → Prop) → Prop
  | .int i, Q => Q (.int (-i))
  | _, _ => False
theorem o_neg : Op1 K (rU fun i => .int (-i)) negD := by
  intro F H dx x Qd Q sub rx h hQ
  cases dx with
  | int i => cases rx; exact ⟨i, rfl, hQ _ _ F H h (Grow.refl sub) rfl⟩
  | _ => exact False.elim h

/-! ### comparisons -/
def ltS (a b : Str) : Bool := decide (a.cps.toList < b.cps.toList)
def ltD : D → D → (Bool → Prop) → Prop
  | .int i, .int j, Q => Q (decide (i < j))
  | .str a, .str b, Q => Q (ltS a b)
  | _, _, _ => False
def leD : D → D → (Bool → Prop) → Prop
  | .int i, .int j, Q => Q (decide (i ≤ j))
  | .str a, .str b, Q => Q (!ltS b a)
  | _, _, _ => False
def gtD : D → D → (Bool → Prop) → Prop
  | .int i, .int j, Q => Q (decide (j < i))
  | .str a, .str b, Q => Q (ltS b a)
  | _, _, _ => False
def rIS (f : Int → Int → Bool) (g : Str → Str → Bool) : R2 := fun x y H Q => (∃ i j, x = .int i ∧ y = .int j ∧ Q (.bl (f i j)) H) ∨ (∃ i j, x = .str i ∧ y = .str j ∧ Q (.bl (g i j)) H)
theorem op_ltA : OpR X (compareOp .Lt) (rIS (fun i j => decide (i < j)) ltS) := op_lt.or op_lt_str
theorem op_leA : OpR X (compareOp .LtE) (rIS (fun i j => decide (i ≤ j)) fun a b => !ltS b a) := op_le.or op_le_str
theorem op_gtA : OpR X (compareOp .Gt) (rIS (fun i j => decide (j < i)) fun a b => ltS b a) := op_gt.or op_gt_str
theorem o_is {f : Int → Int → Bool} {g : Str → Str → Bool} {c : D → D → (Bool → Prop) → Prop} (h : ∀ x y Qd, c x y Qd → (∃ i j, x = .int i ∧ y = .int j ∧ Qd (f i j)) ∨ ∃ i j, x = .str i ∧ y = .str j ∧ Qd (g i j)) : Cm2 K (rIS f g) c := by
  intro F H dx dy x y Qd Q sub rx ry q hQ
  rcases h _ _ _ q with ⟨i, j, rfl, rfl, q2⟩ | ⟨i, j, rfl, rfl, q2⟩
  · cases rx; cases ry; exact .inl ⟨i, j, rfl, rfl, hQ _ F H q2 (Grow.refl sub)⟩
  · obtain ⟨rfl, _⟩ := rx
    obtain ⟨rfl, _⟩ := ry
    exact .inr ⟨i, j, rfl, rfl, hQ _ F H q2 (Grow.refl sub)⟩
theorem o_lt : Cm2 K (rIS (fun i j => decide (i < j)) ltS) ltD := o_is fun x y Qd h => by
  cases x <;> cases y <;> first | exact False.elim h | exact .inl ⟨_, _, rfl, rfl, h⟩ | exact .inr ⟨_, _, rfl, rfl, h⟩
theorem o_le : Cm2 K (rIS (fun i j => decide (i ≤ j)) fun a b => !ltS b a) leD := o_is fun x y Qd h => by
  cases x <;> cases y <;> first | exact False.elim h | exact .inl ⟨_, _, rfl, rfl, h⟩ | exact .inr ⟨_, _, rfl, rfl, h⟩
theorem o_gt : Cm2 K (rIS (fun i j => decide (j < i)) fun a b => ltS b a) gtD := o_is fun x y Qd h => by
  cases x <;> cases y <;> first | exact False.elim h | exact .inl ⟨_, _, rfl, rfl, h⟩ | exact .inr ⟨_, _, rfl, rfl, h⟩
/-- is None, is not None -/
def isNo : D → Bool
  | .non => true
  | _ => false
def isD : D → D → (Bool → Prop) → Prop
  | x, .non, Q => Q (isNo x)
  | _, _, _ => False
def isntD : D → D → (Bool → Prop) → Prop
  | x, .non, Q => Q (!isNo x)
  | _, _, _ => False
theorem rep_no {F : Hp} {d : D} {v : V} (h : Rep K F d v) (n : ∀ w, d ≠ .any w) : decide (v = .non) = isNo d := by
  cases d with
  | non => cases h; rfl
  | bl b => cases h; rfl
  | int i => cases h; rfl
  | str x => obtain ⟨rfl, _⟩ := h; rfl
  | lst xs => obtain ⟨a, vs, rfl, _⟩ := h; rfl
  | tup xs => obtain ⟨a, vs, rfl, _⟩ := h; rfl
  | dic ks ds => obtain ⟨a, vs, rfl, _⟩ := h; rfl
  | ins C ns ds => obtain ⟨a, dx, fs, rfl, _⟩ := h; rfl
  | any w => exact absurd rfl (n w)
  | fz xs => obtain ⟨a, vs, rfl, _⟩ := h; rfl
  | exc C ns ds => obtain ⟨a, d, fs, rfl, _⟩ := h; rfl
  | cau a x ns ds => obtain ⟨rfl, _⟩ := h; rfl
  | exk C ns ds => obtain ⟨a, x, fs, rfl, _⟩ := h; rfl
def isD' (x y : D) (Q : Bool → Prop) : Prop := (∀ w, x ≠ .any w) ∧ isD x y Q
def isntD' (x y : D) (Q : Bool → Prop) : Prop := (∀ w, x ≠ .any w) ∧ isntD x y Q
theorem o_isN : Cm2 K (fun x y H Q => y = .non ∧ Q (.bl (decide (x = .non))) H) isD' := by
  intro F H dx dy x y Qd Q sub rx ry h hQ
  obtain ⟨n, h⟩ := h
  cases dy with
  | non => cases ry; exact ⟨rfl, by rw [rep_no rx n]; exact hQ _ F H h (Grow.refl sub)⟩
  | _ => cases dx <;> exact False.elim h
theorem o_notN : Cm2 K (fun x y H Q => y = .non ∧ Q (.bl (!decide (x = .non))) H) isntD' := by
  intro F H dx dy x y Qd Q sub rx ry h hQ
  obtain ⟨n, h⟩ := h
  cases dy with
  | non => cases ry; exact ⟨rfl, by rw [rep_no rx n]; exact hQ _ F H h (Grow.refl sub)⟩
  | _ => cases dx <;> exact False.elim h

/-! ### == and != -/
mutual
/-- data without dicts, objects and the like, at most so deep -/
def plainD : Nat → D → Bool
  | _, .non => true
  | _, .bl _ => true
  | _, .int _ => true
  | _, .str _ => true
  | n, .lst xs => match n with
    | 0 => false
    | k + 1 => plainDs k xs
  | n, .tup xs => match n with
    | 0 => false
    | k + 1 => plainDs k xs
  | _, _ => false
def plainDs : Nat → List D → Bool
  | _, [] => true
  | n, d :: ds => plainD n d && plainDs n ds
end
mutual
def eqD : D → D → Bool
  | .non, .non => true
  | .bl a, .bl b => a == b
  | .bl a, .int j => (if a then 1 else 0) == j
  | .int i, .bl b => i == (if b then 1 else 0)
  | .int i, .int j => i == j
  | .str x, .str y => x == y
  | .lst xs, .lst ys => eqDs xs ys
  | .tup xs, .tup ys => eqDs xs ys
  | _, _ => false
def eqDs : List D → List D → Bool
  | [], [] => true
  | x :: xs, y :: ys => eqD x y && eqDs xs ys
  | _, _ => false
end
mutual
def toPy : D → PyData
  | .non => .none
  | .bl b => .bool b
  | .int i => .int i
  | .str x => .str x
  | .lst xs => .list (toPys xs)
  | .tup xs => .tuple (toPys xs)
  | _ => .none
def toPys : List D → List PyData
  | [] => []
  | d :: ds => toPy d :: toPys ds
end
mutual
theorem rep_dp {F H : Hp} (sub : Same F H) : ∀ (n : Nat) (d : D) (v : V), plainD n d = true → Rep K F d v → Dp K H v (toPy d)
  | _, .non, _, _, h => by cases h; exact .non
  | _, .bl b, _, _, h => by cases h; exact .bl b
  | _, .int i, _, _, h => by cases h; exact .int i
  | _, .str x, _, _, h => by obtain ⟨rfl, _⟩ := h; exact .str x
  | 0, .lst xs, _, p, _ => by simp [plainD] at p
  | n + 1, .lst xs, _, p, h => by
    obtain ⟨a, vs, rfl, h1, _, r⟩ := h
    exact .lst (.inl (.inl (sub _ _ h1))) (reps_dp sub n xs vs (by simpa [plainD] using p) r)
  | 0, .tup xs, _, p, _ => by simp [plainD] at p
  | n + 1, .tup xs, _, p, h => by
    obtain ⟨a, vs, rfl, h1, _, r⟩ := h
    exact .tup (Same.seqT sub h1) (reps_dp sub n xs vs (by simpa [plainD] using p) r)
  | _, .dic _ _, _, p, _ => by simp [plainD] at p
  | _, .ins _ _ _, _, p, _ => by simp [plainD] at p
  | _, .any _, _, p, _ => by simp [plainD] at p
  | _, .fz _, _, p, _ => by simp [plainD] at p
  | _, .exc _ _ _, _, p, _ => by simp [plainD] at p
  | _, .cau _ _ _ _, _, p, _ => by simp [plainD] at p
  | _, .exk _ _ _, _, p, _ => by simp [plainD] at p
theorem reps_dp {F H : Hp} (sub : Same F H) : ∀ (n : Nat) (ds : List D) (vs : List V), plainDs n ds = true → Reps K F ds vs → DpAll K H vs (toPys ds)
  | _, [], _, _, h => by cases h; exact .nil
  | n, d :: ds, _, p, ⟨v, r, e, h, t⟩ => by
    subst e
    rw [plainDs, Bool.and_eq_true] at p
    exact .cons (rep_dp sub n d v p.1 h) (reps_dp sub n ds r p.2 t)
end
theorem strOk_of {x : Str} (h : sOk x = true) : PyData.strOk x = true := by
  unfold PyData.strOk
  rw [← Array.all_toList]
  exact List.all_eq_true.mpr fun c hc => decide_eq_true (sOk_cps h c hc)
mutual
theorem lay_of {F : Hp} : ∀ (n : Nat) (d : D) (v : V), plainD n d = true → Rep K F d v → (toPy d).canLay0 = true ∧ (toPy d).depth ≤ n
  | _, .non, _, _, _ => ⟨rfl, Nat.zero_le _⟩
  | _, .bl b, _, _, _ => ⟨rfl, Nat.zero_le _⟩
  | _, .int i, _, _, _ => ⟨rfl, Nat.zero_le _⟩
  | _, .str x, _, _, h => by obtain ⟨_, h⟩ := h; exact ⟨by simpa [toPy, PyData.canLay0] using strOk_of h, by simp [toPy, PyData.depth]⟩
  | 0, .lst xs, _, p, _ => by simp [plainD] at p
  | n + 1, .lst xs, _, p, h => by
    obtain ⟨a, vs, rfl, h1, _, r⟩ := h
    obtain ⟨q1, q2⟩ := lay_ofs n xs vs (by simpa [plainD] using p) r
    exact ⟨by simpa [toPy, PyData.canLay0] using q1, by simp only [toPy, PyData.depth]; omega⟩
  | 0, .tup xs, _, p, _ => by simp [plainD] at p
  | n + 1, .tup xs, _, p, h => by
    obtain ⟨a, vs, rfl, h1, _, r⟩ := h
    obtain ⟨q1, q2⟩ := lay_ofs n xs vs (by simpa [plainD] using p) r
    exact ⟨by simpa [toPy, PyData.canLay0] using q1, by simp only [toPy, PyData.depth]; omega⟩
  | _, .dic _ _, _, p, _ => by simp [plainD] at p
  | _, .ins _ _ _, _, p, _ => by simp [plainD] at p
  | _, .any _, _, p, _ => by simp [plainD] at p
  | _, .fz _, _, p, _ => by simp [plainD] at p
  | _, .exc _ _ _, _, p, _ => by simp [plainD] at p
  | _, .cau _ _ _ _, _, p, _ => by simp [plainD] at p
  | _, .exk _ _ _, _, p, _ => by simp [plainD] at p
theorem lay_ofs {F : Hp} : ∀ (n : Nat) (ds : List D) (vs : List V), plainDs n ds = true → Reps K F ds vs → PyData.canLayAll0 (toPys ds) = true ∧ PyData.depthAll (toPys ds) ≤ n
  | _, [], _, _, _ => ⟨rfl, Nat.zero_le _⟩
  | n, d :: ds, _, p, ⟨v, r, e, h, t⟩ => by
    rw [plainDs, Bool.and_eq_true] at p
    obtain ⟨q1, q2⟩ := lay_of n d v p.1 h
    obtain ⟨q3, q4⟩ := lay_ofs n ds r p.2 t
    exact ⟨by simp only [toPys, PyData.canLayAll0, q1, q3, Bool.and_self], by simp only [toPys, PyData.depthAll]; omega⟩
end
mutual
theorem eqv_of : ∀ (n m : Nat) (d e : D), plainD n d = true → plainD m e = true → PyData.eqv (toPy d) (toPy e) = eqD d e
  | _, _, .non, e, _, q => by cases e <;> simp_all [toPy, eqD, PyData.eqv, plainD]
  | _, _, .bl b, e, _, q => by cases e <;> simp_all [toPy, eqD, PyData.eqv, plainD]
  | _, _, .int i, e, _, q => by cases e <;> simp_all [toPy, eqD, PyData.eqv, plainD]
  | _, _, .str x, e, _, q => by cases e <;> simp_all [toPy, eqD, PyData.eqv, plainD]
  | n, m, .lst xs, e, p, q => by
    cases e with
    | lst ys =>
      cases n with
      | zero => simp [plainD] at p
      | succ n =>
        cases m with
        | zero => simp [plainD] at q
        | succ m => simpa only [toPy, eqD, PyData.eqv] using eqv_ofs n m xs ys (by simpa [plainD] using p) (by simpa [plainD] using q)
    | _ => simp_all [toPy, eqD, PyData.eqv, plainD]
  | n, m, .tup xs, e, p, q => by
    cases e with
    | tup ys =>
      cases n with
      | zero => simp [plainD] at p
      | succ n =>
        cases m with
        | zero => simp [plainD] at q
        | succ m => simpa only [toPy, eqD, PyData.eqv] using eqv_ofs n m xs ys (by simpa [plainD] using p) (by simpa [plainD] using q)
    | _ => simp_all [toPy, eqD, PyData.eqv, plainD]
  | _, _, .dic _ _, _, p, _ => by simp [plainD] at p
  | _, _, .ins _ _ _, _, p, _ => by simp [plainD] at p
  | _, _, .any _, _, p, _ => by simp [plainD] at p
  | _, _, .fz _, _, p, _ => by simp [plainD] at p
  | _, _, .exc _ _ _, _, p, _ => by simp [plainD] at p
  | _, _, .cau _ _ _ _, _, p, _ => by simp [plainD] at p
  | _, _, .exk _ _ _, _, p, _ => by simp [plainD] at p
theorem eqv_ofs : ∀ (n m : Nat) (d e : List D), plainDs n d = true → plainDs m e = true → PyData.eqvAll (toPys d) (toPys e) = eqDs d e
  | _, _, [], [], _, _ => rfl
  | _, _, [], _ :: _, _, _ => rfl
  | _, _, _ :: _, [], _, _ => rfl
  | n, m, d :: ds, e :: es, p, q => by
    rw [plainDs, Bool.and_eq_true] at p q
    simp only [toPys, PyData.eqvAll, eqDs]
    rw [eqv_of n m d e p.1 q.1, eqv_ofs n m ds es p.2 q.2]
end
def eqC (x y : D) (Q : Bool → Prop) : Prop := plainD 60 x = true ∧ plainD 60 y = true ∧ Q (eqD x y)
def neC (x y : D) (Q : Bool → Prop) : Prop := plainD 60 x = true ∧ plainD 60 y = true ∧ Q (!eqD x y)
theorem shaped_of {F : Hp} {d : D} {v : V} (p : plainD 60 d = true) (h : Rep K F d v) : SeqAt.shaped (toPy d) = true := by
  obtain ⟨h1, h2⟩ := lay_of 60 d v p h
  unfold SeqAt.shaped
  rw [h1, decide_eq_true (by omega)]
  rfl
theorem o_eq : Cm2 K (rEqD K) eqC := by
  intro F H dx dy x y Qd Q sub rx ry h hQ
  obtain ⟨p1, p2, h⟩ := h
  refine ⟨toPy dx, toPy dy, rep_dp sub 60 dx x p1 rx, rep_dp sub 60 dy y p2 ry, shaped_of p1 rx, shaped_of p2 ry, ?_⟩
  rw [eqv_of 60 60 dx dy p1 p2]
  exact hQ _ F H h (Grow.refl sub)
theorem o_ne : Cm2 K (rNeD K) neC := by
  intro F H dx dy x y Qd Q sub rx ry h hQ
  obtain ⟨p1, p2, h⟩ := h
  refine ⟨toPy dx, toPy dy, rep_dp sub 60 dx x p1 rx, rep_dp sub 60 dy y p2 ry, shaped_of p1 rx, shaped_of p2 ry, ?_⟩
  rw [eqv_of 60 60 dx dy p1 p2]
  exact hQ _ F H h (Grow.refl sub)
/-! ### in, not in -/
def strIn (a z : Str) : Bool := !(Builtin.Str.occurrences z a 0 z.length 1).isEmpty
def notInD : D → D → (Bool → Prop) → Prop
  | .str a, .str z, Q => Q (!strIn a z)
  | x, .lst ys, Q => plainD 58 x = true ∧ plainDs 58 ys = true ∧ Q (!ys.any fun y => eqD y x)
  | _, _, _ => False
def rNotInA (K : PySem.W.Frag) : R2 := fun x y H Q => (∃ i j, x = .str i ∧ y = .str j ∧ Q (.bl (!strIn i j)) H) ∨ rNotInD K x y H Q
theorem op_notInA (hu : X.A.units + 65 < cLine) : OpR X (compareOp .NotIn) (rNotInA X.K) := op_notin_str.or (op_notInD hu)
theorem any_eqv (n m : Nat) (x : D) (hx : plainD n x = true) : ∀ (ys : List D), plainDs m ys = true → (toPys ys).any (fun z => PyData.eqv z (toPy x)) = ys.any fun y => eqD y x
  | [], _ => rfl
  | y :: ys, h => by
    rw [plainDs, Bool.and_eq_true] at h
    rw [toPys, List.any_cons, List.any_cons, eqv_of m n y x h.1 hx, any_eqv n m x hx ys h.2]
mutual
theorem plain_mono : ∀ (n m : Nat) (d : D), n ≤ m → plainD n d = true → plainD m d = true
  | _, _, .non, _, _ => by simp [plainD]
  | _, _, .bl _, _, _ => by simp [plainD]
  | _, _, .int _, _, _ => by simp [plainD]
  | _, _, .str _, _, _ => by simp [plainD]
  | 0, _, .lst xs, _, p => by simp [plainD] at p
  | n + 1, 0, .lst xs, h, _ => absurd h (by omega)
  | n + 1, m + 1, .lst xs, h, p => by simpa [plainD] using plain_monos n m xs (by omega) (by simpa [plainD] using p)
  | 0, _, .tup xs, _, p => by simp [plainD] at p
  | n + 1, 0, .tup xs, h, _ => absurd h (by omega)
  | n + 1, m + 1, .tup xs, h, p => by simpa [plainD] using plain_monos n m xs (by omega) (by simpa [plainD] using p)
  | _, _, .dic _ _, _, p => by simp [plainD] at p
  | _, _, .ins _ _ _, _, p => by simp [plainD] at p
  | _, _, .any _, _, p => by simp [plainD] at p
  | _, _, .fz _, _, p => by simp [plainD] at p
theorem plain_monos : ∀ (n m : Nat) (d : List D), n ≤ m → plainDs n d = true → plainDs m d = true
  | _, _, [], _, _ => by simp [plainDs]
  | n, m, d :: ds, h, p => by
    rw [plainDs, Bool.and_eq_true] at p ⊢
    exact ⟨plain_mono n m d h p.1, plain_monos n m ds h p.2⟩
end
theorem in_core {F H : Hp} {dx : D} {ys : List D} {x y : V} (sub : Same F H) (rx : Rep K F dx x) (ry : Rep K F (.lst ys) y) (p1 : plainD 58 dx = true) (p2 : plainDs 58 ys = true) :
    ∃ d ds, Dp K H x d ∧ Dp K H y (.list ds) ∧ SeqAt.shaped d = true ∧ SeqAt.shaped (.list ds) = true ∧ (ds.any fun z => PyData.eqv z d) = ys.any fun y => eqD y dx := by
  have q1 := plain_mono 58 60 dx (by omega) p1
  have q2 : plainD 60 (.lst ys) = true := by
    have := plain_monos 58 59 ys (by omega) p2
    simpa [plainD] using this
  exact ⟨toPy dx, toPys ys, rep_dp sub 60 dx x q1 rx, rep_dp sub 60 _ y q2 ry, shaped_of q1 rx, shaped_of q2 ry, any_eqv 58 58 dx p1 ys p2⟩
theorem o_notIn : Cm2 K (rNotInA K) notInD := by
  intro F H dx dy x y Qd Q sub rx ry h hQ
  cases dy with
  | lst ys =>
    have h' : plainD 58 dx = true ∧ plainDs 58 ys = true ∧ Qd (!ys.any fun y => eqD y dx) := by cases dx <;> exact h
    obtain ⟨p1, p2, q⟩ := h'
    obtain ⟨d, ds, a1, a2, a3, a4, e⟩ := in_core sub rx ry p1 p2
    exact .inr ⟨d, ds, a1, a2, a3, a4, by rw [e]; exact hQ _ F H q (Grow.refl sub)⟩
  | str z =>
    cases dx with
    | str a =>
      obtain ⟨rfl, _⟩ := rx
      obtain ⟨rfl, _⟩ := ry
      exact .inl ⟨a, z, rfl, rfl, hQ _ F H h (Grow.refl sub)⟩
    | _ => exact False.elim h
  | _ => cases dx <;> exact False.elim h

/-! ### subscripts and slices -/
def ixD : D → D → (D → Prop) → Prop
  | .lst ds, .int i, Q => ∃ d, atI ds i = some d ∧ Q d
  | .tup ds, .int i, Q => ∃ d, atI ds i = some d ∧ Q d
  | .str z, .int i, Q => ∃ c, atI z.cps.toList i = some c ∧ Q (.str ⟨#[c]⟩)
  | _, _, _ => False
theorem Reps.atI {F : Hp} {ds : List D} {vs : List V} {i : Int} {d : D} (h : Reps K F ds vs) (e : L2.atI ds i = some d) : ∃ v, L2.atI vs i = some v ∧ Rep K F d v := by
  unfold L2.atI at e ⊢
  rw [h.length]
  cases q : ixN ds.length i with
  | none => rw [q] at e; cases e
  | some j =>
    rw [q] at e
    exact h.get e
theorem sOk_one {c : Nat} (h : c < 0x110000) : sOk ⟨#[c]⟩ = true := sOk_of (by show 1 ≤ strLim; decide) fun c' hc' => by
  have e : c' = c := by simpa using hc'
  subst e
  exact h
theorem o_ix : Op2 K (rIx K) ixD := by
  intro F H dx dy x y Qd Q sub rx ry h hQ
  cases dx with
  | lst ds =>
    cases dy with
    | int i =>
      obtain ⟨a, vs, rfl, h1, _, rs⟩ := rx
      cases ry
      obtain ⟨d, e, q⟩ := h
      obtain ⟨v, e2, rv⟩ := rs.atI e
      exact .inl ⟨a, vs, i, v, rfl, rfl, .inl (.inl (sub _ _ h1)), e2, hQ d v F H q (Grow.refl sub) rv⟩
    | _ => exact False.elim h
  | tup ds =>
    cases dy with
    | int i =>
      obtain ⟨a, vs, rfl, h1, _, rs⟩ := rx
      cases ry
      obtain ⟨d, e, q⟩ := h
      obtain ⟨v, e2, rv⟩ := rs.atI e
      exact .inr (.inl ⟨a, vs, i, v, rfl, rfl, Same.seqT sub h1, e2, hQ d v F H q (Grow.refl sub) rv⟩)
    | _ => exact False.elim h
  | str z =>
    cases dy with
    | int i =>
      obtain ⟨rfl, hz⟩ := rx
      cases ry
      obtain ⟨c, e, q⟩ := h
      obtain ⟨j, _, hj, _, _, _⟩ := atI_get e
      exact .inr (.inr ⟨z, i, c, rfl, rfl, Nat.le_trans (sOk_len hz) (Nat.le_trans (Nat.le_add_right _ 2) strLim_line), e, hQ _ _ F H q (Grow.refl sub) ⟨rfl, sOk_one (sOk_cps hz c (List.mem_of_getElem? hj))⟩⟩)
    | _ => exact False.elim h
  | _ => cases dy <;> exact False.elim h
def cutD (xs : List D) (lo hi : Option Int) : List D := (xs.drop (HT.sIx xs.length 0 lo)).take (HT.sIx xs.length xs.length hi - HT.sIx xs.length 0 lo)
theorem Reps.cut {F : Hp} {ds : List D} {vs : List V} (h : Reps K F ds vs) (lo hi : Option Int) : Reps K F (cutD ds lo hi) (cutV vs lo hi) := by
  unfold cutD cutV
  rw [h.length]
  exact (h.drop _).take _
def slD : D → Option Int → Option Int → (D → Prop) → Prop
  | .lst ds, lo, hi, Q => Q (.lst (cutD ds lo hi))
  | .tup ds, lo, hi, Q => Q (.tup (cutD ds lo hi))
  | .str z, lo, hi, Q => Q (.str (cutS z lo hi))
  | _, _, _, _ => False
def rSlAll (K : PySem.W.Frag) : V → Option Int → Option Int → Hp → VK → Prop := fun x lo hi H Q => rSlL K x lo hi H Q ∨ rSlA K x lo hi H Q ∨ rSlS x lo hi H Q
theorem sl_all : SlR X (rSlAll X.K) := sl_list.or (sl_tupA.or sl_str)
theorem sOk_cut {z : Str} (h : sOk z = true) (lo hi : Option Int) : sOk (cutS z lo hi) = true := sOk_of (Nat.le_trans (cutS_length z lo hi) (sOk_len h)) fun c hc => by
  have hc' : c ∈ (z.cps.toList.drop (HT.sIx z.length 0 lo)).take (HT.sIx z.length z.length hi - HT.sIx z.length 0 lo) := hc
  exact sOk_cps h c (List.mem_of_mem_drop (List.mem_of_mem_take hc'))
theorem o_sl : OpS K (rSlAll K) slD := by
  intro F H dx x lo hi Qd Q sub rx h hQ
  cases dx with
  | lst ds =>
    obtain ⟨a, vs, rfl, h1, hl, rs⟩ := rx
    refine .inl ⟨a, vs, rfl, .inl (.inl (sub _ _ h1)), fun p np => ?_⟩
    have g : Grow F H (upd F p (.lst (cutV vs lo hi))) (upd H p (.lst (cutV vs lo hi))) := Grow.new sub np
    exact hQ _ _ _ _ h g ⟨p, _, rfl, upd_same, Nat.le_trans (cutV_length vs lo hi) hl, (Reps.mono g.fF _ _ rs).cut lo hi⟩
  | tup ds =>
    have rx' := rx
    obtain ⟨a, vs, rfl, h1, hl, rs⟩ := rx
    refine .inr (.inl ⟨a, vs, rfl, Same.seqT sub h1, fun e => ?_, fun _ p np => ?_⟩)
    · have e2 : cutD ds lo hi = ds := by
        unfold cutD
        rw [rs.length] at e
        rw [e.1, e.2, List.drop_zero, Nat.sub_zero, List.take_length]
      have h' : Qd (.tup (cutD ds lo hi)) := h
      rw [e2] at h'
      exact hQ _ _ F H h' (Grow.refl sub) rx'
    · have g : Grow F H (upd F p (.tup (cutV vs lo hi))) (upd H p (.tup (cutV vs lo hi))) := Grow.new sub np
      exact hQ _ _ _ _ h g ⟨p, _, rfl, .inl (.inl upd_same), Nat.le_trans (cutV_length vs lo hi) hl, (Reps.mono g.fF _ _ rs).cut lo hi⟩
  | str z =>
    obtain ⟨rfl, hz⟩ := rx
    exact .inr (.inr ⟨z, rfl, Nat.le_trans (sOk_len hz) (Nat.le_trans (Nat.le_add_right _ 2) strLim_line), hQ _ _ F H h (Grow.refl sub) ⟨rfl, sOk_cut hz lo hi⟩⟩)
  | _ => exact False.elim h
/-! ### built-in functions -/
def lenOf : D → Option Nat
  | .lst ds => some ds.length
  | .tup ds => some ds.length
  | .str z => some z.length
  | .dic ks _ => some ks.length
  | _ => none
def lenD (ds : List D) (Q : D → Prop) : Prop := ∃ d n, ds = [d] ∧ lenOf d = some n ∧ Q (.int (n : Nat))
def rLenA (K : PySem.W.Frag) : List V → Hp → VK → Prop := fun xs H Q => (∃ x n, xs = [x] ∧ LenV K x H n ∧ Q (.int n) H) ∨ (∃ a kvs, xs = [V.ref a] ∧ H a = some (.dK kvs) ∧ Q (.int kvs.length) H)
theorem CallR.or {f : Value} {r r' : List V → Hp → VK → Prop} (h : CallR X f r) (h' : CallR X f r') : CallR X f (fun xs H Q => r xs H Q ∨ r' xs H Q) := by
  intro pins s σ H xs us Q I rx q
  rcases q with q | q
  · exact h pins s σ H xs us Q I rx q
  · exact h' pins s σ H xs us Q I rx q
theorem o_len : OpN K (rLenA K) lenD := by
  intro F H ds vs Qd Q sub rs h hQ
  obtain ⟨d, n, rfl, e, q⟩ := h
  obtain ⟨v, _, rfl, rv, rn⟩ := rs
  cases rn
  have fin : Q (.int (n : Nat)) H := hQ _ _ F H q (Grow.refl sub) rfl
  cases d with
  | lst xs =>
    obtain ⟨a, ws, rfl, h1, _, r⟩ := rv
    cases e
    exact .inl ⟨_, xs.length, rfl, .inl ⟨ws, .inl (.inl (sub _ _ h1)), r.length.symm⟩, fin⟩
  | tup xs =>
    obtain ⟨a, ws, rfl, h1, _, r⟩ := rv
    cases e
    exact .inl ⟨_, xs.length, rfl, .inr ⟨ws, Same.seqT sub h1, r.length.symm⟩, fin⟩
  | str z =>
    obtain ⟨rfl, hz⟩ := rv
    cases e
    exact .inl ⟨_, z.length, rfl, ⟨Nat.le_trans (sOk_len hz) (Nat.le_trans (Nat.le_add_right _ 2) strLim_line), rfl⟩, fin⟩
  | dic ks xs =>
    obtain ⟨a, kvs, rfl, h1, _, ek, r⟩ := rv
    cases e
    refine .inr ⟨a, kvs, rfl, sub _ _ h1, ?_⟩
    have e2 : kvs.length = ks.length := by rw [← ek, List.length_map]
    rw [e2]
    exact fin
  | _ => cases e
theorem int1 {F : Hp} {i : Int} {vs : List V} (h : Reps K F [.int i] vs) : vs = [.int i] := reps_ints (ns := [i]) h
def intD (ds : List D) (Q : D → Prop) : Prop := ∃ i, ds = [.int i] ∧ Q (.int i)
theorem o_int : OpN K (fun xs H Q => (∃ i, xs = [.int i] ∧ Q (.int i) H) ∨ ∃ k, xs = [.bl k] ∧ Q (.int (if k then 1 else 0)) H) intD := by
  intro F H ds vs Qd Q sub rs h hQ
  obtain ⟨i, rfl, q⟩ := h
  exact .inl ⟨i, int1 rs, hQ _ _ F H q (Grow.refl sub) rfl⟩
def allD (ds : List D) (Q : D → Prop) : Prop := ∃ bs : List Bool, ds = [.lst (bs.map .bl)] ∧ Q (.bl (bs.all id))
def anyD (ds : List D) (Q : D → Prop) : Prop := ∃ bs : List Bool, ds = [.lst (bs.map .bl)] ∧ Q (.bl (bs.any id))
theorem o_all : OpN K (rAll K) allD := by
  intro F H ds vs Qd Q sub rs h hQ
  obtain ⟨bs, rfl, q⟩ := h
  obtain ⟨v, _, rfl, ⟨a, ws, rfl, h1, _, r⟩, rn⟩ := rs
  cases rn
  have e := reps_bls r
  subst e
  exact ⟨a, bs, rfl, .inl (.inl (sub _ _ h1)), hQ _ _ F H q (Grow.refl sub) rfl⟩
theorem o_any : OpN K (rAny K) anyD := by
  intro F H ds vs Qd Q sub rs h hQ
  obtain ⟨bs, rfl, q⟩ := h
  obtain ⟨v, _, rfl, ⟨a, ws, rfl, h1, _, r⟩, rn⟩ := rs
  cases rn
  have e := reps_bls r
  subst e
  exact ⟨a, bs, rfl, .inl (.inl (sub _ _ h1)), hQ _ _ F H q (Grow.refl sub) rfl⟩
/-- tuple(xs), list(xs) -/
def tupD (ds : List D) (Q : D → Prop) : Prop := ∃ d xs, ds = [d] ∧ seqD d = some xs ∧ Q (.tup xs)
def listD (ds : List D) (Q : D → Prop) : Prop := ∃ d xs, ds = [d] ∧ seqD d = some xs ∧ Q (.lst xs)
theorem o_tuple : OpN K (fun xs H Q => ∃ p ys, xs = [.ref p] ∧ ((SqL K H p ys ∧ ∀ l, H l = none → Q (.ref l) (upd H l (.tup ys))) ∨ (SqT K H p ys ∧ Q (.ref p) H))) tupD := by
  intro F H ds vs Qd Q sub rs h hQ
  obtain ⟨d, xs, rfl, e, q⟩ := h
  obtain ⟨v, _, rfl, rv, rn⟩ := rs
  cases rn
  cases d with
  | lst xs =>
    cases e
    obtain ⟨a, ws, rfl, h1, hl, r⟩ := rv
    refine ⟨a, ws, rfl, .inl ⟨.inl (.inl (sub _ _ h1)), fun p np => ?_⟩⟩
    have g : Grow F H (upd F p (.tup ws)) (upd H p (.tup ws)) := Grow.new sub np
    exact hQ _ _ _ _ q g ⟨p, _, rfl, .inl (.inl upd_same), hl, Reps.mono g.fF _ _ r⟩
  | tup xs =>
    cases e
    have rv' := rv
    obtain ⟨a, ws, rfl, h1, hl, r⟩ := rv
    exact ⟨a, ws, rfl, .inr ⟨Same.seqT sub h1, hQ _ _ F H q (Grow.refl sub) rv'⟩⟩
  | fz xs =>
    cases e
    obtain ⟨a, ws, rfl, h1, hl, r⟩ := rv
    refine ⟨a, ws, rfl, .inl ⟨Same.seq sub h1, fun p np => ?_⟩⟩
    have g : Grow F H (upd F p (.tup ws)) (upd H p (.tup ws)) := Grow.new sub np
    exact hQ _ _ _ _ q g ⟨p, _, rfl, .inl (.inl upd_same), hl, Reps.mono g.fF _ _ r⟩
  | _ => cases e
theorem o_list : OpN K (fun xs H Q => ∃ p ys, xs = [.ref p] ∧ (SqL K H p ys ∨ SqT K H p ys) ∧ ∀ l, H l = none → Q (.ref l) (upd H l (.lst ys))) listD := by
  intro F H ds vs Qd Q sub rs h hQ
  obtain ⟨d, xs, rfl, e, q⟩ := h
  obtain ⟨v, _, rfl, rv, rn⟩ := rs
  cases rn
  cases d with
  | lst xs =>
    cases e
    obtain ⟨a, ws, rfl, h1, hl, r⟩ := rv
    refine ⟨a, ws, rfl, .inl (.inl (.inl (sub _ _ h1))), fun p np => ?_⟩
    have g : Grow F H (upd F p (.lst ws)) (upd H p (.lst ws)) := Grow.new sub np
    exact hQ _ _ _ _ q g ⟨p, _, rfl, upd_same, hl, Reps.mono g.fF _ _ r⟩
  | tup xs =>
    cases e
    obtain ⟨a, ws, rfl, h1, hl, r⟩ := rv
    refine ⟨a, ws, rfl, .inr (Same.seqT sub h1), fun p np => ?_⟩
    have g : Grow F H (upd F p (.lst ws)) (upd H p (.lst ws)) := Grow.new sub np
    exact hQ _ _ _ _ q g ⟨p, _, rfl, upd_same, hl, Reps.mono g.fF _ _ r⟩
  | fz xs =>
    cases e
    obtain ⟨a, ws, rfl, h1, hl, r⟩ := rv
    refine ⟨a, ws, rfl, .inl (Same.seq sub h1), fun p np => ?_⟩
    have g : Grow F H (upd F p (.lst ws)) (upd H p (.lst ws)) := Grow.new sub np
    exact hQ _ _ _ _ q g ⟨p, _, rfl, upd_same, hl, Reps.mono g.fF _ _ r⟩
  | _ => cases e
/-- isinstance(x, T), T a built-in type -/
inductive Tg where
  | non | bl | int | str | lst | tup | dic
def tgS : Tg → String
  | .non => "NoneType"
  | .bl => "bool"
  | .int => "int"
  | .str => "str"
  | .lst => "list"
  | .tup => "tuple"
  | .dic => "dict"
def tyT : D → Option Tg
  | .non => some .non
  | .bl _ => some .bl
  | .int _ => some .int
  | .str _ => some .str
  | .lst _ => some .lst
  | .tup _ => some .tup
  | .dic _ _ => some .dic
  | _ => none
/-- what isinstance says -/
def isTg : Tg → Tg → Bool
  | .non, .non => true
  | .bl, .bl => true
  | .bl, .int => true
  | .int, .int => true
  | .str, .str => true
  | .lst, .lst => true
  | .tup, .tup => true
  | .dic, .dic => true
  | _, _ => false
theorem kitB_ok (t T : Tg) (h : T ≠ .non) : kitB (tgS t) (tgS T) = some (isTg t T) := by
  cases T with
  | non => exact absurd rfl h
  | bl => cases t <;> decide +kernel
  | int => cases t <;> decide +kernel
  | str => cases t <;> decide +kernel
  | lst => cases t <;> decide +kernel
  | tup => cases t <;> decide +kernel
  | dic => cases t <;> decide +kernel
def isiD (ds : List D) (Q : D → Prop) : Prop := ∃ x T t, ds = [x, .any (.ty (tgS T))] ∧ tyT x = some t ∧ T ≠ .non ∧ Q (.bl (isTg t T))
theorem ty_of {F H : Hp} {d : D} {v : V} {t : Tg} (sub : Same F H) (h : Rep K F d v) (e : tyT d = some t) : TyX K H v (.type (tgS t)) := by
  cases d with
  | non => cases e; cases h; exact .base .non
  | bl b => cases e; cases h; exact .base (.bl b)
  | int i => cases e; cases h; exact .base (.int i)
  | str x => cases e; obtain ⟨rfl, _⟩ := h; exact .base (.str x)
  | lst xs => cases e; obtain ⟨a, vs, rfl, h1, _, _⟩ := h; exact .base (.lst (sub _ _ h1))
  | tup xs =>
    cases e
    obtain ⟨a, vs, rfl, h1, _, _⟩ := h
    rcases h1 with (h1 | ⟨o, h1⟩) | ⟨o, its, n, h1, h2, _⟩
    · exact .base (.tup (sub _ _ h1))
    · exact .fTuple (sub _ _ h1)
    · exact .kTuple h1 h2
  | dic ks ds => cases e; obtain ⟨a, vs, rfl, h1, _⟩ := h; exact .base (.dK (sub _ _ h1))
  | ins _ _ _ => cases e
  | any _ => cases e
  | fz _ => cases e
  | exc _ _ _ => cases e
  | cau _ _ _ _ => cases e
  | exk _ _ _ => cases e
theorem o_isi : OpN K (rIsi K) isiD := by
  intro F H ds vs Qd Q sub rs h hQ
  obtain ⟨x, T, t, rfl, e1, e2, q⟩ := h
  obtain ⟨v, _, rfl, rv, w, _, rfl, rw', rn⟩ := rs
  cases rn
  cases rw'
  exact ⟨v, .ty (tgS T), .type (tgS t), .type (tgS T), _, rfl, .ty _, ty_of sub rv e1, kit_ty (kitB_ok t T e2), hQ _ _ F H q (Grow.refl sub) rfl⟩
/-- isinstance(x, (T1, T2)), the types written -/
theorem kitAny_ok {t : Tg} : ∀ Ts : List Tg, (∀ T ∈ Ts, T ≠ .non) → PySem.W.kitAny K (.type (tgS t)) (Ts.map fun T => .type (tgS T)) = some (Ts.any (isTg t))
  | [], _ => rfl
  | T :: Ts, h => by
    have e : PySem.W.kitOne K (.type (tgS t)) (.type (tgS T)) = some (isTg t T) := kit_ty (kitB_ok t T (h T List.mem_cons_self))
    have ih := kitAny_ok (t := t) Ts fun T' h' => h T' (List.mem_cons_of_mem _ h')
    rw [List.map_cons, List.any_cons]
    refine kitAny_cons e (fun z => ?_) (fun z => ?_)
    · rw [z, Bool.false_or]; exact ih
    · rw [z, Bool.true_or]
def dIsT {m : Mem} (te : DT m) (T1 T2 : Tg) : DT m := fun ρ s Q => te ρ s fun x ρ1 s1 => ∃ t, tyT x = some t ∧ Q (.bl (isTg t T1 || isTg t T2)) ρ1 s1
theorem de_isT {m : Mem} {e : Expr} {te : DT m} {x1 x2 : Str} {t1 t2 : Tg} {p p1 p2 pt pos : Pos} {k : Nat} (hg : Gl X "isinstance") (hm : X.mg "isinstance" = none) (he : PE X e (up X.K m te)) (hg1 : Gl X x1) (hm1 : X.mg x1 = none) (hv1 : bootBuiltins x1 = some (.type (tgS t1))) (hg2 : Gl X x2) (hm2 : X.mg x2 = none) (hv2 : bootBuiltins x2 = some (.type (tgS t2)))
    (h1 : t1 ≠ .non := by intro z; cases z) (h2 : t2 ≠ .non := by intro z; cases z) (n1 : x1 ≠ "__name__" := by decide) (n2 : x2 ≠ "__name__" := by decide) (d1 : (x1 == ("__debug__" : Str)) = false := by decide) (d2 : (x2 == ("__debug__" : Str)) = false := by decide)
    (hs : starEach [e, .Tuple [.Name x1 p1, .Name x2 p2] k pt] X.env = [(false, eval e X.env), (false, eval (.Tuple [.Name x1 p1, .Name x2 p2] k pt) X.env)] := by rfl)
    (hs2 : starEach [.Name x1 p1, .Name x2 p2] X.env = [(false, eval (.Name x1 p1) X.env), (false, eval (.Name x2 p2) X.env)] := by rfl) (hs3 : starEach [.Name x2 p2] X.env = [(false, eval (.Name x2 p2) X.env)] := by rfl)
    (hs4 : starEach [.Tuple [.Name x1 p1, .Name x2 p2] k pt] X.env = [(false, eval (.Tuple [.Name x1 p1, .Name x2 p2] k pt) X.env)] := by rfl) :
    PE X (.Call (.Name "isinstance" p) [e, .Tuple [.Name x1 p1, .Name x2 p2] k pt] [] pos) (up X.K m (dIsT te t1 t2)) :=
  PE.imp (pe_callB call_isiT hg hm (by decide +kernel) (pa_cons he (pa_cons (pe_tup (pa_cons (pe_bltn (v := .ty (tgS t1)) hg1 hm1 hv1 rfl n1 d1) (pa_cons (pe_bltn (v := .ty (tgS t2)) hg2 hm2 hv2 rfl n2 d2) pa_nil (by rw [hs3]; rfl)) (by rw [hs2, hs3]))) pa_nil (by rw [hs4]; rfl)) (by rw [hs, hs4])) (by decide) (by decide) (by rw [hs, hs4]) (by rw [hs4]; rfl)) fun σ H Q h => by
    obtain ⟨F, ρ, s, Qd, r, ht, hQ⟩ := h
    refine ⟨F, ρ, s, _, r, ht, fun d ρ1 s1 v F1 H1 ⟨t, e1, q1⟩ r1 st1 rv => ⟨by show 2 ≤ sizeLine; decide, fun q nq => ?_⟩⟩
    have g : Grow F1 H1 (upd F1 q (.tup [.ty (tgS t1), .ty (tgS t2)])) (upd H1 q (.tup [.ty (tgS t1), .ty (tgS t2)])) := Grow.new r1.sub nq
    refine ⟨v, q, [.ty (tgS t1), .ty (tgS t2)], .type (tgS t), [.type (tgS t1), .type (tgS t2)], _, rfl, upd_same, .cons (.ty _) (.cons (.ty _) .nil), ty_of g.fH (Rep.mono g.fF _ _ rv) e1, kitAny_ok [t1, t2] (fun T h => ?_), ?_⟩
    · rcases List.mem_cons.mp h with rfl | h
      · exact h1
      · rw [List.mem_singleton.mp h]; exact h2
    · have e : [t1, t2].any (isTg t) = (isTg t t1 || isTg t t2) := by simp
      rw [e]
      exact hQ _ ρ1 s1 _ _ _ q1 (r1.grow g) (st1.trans g.stp) rfl

/-! ### methods of texts -/
theorem line2 {a : Str} (h : sOk a = true) : a.length + 2 ≤ sizeLine := Nat.le_trans (Nat.add_le_add_right (sOk_len h) 2) strLim_line
theorem line0 {a : Str} (h : sOk a = true) : a.length ≤ sizeLine := Nat.le_trans (Nat.le_add_right _ 2) (line2 h)
/-- a text cut at a text of one sign: its parts -/
theorem spl_mem {S : List Nat} : ∀ (k : Nat) (acc l : List Nat), ∀ p ∈ spl S k acc l, p.length ≤ acc.length + l.length ∧ ∀ c ∈ p, c ∈ acc ∨ c ∈ l
  | _, acc, [], p, hp => by
    rw [spl_nil] at hp
    have e : p = acc := by simpa using hp
    subst e
    exact ⟨by simp, fun c hc => .inl hc⟩
  | 0, acc, c :: r, p, hp => by
    cases h : pre S (c :: r) with
    | true =>
      rw [spl_hit h] at hp
      rcases List.mem_cons.mp hp with e | hp
      · subst e; exact ⟨by simp, fun c hc => .inl hc⟩
      · obtain ⟨h1, h2⟩ := spl_mem (S.length - 1) [] r p hp
        exact ⟨by simp at h1 ⊢; omega, fun c' hc => .inr (List.mem_cons_of_mem _ ((h2 c' hc).resolve_left (by simp)))⟩
    | false =>
      rw [spl_miss h] at hp
      obtain ⟨h1, h2⟩ := spl_mem 0 (acc ++ [c]) r p hp
      refine ⟨by simp at h1 ⊢; omega, fun c' hc => ?_⟩
      rcases h2 c' hc with z | z
      · rcases List.mem_append.mp z with z | z
        · exact .inl z
        · exact .inr (by have : c' = c := by simpa using z
                         subst this
                         exact List.mem_cons_self)
      · exact .inr (List.mem_cons_of_mem _ z)
  | k + 1, acc, c :: r, p, hp => by
    have e : spl S (k + 1) acc (c :: r) = spl S k acc r := rfl
    rw [e] at hp
    obtain ⟨h1, h2⟩ := spl_mem k acc r p hp
    exact ⟨by simp; omega, fun c' hc => (h2 c' hc).elim .inl fun z => .inr (List.mem_cons_of_mem _ z)⟩
/-- the parts of a text between signs c -/
def splS (c : Nat) (x : Str) : List Str := (spl [c] 0 [] (tl x)).map fun l => ⟨l.toArray⟩
theorem split_splS {c : Nat} (hc : c < 256) (x : Str) : Txt.split x ⟨#[c]⟩ = splS c x := by
  refine map_tl_inj ?_
  rw [split_spl x ⟨#[c]⟩ (by simp) (kind_ok (by simpa using hc))]
  unfold splS
  rw [List.map_map]
  show spl [c] 0 [] (tl x) = (spl [c] 0 [] (tl x)).map (fun l => l)
  rw [List.map_id']
theorem sOk_spl {c : Nat} {x : Str} (h : sOk x = true) : ∀ y ∈ splS c x, sOk y = true := fun y hy => by
  obtain ⟨l, hl, rfl⟩ := List.mem_map.mp hy
  obtain ⟨h1, h2⟩ := spl_mem 0 [] (tl x) l hl
  refine sOk_of ?_ fun c' hc => sOk_cps h c' ((h2 c' hc).resolve_left (by simp))
  have := sOk_len h
  rw [len_tl] at this
  show l.toArray.size ≤ strLim
  rw [List.size_toArray]
  rw [List.length_nil, Nat.zero_add] at h1
  exact Nat.le_trans h1 this
def splitD : D → List D → (D → Prop) → Prop := fun x ds Q => ∃ z c, x = .str z ∧ ds = [.str ⟨#[c]⟩] ∧ c < 256 ∧ Q (.lst ((splS c z).map .str))
theorem new_strs {F H : Hp} {ys : List Str} {Qd : D → Prop} {Q : VK} (sub : Same F H) (hl : ys.length ≤ sizeLine) (hy : ∀ y ∈ ys, sOk y = true) (h : Qd (.lst (ys.map .str))) (hQ : ∀ d v F' H', Qd d → Grow F H F' H' → Rep K F' d v → Q v H') : rNewStrs ys H Q := fun p np => by
  have g : Grow F H (upd F p (.lst (ys.map V.str))) (upd H p (.lst (ys.map V.str))) := Grow.new sub np
  exact hQ _ _ _ _ h g ⟨p, _, rfl, upd_same, by rw [List.length_map]; exact hl, reps_of_strs ys hy⟩
theorem o_split : OpM K (fun x xs H Q => ∃ a b, x = .str a ∧ xs = [.str b] ∧ (b.length == 0) = false ∧ a.length + 2 ≤ sizeLine ∧ rNewStrs (Txt.split a b) H Q) splitD := by
  intro F H dx x ds vs Qd Q sub rx rs h hQ
  obtain ⟨z, c, rfl, rfl, hc, q⟩ := h
  obtain ⟨rfl, hz⟩ := rx
  obtain ⟨v, _, rfl, ⟨rfl, _⟩, rn⟩ := rs
  cases rn
  refine ⟨z, ⟨#[c]⟩, rfl, rfl, rfl, line2 hz, ?_⟩
  have hl := PyProof.Rows.split_le z ⟨#[c]⟩
  have h2 := line2 hz
  rw [split_splS hc] at hl ⊢
  exact new_strs sub (by omega) (sOk_spl hz) q hQ
def joinS (z : Str) (ys : List Str) : Str := Str.join z ys
theorem joinL_len (S : List Nat) : ∀ ps : List (List Nat), (joinL S ps).length ≤ (ps.map List.length).sum + ps.length * S.length
  | [] => by simp [joinL]
  | [p] => by simp [joinL]
  | p :: q :: r => by
    have ih := joinL_len S (q :: r)
    have e : joinL S (p :: q :: r) = p ++ S ++ joinL S (q :: r) := (List.append_assoc _ _ _).symm
    rw [e]
    simp only [List.length_append, List.map_cons, List.sum_cons, List.length_cons] at ih ⊢
    have e2 : (r.length + 1 + 1) * S.length = (r.length + 1) * S.length + S.length := Nat.succ_mul _ _
    omega
theorem joinL_mem (S : List Nat) {c : Nat} : ∀ ps : List (List Nat), c ∈ joinL S ps → c ∈ S ∨ ∃ p ∈ ps, c ∈ p
  | [], h => by simp [joinL] at h
  | [p], h => .inr ⟨p, by simp, h⟩
  | p :: q :: r, h => by
    have e : joinL S (p :: q :: r) = p ++ S ++ joinL S (q :: r) := (List.append_assoc _ _ _).symm
    rw [e] at h
    rcases List.mem_append.mp h with h | h
    · rcases List.mem_append.mp h with h | h
      · exact .inr ⟨p, by simp, h⟩
      · exact .inl h
    · rcases joinL_mem S (q :: r) h with h | ⟨u, hu, hc⟩
      · exact .inl h
      · exact .inr ⟨u, List.mem_cons_of_mem _ hu, hc⟩
def joinD : D → List D → (D → Prop) → Prop := fun x ds Q => ∃ z ys, x = .str z ∧ (ds = [.lst (ys.map .str)] ∨ ds = [.tup (ys.map .str)]) ∧ (ys.map (·.length)).sum + ys.length * z.length ≤ strLim ∧ Q (.str (joinS z ys))
theorem o_join : OpM K (fun x xs H Q => ∃ a p, ∃ ys : List Str, x = .str a ∧ xs = [.ref p] ∧ (SqL K H p (ys.map V.str) ∨ SqT K H p (ys.map V.str)) ∧
    (ys.map (·.length)).sum + ys.length * a.length ≤ 16777216 ∧ Q (.str (Txt.join a ys)) H) joinD := by
  intro F H dx x ds vs Qd Q sub rx rs h hQ
  obtain ⟨z, ys, rfl, hd, hl, q⟩ := h
  obtain ⟨rfl, hz⟩ := rx
  have hs : strLim = 1000000 := rfl
  have fin : ∀ (hy : ∀ y ∈ ys, sOk y = true), Q (.str (Txt.join z ys)) H := fun hy => by
    rw [join_eq]
    refine hQ _ _ F H q (Grow.refl sub) ⟨rfl, sOk_of ?_ fun c hc => ?_⟩
    · rw [len_tl]
      show (tl (Str.join z ys)).length ≤ strLim
      rw [tl_join]
      refine Nat.le_trans (joinL_len _ _) ?_
      rw [List.map_map, List.length_map, ← len_tl]
      have e : ys.map (List.length ∘ tl) = ys.map (·.length) := List.map_congr_left fun y _ => (len_tl y).symm
      rw [e]
      exact hl
    · have hc' : c ∈ tl (Str.join z ys) := hc
      rw [tl_join] at hc'
      rcases joinL_mem _ _ hc' with h | ⟨p, hp, hcp⟩
      · exact sOk_cps hz c h
      · obtain ⟨y, hy', rfl⟩ := List.mem_map.mp hp
        exact sOk_cps (hy y hy') c hcp
  rcases hd with rfl | rfl
  · obtain ⟨v, _, rfl, ⟨a, ws, rfl, h1, _, r⟩, rn⟩ := rs
    cases rn
    obtain ⟨rfl, hy⟩ := reps_strs r
    exact ⟨z, a, ys, rfl, rfl, .inl (.inl (.inl (sub _ _ h1))), by omega, fin hy⟩
  · obtain ⟨v, _, rfl, ⟨a, ws, rfl, h1, _, r⟩, rn⟩ := rs
    cases rn
    obtain ⟨rfl, hy⟩ := reps_strs r
    exact ⟨z, a, ys, rfl, rfl, .inr (Same.seqT sub h1), by omega, fin hy⟩
def swD : D → List D → (D → Prop) → Prop := fun x ds Q => ∃ a b, x = .str a ∧ ds = [.str b] ∧ Q (.bl (Txt.startswith a b))
theorem o_sw : OpM K (fun x xs H Q => ∃ a b, x = .str a ∧ xs = [.str b] ∧ Q (.bl (Txt.startswith a b)) H) swD := by
  intro F H dx x ds vs Qd Q sub rx rs h hQ
  obtain ⟨a, b, rfl, rfl, q⟩ := h
  obtain ⟨rfl, _⟩ := rx
  obtain ⟨v, _, rfl, ⟨rfl, _⟩, rn⟩ := rs
  cases rn
  exact ⟨a, b, rfl, rfl, hQ _ _ F H q (Grow.refl sub) rfl⟩
/-- rpartition -/
theorem mt_rpartition : MtR X "str.rpartition" (fun x xs H Q => ∃ a b, x = .str a ∧ xs = [.str b] ∧ (b.length == 0) = false ∧ a.length ≤ sizeLine ∧
    ∀ p, H p = none → Q (.ref p) (upd H p (.tup [.str (Txt.rpartition a b).1, .str (Txt.rpartition a b).2.1, .str (Txt.rpartition a b).2.2]))) := by
  intro pins s σ H x xs v us Q I rx rs h
  obtain ⟨a, b, rfl, rfl, hb, hz, h⟩ := h
  obtain ⟨t, rfl⟩ := rx
  cases rs with
  | cons r1 rs =>
    cases rs
    obtain ⟨u, rfl⟩ := r1
    refine call_meets PySem.F.slot_str_rpartition (typeIs_str _ _ _) PySem.F.entry_str_rpartition (PySem.F.args_str_rpartition_2 _ _) (meets_str_rpartition a b t u hb hz) ?_
    unfold Txt.rpartition at h
    revert h
    cases Builtin.Str.lastOccurrence a b 0 a.length with
    | none => intro h; exact laid_parts I h
    | some i => intro h; exact laid_parts I h
def rpartD : D → List D → (D → Prop) → Prop := fun x ds Q => ∃ z c, x = .str z ∧ ds = [.str ⟨#[c]⟩] ∧ c < 0x110000 ∧ Q (.tup [.str (Txt.rpartition z ⟨#[c]⟩).1, .str (Txt.rpartition z ⟨#[c]⟩).2.1, .str (Txt.rpartition z ⟨#[c]⟩).2.2])
theorem sOk_sub {z : Str} (h : sOk z = true) (i j : Nat) : sOk (Builtin.Str.strSub z i j) = true := by
  refine sOk_of ?_ fun c hc => ?_
  · rw [len_tl, tl_strSub, List.length_take, List.length_drop]
    have := sOk_len h
    rw [len_tl] at this
    omega
  · have hc' : c ∈ tl (Builtin.Str.strSub z i j) := hc
    rw [tl_strSub] at hc'
    exact sOk_cps h c (List.mem_of_mem_drop (List.mem_of_mem_take hc'))
theorem sOk_rpart {z : Str} {b : Str} (h : sOk z = true) (hb : sOk b = true) : sOk (Txt.rpartition z b).1 = true ∧ sOk (Txt.rpartition z b).2.1 = true ∧ sOk (Txt.rpartition z b).2.2 = true := by
  unfold Txt.rpartition
  cases Builtin.Str.lastOccurrence z b 0 z.length with
  | none => exact ⟨by show sOk Str.empty = true; decide, by show sOk Str.empty = true; decide, h⟩
  | some i => exact ⟨sOk_sub h _ _, hb, sOk_sub h _ _⟩
theorem o_rpart : OpM K (fun x xs H Q => ∃ a b, x = .str a ∧ xs = [.str b] ∧ (b.length == 0) = false ∧ a.length ≤ sizeLine ∧
    ∀ p, H p = none → Q (.ref p) (upd H p (.tup [.str (Txt.rpartition a b).1, .str (Txt.rpartition a b).2.1, .str (Txt.rpartition a b).2.2]))) rpartD := by
  intro F H dx x ds vs Qd Q sub rx rs h hQ
  obtain ⟨z, c, rfl, rfl, hc, q⟩ := h
  obtain ⟨rfl, hz⟩ := rx
  obtain ⟨v, _, rfl, ⟨rfl, hb⟩, rn⟩ := rs
  cases rn
  obtain ⟨k1, k2, k3⟩ := sOk_rpart hz hb
  refine ⟨z, ⟨#[c]⟩, rfl, rfl, rfl, line0 hz, fun p np => ?_⟩
  have g : Grow F H (upd F p (.tup [.str (Txt.rpartition z ⟨#[c]⟩).1, .str (Txt.rpartition z ⟨#[c]⟩).2.1, .str (Txt.rpartition z ⟨#[c]⟩).2.2])) (upd H p (.tup [.str (Txt.rpartition z ⟨#[c]⟩).1, .str (Txt.rpartition z ⟨#[c]⟩).2.1, .str (Txt.rpartition z ⟨#[c]⟩).2.2])) := Grow.new sub np
  exact hQ _ _ _ _ q g ⟨p, _, rfl, .inl (.inl upd_same), by show 3 ≤ sizeLine; decide, .cons ⟨rfl, k1⟩ (.cons ⟨rfl, k2⟩ (.one ⟨rfl, k3⟩))⟩
def upperD : D → List D → (D → Prop) → Prop := fun x ds Q => ∃ z, x = .str z ∧ ds = [] ∧ sOk (Txt.upper z) = true ∧ Q (.str (Txt.upper z))
theorem o_upper : OpM K (fun x xs H Q => ∃ a, x = .str a ∧ xs = [] ∧ a.length ≤ 5592405 ∧ Q (.str (Txt.upper a)) H) upperD := by
  intro F H dx x ds vs Qd Q sub rx rs h hQ
  obtain ⟨z, rfl, rfl, hu, q⟩ := h
  obtain ⟨rfl, hz⟩ := rx
  cases rs
  have := sOk_len hz
  have hs : strLim = 1000000 := rfl
  exact ⟨z, rfl, rfl, by omega, hQ _ _ F H q (Grow.refl sub) ⟨rfl, hu⟩⟩
end
end DL

set_option Elab.async false
set_option linter.all false
set_option maxRecDepth 100000
namespace DL
open PySem PySem.Spec PyProof.Rows L2 TL

/-! ### a list that is a def's own: its items read and stored, its length -/
section
variable {X : Cx} {m : Mem} {E : Ent m} {e b : Expr} {te tb : DT m} {pos : Pos}
def dLenO {m : Mem} (i : Nat) : DT m := fun ρ s Q => ∃ ds, ρ[i]? = some (.ow (.lst ds)) ∧ Q (.int (ds.length : Nat)) ρ s
theorem de_lenO (i : Nat) {x : Str} {xpos p : Pos} (hg : Gl X "len") (hm : X.mg "len" = none) (hN : X.N[i]? = some x := by rfl) (hv : Vis X.env.scope x := by first | exact Or.inl rfl | exact Or.inr (Or.inl rfl) | exact Or.inr (Or.inr rfl))
    (hd : (x == ("__debug__" : Str)) = false := by decide) (hcd : (x == ("__classdict__" : Str)) = false := by decide)
    (hs : starEach [.Name x xpos] X.env = [(false, eval (.Name x xpos) X.env)] := by rfl) : PE X (.Call (.Name "len" p) [.Name x xpos] [] pos) (up X.K m (dLenO i)) :=
  PE.imp (pe_callB call_len_seq hg hm PySem.boot_len (pa_cons (pv i hN hv hd hcd) pa_nil (by rw [hs]; rfl)) (by decide) (by decide) (by rw [hs]; rfl) rfl) fun σ H Q h => by
    obtain ⟨F, ρ, s, Qd, r, ⟨ds, e0, q⟩, hQ⟩ := h
    obtain ⟨p, ho, h1, h2, ⟨vs, rfl, hl, rs⟩, h4, h5⟩ := r.own_at e0
    refine ⟨_, h1, p, vs, rfl, .inl (.inl (.inl h2)), ?_⟩
    rw [rs.length]
    exact hQ _ ρ s _ F H q r Stp.refl rfl
/-- x[i] = e -/
def dStO {m : Mem} (i : Nat) (te tb : DT m) : DTS m := fun dd ρ s => te ρ s fun d ρ1 s1 => (∃ ds0, ρ1[i]? = some (.ow (.lst ds0))) ∧ tb ρ1 s1 fun y ρ2 s2 => ∃ k ds j, y = .int k ∧ ρ2[i]? = some (.ow (.lst ds)) ∧ ixN ds.length k = some j ∧ dd.nx (ρ2.set i (.ow (.lst (ds.set j d)))) s2
theorem ds_stO (i : Nat) {x : Str} {xpos spos : Pos} (he : PE X e (up X.K m te)) (hb : PE X b (up X.K m tb)) (hN : X.N[i]? = some x := by rfl) (hv : Vis X.env.scope x := by first | exact Or.inl rfl | exact Or.inr (Or.inl rfl) | exact Or.inr (Or.inr rfl))
    (hd : (x == ("__debug__" : Str)) = false := by decide) (hcd : (x == ("__classdict__" : Str)) = false := by decide)
    (ha : ∀ v, assign (.Subscript (.Name x xpos) b spos) X.env v = (do
      let ov ← holding [v] (eval (.Name x xpos) X.env)
      let iv ← holding [v, ov] (eval b X.env)
      standAt spos
      holding [v, ov, iv] (setItem ov iv v)
      release [v, ov, iv] []) := by intro _; rfl)
    (hs : swapsWithSole [.Subscript (.Name x xpos) b spos] e pos.line X.env = pure false := by rfl) (hw : swappedStores [.Subscript (.Name x xpos) b spos] e X.env = pure none := by rfl)
    (h1 : (assignEach [.Subscript (.Name x xpos) b spos] X.env).map (·.2) = [assign (.Subscript (.Name x xpos) b spos) X.env] := by rfl) :
    PS X (.Assign [.Subscript (.Name x xpos) b spos] e pos) (upS X.K m E (dStO i te tb)) :=
  PS.imp (ps_asg he (pg_sub (pv i hN hv hd hcd) hb set_list ha) hs hw h1) fun DD σ H h => by
    obtain ⟨F, ρ, s, dd, r, o, ht, f⟩ := h
    refine ⟨F, ρ, s, _, r, ht, fun d ρ1 s1 v F1 H1 ⟨⟨ds0, e0⟩, q1⟩ r1 st1 rv => ?_⟩
    obtain ⟨p, ho, h1, h2, ⟨vs0, rfl, hl0, rs0⟩, h4, h5⟩ := r1.own_at e0
    refine ⟨_, h1, F1, ρ1, s1, _, r1, q1, fun y ρ2 s2 u F2 H2 ⟨k, ds, j, ey, e2, ej, q2⟩ r2 st2 ru => ?_⟩
    subst ey
    cases ru
    obtain ⟨p', ho, g1, g2, ⟨vs, rfl, hl, rs⟩, g4, g5⟩ := r2.own_at e2
    rw [h1] at g1; cases g1
    refine ⟨p, vs, k, j, rfl, rfl, g2, by rw [rs.length]; exact ej, ?_⟩
    refine f.nx F2 _ σ _ s2 (st1.ext.trans st2.ext) (r2.write (o' := .lst (ds.set j d)) e2 h1 ⟨vs.set j v, rfl, by rw [List.length_set]; exact hl, rs.set (Rep.mono st2.ext _ _ rv) j⟩) (((o.stp st1).stp st2).write (K := X.K) e2 h1) q2
end

/-! ### further -/
section
variable {X : Cx} {m : Mem} {E : Ent m}
def powD : D → D → (D → Prop) → Prop
  | .int i, .int j, Q => CPow i j ∧ Q (.int (i ^ j.toNat))
  | _, _, _ => False
theorem o_pow {K : PySem.W.Frag} : Op2 K (rI CPow fun i j => .int (i ^ j.toNat)) powD := o_ints fun x y Qd h => by
  cases x with
  | int i => cases y with
    | int j => exact ⟨i, j, rfl, rfl, h.1, h.2⟩
    | _ => exact False.elim h
  | _ => cases y <;> exact False.elim h
theorem u64R {A : Around} {k : Nat} (hr : Room k A) : A.units + 64 < cLine := by have := hr.un; omega
theorem u1 {A : Around} {k : Nat} (hr : RoomG k A) : A.units + 1 < cLine := by have := hr.r.un; omega
theorem u64 {A : Around} {k : Nat} (hr : RoomG k A) : A.units + 64 < cLine := by have := hr.r.un; omega
theorem u65 {A : Around} {k : Nat} (hr : RoomG k A) : A.units + 65 < cLine := by have := hr.r.un; omega
end

/-! ### the deck: the draws of a script -/
structure DkS where
  adr : Option (Addr × Addr × Addr)
  n : Nat
def DkAt (H : Hp) (a b c : Addr) (n : Nat) : Prop := a ≠ b ∧ a ≠ c ∧ b ≠ c ∧ ∃ (big all : List Int) (t : Int), H a = some (.lst [.ref b, .ref c, .int t]) ∧ H b = some (.lst (big.map V.int)) ∧ H c = some (.lst (all.map V.int)) ∧ all ≠ [] ∧ all.length ≤ 1000 ∧ big.length ≤ 1000 ∧ 0 ≤ t ∧ t ≤ n
def Mem.deck : Mem where
  S := DkS
  M := fun s H => ∀ a b c, s.adr = some (a, b, c) → DkAt H a b c s.n
  R := fun s x => ∃ a b c, s.adr = some (a, b, c) ∧ (x = a ∨ x = b ∨ x = c)
  loc := fun s H H' h k a b c e => by
    obtain ⟨n1, n2, n3, big, all, t, h1, h2, h3, r⟩ := h a b c e
    exact ⟨n1, n2, n3, big, all, t, (k a ⟨a, b, c, e, .inl rfl⟩).trans h1, (k b ⟨a, b, c, e, .inr (.inl rfl)⟩).trans h2, (k c ⟨a, b, c, e, .inr (.inr rfl)⟩).trans h3, r⟩
  there := fun s H x h ⟨a, b, c, e, hx⟩ => by
    obtain ⟨n1, n2, n3, big, all, t, h1, h2, h3, r⟩ := h a b c e
    rcases hx with rfl | rfl | rfl
    · rw [h1]; simp
    · rw [h2]; simp
    · rw [h3]; simp
/-- how many draws there may be -/
abbrev drawLim : Nat := 2 ^ 60
/-- a draw: a number below many -/
def spNext : DSp Mem.deck := fun ds s Q => ∃ a b c n, s.adr = some (a, b, c) ∧ ds = [.any (.ref a), .int n] ∧ 0 < n ∧ n < 1073741824 ∧ s.n < drawLim ∧ ∀ (r : Int) (k : Nat), 0 ≤ r → r < n → k = s.n + 1 → Q (.int r) ⟨s.adr, k⟩
theorem spNext_len : ∀ ds s Qd, spNext ds s Qd → ds.length = 2 := fun ds s Qd ⟨_, _, _, _, _, e, _⟩ => by rw [e]; rfl
/-- the deck of a script -/
def spDeck : DSp Mem.deck := fun ds s Q => ∃ ns : List Int, ds = [.fz (ns.map .int)] ∧ ns.length ≤ 63 ∧ s.adr = none ∧ ∀ a b c, Q (.any (.ref a)) ⟨some (a, b, c), s.n⟩
theorem spDeck_len : ∀ ds s Qd, spDeck ds s Qd → ds.length = 1 := fun ds s Qd ⟨_, e, _⟩ => by rw [e]; rfl
theorem ix0 (x : Int) (bg : List Int) : ixN (((x :: bg).map V.int).length) 0 = some 0 := by
  unfold ixN
  rw [if_pos (by decide), if_pos (by rw [List.length_map, List.length_cons]; omega)]
  rfl
theorem fnG_never {P : Program} {w : World} {K : PySem.W.Frag} {mg : Str → Option Value} {base : Heap} {m : Mem} {k n : Nat} {f : Addr} {fd : FuncData} {ps : List Str} (h : n = ps.length) : FnG P w K mg base CX0 k f fd ps (lift K m n fun _ _ _ => False) :=
  ⟨fun vs H Q E q => by rw [← h]; exact q.1, fun A o s H a us vs Q E _ _ _ _ q => by
    obtain ⟨_, _, _, _, _, _, _, _, _, z, _⟩ := q
    exact z.elim⟩
end DL

set_option Elab.async false
set_option linter.all false
set_option maxRecDepth 100000
namespace DL
open PySem PySem.Spec PyProof.Rows L2 TL

section
variable {X : Cx} {m : Mem} {pos : Pos}
theorem de_globI {x : Str} {i : Int} (hg : Gl X x) (hm : ∃ t, X.mg x = some (.int i t)) (hd : (x == ("__debug__" : Str)) = false := by decide) : PE X (.Name x pos) (up X.K m (dC (.int i))) := by
  obtain ⟨t, hm⟩ := hm
  exact de_glob (v := .int i) hg hm ⟨_, rfl⟩ (fun _ => rfl) hd
end
/-- the law's own promise -/
def spLaw : DSp Mem.deck := fun ds s Q => ∃ ns : List Int, ds = [.fz (ns.map .int)] ∧ ns.length ≤ 63 ∧ s.adr = none ∧ s.n = 0 ∧ ∀ s', Q (.bl true) s'
theorem law_start {K : PySem.W.Frag} {H : Hp} {a : Addr} {ns : List Int} {E : XK} (hl : ns.length ≤ 63) (hO : Only H) (hS : SqL K H a (ns.map V.int)) : lift K Mem.deck 1 spLaw [.ref a] H (fun v _ => v = .bl true) E := by
  refine ⟨rfl, H, [.fz (ns.map .int)], ⟨none, 0⟩, fun d _ => d = .bl true, Same.refl H, (fun _ _ _ e => by cases e), (fun x ⟨_, _, _, e, _⟩ => by cases e), .one ⟨a, _, rfl, hS, ?_, reps_of_ints ns⟩, ⟨ns, rfl, hl, rfl, rfl, fun _ => rfl⟩, fun d s' v F' H' e _ rv => ?_⟩
  · rw [List.length_map]; exact Nat.le_of_lt (small1000 (by omega))
  · subst e; exact rv

/-! ### small facts -/
/-- one letter -/
def one (c : Nat) : Str := ⟨#[c]⟩
theorem join0 (ls : List Nat) : tl (joinS ⟨#[]⟩ (ls.map one)) = ls := by
  show tl (Str.join ⟨#[]⟩ (ls.map one)) = ls
  rw [tl_join, List.map_map]
  show joinL [] (ls.map fun c => [c]) = ls
  have h : ∀ l : List Nat, joinL [] (l.map fun c => [c]) = l := fun l => by
    induction l with
    | nil => rfl
    | cons a r ih =>
      cases r with
      | nil => rfl
      | cons b t =>
        show [a] ++ ([] ++ joinL [] ((b :: t).map fun c => [c])) = a :: b :: t
        rw [ih]
        rfl
  exact h ls
theorem letters_tl : tl ("abcdefghijklmnopqrstuvwxyz" : Str) = [97, 98, 99, 100, 101, 102, 103, 104, 105, 106, 107, 108, 109, 110, 111, 112, 113, 114, 115, 116, 117, 118, 119, 120, 121, 122] := by decide +kernel
/-- a name: one to eight letters -/
def NameOk (x : Str) : Prop := 1 ≤ x.length ∧ x.length ≤ 8 ∧ ∀ c ∈ tl x, 97 ≤ c ∧ c ≤ 122
theorem nameOk_of {ls : List Nat} (h1 : 1 ≤ ls.length) (h8 : ls.length ≤ 8) (h : ∀ c ∈ ls, 97 ≤ c ∧ c ≤ 122) : NameOk (joinS ⟨#[]⟩ (ls.map one)) := by
  have e := join0 ls
  exact ⟨by rw [len_tl, e]; exact h1, by rw [len_tl, e]; exact h8, by rw [e]; exact h⟩
theorem sum_ones (ls : List Nat) : ((ls.map one).map (·.length)).sum = ls.length := by
  induction ls with
  | nil => rfl
  | cons a r ih => rw [List.map_cons, List.map_cons, List.sum_cons, ih, List.length_cons]; show 1 + r.length = _; omega

/-! ### what the law's own defs promise -/
/-- a path: names of a pool with dots between -/
def PathOf (pool : List Str) (most : Int) (x : Str) : Prop := ∃ ns : List Str, 1 ≤ ns.length ∧ (ns.length : Int) ≤ most ∧ (∀ y ∈ ns, y ∈ pool) ∧ x = joinS ⟨#[46]⟩ ns
theorem sum_le8 {ns : List Str} (h : ∀ y ∈ ns, y.length ≤ 8) : (ns.map (·.length)).sum ≤ 8 * ns.length := by
  induction ns with
  | nil => exact Nat.zero_le _
  | cons a r ih =>
    have h1 := h a List.mem_cons_self
    have h2 := ih fun y hy => h y (List.mem_cons_of_mem _ hy)
    rw [List.map_cons, List.sum_cons, List.length_cons]
    omega
theorem joinS_len {z : Str} {ns : List Str} : (joinS z ns).length ≤ (ns.map (·.length)).sum + ns.length * z.length := by
  rw [len_tl]
  show (tl (Str.join z ns)).length ≤ _
  rw [tl_join]
  refine Nat.le_trans (joinL_len _ _) ?_
  rw [List.map_map, List.length_map, ← len_tl]
  have e : ns.map (List.length ∘ tl) = ns.map (·.length) := List.map_congr_left fun y _ => (len_tl y).symm
  rw [e]
  exact Nat.le_refl _
theorem PathOf.len {pool : List Str} {most : Int} {x : Str} (h : PathOf pool most x) (hp : ∀ y ∈ pool, y.length ≤ 8) (hm : most ≤ 10) : x.length ≤ 90 := by
  obtain ⟨ns, h1, h2, h3, rfl⟩ := h
  have q1 := joinS_len (z := ⟨#[46]⟩) (ns := ns)
  have q2 := sum_le8 fun y hy => hp y (h3 y hy)
  have q3 : (⟨#[46]⟩ : Str).length = 1 := rfl
  rw [q3] at q1
  omega

/-! ### paths of the program -/
def dot : Str := ⟨#[46]⟩
def coversS (p o : Str) : Bool := o == p || Txt.startswith o (p ++ dot)
/-- .. as the law reads it -/
def lcov (p o : Str) : Bool := (splS 46 o).take (splS 46 p).length == splS 46 p
def spCovers {m : Mem} : DSp m := fun ds s Q => ∃ p o : Str, ds = [.str p, .str o] ∧ p.length ≤ 1000 ∧ Q (.bl (coversS p o)) s
theorem spCovers_len {m : Mem} : ∀ ds s Qd, (spCovers : DSp m) ds s Qd → ds.length = 2 := fun ds s Qd ⟨_, _, e, _⟩ => by rw [e]; rfl
end DL

set_option Elab.async false
set_option linter.all false
set_option maxRecDepth 100000
namespace DL
open PySem PySem.Spec PyProof.Rows L2 TL

/-! ### texts cut at one sign -/
def cutL (c : Nat) : List Nat → List Nat → List (List Nat)
  | acc, [] => [acc]
  | acc, x :: r => if x = c then acc :: cutL c [] r else cutL c (acc ++ [x]) r
theorem spl_cut (c : Nat) : ∀ (l acc : List Nat), spl [c] 0 acc l = cutL c acc l
  | [], acc => spl_nil _ _ _
  | x :: r, acc => by
    by_cases h : x = c
    · subst h
      have e : pre [x] (x :: r) = true := pre_self [x] r
      rw [spl_hit e, cutL, if_pos rfl]
      show acc :: spl [x] 0 [] r = _
      rw [spl_cut x r []]
    · rw [spl_miss (pre_of_head [] r h), cutL, if_neg h, spl_cut c r]
theorem cutL_ne (c : Nat) : ∀ (l acc : List Nat), cutL c acc l ≠ []
  | [], acc => by simp [cutL]
  | x :: r, acc => by
    rw [cutL]
    by_cases h : x = c
    · rw [if_pos h]; simp
    · rw [if_neg h]; exact cutL_ne c r _
theorem cutL_app (c : Nat) (b : List Nat) : ∀ (a acc : List Nat), cutL c acc (a ++ c :: b) = cutL c acc a ++ cutL c [] b
  | [], acc => by
    show (if c = c then acc :: cutL c [] b else cutL c (acc ++ [c]) b) = acc :: cutL c [] b
    rw [if_pos rfl]
  | x :: r, acc => by
    show cutL c acc (x :: (r ++ c :: b)) = _
    rw [cutL, cutL]
    by_cases h : x = c
    · rw [if_pos h, if_pos h, cutL_app c b r]; rfl
    · rw [if_neg h, if_neg h, cutL_app c b r]
theorem joinL_cons (S p : List Nat) {q : List (List Nat)} (h : q ≠ []) : joinL S (p :: q) = p ++ (S ++ joinL S q) := by
  cases q with
  | nil => exact absurd rfl h
  | cons a r => rfl
theorem joinL_app (S : List Nat) {B : List (List Nat)} (hB : B ≠ []) : ∀ {A : List (List Nat)}, A ≠ [] → joinL S (A ++ B) = joinL S A ++ (S ++ joinL S B)
  | [], h => absurd rfl h
  | [p], _ => by
    show joinL S (p :: B) = p ++ _
    rw [joinL_cons S p hB]
  | p :: q :: r, _ => by
    show joinL S (p :: ((q :: r) ++ B)) = _
    rw [joinL_cons S p (by simp), joinL_app S hB (by simp), joinL_cons S p (by simp)]
    simp only [List.append_assoc]
theorem joinL_cut (c : Nat) : ∀ (l acc : List Nat), joinL [c] (cutL c acc l) = acc ++ l
  | [], acc => by simp [cutL, joinL]
  | x :: r, acc => by
    rw [cutL]
    by_cases h : x = c
    · rw [if_pos h, joinL_cons _ _ (cutL_ne c r []), joinL_cut c r, h]; simp
    · rw [if_neg h, joinL_cut c r]; simp
/-- the parts of a text, and the text again -/
theorem tl_splS (c : Nat) (x : Str) : (splS c x).map tl = cutL c [] (tl x) := by
  unfold splS
  rw [spl_cut, List.map_map]
  exact List.map_id' _
theorem splS_ne (c : Nat) (x : Str) : splS c x ≠ [] := fun h => by
  have := tl_splS c x
  rw [h] at this
  exact cutL_ne c _ _ this.symm
theorem join_splS (c : Nat) (x : Str) : joinS ⟨#[c]⟩ (splS c x) = x := by
  refine ext_tl ?_
  show tl (Str.join _ _) = _
  rw [tl_join, tl_splS]
  exact joinL_cut c _ _
theorem splS_inj {c : Nat} {x y : Str} (h : splS c x = splS c y) : x = y := by rw [← join_splS c x, h, join_splS]
theorem splS_app (c : Nat) (x y : Str) : splS c (x ++ ⟨#[c]⟩ ++ y) = splS c x ++ splS c y := by
  refine map_tl_inj ?_
  rw [List.map_append, tl_splS, tl_splS, tl_splS, tl_append, tl_append]
  show cutL c [] (tl x ++ [c] ++ tl y) = _
  rw [List.append_assoc]
  exact cutL_app c _ _ _
theorem splS_join {c : Nat} {ns : List Str} (h : ns ≠ []) (hf : ∀ x ∈ ns, c ∉ tl x) : splS c (joinS ⟨#[c]⟩ ns) = ns := by
  refine map_tl_inj ?_
  rw [tl_splS, ← spl_cut]
  show spl [c] 0 [] (tl (Str.join _ _)) = _
  rw [tl_join]
  exact spl_join (by simpa using h) fun p hp => by
    obtain ⟨x, hx, rfl⟩ := List.mem_map.mp hp
    exact hf x hx
/-- a text begins with another -/
theorem sw_iff (x y : Str) : Txt.startswith x y = true ↔ ∃ r, x = y ++ r := by
  have key : Txt.startswith x y = true ↔ (tl x).take (tl y).length = tl y := by
    show (decide (0 + y.length ≤ x.length) && Builtin.Str.subAt x y 0) = true ↔ _
    rw [Bool.and_eq_true, StrLaws.subAt_eq, List.drop_zero, len_tl, len_tl]
    constructor
    · rintro ⟨_, h⟩; exact eq_of_beq h
    · intro h
      refine ⟨decide_eq_true ?_, by rw [h]; exact beq_self_eq_true _⟩
      have := congrArg List.length h
      rw [List.length_take] at this
      omega
  rw [key]
  constructor
  · intro h
    refine ⟨⟨((tl x).drop (tl y).length).toArray⟩, ext_tl ?_⟩
    rw [tl_append]
    show tl x = tl y ++ (tl x).drop (tl y).length
    have e := List.take_append_drop (tl y).length (tl x)
    rw [h] at e
    exact e.symm
  · rintro ⟨r, rfl⟩
    rw [tl_append, List.take_left]
/-- the two ways to say: p covers o -/
theorem cov_eq (p o : Str) : coversS p o = lcov p o := by
  have key : coversS p o = true ↔ lcov p o = true := by
    unfold coversS lcov
    rw [Bool.or_eq_true, sw_iff, beq_iff_eq, beq_iff_eq]
    constructor
    · rintro (rfl | ⟨r, rfl⟩)
      · rw [List.take_length]
      · rw [show p ++ dot ++ r = p ++ ⟨#[46]⟩ ++ r from rfl, splS_app, List.take_left]
    · intro h
      have e := List.take_append_drop (splS 46 p).length (splS 46 o)
      rw [h] at e
      cases q : (splS 46 o).drop (splS 46 p).length with
      | nil => rw [q, List.append_nil] at e; exact .inl (splS_inj e).symm
      | cons a r =>
        rw [q] at e
        refine .inr ⟨joinS dot (a :: r), ?_⟩
        have e2 := join_splS 46 o
        rw [← e] at e2
        rw [← e2]
        refine ext_tl ?_
        show tl (Str.join _ _) = tl (p ++ dot ++ Str.join _ _)
        rw [tl_join, List.map_append, joinL_app _ (by simp) (by simpa using splS_ne 46 p), tl_append, tl_append, tl_join, List.append_assoc]
        have e3 := congrArg tl (join_splS 46 p)
        have e4 : tl (joinS ⟨#[46]⟩ (splS 46 p)) = joinL [46] ((splS 46 p).map tl) := tl_join _ _
        rw [e4] at e3
        show joinL [46] _ ++ _ = _
        rw [e3]
        rfl
  cases h1 : coversS p o <;> cases h2 : lcov p o
  · rfl
  · rw [key.mpr h2] at h1; cases h1
  · rw [key.mp h1] at h2; cases h2
  · rfl
end DL

set_option Elab.async false
set_option linter.all false
set_option maxRecDepth 100000
namespace DL
open PySem PySem.Spec PyProof.Rows L2 TL
theorem eqs (a b : Str) : eqD (.str a) (.str b) = decide (a = b) := by
  show (a == b) = _
  by_cases h : a = b
  · rw [decide_eq_true h, h]; simp
  · rw [decide_eq_false h]; exact beq_eq_false_iff_ne.mpr h
theorem plain_strs : ∀ (n : Nat) (xs : List Str), plainDs n (xs.map .str) = true
  | _, [] => by simp [plainDs]
  | n, x :: xs => by
    have := plain_strs n xs
    simp only [List.map_cons, plainDs, this, Bool.and_true]
    simp [plainD]
theorem beq_dec (a b : Str) : (a == b) = decide (a = b) := by
  by_cases h : a = b
  · rw [decide_eq_true h, h]; simp
  · rw [decide_eq_false h]; exact beq_eq_false_iff_ne.mpr h

theorem map_str_inj : ∀ {xs ys : List Str}, xs.map D.str = ys.map D.str → xs = ys
  | [], [], _ => rfl
  | [], _ :: _, h => by cases h
  | _ :: _, [], h => by cases h
  | x :: xs, y :: ys, h => by
    rw [List.map_cons, List.map_cons] at h
    injection h with h1 h2
    injection h1 with h1
    rw [h1, map_str_inj h2]
theorem cut_take (xs : List D) (n : Nat) : cutD xs none (some (n : Int)) = xs.take n := by
  unfold cutD
  rw [HT.sIx_none, List.drop_zero, Nat.sub_zero, show HT.sIx xs.length xs.length (some (n : Int)) = min n xs.length from HT.sIx_nat _ _ n]
  by_cases h : n ≤ xs.length
  · rw [Nat.min_eq_left h]
  · rw [Nat.min_eq_right (by omega), List.take_length, List.take_of_length_le (by omega)]
theorem ixN_n {n j : Nat} (hj : j < n) : ixN n (j : Int) = some j := by
  unfold ixN
  rw [if_pos (by omega), if_pos (by omega)]
  simp
theorem rng_pre {lo : Int} {n : Nat} {pre : List D} {x : D} {post : List D} (h : rngD lo n = pre ++ x :: post) : pre.length < n ∧ x = .int (lo + (pre.length : Int)) := by
  have hl := congrArg List.length h
  rw [rngD_length, List.length_append, List.length_cons] at hl
  have hp : pre.length < n := by omega
  refine ⟨hp, ?_⟩
  have e : (rngD lo n)[pre.length]? = some x := by rw [h]; simp
  unfold rngD at e
  rw [List.getElem?_map, List.getElem?_range hp] at e
  exact (Option.some.inj e).symm
theorem sum_cutL (c : Nat) : ∀ (l acc : List Nat), ((cutL c acc l).map List.length).sum + (cutL c acc l).length = acc.length + l.length + 1
  | [], acc => by simp [cutL]
  | x :: r, acc => by
    rw [cutL]
    by_cases h : x = c
    · rw [if_pos h, List.map_cons, List.sum_cons, List.length_cons]
      have := sum_cutL c r []
      simp only [List.length_nil, List.length_cons] at this ⊢
      omega
    · rw [if_neg h, sum_cutL c r, List.length_append, List.length_cons, List.length_cons, List.length_nil]
      omega
theorem sum_splS (c : Nat) (x : Str) : ((splS c x).map (·.length)).sum + (splS c x).length = x.length + 1 := by
  have e : (splS c x).map (·.length) = ((splS c x).map tl).map List.length := by
    rw [List.map_map]
    exact List.map_congr_left fun y _ => len_tl y
  have e2 : (splS c x).length = ((splS c x).map tl).length := by rw [List.length_map]
  rw [e, e2, tl_splS, sum_cutL, len_tl]
  simp

end DL

set_option Elab.async false
set_option linter.all false
set_option maxRecDepth 100000
/-! DX: own exception classes (over any of the built-in ones): made as values, their fields stored and read, isinstance of them. -/
namespace DL
open PySem PySem.Spec PyProof.Rows L2
/-- what the written part says of an own exception class -/
structure XC (K : PySem.W.Frag) (C : Addr) : Prop where
  base : ∃ B newId initId bmB, ExcBaseFacts B newId initId bmB ∧ StoreFacts B bmB "object.__setattr__" "object" ∧ PySem.W.excInitIn K C bmB newId = true ∧ PySem.W.excOver K C bmB = true
  sa : PySem.W.findIn K (.ref C) "__setattr__" = some (some (.builtin "object.__setattr__"))
  ga : PySem.W.findIn K (.ref C) "__getattribute__" = some (some (.builtin "BaseException.__getattribute__"))
  gg : PySem.W.findIn K (.ref C) "__getattr__" = some none
  sb : PySem.W.subIn K (.ref C) (.type "BaseException") = some true
  kC : PySem.W.keepIn K (.ref C) = true
  hd : PySem.W.hasDictIn K C = true
  cl : PySem.W.findIn K (.ref C) "__class__" = some (some (.builtin "object.__class__"))
  mr : PySem.W.mroIn K C (.type "object") = some true
  gn : PySem.W.specialIn K (.builtin "object.__class__") "__get__" = some (some (.builtin "getset_descriptor.__get__"))
  gt : PySem.W.takesIn K (.builtin "object.__class__") = some true
/-- .. in one look -/
def xcB (K : PySem.W.Frag) (C : Addr) (bmB : List Value) (newId : String) : Bool :=
  PySem.W.excInitIn K C bmB newId && (PySem.W.excOver K C bmB && (decide (PySem.W.findIn K (.ref C) "__setattr__" = some (some (.builtin "object.__setattr__"))) && (decide (PySem.W.findIn K (.ref C) "__getattribute__" = some (some (.builtin "BaseException.__getattribute__"))) &&
  (decide (PySem.W.findIn K (.ref C) "__getattr__" = some none) && (decide (PySem.W.subIn K (.ref C) (.type "BaseException") = some true) && (PySem.W.keepIn K (.ref C) && (PySem.W.hasDictIn K C && (decide (PySem.W.findIn K (.ref C) "__class__" = some (some (.builtin "object.__class__"))) &&
  (decide (PySem.W.mroIn K C (.type "object") = some true) && (decide (PySem.W.specialIn K (.builtin "object.__class__") "__get__" = some (some (.builtin "getset_descriptor.__get__"))) && decide (PySem.W.takesIn K (.builtin "object.__class__") = some true)))))))))))
theorem xc_of {K : PySem.W.Frag} {C : Addr} {B newId initId : String} {bmB : List Value} (F : ExcBaseFacts B newId initId bmB) (S : StoreFacts B bmB "object.__setattr__" "object") (h : xcB K C bmB newId = true) : XC K C := by
  unfold xcB at h
  simp only [Bool.and_eq_true, decide_eq_true_eq] at h
  obtain ⟨h1, h2, h3, h4, h5, h6, h7, h8, h9, h10, h11, h12⟩ := h
  exact ⟨⟨B, newId, initId, bmB, F, S, h1, h2⟩, h3, h4, h5, h6, h7, h8, h9, h10, h11, h12⟩
abbrev bmV : List Value := [.type "ValueError", .type "Exception", .type "BaseException", .type "object"]
section
variable {X : Cx} {pins : List (Addr × Obj)} {σ : L2.St} {H : Hp} {s : Shared} {a C dx : Addr} {f : Str} {y : V} {u : Value} {fs : List (Str × V)} {Q : Unit → Shared → Prop} {E : Value → Shared → Prop} {A : Around}
abbrev exObj (C t1 : Addr) (d : Option Addr) : Obj := { cls := .ref C, dict := d, data := .fields #[.ref t1, .none, .none, .none, .bool false, .none] }
/-- the first field stored -/
theorem xst_new (T : XC X.K C) (I : Inv X pins σ H s) (e : H a = some (exo a C none)) (no : PySem.W.findIn X.K (.ref C) f = some none) (ry : RelV y u)
    (h : ∀ dx s', H dx = none → dx ≠ a → Inv X pins σ (upd (upd H dx (exd dx [(f, y)])) a (exo a C (some dx))) s' → Q () s') : wpAny (model X.prog X.w) A (setAttr (.ref a) f u) Q E s := by
  obtain ⟨B, newId, initId, bmB, FB, SF, ci, ov⟩ := T.base
  obtain ⟨t1, ho⟩ := exo_at I.hok e
  obtain ⟨cd, hc, hd'⟩ := PySem.W.any_some T.hd
  obtain ⟨hp, g, d, t, os⟩ := s
  have K0 := I.kIn
  have la : a < hp.objs.size := Heap.lt_size ho
  have nf : H hp.objs.size = none := I.hok.fresh (Nat.le_refl _)
  refine PySem.W.set_plain K0 (ox := exObj C t1 none) (od := none) ⟨ho, rfl, rfl, trivial⟩ T.sa ?_
  refine PySem.W.osa_openX (s := ⟨hp, g, d, t + 1, os⟩) (od := none) SF K0 ⟨ho, rfl, rfl, trivial⟩ ov (by unfold PySem.W.takerIn; rw [no]; rfl) fun b => ?_
  refine wpAny_bind (wpAny_pure (wpAny_bind (PySem.W.instanceDict_exc (s := ⟨hp, g, d, t + 1, os⟩) (t := t1) (c2 := .none) ho (PySem.W.looks_clsIn K0 hc) hd' ?_)))
  have hne : hp.objs.size ≠ a := Nat.ne_of_gt la
  have d0 : ((hp.push (PySem.W.dictOf [] 0)).update a fun o => { o with dict := some hp.objs.size }).Ns1 hp.objs.size (fun _ => none) :=
    ⟨_, #[], _, (Heap.get?_update_ne _ _ _ _ hne).trans (Heap.get?_push_at rfl rfl), rfl, fun q hq => absurd hq (by simp), List.Pairwise.nil, fun _ => rfl⟩
  refine PySem.OEX.store_in_old (ns := []) d0 (fun q hq => absurd rfl hq) (by simp) fun h' tk' hn' sb => ?_
  have oldA : (hp.push (PySem.W.dictOf [] 0)).get? a = some (exObj C t1 none) := Heap.get?_push_of_some _ ho
  have newA : h'.get? a = some (exObj C t1 (some hp.objs.size)) := (sb.2 a (Ne.symm hne)).trans (Heap.get?_update_self _ oldA rfl)
  have old : ∀ b o, b ≠ a → hp.get? b = some o → h'.get? b = some o := fun b o hb q => by
    have hb2 : b ≠ hp.objs.size := Nat.ne_of_lt (Heap.lt_size q)
    exact (sb.2 b hb2).trans ((Heap.get?_update_ne _ _ _ _ hb).trans (Heap.get?_push_of_some _ q))
  -- first the dict alone, the object as it was
  have g0 : ∀ b o, hp.get? b = some o → (h'.update a fun _ => exObj C t1 none).get? b = some o := fun b o q => by
    by_cases hb : b = a
    · subst hb
      have z : o = exObj C t1 none := Option.some.inj (q.symm.trans ho)
      rw [z]
      exact Heap.get?_update_self _ newA rfl
    · rw [Heap.get?_update_ne _ _ _ _ hb]; exact old b o hb q
  have n0 : (h'.update a fun _ => exObj C t1 none).Ns1 hp.objs.size (fun y => if y = f then some u else none) := hn'.at fun o q => by
    rw [Heap.get?_update_ne _ _ _ _ hne]; exact q
  have I1 : Inv X pins σ (upd H hp.objs.size (exd hp.objs.size [(f, y)])) ⟨h'.update a fun _ => exObj C t1 none, g, d, tk', os⟩ :=
    I.laid (t' := tk') g0 (Nat.le_refl _) (exd_ok n0 (relO_put (fs := []) ry fun g => True.intro))
  have e1 : upd H hp.objs.size (exd hp.objs.size [(f, y)]) a = some (exo a C none) := by rw [upd_ne (Ne.symm hne)]; exact e
  have I2 : Inv X pins σ (upd (upd H hp.objs.size (exd hp.objs.size [(f, y)])) a (exo a C (some hp.objs.size))) ⟨h', g, d, tk', os⟩ :=
    I1.write (t' := tk') (x := a) (e := a) (o := exo a C (some hp.objs.size)) (by rw [e1]; exact True.intro) (.inl rfl) (fun b o hb q => by
      have q' : (h'.update a fun _ => exObj C t1 none).get? b = some o := q
      rw [Heap.get?_update_ne _ _ _ _ hb] at q'; exact q') ⟨_, newA⟩ (exo_ok newA)
  exact h _ _ nf hne I2
/-- a further field stored -/
theorem xst_old (T : XC X.K C) (I : Inv X pins σ H s) (e : H a = some (exo a C (some dx))) (ed : H dx = some (exd dx fs)) (hl : fs.length ≤ 900) (no : PySem.W.findIn X.K (.ref C) f = some none) (ry : RelV y u)
    (h : ∀ s', Inv X pins σ (upd H dx (exd dx ((f, y) :: fs))) s' → Q () s') : wpAny (model X.prog X.w) A (setAttr (.ref a) f u) Q E s := by
  obtain ⟨B, newId, initId, bmB, FB, SF, ci, ov⟩ := T.base
  obtain ⟨t1, ho⟩ := exo_at I.hok e
  obtain ⟨mA, hns, rel⟩ := exd_at I.hok ed
  obtain ⟨cd, hc, hd'⟩ := PySem.W.any_some T.hd
  have wi := within_of rel
  obtain ⟨hp, g, d, t, os⟩ := s
  have K0 := I.kIn
  obtain ⟨oD, es, ep, hoD, _⟩ := id hns
  refine PySem.W.set_plain K0 (ox := exObj C t1 (some dx)) (od := some oD) ⟨ho, rfl, rfl, hoD⟩ T.sa ?_
  refine PySem.W.osa_openX (s := ⟨hp, g, d, t + 1, os⟩) (od := some oD) SF K0 ⟨ho, rfl, rfl, hoD⟩ ov (by unfold PySem.W.takerIn; rw [no]; rfl) fun b => ?_
  refine wpAny_bind (wpAny_pure (wpAny_bind (wpAny_bind (wpAny_loadPart ho (wpAny_bind ((PySem.W.looks_clsIn K0 hc).at ?_))))))
  rw [hd']
  refine wpAny_pure (a := some dx) ?_
  refine PySem.OEX.store_in_old (ns := fs.map (·.1)) hns wi (by rw [List.length_map]; omega) fun h' tk' hn' sb => ?_
  obtain ⟨o', _, _, ho', _⟩ := id hn'
  exact h _ (I.write (t' := tk') (x := dx) (e := dx) (o := exd dx ((f, y) :: fs)) (by rw [ed]; exact True.intro) (.inl rfl) (fun b o hb q => (sb.2 b hb).trans q) ⟨_, ho'⟩ (exd_ok hn' (relO_put ry rel)))
end
/-! ### __init__: self.f = e -/
def tXst (K : PySem.W.Frag) (f : Str) (to te : TE) : TS := fun D σ H => te σ H fun y H1 => to σ H1 fun x H2 => ∃ a C : Addr, x = .ref a ∧ XC K C ∧ PySem.W.findIn K (.ref C) f = some none ∧
  ((H2 a = some (exo a C none) ∧ ∀ dx, H2 dx = none → dx ≠ a → D.nx σ (upd (upd H2 dx (exd dx [(f, y)])) a (exo a C (some dx)))) ∨
    ∃ (dx : Addr) (fs : List (Str × V)), H2 a = some (exo a C (some dx)) ∧ H2 dx = some (exd dx fs) ∧ fs.length ≤ 900 ∧ D.nx σ (upd H2 dx (exd dx ((f, y) :: fs))))
section
variable {X : Cx} {o e : Expr} {es : List Expr} {to te : TE} {ta : TA} {f x : Str} {p p' pos : Pos} {C : Addr}
theorem ps_xst (ho : PE X o to) (he : PE X e te) (hs : swapsWith e (some (.Attribute o f p')) pos.line X.env = pure false := by rfl) : PS X (.Assign [.Attribute o f p'] e pos) (tXst X.K f to te) :=
  ⟨fun pins s σ H D I h => plainObj_wpAny_Assign_Attribute (thn (he.run pins s σ H _ I h) fun v s1 ⟨y, H1, I1, r1, q1⟩ => thn (ho.run pins s1 σ H1 _ I1 q1) fun u s2 ⟨x, H2, I2, r2, a, C, ex, T, no, q⟩ => by
    subst ex
    have eu : u = Value.ref a := r2
    subst eu
    rcases q with ⟨ea, q⟩ | ⟨dx, fs, ea, ed, hl, q⟩
    · exact xst_new T I2 ea no r1 fun dx s' n ne J => ⟨σ, _, J, q dx n ne⟩
    · exact xst_old T I2 ea ed hl no r1 fun s' J => ⟨σ, _, J, q⟩) hs⟩
/-- the promise of such an __init__: of one field, of two -/
def spIn1 (C : Addr) (f : Str) : Sp := fun vs H Q _ => ∃ (a : Addr) (v : V), vs = [.ref a, v] ∧ H a = some (exo a C none) ∧ ∀ dx, H dx = none → dx ≠ a → Q .non (upd (upd H dx (exd dx [(f, v)])) a (exo a C (some dx)))
/-! ### C(e, ..) as a value -/
/-! ### e.f -/
/-! ### isinstance(e, c), isinstance(e, (c, ..)) -/
end
end DL

set_option Elab.async false
set_option linter.all false
set_option maxRecDepth 100000
namespace DL
open PySem PySem.Spec PyProof.Rows L2 TL

/-! ### own exceptions as data -/
section
variable {X : Cx} {m : Mem} {e : Expr} {es : List Expr} {ta : DTA m} {te : DT m} {x : Str} {p pos : Pos} {C : Addr}
/-! ### isinstance of them -/
def clsU : V → Option Value
  | .ty n => some (.type n)
  | .ref D => some (.ref D)
  | _ => none
theorem clsU_ok {c : V} {u : Value} (h : clsU c = some u) : ClsV c u := by
  cases c with
  | ty n => cases h; exact .ty n
  | ref D => cases h; exact .own D
  | _ => cases h
theorem cls_all {K : PySem.W.Frag} {F : Hp} : ∀ {ws : List V} {us : List Value} {vs : List V}, ws.map clsU = us.map some → Reps K F (ws.map D.any) vs → vs = ws ∧ Paired ClsV ws us
  | [], [], _, _, r => by cases r; exact ⟨rfl, .nil⟩
  | [], _ :: _, _, h, _ => by cases h
  | _ :: _, [], _, h, _ => by cases h
  | w :: ws, u :: us, _, h, ⟨v, r, rfl, rv, rr⟩ => by
    rw [List.map_cons, List.map_cons] at h
    injection h with h1 h2
    obtain ⟨q1, q2⟩ := cls_all h2 rr
    cases rv
    exact ⟨by rw [q1], .cons (clsU_ok h1) q2⟩
/-! ### zip -/
def zipD (d e : D) : Option (List D × List D) := match d, e with
  | .lst xs, .lst ys => some (xs, ys)
  | .tup xs, .tup ys => some (xs, ys)
  | _, _ => none
def pairsD (xs ys : List D) : List D := List.zipWith (fun x y => .tup [x, y]) xs ys
def diZip {m : Mem} (ta : DTA m) : DTI m := fun ρ s Q => ta ρ s fun ds ρ1 s1 => ∃ d e xs ys, ds = [d, e] ∧ zipD d e = some (xs, ys) ∧ Q (pairsD xs ys) ρ1 s1
theorem pairs_get {xs ys : List D} {i : Nat} {d : D} (h : (pairsD xs ys)[i]? = some d) : ∃ x y, xs[i]? = some x ∧ ys[i]? = some y ∧ d = .tup [x, y] := by
  unfold pairsD at h
  rw [List.getElem?_zipWith] at h
  cases hx : xs[i]? with
  | none => rw [hx] at h; cases h
  | some x =>
    cases hy : ys[i]? with
    | none => rw [hx, hy] at h; cases h
    | some y => rw [hx, hy] at h; exact ⟨x, y, rfl, rfl, (Option.some.inj h).symm⟩
theorem pairs_end {xs ys : List D} {i : Nat} (h : (pairsD xs ys).length ≤ i) : xs.length ≤ i ∨ ys.length ≤ i := by
  unfold pairsD at h
  rw [List.length_zipWith] at h
  omega
theorem rep_pair {K : PySem.W.Frag} {F : Hp} {x y : D} {v w : V} {T : Addr} (h : F T = some (.tup [v, w])) (rx : Rep K F x v) (ry : Rep K F y w) : Rep K F (.tup [x, y]) (.ref T) :=
  ⟨T, [v, w], rfl, .inl (.inl h), by show 2 ≤ sizeLine; decide, .cons rx (.one ry)⟩
theorem walks_zipL {K : PySem.W.Frag} {F : Hp} {a b : Addr} {ds es : List D} {vs ws : List V} (h1 : SqL K F a vs) (r1 : Reps K F ds vs) (h2 : SqL K F b ws) (r2 : Reps K F es ws) : Walks K F (Itz K a b) (pairsD ds es) := fun F' H' s1 s2 => by
  have q1 : SqL K H' a vs := Same.seq s2 (Same.seq s1 h1)
  have q2 : SqL K H' b ws := Same.seq s2 (Same.seq s1 h2)
  refine ⟨fun i hi => ⟨vs, ws, q1, q2, by rw [r1.length, r2.length]; exact pairs_end hi⟩, fun i d e => ?_⟩
  obtain ⟨x, y, ex, ey, rfl⟩ := pairs_get e
  obtain ⟨v, ev, rv⟩ := r1.get ex
  obtain ⟨w, ew, rw'⟩ := r2.get ey
  refine ⟨⟨vs, ws, v, w, q1, q2, ev, ew⟩, fun z H2 yl => ?_⟩
  obtain ⟨T, v', w', rfl, nT, rfl, g1, g2⟩ := yl
  have e1 := g1 vs q1
  have e2 := g2 ws q2
  rw [ev] at e1; rw [ew] at e2
  cases e1; cases e2
  have g : Grow F' H' (upd F' T (.tup [v, w])) (upd H' T (.tup [v, w])) := Grow.new s2 nT
  exact ⟨_, g, rep_pair upd_same (Rep.mono (s1.trans g.fF) _ _ rv) (Rep.mono (s1.trans g.fF) _ _ rw')⟩
theorem walks_zipT {K : PySem.W.Frag} {F : Hp} {a b : Addr} {ds es : List D} {vs ws : List V} (h1 : SqT K F a vs) (r1 : Reps K F ds vs) (h2 : SqT K F b ws) (r2 : Reps K F es ws) : Walks K F (RZ.ItzT K a b) (pairsD ds es) := fun F' H' s1 s2 => by
  have q1 : SqT K H' a vs := Same.seqT s2 (Same.seqT s1 h1)
  have q2 : SqT K H' b ws := Same.seqT s2 (Same.seqT s1 h2)
  refine ⟨fun i hi => ⟨vs, ws, q1, q2, by rw [r1.length, r2.length]; exact pairs_end hi⟩, fun i d e => ?_⟩
  obtain ⟨x, y, ex, ey, rfl⟩ := pairs_get e
  obtain ⟨v, ev, rv⟩ := r1.get ex
  obtain ⟨w, ew, rw'⟩ := r2.get ey
  refine ⟨⟨vs, ws, v, w, q1, q2, ev, ew⟩, fun z H2 yl => ?_⟩
  obtain ⟨T, v', w', rfl, nT, rfl, g1, g2⟩ := yl
  have e1 := g1 vs q1
  have e2 := g2 ws q2
  rw [ev] at e1; rw [ew] at e2
  cases e1; cases e2
  have g : Grow F' H' (upd F' T (.tup [v, w])) (upd H' T (.tup [v, w])) := Grow.new s2 nT
  exact ⟨_, g, rep_pair upd_same (Rep.mono (s1.trans g.fF) _ _ rv) (Rep.mono (s1.trans g.fF) _ _ rw')⟩
theorem di_zip {a b : Expr} {elts : List Expr} {kk : Nat} {tpos : Pos} (hg : Gl X "zip") (hm : X.mg "zip" = none) (ha : PA X [a, b] (upA X.K m ta))
    (hs : starEach [a, b] X.env = (false, eval a X.env) :: starEach [b] X.env := by rfl) (hpl : (backTo pos (starEach [b] X.env)).any (·.1) = false := by rfl) :
    PI X (.Tuple elts kk tpos) (.Call (.Name "zip" p) [a, b] [] pos) (upI X.K m (diZip ta)) := PI.imp (RZ.pi_zipA hg hm ha hs hpl) fun σ H R h => by
  obtain ⟨F, ρ, s, Qd, r, ht, hQ⟩ := h
  refine ⟨F, ρ, s, _, r, ht, fun ds ρ1 s1 vs F1 H1 ⟨d, e, xs, ys, ed, ez, q1⟩ r1 st1 rs => ?_⟩
  subst ed
  obtain ⟨v, _, rfl, rv, w, _, rfl, rw', rn⟩ := rs
  cases rn
  unfold zipD at ez
  split at ez
  · cases ez
    obtain ⟨a, vs, rfl, h1, _, k1⟩ := rv
    obtain ⟨b, ws, rfl, h2, _, k2⟩ := rw'
    exact ⟨a, b, vs, ws, rfl, .inl ⟨.inl (.inl (r1.sub _ _ h1)), .inl (.inl (r1.sub _ _ h2)), hQ _ ρ1 s1 _ F1 H1 q1 r1 st1 (walks_zipL (.inl (.inl h1)) k1 (.inl (.inl h2)) k2)⟩⟩
  · cases ez
    obtain ⟨a, vs, rfl, h1, _, k1⟩ := rv
    obtain ⟨b, ws, rfl, h2, _, k2⟩ := rw'
    exact ⟨a, b, vs, ws, rfl, .inr ⟨Same.seqT r1.sub h1, Same.seqT r1.sub h2, hQ _ ρ1 s1 _ F1 H1 q1 r1 st1 (walks_zipT h1 k1 h2 k2)⟩⟩
  · cases ez
end
end DL

set_option Elab.async false
set_option linter.all false
set_option maxRecDepth 100000
namespace DL
open PySem PySem.Spec PyProof.Rows L2 TL

/-! ### repr -/
def keyPy : Key → PyData
  | .inl i => .int i
  | .inr x => .str x
mutual
/-- data as the library's model of data, dicts too -/
def pyR : D → PyData
  | .non => .none
  | .bl b => .bool b
  | .int i => .int i
  | .str x => .str x
  | .lst xs => .list (pyRs xs)
  | .tup xs => .tuple (pyRs xs)
  | .dic ks xs => .dict (pyRk ks xs)
  | _ => .none
def pyRs : List D → List PyData
  | [] => []
  | d :: ds => pyR d :: pyRs ds
def pyRk : List Key → List D → List (PyData × PyData)
  | k :: ks, d :: ds => (keyPy k, pyR d) :: pyRk ks ds
  | _, _ => []
end
mutual
/-- what repr takes, at most so deep -/
def repD : Nat → D → Bool
  | _, .non => true
  | _, .bl _ => true
  | _, .int _ => true
  | _, .str _ => true
  | n, .lst xs => match n with
    | 0 => false
    | k + 1 => repDs k xs
  | n, .tup xs => match n with
    | 0 => false
    | k + 1 => repDs k xs
  | n, .dic ks xs => match n with
    | 0 => false
    | k + 1 => repDs k xs
  | _, _ => false
def repDs : Nat → List D → Bool
  | _, [] => true
  | n, d :: ds => repD n d && repDs n ds
end
@[irreducible] def repOk (d : D) : Bool := repD 60 d && ((pyR d).showable && decide ((pyR d).shown.length ≤ sizeLine))
section
variable {X : Cx} {pins : List (Addr × Obj)} {σ : L2.St} {F H : Hp} {s : Shared}
theorem pairs_reads {P : Program} {w : World} {h : Heap} : ∀ {es : List DictEntry} {vs : List (Key × Value)}, Pairs (mixKind P w) es vs → ReadsAll h (es.map (·.key)) (vs.map fun p => keyPy p.1) [] ∧ es.map (·.val) = vs.map (·.2)
  | _, _, .nil => ⟨.nil, rfl⟩
  | _, _, .cons (e := e) (kv := kv) hk hv r => by
    obtain ⟨q1, q2⟩ := pairs_reads (h := h) r
    have hk' : keyIs kv.1 e.key = true := hk
    have one : Reads h e.key (keyPy kv.1) [] := by
      rcases keyIs_shape hk' with ⟨i, t, e1, e2⟩ | ⟨x, t, e1, e2⟩
      · rw [e1, e2]; exact .int i t
      · rw [e1, e2]; exact .str x t
    exact ⟨.cons one q1, by rw [List.map_cons, List.map_cons, hv, q2]⟩
mutual
theorem rep_reads (hS : H sysModules = none) (I : Inv X pins σ H s) (sub : Same F H) : ∀ (n : Nat) (d : D) (v : V) (u : Value), repD n d = true → Rep X.K F d v → RelV v u → ∃ as, Reads s.heap u (pyR d) as ∧ sysModules ∉ as
  | _, .non, _, _, _, h, r => by cases h; cases r; exact ⟨_, .none, by simp⟩
  | _, .bl b, _, _, _, h, r => by cases h; cases r; exact ⟨_, .bool b, by simp⟩
  | _, .int i, _, _, _, h, r => by cases h; obtain ⟨t, rfl⟩ := r; exact ⟨_, .int i t, by simp⟩
  | _, .str x, _, _, _, h, r => by obtain ⟨rfl, _⟩ := h; obtain ⟨t, rfl⟩ := r; exact ⟨_, .str x t, by simp⟩
  | 0, .lst xs, _, _, p, _, _ => by simp [repD] at p
  | n + 1, .lst xs, _, _, p, h, r => by
    obtain ⟨a, vs, rfl, h1, _, rs⟩ := h
    cases r
    have ha := sub _ _ h1
    obtain ⟨its, rv, ⟨o, k, ho, hc, _, hd⟩, _⟩ := I.list (.inl (.inl ha))
    obtain ⟨as, q1, q2⟩ := reps_reads hS I sub n xs vs its (by simpa [repD] using p) rs rv
    refine ⟨_, .list ho hc hd q1, ?_⟩
    simp only [List.mem_cons, not_or]
    exact ⟨(fun z => by rw [z, ha] at hS; cases hS), q2⟩
  | 0, .tup xs, _, _, p, _, _ => by simp [repD] at p
  | n + 1, .tup xs, _, _, p, h, r => by
    obtain ⟨a, vs, rfl, h1, _, rs⟩ := h
    cases r
    obtain ⟨its, rv, ⟨o, ho, hc, k, hd⟩, _⟩ := I.tuple (Same.seqT sub h1)
    obtain ⟨as, q1, q2⟩ := reps_reads hS I sub n xs vs its (by simpa [repD] using p) rs rv
    exact ⟨_, .tuple ho hc hd q1, q2⟩
  | 0, .dic ks xs, _, _, p, _, _ => by simp [repD] at p
  | n + 1, .dic ks xs, _, _, p, h, r => by
    obtain ⟨a, kvs, rfl, h1, _, rfl, rs⟩ := h
    cases r
    obtain ⟨_, hd, vs, kv, ⟨o, es, ep, ho, ex, hdat, _, pr, _⟩⟩ := dk_of I.hok (sub _ _ h1)
    obtain ⟨q1, q2⟩ := pairs_reads (h := s.heap) pr
    obtain ⟨bs, q3, q4⟩ := repk_reads hS I sub n xs kvs vs (by simpa [repD] using p) rs kv
    refine ⟨a :: [] ++ bs, .dict ho ex.1 hdat (by rw [q3.1]; exact q1) (by rw [q2]; exact q3.2), ?_⟩
    simp only [List.cons_append, List.nil_append, List.mem_cons, not_or]
    exact ⟨(fun z => by rw [← z] at hd; simp at hd), q4⟩
  | _, .ins _ _ _, _, _, p, _, _ => by simp [repD] at p
  | _, .any _, _, _, p, _, _ => by simp [repD] at p
  | _, .fz _, _, _, p, _, _ => by simp [repD] at p
  | _, .exc _ _ _, _, _, p, _, _ => by simp [repD] at p
  | _, .cau _ _ _ _, _, _, p, _, _ => by simp [repD] at p
  | _, .exk _ _ _, _, _, p, _, _ => by simp [repD] at p
theorem reps_reads (hS : H sysModules = none) (I : Inv X pins σ H s) (sub : Same F H) : ∀ (n : Nat) (ds : List D) (vs : List V) (us : List Value), repDs n ds = true → Reps X.K F ds vs → Vals vs us → ∃ as, ReadsAll s.heap us (pyRs ds) as ∧ sysModules ∉ as
  | _, [], _, _, _, h, r => by cases h; cases r; exact ⟨_, .nil, by simp⟩
  | n, d :: ds, _, _, p, ⟨v, vs, e, h, t⟩, r => by
    subst e
    rw [repDs, Bool.and_eq_true] at p
    cases r with
    | cons r1 r2 =>
      obtain ⟨as, q1, n1⟩ := rep_reads hS I sub n d v _ p.1 h r1
      obtain ⟨bs, q2, n2⟩ := reps_reads hS I sub n ds vs _ p.2 t r2
      exact ⟨_, .cons q1 q2, by simp only [List.mem_append, not_or]; exact ⟨n1, n2⟩⟩
theorem repk_reads (hS : H sysModules = none) (I : Inv X pins σ H s) (sub : Same F H) : ∀ (n : Nat) (ds : List D) (kvs : List (Key × V)) (vs : List (Key × Value)), repDs n ds = true → Reps X.K F ds (kvs.map (·.2)) → KV kvs vs →
    ∃ bs, ((pyRk (kvs.map (·.1)) ds).map (·.1) = vs.map (fun p => keyPy p.1) ∧ ReadsAll s.heap (vs.map (·.2)) ((pyRk (kvs.map (·.1)) ds).map (·.2)) bs) ∧ sysModules ∉ bs
  | _, [], [], _, _, _, k => by
    cases k
    exact ⟨[], ⟨rfl, .nil⟩, by simp⟩
  | _, [], _ :: _, _, _, h, _ => by cases h
  | _, _ :: _, [], _, _, ⟨_, _, e, _⟩, _ => by cases e
  | n, d :: ds, (k0, v0) :: kvs, _, p, ⟨v, r, e, h, t⟩, k => by
    rw [List.map_cons] at e
    injection e with e1 e2
    subst e1 e2
    rw [repDs, Bool.and_eq_true] at p
    cases k with
    | cons kr kt =>
      obtain ⟨as, q1, n1⟩ := rep_reads hS I sub n d _ _ p.1 h kr.2
      obtain ⟨bs, ⟨q2, q3⟩, n2⟩ := repk_reads hS I sub n ds kvs _ p.2 t kt
      refine ⟨as ++ bs, ⟨?_, ?_⟩, by simp only [List.mem_append, not_or]; exact ⟨n1, n2⟩⟩
      · simp only [List.map_cons, pyRk]
        rw [q2, show k0 = _ from kr.1]
      · simp only [List.map_cons, pyRk]
        exact .cons q1 q3
end
mutual
theorem depth_of : ∀ (n : Nat) (d : D), repD n d = true → (pyR d).depth ≤ n
  | _, .non, _ => Nat.zero_le _
  | _, .bl _, _ => Nat.zero_le _
  | _, .int _, _ => Nat.zero_le _
  | _, .str _, _ => by simp [pyR, PyData.depth]
  | 0, .lst xs, p => by simp [repD] at p
  | n + 1, .lst xs, p => by
    have := depths_of n xs (by simpa [repD] using p)
    simp only [pyR, PyData.depth]; omega
  | 0, .tup xs, p => by simp [repD] at p
  | n + 1, .tup xs, p => by
    have := depths_of n xs (by simpa [repD] using p)
    simp only [pyR, PyData.depth]; omega
  | 0, .dic ks xs, p => by simp [repD] at p
  | n + 1, .dic ks xs, p => by
    have := depthk_of n ks xs (by simpa [repD] using p)
    simp only [pyR, PyData.depth]; omega
  | _, .ins _ _ _, p => by simp [repD] at p
  | _, .any _, p => by simp [repD] at p
  | _, .fz _, p => by simp [repD] at p
  | _, .exc _ _ _, p => by simp [repD] at p
  | _, .cau _ _ _ _, p => by simp [repD] at p
  | _, .exk _ _ _, p => by simp [repD] at p
theorem depths_of : ∀ (n : Nat) (ds : List D), repDs n ds = true → PyData.depthAll (pyRs ds) ≤ n
  | _, [], _ => Nat.zero_le _
  | n, d :: ds, p => by
    rw [repDs, Bool.and_eq_true] at p
    have h1 := depth_of n d p.1
    have h2 := depths_of n ds p.2
    simp only [pyRs, PyData.depthAll]; omega
theorem depthk_of : ∀ (n : Nat) (ks : List Key) (ds : List D), repDs n ds = true → PyData.depthKv (pyRk ks ds) ≤ n
  | _, [], ds, _ => by cases ds <;> exact Nat.zero_le _
  | _, _ :: _, [], _ => Nat.zero_le _
  | n, k :: ks, d :: ds, p => by
    rw [repDs, Bool.and_eq_true] at p
    have h1 := depth_of n d p.1
    have h2 := depthk_of n ks ds p.2
    have h3 : (keyPy k).depth = 0 := by cases k <;> simp [keyPy, PyData.depth]
    simp only [pyRk, PyData.depthKv]; omega
end
/-- what a repr sees -/
def RpAt (X : Cx) (H : Hp) (x : V) (t : Str) : Prop := ∃ F d, Same F H ∧ Rep X.K F d x ∧ repOk d = true ∧ t = (pyR d).shown
def rRepr (X : Cx) : List V → Hp → VK → Prop := fun xs H Q => ∃ x t, xs = [x] ∧ RpAt X H x t ∧ Q (.str t) H
theorem sys_free (hk : ∃ o, X.base.get? sysModules = some o) (I : Inv X pins σ H s) : H sysModules = none := by
  obtain ⟨o, e⟩ := hk
  exact (I.bs _ o e).2
theorem call_reprD (hk : ∃ o, X.base.get? sysModules = some o) (hg : X.A.guards = some []) (hu : X.A.units + 65 < cLine) : CallR X (.builtin "repr") (rRepr X) := by
  intro pins s σ H xs us Q I r h
  obtain ⟨x, t, rfl, ⟨F, d, sub, rp, ok, rfl⟩, q⟩ := h
  obtain ⟨u, us', rfl, r1, r2⟩ : ∃ u us', us = u :: us' ∧ RelV x u ∧ Vals [] us' := by cases r with | cons a b => exact ⟨_, _, rfl, a, b⟩
  cases r2
  unfold repOk at ok
  rw [Bool.and_eq_true, Bool.and_eq_true, decide_eq_true_eq] at ok
  obtain ⟨o1, o2, o3⟩ := ok
  obtain ⟨as, rd, ns⟩ := rep_reads (sys_free hk I) I sub 60 d x u o1 rp r1
  have dp := depth_of 60 d o1
  have ref : ∀ a, u = .ref a → wpAny (model X.prog X.w) X.A (call (.builtin "repr") [u]) (EP X pins σ Q) X.xe s := fun a e => by
    subst e
    exact repr_of_reads' rd o2 (fun _ => ns) hg (by omega) (fun _ _ z => z) (fun h' w tk k => ⟨.str _, H, I.kept (t' := tk) k, ⟨w, rfl⟩, q⟩) o3
  cases d with
  | non => cases rp; cases r1; exact PySem.P.repr_of_none ⟨.str _, H, I.tok _, ⟨_, rfl⟩, q⟩
  | bl b => cases rp; cases r1; exact PySem.P.repr_of_bool ⟨.str _, H, I.tok _, ⟨_, by cases b <;> rfl⟩, q⟩
  | int i =>
    cases rp
    obtain ⟨tk, rfl⟩ := r1
    exact PySem.P.repr_of_int (of_decide_eq_true o2) ⟨.str _, H, I.tok _, ⟨_, rfl⟩, q⟩
  | str y =>
    obtain ⟨rfl, _⟩ := rp
    obtain ⟨tk, rfl⟩ := r1
    exact PySem.P.repr_of_str ⟨.str _, H, I.tok _, ⟨s.toks, by simp only [pyR, PyData.shown]⟩, q⟩ (by simpa only [pyR, PyData.shown] using o3)
  | lst xs => obtain ⟨a, _, rfl, _⟩ := rp; exact ref a r1
  | tup xs => obtain ⟨a, _, rfl, _⟩ := rp; exact ref a r1
  | dic ks xs => obtain ⟨a, _, rfl, _⟩ := rp; exact ref a r1
  | _ => simp [repD] at o1
def reprD (ds : List D) (Q : D → Prop) : Prop := ∃ d, ds = [d] ∧ repOk d = true ∧ Q (.any (.str (pyR d).shown))
theorem o_repr : OpN X.K (rRepr X) reprD := by
  intro F H ds vs Qd Q sub rs h hQ
  obtain ⟨d, rfl, ok, q⟩ := h
  obtain ⟨v, _, rfl, rv, rn⟩ := rs
  cases rn
  exact ⟨v, _, rfl, ⟨F, d, sub, rv, ok, rfl⟩, hQ _ _ F H q (Grow.refl sub) rfl⟩
/-- texts that repr has made, compared -/
def eqT (x y : D) (Q : Bool → Prop) : Prop := ∃ a b : Str, x = .any (.str a) ∧ y = .any (.str b) ∧ Q (decide (a = b))
theorem dec_strV (a b : Str) : decide (V.str a = V.str b) = decide (a = b) := by
  by_cases h : a = b
  · rw [h]; simp
  · rw [decide_eq_false h, decide_eq_false fun z => h (V.str.inj z)]
theorem o_eqT {K : PySem.W.Frag} : Cm2 K rEq eqT := by
  intro F H dx dy x y Qd Q sub rx ry h hQ
  obtain ⟨a, b, rfl, rfl, q⟩ := h
  cases rx
  cases ry
  exact ⟨rfl, by rw [dec_strV]; exact hQ _ F H q (Grow.refl sub)⟩
end
/-! ### a, b, c = x, y, z with plain local names -/
section
variable {X : Cx} {m : Mem} {E : Ent m} {pos : Pos}
end
end DL

set_option Elab.async false
set_option linter.all false
set_option maxRecDepth 100000
namespace DL
open PySem PySem.Spec PyProof.Rows L2 TL

/-! ### {} and {x: y} -/
section
variable {X : Cx} {m : Mem} {E : Ent m} {pos : Pos}
def dDict0 {m : Mem} : DT m := fun ρ s Q => Q (.dic [] []) ρ s
theorem de_dict0 : PE X (.Dict [] [] pos) (up X.K m dDict0) := PE.imp pe_dnewK fun σ H Q h => by
  obtain ⟨F, ρ, s, Qd, r, ht, hQ⟩ := h
  intro p np
  have g : Grow F H (upd F p (.dK [])) (upd H p (.dK [])) := Grow.new r.sub np
  exact hQ _ ρ s _ _ _ ht (r.grow g) g.stp ⟨p, [], rfl, upd_same, Nat.zero_le _, rfl, .nil⟩
end
end DL

set_option Elab.async false
set_option linter.all false
set_option maxRecDepth 100000
/-! DL11: str.strip, int and str of more, written dicts as data and as a def's own, list.extend -/
namespace DL
open PySem PySem.Spec PyProof.Rows L2 TL

/-! ### small ones -/
section
open PySem.Builtin PySem.Builtin.Str
theorem strip_ok {z : Str} (h : sOk z = true) (y : Str) : sOk (Txt.stripChars z y) = true := by
  have e : Txt.stripChars z y = strSub z (stripLo y.cps.contains true z) (stripHi y.cps.contains true z (stripLo y.cps.contains true z)) := PyProof.Rows.stripBy_eq _ _ _ _
  rw [e]
  refine sOk_of (Nat.le_trans (strSub_length_le z _ _) (sOk_len h)) fun c hc => sOk_cps h c ?_
  have hc' : c ∈ (z.cps.extract _ _).toList := hc
  rw [Array.toList_extract] at hc'
  first | exact List.mem_of_mem_take (List.mem_of_mem_drop hc') | exact List.mem_of_mem_drop (List.mem_of_mem_take hc')
end
section
variable {K : PySem.W.Frag}
def stripD : D → List D → (D → Prop) → Prop := fun x ds Q => ∃ z c, x = .str z ∧ ds = [.str c] ∧ Q (.str (Txt.stripChars z c))
theorem o_strip : OpM K (fun x xs H Q => ∃ a b, x = .str a ∧ xs = [.str b] ∧ a.length ≤ sizeLine ∧ Q (.str (Txt.stripChars a b)) H) stripD := by
  intro F H dx x ds vs Qd Q sub rx rs h hQ
  obtain ⟨z, c, rfl, rfl, q⟩ := h
  obtain ⟨rfl, hz⟩ := rx
  obtain ⟨v, _, rfl, ⟨rfl, _⟩, rn⟩ := rs
  cases rn
  have := sOk_len hz
  have hs := strLim_line
  exact ⟨z, c, rfl, rfl, by omega, hQ _ _ F H q (Grow.refl sub) ⟨rfl, strip_ok hz c⟩⟩
def strID (ds : List D) (Q : D → Prop) : Prop := ∃ i : Int, ds = [.int i] ∧ i.natAbs.log2 < 1920 ∧ sOk (toString i : String) = true ∧ Q (.str (toString i : String))
theorem o_strI : OpN K (fun xs H Q => ∃ i : Int, xs = [.int i] ∧ i.natAbs.log2 < 1920 ∧ Q (.str (toString i : String)) H) strID := by
  intro F H ds vs Qd Q sub rs h hQ
  obtain ⟨i, rfl, hi, hz, q⟩ := h
  exact ⟨i, int1 rs, hi, hQ _ _ F H q (Grow.refl sub) ⟨rfl, hz⟩⟩
end

/-! ### a hidden object becomes a slot's own -/
theorem Rel.putHid {m : Mem} {K : PySem.W.Frag} {F H : Hp} {σ : L2.St} {ρ : List Sl} {s : m.S} {i : Nat} {o : Ob} {p : Addr} {ho : HO} (r' : Rel K m F H σ ρ s) (hp : H p = some ho) (nF : F p = none) (nR : ¬ m.R s p) (nO : ∀ i, ¬ Owns σ ρ i p) (ob : ObAt K F o p ho) :
    Rel K m F H (σ.set i (some (.ref p))) (ρ.set i (.ow o)) s := by
  have other : ∀ (j : Nat) q, i ≠ j → Owns (σ.set i (some (.ref p))) (ρ.set i (.ow o)) j q → Owns σ ρ j q := fun j q hj ⟨⟨o', h1⟩, h2⟩ => by
    rw [List.getElem?_set_ne hj] at h1 h2; exact ⟨⟨o', h1⟩, h2⟩
  have self : ∀ q, Owns (σ.set i (some (.ref p))) (ρ.set i (.ow o)) i q → q = p := fun q ⟨⟨o', h1⟩, h2⟩ => by
    have hi : i < σ.length := by
      have := (List.getElem?_eq_some_iff.mp h2).1
      rw [List.length_set] at this; exact this
    rw [List.getElem?_set_self hi] at h2
    cases h2; rfl
  refine ⟨r'.sub, r'.mem, r'.reg, by rw [List.length_set, List.length_set]; exact r'.len, fun j d' z => ?_, fun j o' z => ?_, fun j q z => ?_, fun j k q h1 h2 => ?_⟩
  · by_cases hj : i = j
    · subst hj
      have hi : i < ρ.length := by
        have := (List.getElem?_eq_some_iff.mp z).1
        rw [List.length_set] at this; exact this
      rw [List.getElem?_set_self hi] at z
      cases z
    · rw [List.getElem?_set_ne hj] at z
      obtain ⟨w, h1, h2⟩ := r'.sh j d' z
      exact ⟨w, by rw [List.getElem?_set_ne hj]; exact h1, h2⟩
  · by_cases hj : i = j
    · subst hj
      have hi : i < ρ.length := by
        have := (List.getElem?_eq_some_iff.mp z).1
        rw [List.length_set] at this; exact this
      rw [List.getElem?_set_self hi] at z
      cases z
      exact ⟨p, _, List.getElem?_set_self (by rw [r'.len]; exact hi), hp, ob⟩
    · rw [List.getElem?_set_ne hj] at z
      obtain ⟨q, ho', h1, h2, h3⟩ := r'.ow j o' z
      exact ⟨q, ho', by rw [List.getElem?_set_ne hj]; exact h1, h2, h3⟩
  · by_cases hj : i = j
    · subst hj
      rw [self q z]; exact ⟨nF, nR⟩
    · exact r'.owF j q (other j q hj z)
  · by_cases hj : i = j
    · subst hj
      by_cases hk : i = k
      · exact hk
      · exact absurd ((self q h1) ▸ other k q hk h2) (nO k)
    · by_cases hk : i = k
      · subst hk
        exact absurd ((self q h2) ▸ other j q hj h1) (nO j)
      · exact r'.uq j k q (other j q hj h1) (other k q hk h2)
theorem Own.putHid {m : Mem} {E : Ent m} {F H : Hp} {σ : L2.St} {ρ : List Sl} {s : m.S} {i : Nat} {o : Ob} {p : Addr} (o' : Own m E F H σ ρ s) (eH : E.H p = none) : Own m E F H (σ.set i (some (.ref p))) (ρ.set i (.ow o)) s := by
  refine ⟨o'.ext, o'.keep, o'.alive, o'.fresh, o'.regf, fun j q z => ?_⟩
  by_cases hj : i = j
  · subst hj
    obtain ⟨⟨o1, h1⟩, h2⟩ := z
    have hi : i < σ.length := by
      have := (List.getElem?_eq_some_iff.mp h2).1
      rw [List.length_set] at this; exact this
    rw [List.getElem?_set_self hi] at h2
    cases h2; exact eH
  · obtain ⟨⟨o1, h1⟩, h2⟩ := z
    rw [List.getElem?_set_ne hj] at h1 h2
    exact o'.own j q ⟨⟨o1, h1⟩, h2⟩

/-! ### a written dict with texts as keys -/
section
variable {X : Cx} {m : Mem} {E : Ent m} {pos : Pos}
/-- the values of the pairs, from the left -/
def dPairs {m : Mem} : List (DT m) → List Sl → m.S → (List D → List Sl → m.S → Prop) → Prop
  | [], ρ, s, Q => Q [] ρ s
  | t :: r, ρ, s, Q => t ρ s fun d ρ1 s1 => dPairs r ρ1 s1 fun ds ρ2 s2 => Q (d :: ds) ρ2 s2
def trsOf (K : PySem.W.Frag) (m : Mem) : List Str → List (DT m) → List (TE × TE)
  | k :: ks, t :: ts => (tC (.str k), up K m t) :: trsOf K m ks ts
  | _, _ => []
theorem up_pairs {K : PySem.W.Frag} : ∀ {ks : List Str} {ts : List (DT m)} {F H : Hp} {σ : L2.St} {ρ : List Sl} {s : m.S} {Qd : List D → List Sl → m.S → Prop} {R : List (V × V) → Hp → Prop}, ks.length = ts.length → Rel K m F H σ ρ s → dPairs ts ρ s Qd →
    (∀ ds ρ' s' vs F' H', Qd ds ρ' s' → Rel K m F' H' σ ρ' s' → Stp m F H σ ρ s F' H' ρ' s' → Reps K F' ds vs → vs.length = ks.length → R ((ks.map V.str).zip vs) H') → tPairs (trsOf K m ks ts) σ H R
  | [], [], F, H, σ, ρ, s, Qd, R, _, r, h, hR => hR [] ρ s [] F H h r Stp.refl .nil rfl
  | k :: ks, t :: ts, F, H, σ, ρ, s, Qd, R, hl, r, h, hR => by
    show up K m t σ H _
    refine ⟨F, ρ, s, _, r, h, fun d ρ1 s1 v F1 H1 q1 r1 st1 rv => ?_⟩
    refine up_pairs (by simpa using hl) r1 q1 fun ds ρ2 s2 vs F2 H2 q2 r2 st2 rs hv => ?_
    exact hR (d :: ds) ρ2 s2 (v :: vs) F2 H2 q2 r2 (st1.trans st2) (.cons (Rep.mono st2.ext _ _ rv) rs) (by simpa using hv)
  | [], _ :: _, _, _, _, _, _, _, _, h, _, _, _ => by simp at h
  | _ :: _, [], _, _, _, _, _, _, _, h, _, _, _ => by simp at h
theorem pps_str {k : Str} {p : Pos} {v : Expr} {ks : List (Option Expr)} {vs : List Expr} {t : DT m} {kk : List Str} {ts : List (DT m)} {kd : Nat} (hv : PE X v (up X.K m t)) (hr : PPs X pos ks vs (trsOf X.K m kk ts)) :
    PPs X pos (some (.Constant (.str k) kd p) :: ks) (v :: vs) (trsOf X.K m (k :: kk) (t :: ts)) := pps_cons pe_str hv hr
theorem pps_nil' : PPs X pos [] [] (trsOf X.K m [] []) := pps_nil
theorem putK_new {κ : Type} [DecidableEq κ] {kvs : List (κ × V)} {k : κ} {v : V} (h : ∀ p ∈ kvs, p.1 ≠ k) : putK kvs k v = kvs ++ [(k, v)] := by
  unfold putK
  rw [if_neg]
  intro e
  rw [List.any_eq_true] at e
  obtain ⟨p, hp, q⟩ := e
  exact h p hp (of_decide_eq_true q)
theorem mergeK_app : ∀ {more acc : List (Key × V)}, ((acc ++ more).map (·.1)).Nodup → mergeK acc more = acc ++ more
  | [], acc, _ => by rw [List.append_nil]; rfl
  | p :: r, acc, h => by
    have n1 : ∀ q ∈ acc, q.1 ≠ p.1 := fun q hq e => by
      rw [List.map_append, List.nodup_append] at h
      exact h.2.2 q.1 (List.mem_map_of_mem hq) p.1 (by simp) e
    show mergeK (putK acc p.1 p.2) r = _
    rw [putK_new n1, mergeK_app (by rw [List.append_assoc]; exact h), List.append_assoc]
    rfl
def keysOf (ks : List Str) : List Key := ks.map .inr
theorem zip_keys : ∀ {ks : List Str} {vs : List V}, (ks.map V.str).zip vs = ((keysOf ks).zip vs).map fun kv => (kV kv.1, kv.2)
  | [], _ => rfl
  | _ :: _, [] => rfl
  | k :: ks, v :: vs => by
    show (V.str k, v) :: (ks.map V.str).zip vs = _
    rw [zip_keys]
    rfl
theorem keys_zip {ks : List Str} {vs : List V} (h : vs.length = ks.length) : ((keysOf ks).zip vs).map (·.1) = keysOf ks ∧ ((keysOf ks).zip vs).map (·.2) = vs := by
  unfold keysOf
  constructor
  · rw [List.map_fst_zip]
    rw [List.length_map]; omega
  · rw [List.map_snd_zip]
    rw [List.length_map]; omega
theorem keysOf_nodup {ks : List Str} (h : ks.Nodup) : (keysOf ks).Nodup := by
  unfold keysOf
  exact List.Pairwise.map _ (fun a b hab e => hab (Sum.inr.inj e)) h
theorem up_dictS {K : PySem.W.Frag} {ks : List Str} {ts : List (DT m)} {F H : Hp} {σ : L2.St} {ρ : List Sl} {s : m.S} {Qd : List D → List Sl → m.S → Prop} {Q : VK} (hl : ks.length = ts.length) (nd : ks.Nodup) (h15 : ks.length ≤ 15) (r : Rel K m F H σ ρ s) (h : dPairs ts ρ s Qd)
    (hR : ∀ ds ρ' s' p kvs F' H', Qd ds ρ' s' → Rel K m F' H' σ ρ' s' → Stp m F H σ ρ s F' H' ρ' s' → H' p = some (.dK kvs) → F' p = none → ¬ m.R s' p → (∀ i, ¬ Owns σ ρ' i p) → H p = none → kvs.length ≤ 15 → kvs.map (·.1) = keysOf ks → Reps K F' ds (kvs.map (·.2)) → Q (.ref p) H') :
    tDisp (trsOf K m ks ts) σ H Q := by
  intro p np
  have nF : F p = none := r.sub.free np
  have nr : ¬ m.R s p := fun z => m.there s H p r.mem z np
  have nO : ∀ i, ¬ Owns σ ρ i p := fun i ⟨⟨o, e⟩, h2⟩ => by
    obtain ⟨q, ho, g1, g2, _⟩ := r.ow i o e
    rw [g1] at h2
    cases h2
    rw [g2] at np
    cases np
  refine up_pairs hl (r.hidW (ho := .dK []) nF nr nO) h fun ds ρ' s' vs F' H' q r2 st rs hv => ?_
  have hp : H' p = some (.dK []) := st.keep p _ upd_same nr
  have nF' : F' p = none := by
    cases q : F' p with
    | none => rfl
    | some u =>
      rcases st.fresh p u q with z | z | ⟨j, z⟩
      · rw [nF] at z; cases z
      · rw [upd_same] at z; cases z
      · exact absurd z (nO j)
  have nR' : ¬ m.R s' p := fun z => by
    rcases st.regf p z with z | z
    · exact nr z
    · rw [upd_same] at z; cases z
  have nO' : ∀ i, ¬ Owns σ ρ' i p := fun i z => nO i (st.owns z)
  obtain ⟨k1, k2⟩ := keys_zip hv
  have hlen : ((keysOf ks).zip vs).length ≤ 15 := by
    rw [List.length_zip]
    have : (keysOf ks).length = ks.length := List.length_map _
    omega
  refine ⟨hp, (keysOf ks).zip vs, zip_keys, hlen, ?_⟩
  rw [mergeK_app (by rw [List.nil_append, k1]; exact keysOf_nodup nd), List.nil_append]
  have st0 : Stp m F H σ ρ s F (upd H p (.dK [])) ρ s := Stp.hidW Stp.refl np
  exact hR ds ρ' s' p _ F' _ q (r2.hidW nF' nR' nO') ((st0.trans st).hidW np) upd_same nF' nR' nO' np hlen k1 (by rw [k2]; exact rs)
def dDictS {m : Mem} (ks : List Str) (ts : List (DT m)) : DT m := fun ρ s Q => dPairs ts ρ s fun ds ρ1 s1 => Q (.dic (keysOf ks) ds) ρ1 s1
theorem de_dictS {keys : List (Option Expr)} {values : List Expr} {ks : List Str} {ts : List (DT m)} (h : PPs X pos keys values (trsOf X.K m ks ts)) (hall : keys.all (·.isSome) = true := by rfl) (hl : keys.length = values.length := by rfl) (h0 : keys ≠ [] := by simp) (h15 : keys.length ≤ 15 := by decide)
    (h1 : ks.length = ts.length := by rfl) (h2 : ks.length ≤ 15 := by decide) (nd : ks.Nodup := by decide) : PE X (.Dict keys values pos) (up X.K m (dDictS ks ts)) :=
  PE.imp (pe_disp h hall hl h0 h15) fun σ H Q h => by
    obtain ⟨F, ρ, s, Qd, r, ht, hQ⟩ := h
    refine up_dictS h1 nd h2 r ht fun ds ρ' s' p kvs F' H' q r' st hp nF nR nO nH hz kk rs => ?_
    have sm : Same F' (upd F' p (.dK kvs)) := same_upd nF
    refine hQ _ ρ' s' _ (upd F' p (.dK kvs)) H' q (r'.adopt hp nF nR nO) ⟨st.ext.trans sm, st.keep, st.alive, fun a o e => ?_, st.regf, st.shr⟩ ⟨p, kvs, rfl, upd_same, Nat.le_trans hz (by decide), kk, Reps.mono sm _ _ rs⟩
    by_cases ha : a = p
    · subst ha; exact .inr (.inl nH)
    · rw [upd_ne ha] at e; exact st.fresh a o e
/-- x = {..}, a dict that this def will change -/
def dSetD {m : Mem} (i : Nat) (ks : List Str) (ts : List (DT m)) : DTS m := fun dd ρ s => dPairs ts ρ s fun ds ρ1 s1 => dd.nx (ρ1.set i (.ow (.dic (keysOf ks) ds))) s1
theorem ds_setD (i : Nat) {x : Str} {pos' dpos : Pos} {keys : List (Option Expr)} {values : List Expr} {ks : List Str} {ts : List (DT m)} (hN : X.N.Nodup) (h : PPs X dpos keys values (trsOf X.K m ks ts)) (hall : keys.all (·.isSome) = true := by rfl) (hl : keys.length = values.length := by rfl) (h0 : keys ≠ [] := by simp) (h15 : keys.length ≤ 15 := by decide)
    (h1 : ks.length = ts.length := by rfl) (h2 : ks.length ≤ 15 := by decide) (nd : ks.Nodup := by decide) (hi : X.N[i]? = some x := by rfl) (hx : Loc X.env.scope x := by first | exact Or.inl rfl | exact Or.inr rfl)
    (hs : swapsWith (.Dict keys values dpos) (some (.Name x pos')) pos.line X.env = pure false := by rfl) (hf : X.fn x = true ∨ X.env.scope.names.lookup x = some .local := by first | exact .inl rfl | exact .inr rfl) :
    PS X (.Assign [.Name x pos'] (.Dict keys values dpos) pos) (upS X.K m E (dSetD i ks ts)) := PS.imp (ps_set hN hi hx (pe_disp h hall hl h0 h15) hs hf) fun DD σ H h => by
  obtain ⟨F, ρ, s, dd, r, o, ht, f⟩ := h
  refine up_dictS h1 nd h2 r ht fun ds ρ' s' p kvs F' H' q r' st hp nF nR nO nH hz kk rs => ?_
  have o' := o.stp st
  have eH : E.H p = none := by
    cases q : E.H p with
    | none => rfl
    | some u => exact absurd nH (o.alive p (by rw [q]; simp))
  exact f.nx F' H' _ _ s' st.ext (r'.putHid (o := .dic (keysOf ks) ds) hp nF nR nO ⟨kvs, rfl, Nat.le_trans hz (by decide), kk, rs⟩) (o'.putHid eH) q
end
/-! ### a dict read by key; a def's own dict -/
def dicGet : List Key → List D → Key → Option D
  | k :: ks, d :: ds, q => if k = q then some d else dicGet ks ds q
  | _, _, _ => none
theorem val_rep {K : PySem.W.Frag} {F : Hp} {q : Key} : ∀ {kvs : List (Key × V)} {ks : List Key} {ds : List D}, kvs.map (·.1) = ks → Reps K F ds (kvs.map (·.2)) → (∀ d, dicGet ks ds q = some d → ∃ v, valV kvs q = some v ∧ Rep K F d v) ∧ (valV kvs q).isSome = (dicGet ks ds q).isSome
  | [], _, ds, e, r => by
    subst e
    refine ⟨fun d h => ?_, ?_⟩
    · cases ds <;> cases h
    · cases ds <;> rfl
  | p :: kvs, _, ds, e, r => by
    subst e
    cases ds with
    | nil => cases r
    | cons d ds =>
      obtain ⟨v, _, e, rv, rs⟩ := r
      cases e
      have ih := val_rep (q := q) (kvs := kvs) rfl rs
      have eD : dicGet ((p :: kvs).map (·.1)) (d :: ds) q = if p.1 = q then some d else dicGet (kvs.map (·.1)) ds q := rfl
      rw [eD]
      by_cases c : p.1 = q
      · rw [valV_pos c, if_pos c]
        refine ⟨fun d' h => ?_, rfl⟩
        cases h
        exact ⟨_, rfl, rv⟩
      · have e1 : valV (p :: kvs) q = valV kvs q := by
          unfold valV
          rw [List.find?_cons, decide_eq_false c]
        rw [e1, if_neg c]
        exact ih
section
variable {X : Cx} {m : Mem} {E : Ent m} {pos : Pos} {e b : Expr} {te tb : DT m}
def dGet {m : Mem} (te tb : DT m) : DT m := fun ρ s Q => te ρ s fun x ρ1 s1 => tb ρ1 s1 fun y ρ2 s2 => ∃ ks ds z d, x = .dic ks ds ∧ y = .str z ∧ dicGet ks ds (.inr z) = some d ∧ Q d ρ2 s2
theorem de_get (hu : X.A.units + 1 < cLine) (he : PE X e (up X.K m te)) (hb : PE X b (up X.K m tb)) (hs : NoSl b := by exact fun _ _ => rfl) : PE X (.Subscript e b pos) (up X.K m (dGet te tb)) := PE.imp (pe_dget hu he hb hs) fun σ H Q h => by
  obtain ⟨F, ρ, s, Qd, r, ht, hQ⟩ := h
  refine up2 (R := fun x y H2 => ∃ a v, x = .ref a ∧ DGet H2 a y (some v) ∧ Q v H2) r ht fun dx dy x y F2 H2 ρ2 s2 ⟨ks, ds, z, d, ex, ey, eg, q⟩ r2 st rx ry => ?_
  subst ex
  subst ey
  obtain ⟨a, kvs, rfl, ha, _, hk, rs⟩ := rx
  obtain ⟨rfl, _⟩ := ry
  obtain ⟨v, ev, rv⟩ := (val_rep hk rs).1 d eg
  refine ⟨a, v, rfl, ?_, hQ d ρ2 s2 v F2 H2 q r2 st rv⟩
  rw [← ev]
  exact DGet.k (k := .inr z) (r2.sub _ _ ha)
def dGetO {m : Mem} (i : Nat) (tb : DT m) : DT m := fun ρ s Q => (∃ ks0 ds0, ρ[i]? = some (.ow (.dic ks0 ds0))) ∧ tb ρ s fun y ρ1 s1 => ∃ ks ds z d, y = .str z ∧ ρ1[i]? = some (.ow (.dic ks ds)) ∧ dicGet ks ds (.inr z) = some d ∧ Q d ρ1 s1
theorem de_getO (i : Nat) {x : Str} {xpos : Pos} (hu : X.A.units + 1 < cLine) (hb : PE X b (up X.K m tb)) (hN : X.N[i]? = some x := by rfl) (hv : Vis X.env.scope x := by first | exact Or.inl rfl | exact Or.inr (Or.inl rfl) | exact Or.inr (Or.inr rfl))
    (hd : (x == ("__debug__" : Str)) = false := by decide) (hcd : (x == ("__classdict__" : Str)) = false := by decide) (hs : NoSl b := by exact fun _ _ => rfl) : PE X (.Subscript (.Name x xpos) b pos) (up X.K m (dGetO i tb)) :=
  PE.imp (pe_dget hu (pv i hN hv hd hcd) hb hs) fun σ H Q h => by
    obtain ⟨F, ρ, s, Qd, r, ⟨⟨ks0, ds0, e0⟩, ht⟩, hQ⟩ := h
    obtain ⟨p, ho, h1, h2, ⟨kv0, rfl, hl0, _, rs0⟩, h4, h5⟩ := r.own_at e0
    refine ⟨_, h1, F, ρ, s, _, r, ht, fun y ρ1 s1 v F1 H1 ⟨ks, ds, z, d, ey, e1, eg, q1⟩ r1 st1 rv => ?_⟩
    subst ey
    obtain ⟨rfl, _⟩ := rv
    obtain ⟨p', ho, g1, g2, ⟨kvs, rfl, hl, hk, rs⟩, g4, g5⟩ := r1.own_at e1
    rw [h1] at g1; cases g1
    obtain ⟨w, ew, rw'⟩ := (val_rep hk rs).1 d eg
    refine ⟨p, w, rfl, ?_, hQ d ρ1 s1 w F1 H1 q1 r1 st1 rw'⟩
    rw [← ew]
    exact DGet.k (k := .inr z) g2
/-- e in x, e not in x, x the def's own dict -/
def dInO {m : Mem} (neg : Bool) (te : DT m) (i : Nat) : DTT m := fun ρ s Q => te ρ s fun y ρ1 s1 => ∃ ks ds z, y = .str z ∧ ρ1[i]? = some (.ow (.dic ks ds)) ∧ Q (neg ^^ (dicGet ks ds (.inr z)).isSome) ρ1 s1
theorem dt_notInO (i : Nat) {x : Str} {xpos : Pos} (hu : X.A.units + 1 < cLine) (he : PE X e (up X.K m te)) (hN : X.N[i]? = some x := by rfl) (hv : Vis X.env.scope x := by first | exact Or.inl rfl | exact Or.inr (Or.inl rfl) | exact Or.inr (Or.inr rfl))
    (hd : (x == ("__debug__" : Str)) = false := by decide) (hcd : (x == ("__classdict__" : Str)) = false := by decide) (hm : behindInMarks .NotIn (.Name x xpos) = false := by first | exact nobehind _ (by decide) (by decide) | rfl) : PT X (.Compare e [.NotIn] [.Name x xpos] pos) (upT X.K m (dInO true te i)) :=
  PT.imp (pt_cmp (pc_dnotin hu he (pv i hN hv hd hcd)) hm) fun σ H Q h => by
    obtain ⟨F, ρ, s, Qd, r, ht, hQ⟩ := h
    refine ⟨F, ρ, s, _, r, ht, fun y ρ1 s1 v F1 H1 ⟨ks, ds, z, ey, e1, q1⟩ r1 st1 rv => ?_⟩
    subst ey
    obtain ⟨rfl, _⟩ := rv
    obtain ⟨p, ho, g1, g2, ⟨kvs, rfl, hl, hk, rs⟩, g4, g5⟩ := r1.own_at e1
    refine ⟨_, g1, p, _, rfl, DGet.k (k := .inr z) g2, _, rfl, ?_⟩
    rw [(val_rep hk rs).2]
    rw [Bool.true_xor] at q1
    exact hQ _ ρ1 s1 F1 H1 q1 r1 st1
/-- x["k1"], x["k2"] = a, b, the keys new -/
def dPut2 {m : Mem} (i : Nat) (k1 k2 : Str) (ta : DTA m) : DTS m := fun dd ρ s => dTup ta ρ s fun d ρ1 s1 => ∃ d1 d2 ks ds, d = .tup [d1, d2] ∧ ρ1[i]? = some (.ow (.dic ks ds)) ∧ (.inr k1 ∉ ks) ∧ (.inr k2 ∉ ks) ∧ k1 ≠ k2 ∧ ks.length + 2 ≤ 100 ∧
  dd.nx (ρ1.set i (.ow (.dic (ks ++ [.inr k1, .inr k2]) (ds ++ [d1, d2])))) s1
theorem upd_twice {H : Hp} {p : Addr} {o o' : HO} : upd (upd H p o) p o' = upd H p o' := by
  funext x
  by_cases hx : x = p
  · subst hx; rw [upd_same, upd_same]
  · rw [upd_ne hx, upd_ne hx, upd_ne hx]
theorem ds_put2 (i : Nat) {x : Str} {k1 k2 : Str} {a c : Expr} {ta : DTA m} {xp1 xp2 sp1 sp2 cp1 cp2 tp tp2 : Pos} {kt kt2 ck1 ck2} (hu : X.A.units + 1 < cLine) (ha : PA X [a, c] (upA X.K m ta)) (hN : X.N[i]? = some x := by rfl) (hv : Vis X.env.scope x := by first | exact Or.inl rfl | exact Or.inr (Or.inl rfl) | exact Or.inr (Or.inr rfl))
    (hd : (x == ("__debug__" : Str)) = false := by decide) (hcd : (x == ("__classdict__" : Str)) = false := by decide) (hc : X.calm = true := by rfl)
    (hs : swapsWithSole [.Tuple [.Subscript (.Name x xp1) (.Constant (.str k1) ck1 cp1) sp1, .Subscript (.Name x xp2) (.Constant (.str k2) ck2 cp2) sp2] kt tp] (.Tuple [a, c] kt2 tp2) pos.line X.env = pure false := by rfl)
    (hw : swappedStores [.Tuple [.Subscript (.Name x xp1) (.Constant (.str k1) ck1 cp1) sp1, .Subscript (.Name x xp2) (.Constant (.str k2) ck2 cp2) sp2] kt tp] (.Tuple [a, c] kt2 tp2) X.env = pure none := by rfl)
    (h1 : (assignEach [.Tuple [.Subscript (.Name x xp1) (.Constant (.str k1) ck1 cp1) sp1, .Subscript (.Name x xp2) (.Constant (.str k2) ck2 cp2) sp2] kt tp] X.env).map (·.2) = [assign (.Tuple [.Subscript (.Name x xp1) (.Constant (.str k1) ck1 cp1) sp1, .Subscript (.Name x xp2) (.Constant (.str k2) ck2 cp2) sp2] kt tp) X.env] := by rfl) :
    PS X (.Assign [.Tuple [.Subscript (.Name x xp1) (.Constant (.str k1) ck1 cp1) sp1, .Subscript (.Name x xp2) (.Constant (.str k2) ck2 cp2) sp2] kt tp] (.Tuple [a, c] kt2 tp2) pos) (upS X.K m E (dPut2 i k1 k2 ta)) :=
  PS.imp (ps_asg (de_tup ha) (pg_tup hc (pgs_cons (pg_sub (pv i hN hv hd hcd) pe_str (set_dict hu) (by intro _; rfl)) (pgs_cons (pg_sub (pv i hN hv hd hcd) pe_str (set_dict hu) (by intro _; rfl)) pgs_nil))) hs hw h1) fun DD σ H h => by
    obtain ⟨F, ρ, s, dd, r, o, ht, f⟩ := h
    refine ⟨F, ρ, s, _, r, ht, fun d ρ1 s1 v F1 H1 ⟨d1, d2, ks, ds, ed, e1, n1, n2, n3, hz, q1⟩ r1 st1 rv => ?_⟩
    subst ed
    obtain ⟨tadr, vs, rfl, hT, _, v1, _, rfl, rv1, v2, _, rfl, rv2, rn⟩ := rv
    cases rn
    obtain ⟨p, ho, g1, g2, ⟨kvs, rfl, hl, hk, rs⟩, g4, g5⟩ := r1.own_at e1
    have hlen : kvs.length = ks.length := by rw [← hk, List.length_map]
    have m1 : ∀ q ∈ kvs, q.1 ≠ Sum.inr k1 := fun q hq e => n1 (by rw [← hk, ← e]; exact List.mem_map_of_mem hq)
    have m2 : ∀ q ∈ kvs ++ [((Sum.inr k1 : Key), v1)], q.1 ≠ Sum.inr k2 := fun q hq e => by
      rcases List.mem_append.mp hq with z | z
      · exact n2 (by rw [← hk, ← e]; exact List.mem_map_of_mem z)
      · have z' : q = (Sum.inr k1, v1) := by simpa using z
        rw [z'] at e
        exact n3 (Sum.inr.inj e)
    have z100 : 100 ≤ sizeLine := by decide
    refine ⟨tadr, [v1, v2], rfl, Same.seqT r1.sub hT, rfl, v1, [v2], rfl, .ref p, g1, p, _, rfl, DPut.k (k := .inr k1) g2 (by omega), ?_⟩
    rw [putK_new m1]
    refine ⟨v2, [], rfl, .ref p, g1, p, _, rfl, DPut.k (k := .inr k2) upd_same (by rw [List.length_append]; simp; omega), ?_⟩
    rw [putK_new m2, upd_twice]
    refine ⟨rfl, ?_⟩
    refine f.nx F1 _ σ _ s1 st1.ext (r1.write (o' := .dic (ks ++ [.inr k1, .inr k2]) (ds ++ [d1, d2])) e1 g1 ⟨_, rfl, by rw [List.length_append, List.length_append]; simp; omega, ?_, ?_⟩) ((o.stp st1).write (K := X.K) e1 g1) q1
    · rw [List.map_append, List.map_append, hk, List.append_assoc]
      rfl
    · rw [List.map_append, List.map_append, List.append_assoc]
      exact rs.append (.cons rv1 (.one rv2))
end
/-! ### x.extend(e), enumerate -/
section
variable {X : Cx} {m : Mem} {E : Ent m} {pos : Pos} {e : Expr} {te : DT m} {ta : DTA m} {p : Pos}
def dExt {m : Mem} (i : Nat) (te : DT m) : DTS m := fun dd ρ s => (∃ ds0, ρ[i]? = some (.ow (.lst ds0))) ∧ te ρ s fun d ρ1 s1 => ∃ ds es, d = .lst es ∧ ρ1[i]? = some (.ow (.lst ds)) ∧ ds.length + es.length ≤ sizeLine ∧ dd.nx (ρ1.set i (.ow (.lst (ds ++ es)))) s1
theorem ds_ext (i : Nat) {x : Str} {xpos apos cpos : Pos} (he : PE X e (up X.K m te)) (hN : X.N[i]? = some x := by rfl) (hv : Vis X.env.scope x := by first | exact Or.inl rfl | exact Or.inr (Or.inl rfl) | exact Or.inr (Or.inr rfl))
    (hd : (x == ("__debug__" : Str)) = false := by decide) (hcd : (x == ("__classdict__" : Str)) = false := by decide)
    (hbase : attributeBase (.Name x xpos) "extend" X.env (eval (.Name x xpos) X.env) = eval (.Name x xpos) X.env := by rfl)
    (hfew : ((backTo cpos (starEach [e] X.env)).all (fun x => !x.1) && (backToKw cpos (keywordEach [] X.env)).all (fun x => x.1.isSome)
      && decide ([e].length + ([] : List Keyword).length + (if ([] : List Keyword).isEmpty then 0 else 1) < 30)) = true := by rfl)
    (hline : (apos.endLine == cpos.line) = true := by rfl) (hs : starEach [e] X.env = [(false, eval e X.env)] := by rfl)
    (hsw : swapsWith (.Call (.Attribute (.Name x xpos) "extend" apos) [e] [] cpos) none pos.line X.env = pure false := by rfl) :
    PS X (.Expr (.Call (.Attribute (.Name x xpos) "extend" apos) [e] [] cpos) pos) (upS X.K m E (dExt i te)) :=
  PS.imp (ps_expr (pe_bm PySem.F.plainAttrs_list PySem.F.slot_list_extend PySem.F.type_list_extend mt_extend (pv i hN hv hd hcd) (pa_cons he pa_nil (by rw [hs]; rfl)) hbase hfew hline (by rw [hs]; rfl) rfl) hsw) fun DD σ H h => by
  obtain ⟨F, ρ, s, dd, r, o, ⟨⟨ds0, e0⟩, ht⟩, f⟩ := h
  obtain ⟨p, ho, h1, h2, ⟨vs0, rfl, hl0, rs0⟩, h4, h5⟩ := r.own_at e0
  refine ⟨_, h1, .inl ⟨rfl, vs0, .inl (.inl h2)⟩, F, ρ, s, _, r, ht, fun d ρ1 s1 v F1 H1 ⟨ds, es, ed, e1, hz, q1⟩ r1 st1 rv => ?_⟩
  subst ed
  obtain ⟨b, ws, rfl, hb, _, rw'⟩ := rv
  obtain ⟨p', ho, g1, g2, ⟨vs, rfl, hl, rs⟩, g4, g5⟩ := r1.own_at e1
  rw [h1] at g1; cases g1
  have hlen := rs.length
  have hlen' := rw'.length
  refine ⟨p, b, vs, ws, rfl, rfl, g2, r1.sub _ _ hb, by omega, ?_⟩
  exact f.nx F1 _ σ _ s1 st1.ext (r1.write (o' := .lst (ds ++ es)) e1 h1 ⟨vs ++ ws, rfl, by rw [List.length_append]; omega, rs.append rw'⟩) ((o.stp st1).write (K := X.K) e1 h1) q1
def enumD (xs : List D) : List D := xs.mapIdx fun i x => .tup [.int (i : Nat), x]
theorem enum_get {xs : List D} {i : Nat} {d : D} (h : (enumD xs)[i]? = some d) : ∃ x, xs[i]? = some x ∧ d = .tup [.int (i : Nat), x] := by
  unfold enumD at h
  rw [List.getElem?_mapIdx] at h
  cases hx : xs[i]? with
  | none => rw [hx] at h; cases h
  | some x => rw [hx] at h; exact ⟨x, rfl, (Option.some.inj h).symm⟩
theorem walks_enumL {K : PySem.W.Frag} {F : Hp} {a : Addr} {ds : List D} {vs : List V} (h1 : SqL K F a vs) (r1 : Reps K F ds vs) : Walks K F (Ite K a) (enumD ds) := fun F' H' s1 s2 => by
  have q1 : SqL K H' a vs := Same.seq s2 (Same.seq s1 h1)
  refine ⟨fun i hi => ⟨vs, q1, by rw [r1.length]; unfold enumD at hi; rw [List.length_mapIdx] at hi; exact hi⟩, fun i d e => ?_⟩
  obtain ⟨x, ex, rfl⟩ := enum_get e
  obtain ⟨v, ev, rv⟩ := r1.get ex
  refine ⟨⟨vs, v, q1, ev⟩, fun z H2 yl => ?_⟩
  obtain ⟨T, v', rfl, nT, rfl, g1⟩ := yl
  have e1 := g1 vs q1
  rw [ev] at e1
  cases e1
  have g : Grow F' H' (upd F' T (.tup [.int (i : Nat), v])) (upd H' T (.tup [.int (i : Nat), v])) := Grow.new s2 nT
  exact ⟨_, g, rep_pair upd_same rfl (Rep.mono (s1.trans g.fF) _ _ rv)⟩
end
end DL

set_option Elab.async false
set_option linter.all false
set_option maxRecDepth 100000
/-! DL12: a comprehension with two fors -/
namespace DL
open PySem PySem.Spec PyProof.Rows L2 TL
section
variable {X : Cx} {m : Mem}
theorem wipe_back {σ : L2.St} {ρ : List Sl} {vs : List Nat} {i : Nat} {p : Addr} (h : Owns (L2.wipe σ vs) (wipeD ρ vs) i p) : Owns σ ρ i p := by
  obtain ⟨⟨o, h1⟩, h2⟩ := h
  obtain ⟨e1, n⟩ := wipeD_some (by intro z; cases z) h1
  rw [wipe_get n] at h2
  exact ⟨⟨o, e1⟩, h2⟩
theorem hid_grow {F H F' H' : Hp} {p : Addr} {ho : HO} (g : Grow F H F' H') (h : H p = some ho) (n : F p = none) : H' p = some ho ∧ F' p = none := by
  refine ⟨g.hH _ _ h, ?_⟩
  cases q : F' p with
  | none => rfl
  | some u =>
    rcases g.fresh p u q with z | z
    · rw [n] at z; cases z
    · rw [z] at h; cases h
/-- [e for target in source for target1 in source1] -/
def dLc2 {m : Mem} (src : DTI m) (g : DG) (src1 : DTI m) (g1 : DG) (te : DT m) (vs vs1 : List Nat) : DT m := fun ρ s Q => src ρ s fun ds ρ1 s1 => ∃ I : List D → List D → m.S → Prop, I [] [] s1 ∧
  (∀ pre x post acc s, ds = pre ++ x :: post → I pre acc s → g x (wipeD ρ1 vs) fun ρ2 => src1 ρ2 s fun es ρ3 s3 => ρ3 = ρ2 ∧ ∃ J : List D → List D → m.S → Prop, J [] acc s3 ∧
    (∀ pre1 y post1 acc1 s, es = pre1 ++ y :: post1 → J pre1 acc1 s → acc1.length < sizeLine ∧ g1 y (wipeD ρ2 vs1) fun ρ4 => te ρ4 s fun z ρ5 s5 => ρ5 = ρ4 ∧ J (pre1 ++ [y]) (acc1 ++ [z]) s5) ∧
    (∀ acc1 s, J es acc1 s → I (pre ++ [x]) acc1 s)) ∧
  (∀ acc s, I ds acc s → Q (.lst acc) ρ1 s)
theorem up_lc2 {K : PySem.W.Frag} {src src1 : DTI m} {g g1 : DG} {te : DT m} {vs vs1 ts ts1 : List Nat} (hts : ∀ j ∈ ts, j ∈ vs) (hts1 : ∀ j ∈ ts1, j ∈ vs1) {σ : L2.St} {H : Hp} {Q : VK} {Qd : DK m} {F : Hp} {ρ : List Sl} {s : m.S} (r : Rel K m F H σ ρ s) (ht : dLc2 src g src1 g1 te vs vs1 ρ s Qd)
    (hQ : ∀ ds ρ' s' p ws F' H', Qd (.lst ds) ρ' s' → Rel K m F' H' σ ρ' s' → Stp m F H σ ρ s F' H' ρ' s' → H' p = some (.lst ws) → F' p = none → ¬ m.R s' p → (∀ i, ¬ Owns σ ρ' i p) → H p = none → ws.length ≤ sizeLine → Reps K F' ds ws → Q (.ref p) H') :
    tLc2 (upI K m src) (upG K m ts g) tYes (upI K m src1) (upG K m ts1 g1) tYes (up K m te) vs vs1 σ H Q := by
  refine ⟨F, ρ, s, _, r, ht, fun ds ρ1 s1 J F1 H1 ⟨I, i0, turn, done⟩ r1 st1 w D nD => ?_⟩
  have nF : F1 D = none := r1.sub.free nD
  have nR : ¬ m.R s1 D := fun z => m.there s1 H1 D r1.mem z nD
  have nO : ∀ i, ¬ Owns σ ρ1 i D := fun i ⟨⟨o, e⟩, hσ⟩ => by
    obtain ⟨p, ho, h1, h2, _⟩ := r1.own_at e
    rw [hσ] at h1; cases h1
    rw [nD] at h2; cases h2
  have nD0 : H D = none := by
    cases q : H D with
    | none => rfl
    | some u => exact absurd nD (st1.alive D (by rw [q]; simp))
  have r0 : Rel K m F1 (upd H1 D (.lst [])) σ ρ1 s1 := r1.hidW nF nR nO
  have st0 : Stp m F H σ ρ s F1 (upd H1 D (.lst [])) ρ1 s1 := st1.hidW nD0
  refine ⟨fun i n H2 => n = ds.length - i ∧ i ≤ ds.length ∧ ∃ F2 s2 acc ws, Rel K m F2 H2 σ ρ1 s2 ∧ Stp m F H σ ρ s F2 H2 ρ1 s2 ∧ Same F1 F2 ∧ H2 D = some (.lst ws) ∧ F2 D = none ∧ ¬ m.R s2 D ∧ Reps K F2 acc ws ∧ ws.length ≤ sizeLine ∧ I (ds.take i) acc s2,
    ⟨ds.length, by simp, Nat.zero_le _, F1, s1, [], [], r0, st0, Same.refl _, upd_same, nF, nR, .nil, Nat.zero_le _, by simpa using i0⟩, ?_⟩
  rintro i n H2 ⟨rfl, hi, F2, s2, acc, ws, r2, st2, sm, hD, nF2, nR2, rs, hacc, hI⟩
  obtain ⟨hstop, hgo⟩ := w F2 H2 sm r2.sub
  by_cases hlt : i < ds.length
  · obtain ⟨h1, h2⟩ := hgo i _ (List.getElem?_eq_getElem hlt)
    have hsplit : ds = ds.take i ++ ds[i] :: ds.drop (i + 1) := by
      rw [List.getElem_cons_drop, List.take_append_drop]
    have etake : ds.take (i + 1) = ds.take i ++ [ds[i]] := List.take_succ_eq_append_getElem hlt
    refine .inr ⟨h1, fun H' => ∃ F' s' acc' ws', Rel K m F' H' σ ρ1 s' ∧ Stp m F H σ ρ s F' H' ρ1 s' ∧ Same F1 F' ∧ H' D = some (.lst ws') ∧ F' D = none ∧ ¬ m.R s' D ∧ Reps K F' acc' ws' ∧ ws'.length ≤ sizeLine ∧ I (ds.take (i + 1)) acc' s',
      fun H' ⟨F', s', acc', ws', q⟩ => ⟨ds.length - (i + 1), by omega, rfl, hlt, F', s', acc', ws', q⟩, fun x H3 y => ?_⟩
    obtain ⟨F3, g3, rv⟩ := h2 x H3 y
    have r3 := r2.grow g3
    obtain ⟨hD3, nF3⟩ := hid_grow g3 hD nF2
    have st3 := st2.trans (g3.stp (m := m) (s := s2) (ρ := ρ1) (σ := σ))
    refine ⟨F3, wipeD ρ1 vs, s2, ds[i], _, r3.wipe vs, rv, turn _ _ _ acc _ hsplit hI, fun σ2 ρ2 q2 r4 o4 k4 => ⟨(wipe_eq k4.1 k4.2 hts).trans wipe_wipe, ?_⟩⟩
    have nO2 : ∀ i, ¬ Owns σ2 ρ2 i D := fun i z => nO i (wipe_back (o4 i D z))
    unfold tYes
    dsimp only
    rw [if_pos (show true = true from rfl)]
    refine ⟨F3, ρ2, s2, _, r4, q2, fun es ρ3 s3 J1 F4 H4 ⟨e3, Jv, j0, turn1, done1⟩ r5 st5 w1 => ?_⟩
    subst e3
    obtain ⟨hD4, nF4, nR4⟩ := st5.hid r5 hD3 nF3 nR2
    have r6 := r3.carry st5 r5
    have st6 := st3.trans (st5.outer (σ := σ) (ρ := ρ1) r5)
    have sm4 : Same F1 F4 := (sm.trans g3.fF).trans st5.ext
    refine ⟨fun j k H5 => k = es.length - j ∧ j ≤ es.length ∧ ∃ F5 s5 acc' ws', Rel K m F5 H5 σ2 ρ3 s5 ∧ Rel K m F5 H5 σ ρ1 s5 ∧ Stp m F H σ ρ s F5 H5 ρ1 s5 ∧ Same F1 F5 ∧ Same F4 F5 ∧ H5 D = some (.lst ws') ∧ F5 D = none ∧ ¬ m.R s5 D ∧ Reps K F5 acc' ws' ∧ ws'.length ≤ sizeLine ∧ Jv (es.take j) acc' s5,
      ⟨es.length, by simp, Nat.zero_le _, F4, s3, acc, ws, r5, r6, st6, sm4, Same.refl _, hD4, nF4, nR4, Reps.mono (g3.fF.trans st5.ext) _ _ rs, hacc, by simpa using j0⟩, ?_⟩
    rintro j k H5 ⟨rfl, hj, F5, s5, acc', ws', ra, rb, st7, sm5, sm45, hD5, nF5, nR5, rs5, hacc5, hJ⟩
    obtain ⟨hstop1, hgo1⟩ := w1 F5 H5 sm45 ra.sub
    by_cases hlt1 : j < es.length
    · obtain ⟨k1, k2⟩ := hgo1 j _ (List.getElem?_eq_getElem hlt1)
      have hsplit1 : es = es.take j ++ es[j] :: es.drop (j + 1) := by
        rw [List.getElem_cons_drop, List.take_append_drop]
      have etake1 : es.take (j + 1) = es.take j ++ [es[j]] := List.take_succ_eq_append_getElem hlt1
      refine .inr ⟨k1, fun H5 => ∃ F5 s5 acc' ws', Rel K m F5 H5 σ2 ρ3 s5 ∧ Rel K m F5 H5 σ ρ1 s5 ∧ Stp m F H σ ρ s F5 H5 ρ1 s5 ∧ Same F1 F5 ∧ Same F4 F5 ∧ H5 D = some (.lst ws') ∧ F5 D = none ∧ ¬ m.R s5 D ∧ Reps K F5 acc' ws' ∧ ws'.length ≤ sizeLine ∧ Jv (es.take (j + 1)) acc' s5,
        fun H' ⟨F', s', acc', ws', q⟩ => ⟨es.length - (j + 1), by omega, rfl, hlt1, F', s', acc', ws', q⟩, fun x1 H6 y1 => ?_⟩
      obtain ⟨F6, g6, rv1⟩ := k2 x1 H6 y1
      obtain ⟨hD6, nF6⟩ := hid_grow g6 hD5 nF5
      have ra6 := ra.grow g6
      have rb6 := rb.grow g6
      have st8 := st7.trans (g6.stp (m := m) (s := s5) (ρ := ρ1) (σ := σ))
      obtain ⟨t1, t2⟩ := turn1 _ _ _ acc' _ hsplit1 hJ
      refine ⟨F6, wipeD ρ3 vs1, s5, es[j], _, ra6.wipe vs1, rv1, t2, fun σ3 ρ4 q3 r7 o7 k7 => ⟨(wipe_eq k7.1 k7.2 hts1).trans wipe_wipe, ?_⟩⟩
      dsimp only
      rw [if_pos (show true = true from rfl)]
      refine ⟨F6, ρ4, s5, _, r7, q3, fun z ρ5 s6 v F7 H7 ⟨e5, q4⟩ r8 st9 rvz => ?_⟩
      subst e5
      obtain ⟨hD7, nF7, nR7⟩ := st9.hid r8 hD6 nF6 nR5
      have ra7 := ra6.carry st9 r8
      have rb7 := rb6.carry st9 r8
      have st10 := st8.trans (st9.outer (σ := σ) (ρ := ρ1) r8)
      have hlw := rs5.length
      refine ⟨ws', hD7, by omega, F7, s6, acc' ++ [z], ws' ++ [v], ra7.hidW nF7 nR7 nO2, rb7.hidW nF7 nR7 nO, st10.hidW nD0, (sm5.trans g6.fF).trans st9.ext, (sm45.trans g6.fF).trans st9.ext, upd_same, nF7, nR7, (Reps.mono (g6.fF.trans st9.ext) _ _ rs5).append (.one rvz), by rw [List.length_append]; simp; omega, by rw [etake1]; exact q4⟩
    · have e : j = es.length := by omega
      subst e
      rw [List.take_length] at hJ
      exact .inl ⟨hstop1 _ (Nat.le_refl _), F5, s5, acc', ws', rb, st7, sm5, hD5, nF5, nR5, rs5, hacc5, by rw [etake]; exact done1 acc' s5 hJ⟩
  · have e : i = ds.length := by omega
    subst e
    rw [List.take_length] at hI
    exact .inl ⟨hstop _ (Nat.le_refl _), hQ acc ρ1 s2 D ws F2 H2 (done acc s2 hI) r2 st2 hD nF2 nR2 nO nD0 hacc rs⟩
theorem de_lc2 {elt tg iter tg1 iter1 : Expr} {scope : Scope} {own : List (Str × Nat)} {vs1 : List Nat} {pos : Pos} {src src1 : DTI m} {g g1 : DG} {ts ts1 : List Nat} {te : DT m} (hN : X.N.Nodup) (hi : PI X tg iter (upI X.K m src)) (ok : BlkOk X.N X.env.scope scope own)
    (hg : ∀ (s : Shared) (H : Hp) (C : Addr) (cl : List (Str × Addr)) (fp : List Addr), PG (X.blk s H scope (compEnvC scope cl C X.env) fp) tg (upG X.K m ts g))
    (hi1 : ∀ (s : Shared) (H : Hp) (C : Addr) (cl : List (Str × Addr)) (fp : List Addr), PI (X.blk s H scope (compEnvC scope cl C X.env) fp) tg1 iter1 (upI X.K m src1))
    (hg1 : ∀ (s : Shared) (H : Hp) (C : Addr) (cl : List (Str × Addr)) (fp : List Addr), PG (X.blk s H scope (compEnvC scope cl C X.env) fp) tg1 (upG X.K m ts1 g1))
    (he : ∀ (s : Shared) (H : Hp) (C : Addr) (cl : List (Str × Addr)) (fp : List Addr), PE (X.blk s H scope (compEnvC scope cl C X.env) fp) elt (up X.K m te)) (hts : ∀ j ∈ ts, j ∈ own.map (·.2) := by decide) (hts1 : ∀ j ∈ ts1, j ∈ vs1 := by decide) (hv : ∀ i ∈ vs1, i ∈ own.map (·.2) := by decide) (hc : X.calm = true := by rfl)
    (hs : ∀ x, foldedSetIterable iter X.env x = pure x := by intro _; rfl) (hs1 : ∀ env x, foldedSetIterable iter1 env x = pure x := by intro _ _; rfl) :
    PE X (.ListComp elt [⟨tg, iter, [], 0⟩, ⟨tg1, iter1, [], 0⟩] scope pos) (up X.K m (dLc2 src g src1 g1 te (own.map (·.2)) vs1)) := PE.imp (pe_lc2 hc hN hi ok hv hg (fun _ _ _ _ _ => pts_nil) hi1 hg1 (fun _ _ _ _ _ => pts_nil) he hs hs1) fun σ H Q h => by
  obtain ⟨F, ρ, s, Qd, r, h, hQ⟩ := h
  refine up_lc2 hts hts1 r h fun ds ρ' s' p ws F' H' q r' st hp nF nR nO nH hz rs => ?_
  have sm : Same F' (upd F' p (.lst ws)) := same_upd nF
  refine hQ _ ρ' s' _ (upd F' p (.lst ws)) H' q (r'.adopt hp nF nR nO) ⟨st.ext.trans sm, st.keep, st.alive, fun a o e => ?_, st.regf, st.shr⟩ ⟨p, ws, rfl, upd_same, hz, Reps.mono sm _ _ rs⟩
  by_cases ha : a = p
  · subst ha; exact .inr (.inl nH)
  · rw [upd_ne ha] at e; exact st.fresh a o e
end
end DL

set_option Elab.async false
set_option linter.all false
set_option maxRecDepth 100000
/-! DL13: the program's written dicts: texts to tuples -/
namespace DL
open PySem PySem.Spec PyProof.Rows L2 TL
/-- at p: a written dict of the module; t: what stands in it -/
structure KTab (K : PySem.W.Frag) (w : World) (p : Addr) (t : List (Str × D)) : Prop where
  at_ : ∃ (es : Array DictEntry) (n : Nat), K.lookup p = some ⟨.type "dict", none, .dict es n, #[]⟩ ∧ PySem.W.KeysLit w.params es.toList
  low : (p == sysModules) = false
  get : ∀ z, (∀ d, t.lookup z = some d → ∃ u v, PySem.W.nsIn K p z = some (some u) ∧ RelV v u ∧ ∀ F, Rep K F d v) ∧ (t.lookup z = none → PySem.W.nsIn K p z = some none)
section
variable {X : Cx} {K : PySem.W.Frag} {w : World} {p : Addr} {t : List (Str × D)}
def rKin (K : PySem.W.Frag) (p : Addr) (neg : Bool) : R2 := fun x y H Q => ∃ (z : Str) (r : Option Value), x = .str z ∧ y = .ref p ∧ PySem.W.nsIn K p z = some r ∧ Q (.bl (neg ^^ r.isSome)) H
theorem KTab.kd (T : KTab K w p t) : ∃ es n, KDict K w p es n := by
  obtain ⟨es, n, h1, h2⟩ := T.at_
  exact ⟨es, n, h1, h2, T.low⟩
theorem op_notKin (T : KTab X.K X.w p t) : OpR X (compareOp .NotIn) (rKin X.K p true) := by
  obtain ⟨es, n, D⟩ := T.kd
  intro pins s σ H x y v u Q I rx ry h
  obtain ⟨z, r, h1, h2, h3, h4⟩ := h
  rw [Bool.true_xor] at h4
  exact op_notIn_kd D pins s σ H x y v u Q I rx ry ⟨z, r, h1, h2, h3, h4⟩
def kinD (p : Addr) (t : List (Str × D)) (neg : Bool) : D → D → (Bool → Prop) → Prop := fun x y Q => ∃ z, x = .str z ∧ y = .any (.ref p) ∧ Q (neg ^^ (t.lookup z).isSome)
theorem o_kin {neg : Bool} (T : KTab K w p t) : Cm2 K (rKin K p neg) (kinD p t neg) := by
  intro F H dx dy x y Qd Q sub rx ry h hQ
  obtain ⟨z, rfl, rfl, q⟩ := h
  obtain ⟨rfl, _⟩ := rx
  cases ry
  obtain ⟨g1, g2⟩ := T.get z
  cases e : t.lookup z with
  | none =>
    rw [e] at q
    exact ⟨z, none, rfl, rfl, g2 e, hQ _ F H q (Grow.refl sub)⟩
  | some d =>
    rw [e] at q
    obtain ⟨u, v, h1, _, _⟩ := g1 d e
    exact ⟨z, some u, rfl, rfl, h1, hQ _ F H q (Grow.refl sub)⟩
def kixD (p : Addr) (t : List (Str × D)) : D → D → (D → Prop) → Prop := fun x y Q => ∃ z d, x = .any (.ref p) ∧ y = .str z ∧ t.lookup z = some d ∧ Q d
theorem o_kix (T : KTab K w p t) : Op2 K (rIxD K w) (kixD p t) := by
  intro F H dx dy x y Qd Q sub rx ry h hQ
  obtain ⟨z, d, rfl, rfl, e, q⟩ := h
  cases rx
  obtain ⟨rfl, _⟩ := ry
  obtain ⟨es, n, h1, h2⟩ := T.at_
  obtain ⟨u, v, k1, k2, k3⟩ := (T.get z).1 d e
  exact ⟨p, z, v, rfl, rfl, ⟨es, n, u, h1, h2, k1, k2⟩, hQ d v F H q (Grow.refl sub) (k3 F)⟩
end
/-! ### from the object to its table -/
def chkV : Value → D → Bool
  | .str x _, .str y => decide (x = y) && sOk x
  | .int i _, .int j => decide (i = j)
  | _, _ => false
def chkVs : List Value → List D → Bool
  | [], [] => true
  | v :: vs, d :: ds => chkV v d && chkVs vs ds
  | _, _ => false
def chkE (K : PySem.W.Frag) : Value → D → Bool
  | .ref q, .tup ds => (match K.lookup q with
    | some ⟨.type c, _, .seq its _, _⟩ => decide (c = "tuple") && (decide (its.size ≤ 1000) && chkVs its.toList ds)
    | _ => false)
  | _, _ => false
def chk (K : PySem.W.Frag) : List DictEntry → List (Str × D) → Bool
  | [], [] => true
  | e :: r, (k, d) :: t => (match e.key with | .str x _ => decide (x = k) | _ => false) && (chkE K e.val d && chk K r t)
  | _, _ => false
theorem chkV_ok {K : PySem.W.Frag} {v : Value} {d : D} (h : chkV v d = true) : ∃ x, RelV x v ∧ ∀ F, Rep K F d x := by
  unfold chkV at h
  split at h
  · rw [Bool.and_eq_true] at h
    obtain ⟨h1, h2⟩ := h
    have h1 := of_decide_eq_true h1
    subst h1
    exact ⟨.str _, ⟨_, rfl⟩, fun F => ⟨rfl, h2⟩⟩
  · have h := of_decide_eq_true h
    subst h
    exact ⟨.int _, ⟨_, rfl⟩, fun F => rfl⟩
  · cases h
theorem chkVs_ok {K : PySem.W.Frag} : ∀ {vs : List Value} {ds : List D}, chkVs vs ds = true → ∃ xs, Vals xs vs ∧ ∀ F, Reps K F ds xs
  | [], [], _ => ⟨[], .nil, fun _ => .nil⟩
  | v :: vs, d :: ds, h => by
    have h : (chkV v d && chkVs vs ds) = true := h
    rw [Bool.and_eq_true] at h
    obtain ⟨x, r1, r2⟩ := chkV_ok (K := K) h.1
    obtain ⟨xs, q1, q2⟩ := chkVs_ok (K := K) h.2
    exact ⟨x :: xs, .cons r1 q1, fun F => .cons (r2 F) (q2 F)⟩
  | [], _ :: _, h => nomatch h
  | _ :: _, [], h => nomatch h
theorem chkE_ok {K : PySem.W.Frag} {v : Value} {d : D} (h : chkE K v d = true) : ∃ x, RelV x v ∧ ∀ F, Rep K F d x := by
  unfold chkE at h
  split at h
  · rename_i q ds
    split at h
    · rename_i c dct its n sl e
      rw [Bool.and_eq_true, Bool.and_eq_true] at h
      obtain ⟨h1, h2, h3⟩ := h
      have h1 := of_decide_eq_true h1
      have h2 := of_decide_eq_true h2
      subst h1
      have z : 1000 ≤ sizeLine := by decide
      obtain ⟨xs, r1, r2⟩ := chkVs_ok (K := K) h3
      have hl : xs.length = its.size := by
        have := r1.length
        rw [this, Array.length_toList]
      exact ⟨.ref q, rfl, fun F => ⟨q, xs, rfl, .inr ⟨_, its, n, e, rfl, rfl, by omega, r1⟩, by omega, r2 F⟩⟩
    · cases h
  · cases h
theorem isStr_key {x z : Str} {tk : Tok} : (Value.str x tk).isStr z = decide (x = z) := by
  by_cases h : x = z
  · subst h
    rw [decide_eq_true rfl]
    exact beq_self_eq_true x
  · rw [decide_eq_false h]
    exact beq_eq_false_iff_ne.mpr h
theorem chk_get {K : PySem.W.Frag} : ∀ {es : List DictEntry} {t : List (Str × D)}, chk K es t = true → ∀ z,
    (∀ d, t.lookup z = some d → ∃ e u v, es.find? (·.key.isStr z) = some e ∧ e.val = u ∧ RelV v u ∧ ∀ F, Rep K F d v) ∧ (t.lookup z = none → es.find? (·.key.isStr z) = none) ∧ es.any (·.refKey) = false
  | [], [], _, z => ⟨fun d h => (nomatch h), fun _ => rfl, rfl⟩
  | e :: r, (k, d) :: t, h, z => by
    have h : ((match e.key with | .str x _ => decide (x = k) | _ => false) && (chkE K e.val d && chk K r t)) = true := h
    rw [Bool.and_eq_true, Bool.and_eq_true] at h
    obtain ⟨h1, h2, h3⟩ := h
    obtain ⟨i1, i2, i3⟩ := chk_get h3 z
    obtain ⟨x, r1, r2⟩ := chkE_ok h2
    split at h1
    · rename_i y tk ek
      have h1 := of_decide_eq_true h1
      subst h1
      have er : e.refKey = false := by
        unfold DictEntry.refKey
        rw [ek]
      rw [List.lookup_cons, List.find?_cons, ek, isStr_key, List.any_cons, er, i3]
      by_cases c : y = z
      · subst c
        rw [decide_eq_true rfl, beq_self_eq_true]
        refine ⟨fun d' e' => ?_, (fun e' => (nomatch e')), rfl⟩
        cases e'
        exact ⟨e, _, x, rfl, rfl, r1, r2⟩
      · rw [decide_eq_false c, beq_eq_false_iff_ne.mpr (fun q => c q.symm)]
        exact ⟨i1, i2, rfl⟩
    · cases h1
  | [], _ :: _, h, _ => nomatch h
  | _ :: _, [], h, _ => nomatch h
theorem ktab_of {K : PySem.W.Frag} {w : World} {p : Addr} {t : List (Str × D)} {es : Array DictEntry} {n : Nat} (hl : K.lookup p = some ⟨.type "dict", none, .dict es n, #[]⟩) (kl : PySem.W.KeysLit w.params es.toList) (low : (p == sysModules) = false) (hc : chk K es.toList t = true) : KTab K w p t where
  at_ := ⟨es, n, hl, kl⟩
  low := low
  get := fun z => by
    obtain ⟨h1, h2, h3⟩ := chk_get hc z
    have en : PySem.W.nsIn K p z = (match es.toList.find? (·.key.isStr z) with
      | some e => some (some e.val)
      | none => if es.toList.any (·.refKey) then none else some none) := by
      unfold PySem.W.nsIn
      rw [hl]
      rfl
    rw [en]
    refine ⟨fun d e => ?_, fun e => ?_⟩
    · obtain ⟨en, u, v, f, ev, r1, r2⟩ := h1 d e
      rw [f]
      exact ⟨u, v, congrArg (fun x => some (some x)) ev, r1, r2⟩
    · rw [h2 e, h3]
      rfl
end DL

set_option Elab.async false
set_option linter.all false
set_option maxRecDepth 100000
/-! DL14: any data in a tuple of texts -/
namespace DL
open PySem PySem.Spec PyProof.Rows L2 TL
theorem str_eq_declines_dict (b : Str) (u : Tok) (l : Addr) (es : Array DictEntry) (ep : Nat) (dd : Option Addr) (sl : Array (Option Value)) :
    Meets (Builtin.«str.__eq__» ⟨[.str b u, .ref l], []⟩) (fun _ R s => s.heap.get? l = some { cls := .type "dict", dict := dd, data := .dict es ep, slots := sl } ∧ R (.ok (.ret .notImplemented)) s) :=
  .of_wp fun prog w A R s h => by obtain ⟨hp, g, d, tk, os⟩ := s; obtain ⟨hl, h⟩ := h; have f1 := PySem.F.sub_dict_str; wp_walk using wpAny_loadPart' hl, wpAny_load hl; exact ⟨_, rfl, h⟩
theorem dict_eq_declines_str (l : Addr) (es : Array DictEntry) (ep : Nat) (dd : Option Addr) (sl : Array (Option Value)) (b : Str) (u : Tok) :
    Meets (Builtin.«dict.__eq__» ⟨[.ref l, .str b u], []⟩) (fun _ R s => s.heap.get? l = some { cls := .type "dict", dict := dd, data := .dict es ep, slots := sl } ∧ R (.ok (.ret .notImplemented)) s) :=
  .of_wp fun prog w A R s h => by obtain ⟨hp, g, d, tk, os⟩ := s; obtain ⟨hl, h⟩ := h; have f1 := PySem.F.sub_str_dict; wp_walk using wpAny_loadPart' hl, wpAny_load hl; exact ⟨_, rfl, h⟩
section
variable {A : Around} {s : Shared}
theorem rc_str_dict {l : Addr} {es : Array DictEntry} {ep : Nat} {dd : Option Addr} {sl : Array (Option Value)} (b : Str) (u : Tok) (ho : s.heap.get? l = some { cls := .type "dict", dict := dd, data := .dict es ep, slots := sl }) (hu : A.units < cLine) : SeqAt.RcAt A s (.str b u) (.ref l) false := fun prog w E Q h =>
  SeqAt.rc_eq_decline_or (k := false) (typeIs_str s b u) ⟨_, ho, rfl⟩ (by decide) PySem.F.sub_dict_str PySem.F.slot_str_eq PySem.F.slot_dict_eq_refl
    (fun _ hq => call_meets PySem.F.slot_str_eq (typeIs_str s b u) PySem.F.entry_str_eq (PySem.F.args_str_eq_2 _ _) (str_eq_declines_dict b u l es ep dd sl) ⟨ho, hq⟩)
    (fun _ hq => call_meets PySem.F.slot_dict_eq_refl ⟨_, ho, rfl⟩ PySem.F.entry_dict_eq (PySem.F.args_dict_eq_2 _ _) (dict_eq_declines_str l es ep dd sl b u) ⟨ho, hq⟩)
    (fun _ hq => wpAny_of_eq (rfl : isSame (.str b u) (.ref l) = pure false) hq) (.inr hu) h
theorem eq_str_dict {l : Addr} {es : Array DictEntry} {ep : Nat} {dd : Option Addr} {sl : Array (Option Value)} (b : Str) (u : Tok) (ho : s.heap.get? l = some { cls := .type "dict", dict := dd, data := .dict es ep, slots := sl }) (hu : A.units < cLine) : SeqAt.EqAt A s (.str b u) (.ref l) false := fun prog w E Q h => by
  unfold eqBool
  refine wpAny_holding ?_
  refine wpAny_ite_split (fun hab => absurd (eq_of_beq hab) nofun) (fun _ => ?_)
  exact wpAny_bind (rc_str_dict b u ho hu prog w E _ (wpAny_truthy_bool h))
end
/-- is the data one of the texts -/
def inTx : D → List Str → Bool
  | .str z, ys => ys.any fun y => decide (y = z)
  | _, _ => false
def eTx (d : D) : Value → Bool
  | .str a _ => (match d with | .str z => decide (a = z) | _ => false)
  | _ => false
theorem eTx_any {d : D} : ∀ {ys : List Str} {its : List Value}, Vals (ys.map V.str) its → its.any (eTx d) = inTx d ys
  | [], _, r => by
    cases r
    cases d <;> rfl
  | y :: ys, _, r => by
    rw [List.map_cons] at r
    cases r with
    | cons h t =>
      obtain ⟨tk, rfl⟩ := h
      rw [List.any_cons, eTx_any t]
      cases d <;> first | rfl | (show (false || _) = _; rw [Bool.false_or]; rfl)
section
variable {X : Cx}
def rInTx (K : PySem.W.Frag) : R2 := fun x y H Q => ∃ F dx p ys, Same F H ∧ Rep K F dx x ∧ (tyT dx).isSome = true ∧ y = .ref p ∧ SqT K H p (ys.map V.str) ∧ Q (.bl (inTx dx ys)) H
theorem eTx_at {pins : List (Addr × Obj)} {σ : L2.St} {F H : Hp} {s : Shared} {dx : D} {x : V} {v : Value} (hu : X.A.units + 1 < cLine) (I : Inv X pins σ H s) (sub : Same F H) (rx : Rep X.K F dx x) (rv : RelV x v) (ht : (tyT dx).isSome = true) (a : Str) (tk : Tok) :
    SeqAt.EqAt X.A.in1 s (.str a tk) v (eTx dx (.str a tk)) := by
  have hu1 : X.A.in1.units < cLine := hu
  cases dx with
  | non => cases rx; cases rv; exact SeqAt.EqAt.str_none a tk
  | bl b => cases rx; cases rv; exact SeqAt.EqAt.str_bool a tk b
  | int i => cases rx; obtain ⟨t, rfl⟩ := rv; exact SeqAt.EqAt.str_int a tk i t
  | str z =>
    obtain ⟨rfl, _⟩ := rx
    obtain ⟨t, rfl⟩ := rv
    have := SeqAt.EqAt.str_str (A := X.A.in1) (s := s) a tk z t
    have e : (a == z) = decide (a = z) := by
      by_cases h : a = z
      · rw [h, decide_eq_true rfl]; exact beq_self_eq_true z
      · rw [decide_eq_false h]; exact beq_eq_false_iff_ne.mpr h
    rw [e] at this
    exact this
  | lst ds =>
    obtain ⟨l, vs, rfl, hl, _, _⟩ := rx
    cases rv
    obtain ⟨its, _, p, _⟩ := I.list (.inl (.inl (sub _ _ hl)))
    exact SeqAt.EqAt.str_list a tk p.isList hu1
  | tup ds =>
    obtain ⟨l, vs, rfl, hl, _, _⟩ := rx
    cases rv
    obtain ⟨its, _, ⟨o, h1, h2, h3⟩, _⟩ := I.tuple (Same.seqT sub hl)
    exact SeqAt.EqAt.str_tuple a tk ⟨o, h1, h2, h3⟩ hu1
  | dic ks ds =>
    obtain ⟨l, kvs, rfl, hl, _, _, _⟩ := rx
    cases rv
    obtain ⟨_, _, vs0, _, ⟨o, es, ep, h1, h2, h3, _⟩⟩ := dk_of I.hok (sub _ _ hl)
    obtain ⟨cls, dd, data, sl⟩ := o
    have hc : cls = Value.type "dict" := h2.1
    have hd : data = .dict es ep := h3
    subst hc hd
    exact eq_str_dict a tk h1 hu1
  | _ => cases ht
theorem op_inTx (hu : X.A.units + 1 < cLine) : OpR X (compareOp .In) (rInTx X.K) := by
  intro pins s σ H x y v u Q I rx ry h
  obtain ⟨F, dx, p, ys, sub, rd, ht, rfl, hT, q⟩ := h
  cases ry
  obtain ⟨its, rvs, ⟨o, h1, h2, n, h3⟩, _⟩ := I.tuple hT
  refine SeqAt.in_tupleAt (eTx dx) ⟨o, h1, h2, n, h3⟩ (fun z hz => ?_) ?_
  · obtain ⟨y, a, e1, e2, r⟩ : ∃ (y : Str) (a : Tok), z = .str y a ∧ True ∧ True := by
      have hz' : z ∈ its := by simpa using hz
      obtain ⟨i, hi⟩ := List.getElem?_of_mem hz'
      have hl := rvs.length
      have hi' : i < ys.length := by
        have := (List.getElem?_eq_some_iff.mp hi).1
        rw [List.length_map] at hl
        omega
      obtain ⟨w, g1, g2⟩ := rvs.get (i := i) (x := .str ys[i]) (by rw [List.getElem?_map, List.getElem?_eq_getElem hi']; rfl)
      rw [hi] at g1
      cases g1
      obtain ⟨t, rfl⟩ := g2
      exact ⟨_, t, rfl, True.intro, True.intro⟩
    subst e1
    exact eTx_at hu I sub rd rx ht y a
  · have e : its.toArray.any (eTx dx) = inTx dx ys := by
      rw [← eTx_any rvs]
      simp
    rw [e]
    exact ⟨.bl _, H, I, rfl, q⟩
def inTxD : D → D → (Bool → Prop) → Prop := fun x y Q => ∃ ys : List Str, (tyT x).isSome = true ∧ y = .tup (ys.map .str) ∧ Q (inTx x ys)
theorem o_inTx {K : PySem.W.Frag} : Cm2 K (rInTx K) inTxD := by
  intro F H dx dy x y Qd Q sub rx ry h hQ
  obtain ⟨ys, ht, rfl, q⟩ := h
  obtain ⟨p, vs, rfl, hT, _, rs⟩ := ry
  obtain ⟨ev, _⟩ := reps_strs rs
  subst ev
  exact ⟨F, dx, p, ys, sub, rx, ht, rfl, Same.seqT sub hT, hQ _ F H q (Grow.refl sub)⟩
def rNotInTx (K : PySem.W.Frag) : R2 := fun x y H Q => ∃ F dx p ys, Same F H ∧ Rep K F dx x ∧ (tyT dx).isSome = true ∧ y = .ref p ∧ SqT K H p (ys.map V.str) ∧ Q (.bl (!inTx dx ys)) H
theorem op_notInTx (hu : X.A.units + 1 < cLine) : OpR X (compareOp .NotIn) (rNotInTx X.K) := by
  intro pins s σ H x y v u Q I rx ry h
  obtain ⟨F, dx, p, ys, sub, rd, ht, rfl, hT, q⟩ := h
  cases ry
  obtain ⟨its, rvs, ⟨o, h1, h2, n, h3⟩, _⟩ := I.tuple hT
  refine SeqAt.notIn_tupleAt (eTx dx) ⟨o, h1, h2, n, h3⟩ (fun z hz => ?_) ?_
  · obtain ⟨y, a, e1, e2, r⟩ : ∃ (y : Str) (a : Tok), z = .str y a ∧ True ∧ True := by
      have hz' : z ∈ its := by simpa using hz
      obtain ⟨i, hi⟩ := List.getElem?_of_mem hz'
      have hl := rvs.length
      have hi' : i < ys.length := by
        have := (List.getElem?_eq_some_iff.mp hi).1
        rw [List.length_map] at hl
        omega
      obtain ⟨w, g1, g2⟩ := rvs.get (i := i) (x := .str ys[i]) (by rw [List.getElem?_map, List.getElem?_eq_getElem hi']; rfl)
      rw [hi] at g1
      cases g1
      obtain ⟨t, rfl⟩ := g2
      exact ⟨_, t, rfl, True.intro, True.intro⟩
    subst e1
    exact eTx_at hu I sub rd rx ht y a
  · have e : its.toArray.any (eTx dx) = inTx dx ys := by
      rw [← eTx_any rvs]
      simp
    rw [e]
    exact ⟨.bl _, H, I, rfl, q⟩
def notInTxD : D → D → (Bool → Prop) → Prop := fun x y Q => ∃ ys : List Str, (tyT x).isSome = true ∧ y = .tup (ys.map .str) ∧ Q (!inTx x ys)
theorem o_notInTx {K : PySem.W.Frag} : Cm2 K (rNotInTx K) notInTxD := by
  intro F H dx dy x y Qd Q sub rx ry h hQ
  obtain ⟨ys, ht, rfl, q⟩ := h
  obtain ⟨p, vs, rfl, hT, _, rs⟩ := ry
  obtain ⟨ev, _⟩ := reps_strs rs
  subst ev
  exact ⟨F, dx, p, ys, sub, rx, ht, rfl, Same.seqT sub hT, hQ _ F H q (Grow.refl sub)⟩
end
end DL

set_option Elab.async false
set_option linter.all false
set_option maxRecDepth 100000
/-! DL15: enumerate over a tuple -/
namespace DL
open PySem PySem.Spec PyProof.Rows L2 TL
open AutoSeq1 (wpAny_loadPart')
theorem meets_enumerate_newT (l : Addr) (items : Array Value) (n : Nat) (dct : Option Addr) (sl : Array (Option Value)) :
    Meets (Builtin.«enumerate.__new__» ⟨[.type "enumerate", .ref l], []⟩) (fun _ R s => s.heap.get? l = some { cls := .type "tuple", dict := dct, data := .seq items n, slots := sl } ∧
      R (.ok (.ret (.ref (s.heap.push { cls := .type "tuple_iterator", data := .fields #[.ref l, .int 0 0] }).objs.size)))
        { s with heap := (s.heap.push { cls := .type "tuple_iterator", data := .fields #[.ref l, .int 0 0] }).push { cls := .type "enumerate", data := .fields #[.none, .bool false, .ref s.heap.objs.size, rawInt 0, .none, .none] } }) :=
  .of_wp fun prog w A R s h => by
    obtain ⟨hp, g, d, tk, os⟩ := s; obtain ⟨hl, h⟩ := h
    have hsub := sub_enumerate
    have hL : Heap.IsTuple (Shared.heap ⟨hp, g, d, tk, os⟩) l items := ⟨_, hl, rfl, n, rfl⟩
    wp_walk using wpAny_loadPart' hl
    refine wpAny_stack_any fun st => wpAny_pure ?_
    split
    · rename_i c _ _ _ _ _
      cases (c == Value.type "enumerate")
      · wp_walk using wpAny_loadPart' hl, wpAny_pyIter_tuple hL
        exact ⟨_, rfl, h⟩
      · wp_walk using wpAny_loadPart' hl, wpAny_pyIter_tuple hL
        exact ⟨_, rfl, h⟩
    · wp_walk using wpAny_loadPart' hl, wpAny_pyIter_tuple hL
      exact ⟨_, rfl, h⟩
section
variable {prog : Program} {w : World} {A : Around} {E : Value → Shared → Prop} {s : Shared}
theorem call_enumerate_tuple {l : Addr} {items : Array Value} {Q : Value → Shared → Prop} (hL : s.heap.IsTuple l items)
    (h : ∀ h', IsEnum h' (s.heap.objs.size + 1) s.heap.objs.size 0 .none → h'.IsTupleIter s.heap.objs.size l 0 → h'.objs.size = s.heap.objs.size + 2 →
      (∀ b o, s.heap.get? b = some o → h'.get? b = some o) → Q (.ref (s.heap.objs.size + 1)) { s with heap := h' }) :
    wpAny (model prog w) A (call (.type "enumerate") [.ref l]) Q E s := by
  obtain ⟨⟨c, dct, dt, sl⟩, hl, hc, n, hd⟩ := hL
  replace hc : c = .type "tuple" := hc
  replace hd : dt = .seq items n := hd
  subst hc hd
  refine callType_new F.called_enumerate (by decide) (F.typeCall_enumerate_1 _) (F.newCall_enumerate_1 _) (fun obj => F.args_object_init_2 obj _) F.entry_enumerate_new
    (meets_enumerate_newT l items n dct sl) ⟨hl, ?_⟩
  have hz : (s.heap.push { cls := .type "tuple_iterator", data := .fields #[.ref l, .int 0 0] }).objs.size = s.heap.objs.size + 1 := Heap.size_push ..
  show _ ∧ _
  rw [hz]
  have he : IsEnum ((s.heap.push { cls := .type "tuple_iterator", data := .fields #[.ref l, .int 0 0] }).push
      { cls := .type "enumerate", data := .fields #[.none, .bool false, .ref s.heap.objs.size, rawInt 0, .none, .none] }) (s.heap.objs.size + 1) s.heap.objs.size 0 .none := by
    have := Heap.get?_push_size (s.heap.push { cls := .type "tuple_iterator", data := .fields #[.ref l, .int 0 0] })
      (o := { cls := .type "enumerate", data := .fields #[.none, .bool false, .ref s.heap.objs.size, rawInt 0, .none, .none] }) rfl
    rw [hz] at this; exact this
  refine ⟨⟨_, he, rfl⟩, h _ he ⟨_, Heap.get?_push_of_some _ (Heap.get?_push_size _ rfl), rfl, rfl⟩ (by rw [Heap.size_push, hz]) fun b o x => Heap.get?_push_of_some _ (Heap.get?_push_of_some _ x)⟩
theorem next_enumT_end {e it l : Addr} {i : Nat} {items : Array Value} {old : Value} {Q : Option Value → Shared → Prop} (hh : A.handled = none)
    (he : IsEnum s.heap e it i old) (hit : s.heap.IsTupleIter it l i) (hl : s.heap.IsTuple l items) (hx : items[i]? = none)
    (hQ : ∀ h', Heap.ExtBut it s.heap h' → Q none { s with heap := h' }) : wpAny (model prog w) A (pyNext (.ref e)) Q E s := by
  have hT : s.TypeIs (.ref e) "enumerate" := ⟨_, he, rfl⟩
  unfold pyNext
  refine wpAny_bind (wpAny_attempt (wpAny_callSpecial?_slot (name := Str.ofString "__next__") hT F.slot_enumerate_next
    (wpAny_call_entry F.slot_enumerate_next hT F.entry_enumerate_next ?_ (F.args_enumerate_next_1 _))))
  show wpAny _ _ (field (.ref e) 2 >>= _) _ _ _
  refine wpAny_bind (wpAny_field he rfl (x := .ref it) rfl ?_)
  refine wpAny_bind (wpAny_nextOf_tuple_end hh hit hl hx fun h' x he' hx' => ?_)
  obtain ⟨o, ho, hc⟩ := hx'
  refine wpAny_bind (wpAny_isInstance (T := "StopIteration") (b := true) ⟨o, ho, hc⟩ isSubtype_stop ?_)
  exact wpAny_pure (hQ _ he')
end
/-- the tuple at a, each item in a new pair -/
def IteT (K : PySem.W.Frag) (a : Addr) : It :=
  ⟨fun i H => ∃ (xs : List V) (x : V), SqT K H a xs ∧ xs[i]? = some x, fun i H v H' => ∃ T x, v = .ref T ∧ H T = none ∧ H' = upd H T (.tup [.int (i : Nat), x]) ∧ ∀ xs, SqT K H a xs → xs[i]? = some x, fun i H => ∃ xs : List V, SqT K H a xs ∧ xs.length ≤ i⟩
theorem turn_enumT {P : Program} {w : World} {K : PySem.W.Frag} {elts : List Expr} {kk : Nat} {tpos : Pos} (a e it : Addr) :
    Turn P w K (.Tuple elts kk tpos) (IteT K a) [e, it] e (fun i h => (∃ old, IsEnum h e it ((i : Nat) : Int) old) ∧ h.IsTupleIter it a i ∧ e ≠ it) where
  mem := by simp
  obj := fun i h st b hb => by
    obtain ⟨⟨old, he⟩, ⟨o, ho, hc, hd⟩, _⟩ := st
    have e' : b = e ∨ b = it := by simpa using hb
    rcases e' with z | z
    · rw [z]; exact ⟨_, he, fun v q => nomatch q⟩
    · rw [z]; exact ⟨o, ho, fun v q => by rw [hd] at q; cases q⟩
  keep := fun i h h' st k => let ⟨⟨old, he⟩, hi, hne⟩ := st; ⟨⟨old, k e (by simp) _ he⟩, hi.at fun o q => k it (by simp) o q, hne⟩
  item := by
    intro X hP hw hK hc i pins s σ H E I hf st hg
    subst hP hw hK
    obtain ⟨⟨old, he⟩, hit, hne⟩ := st
    obtain ⟨xs, x, hq, hx⟩ := hg
    obtain ⟨its, rv, ⟨o, g1, g2, n, g3⟩, hz⟩ := I.tuple hq
    have p : s.heap.IsTuple a its.toArray := ⟨o, g1, g2, n, g3⟩
    obtain ⟨u, hu, ru⟩ := rv.get hx
    have hel : e < s.heap.objs.size := Heap.lt_size he
    have hil : it < s.heap.objs.size := by obtain ⟨_, q, _⟩ := hit; exact Heap.lt_size q
    have hai : a ≠ it := fun z => by
      obtain ⟨o', q1, q2, _⟩ := hit
      rw [← z, g1] at q1
      cases q1
      rw [g2] at q2
      exact absurd (Value.type.inj q2) (by decide)
    have hae : e ≠ a := fun z => by
      have he' : s.heap.get? e = some _ := he
      rw [z, g1] at he'
      have := Option.some.inj he'
      rw [this] at g2
      exact absurd (Value.type.inj g2) (by decide)
    have hlt : i < its.toArray.size := by
      have := (List.getElem?_eq_some_iff.mp hu).1
      simpa using this
    refine wpAny_pyNext_enum_itemD (Draws.tuple (A := X.A.in1) (I.ok.hd hc) it a hai its.toArray) he ⟨hit, p⟩ hlt hne (by simp [hne, hae]) fun u' h' tk hP ho hit' hT hsz hk => ?_
    have eu : u' = u := by
      have hP' : its.toArray[i]? = some u' := hP
      have : its[i]? = some u' := by simpa using hP'
      rw [hu] at this
      exact (Option.some.inj this).symm
    subst eu
    refine ⟨_, rfl, wpAny_letOwnedTupleGo_enum (s := { s with heap := h', toks := tk + 1 }) ho fun h'' he' sb => ?_⟩
    have hT2 : h''.get? s.heap.objs.size = some { cls := .type "tuple", data := .seq #[.int i tk, u'] } := (sb.2 _ (Nat.ne_of_gt hel)).trans hT
    have new : ObjOk X.prog X.w (upd H s.heap.objs.size (.tup [.int (i : Nat), x])) h'' s.heap.objs.size (.tup [.int (i : Nat), x]) :=
      ⟨by show 2 ≤ sizeLine; decide, [.int i tk, u'], .cons ⟨_, rfl⟩ (.cons ru .nil), ⟨_, hT2, rfl, _, rfl⟩⟩
    have I1 : Inv X pins σ (upd H s.heap.objs.size (.tup [.int (i : Nat), x])) { s with heap := h'', toks := tk + 1 } :=
      I.turnedNew (ch := [e, it]) (fun b ob hb q => (sb.2 b (fun z => hb (by simp [z]))).trans (hk b ob (fun z => hb (by simp [z])) (fun z => hb (by simp [z])) q)) hf (Nat.le_refl _) new
    refine ⟨.ref s.heap.objs.size, _, I1, rfl, ⟨_, x, rfl, I.hok.fresh (Nat.le_refl _), rfl, fun ys hy => by rw [I.tuple_inj hy hq]; exact hx⟩, ⟨⟨u', ?_⟩, hit'.1.at fun o q => (sb.2 it (Ne.symm hne)).trans q, hne⟩, fun b hb => ?_⟩
    · have e1 : ((i + 1 : Nat) : Int) = (i : Int) + 1 := by omega
      rw [e1]; exact he'
    · have hb' : b < s.heap.objs.size := by
        have e' : b = e ∨ b = it := by simpa using hb
        rcases e' with z | z
        · rw [z]; exact hel
        · rw [z]; exact hil
      rw [upd_ne (Nat.ne_of_lt hb')]
      exact (hf b hb).1
  done := by
    intro X hP hw hK hc i pins s σ H E I hf st hg
    subst hP hw hK
    obtain ⟨⟨old, he⟩, hit, hne⟩ := st
    obtain ⟨xs, hq, hx⟩ := hg
    obtain ⟨its, rv, ⟨o, g1, g2, n, g3⟩, hz⟩ := I.tuple hq
    obtain ⟨f0, f1, f2, f3, f4, f5⟩ := hf it (by simp)
    have hl := rv.length
    exact next_enumT_end (I.ok.hd hc) he hit ⟨o, g1, g2, n, g3⟩ (by simp; omega) fun h' eb => ⟨rfl, I.turned (t' := s.toks) (fun b o hb q => eb b o hb q) f0 f1 f3 f4 f5⟩
  self := fun A i s Q E st h => let ⟨⟨_, he⟩, _⟩ := st; wpAny_pyIter_enum he h
def iEnumT (K : PySem.W.Frag) (ta : TA) : TI := fun σ H R => ta σ H fun vs H1 => ∃ a xs, vs = [.ref a] ∧ ((SqL K H1 a xs ∧ R (Ite K a) H1) ∨ (SqT K H1 a xs ∧ R (IteT K a) H1))
theorem pi_enumA {X : Cx} {e : Expr} {ta : TA} {p pos tpos : Pos} {elts : List Expr} {kk : Nat} (hg : Gl X "enumerate") (hm : X.mg "enumerate" = none) (ha : PA X [e] ta) (hs : starEach [e] X.env = [(false, eval e X.env)] := by rfl) :
    PI X (.Tuple elts kk tpos) (.Call (.Name "enumerate" p) [e] [] pos) (iEnumT X.K ta) := by
  refine ⟨fun pins s σ H R I h => ?_⟩
  refine Call_ (ld_blt I hg hm boot_enumerate (PyProof.Rows.callWith_type1 (thn (ha.run pos pins s σ H _ I h) fun us s1 ⟨vs, H1, I1, r1, q1⟩ => ?_) hs rfl))
  obtain ⟨a, xs, ex, q⟩ := q1
  subst ex
  cases r1 with
  | cons r rr =>
    cases rr
    cases r
    rcases q with ⟨hq, q⟩ | ⟨hq, q⟩
    · obtain ⟨its, rv, p', hz⟩ := I1.list hq
      refine call_enumerate_list p'.isList fun h' he hit hsz hk => wpAny_pyIter_enum he ?_
      have I2 : Inv X pins σ H1 { s1 with heap := h' } := I1.kept (t' := s1.toks) hk
      refine ⟨s1.heap.objs.size + 1, [s1.heap.objs.size + 1, s1.heap.objs.size], _, _, H1, rfl, I2, turn_enum a (s1.heap.objs.size + 1) s1.heap.objs.size, ⟨⟨.none, he⟩, hit, Nat.succ_ne_self _⟩, fun b hb => ?_, q⟩
      have e' : b = s1.heap.objs.size + 1 ∨ b = s1.heap.objs.size := by simpa using hb
      have hle : s1.heap.objs.size ≤ b := by
        rcases e' with z | z
        · rw [z]; exact Nat.le_add_right _ _
        · rw [z]; exact Nat.le_refl _
      exact I1.fpOk hle (I1.hok.fresh hle)
    · obtain ⟨its, rv, ⟨o, g1, g2, n, g3⟩, hz⟩ := I1.tuple hq
      refine call_enumerate_tuple (items := its.toArray) ⟨o, g1, g2, n, g3⟩ fun h' he hit hsz hk => wpAny_pyIter_enum he ?_
      have I2 : Inv X pins σ H1 { s1 with heap := h' } := I1.kept (t' := s1.toks) hk
      refine ⟨s1.heap.objs.size + 1, [s1.heap.objs.size + 1, s1.heap.objs.size], _, _, H1, rfl, I2, turn_enumT a (s1.heap.objs.size + 1) s1.heap.objs.size, ⟨⟨.none, he⟩, hit, Nat.succ_ne_self _⟩, fun b hb => ?_, q⟩
      have e' : b = s1.heap.objs.size + 1 ∨ b = s1.heap.objs.size := by simpa using hb
      have hle : s1.heap.objs.size ≤ b := by
        rcases e' with z | z
        · rw [z]; exact Nat.le_add_right _ _
        · rw [z]; exact Nat.le_refl _
      exact I1.fpOk hle (I1.hok.fresh hle)
section
variable {X : Cx} {m : Mem} {pos p : Pos} {ta : DTA m}
theorem walks_enumT {K : PySem.W.Frag} {F : Hp} {a : Addr} {ds : List D} {vs : List V} (h1 : SqT K F a vs) (r1 : Reps K F ds vs) : Walks K F (IteT K a) (enumD ds) := fun F' H' s1 s2 => by
  have q1 : SqT K H' a vs := Same.seqT s2 (Same.seqT s1 h1)
  refine ⟨fun i hi => ⟨vs, q1, by rw [r1.length]; unfold enumD at hi; rw [List.length_mapIdx] at hi; exact hi⟩, fun i d e => ?_⟩
  obtain ⟨x, ex, rfl⟩ := enum_get e
  obtain ⟨v, ev, rv⟩ := r1.get ex
  refine ⟨⟨vs, v, q1, ev⟩, fun z H2 yl => ?_⟩
  obtain ⟨T, v', rfl, nT, rfl, g1⟩ := yl
  have e1 := g1 vs q1
  rw [ev] at e1
  cases e1
  have g : Grow F' H' (upd F' T (.tup [.int (i : Nat), v])) (upd H' T (.tup [.int (i : Nat), v])) := Grow.new s2 nT
  exact ⟨_, g, rep_pair upd_same rfl (Rep.mono (s1.trans g.fF) _ _ rv)⟩
def dEnumA {m : Mem} (ta : DTA m) : DTI m := fun ρ s Q => ta ρ s fun ds ρ1 s1 => ∃ d xs, ds = [d] ∧ (d = .lst xs ∨ d = .tup xs) ∧ Q (enumD xs) ρ1 s1
theorem di_enumA {a : Expr} {elts : List Expr} {kk : Nat} {tpos : Pos} (hg : Gl X "enumerate") (hm : X.mg "enumerate" = none) (ha : PA X [a] (upA X.K m ta)) (hs : starEach [a] X.env = [(false, eval a X.env)] := by rfl) :
    PI X (.Tuple elts kk tpos) (.Call (.Name "enumerate" p) [a] [] pos) (upI X.K m (dEnumA ta)) := PI.imp (pi_enumA hg hm ha hs) fun σ H R h => by
  obtain ⟨F, ρ, s, Qd, r, ht, hQ⟩ := h
  refine ⟨F, ρ, s, _, r, ht, fun ds ρ1 s1 vs F1 H1 ⟨d, xs, ed, ek, q1⟩ r1 st1 rs => ?_⟩
  subst ed
  rcases ek with rfl | rfl
  · obtain ⟨v, _, rfl, ⟨a, vs, rfl, h1, _, k1⟩, rn⟩ := rs
    cases rn
    exact ⟨a, vs, rfl, .inl ⟨.inl (.inl (r1.sub _ _ h1)), hQ _ ρ1 s1 _ F1 H1 q1 r1 st1 (walks_enumL (.inl (.inl h1)) k1)⟩⟩
  · obtain ⟨v, _, rfl, ⟨a, vs, rfl, h1, _, k1⟩, rn⟩ := rs
    cases rn
    exact ⟨a, vs, rfl, .inr ⟨Same.seqT r1.sub h1, hQ _ ρ1 s1 _ F1 H1 q1 r1 st1 (walks_enumT h1 k1)⟩⟩
end
end DL

set_option Elab.async false
set_option linter.all false
set_option maxRecDepth 100000
/-! DL16: a list of any data against [] -/
namespace DL
open PySem PySem.Spec PyProof.Rows L2 TL
section
variable {X : Cx}
def rEqE (K : PySem.W.Frag) (neg : Bool) : R2 := fun x y H Q => ∃ a b xs, x = .ref a ∧ y = .ref b ∧ SqL K H a xs ∧ SqL K H b [] ∧ Q (.bl (neg ^^ xs.isEmpty)) H
theorem op_eqE (hu : X.A.units + 1 < cLine) : OpR X (compareOp .Eq) (rEqE X.K false) := by
  intro pins s σ H x y v u Q I rx ry h
  obtain ⟨a, b, xs, rfl, rfl, ha, hb, q⟩ := h
  cases rx
  cases ry
  obtain ⟨its, rv, p, _⟩ := I.list ha
  obtain ⟨its2, rv2, p2, _⟩ := I.list hb
  cases rv2
  have hl := rv.length
  rw [Bool.false_xor] at q
  cases xs with
  | nil =>
    cases rv
    refine SeqAt.eq_listAt (e := fun _ => true) p.isList p2.isList rfl (by omega) (fun j h1 _ => absurd h1 (by simp)) ?_
    exact ⟨.bl true, H, I, rfl, q⟩
  | cons z r =>
    refine SeqAt.eq_list_lengthsAt p.isList p2.isList ?_ (by omega) ⟨.bl false, H, I, rfl, q⟩
    rw [List.length_cons] at hl
    simp [← hl]
theorem op_neE (hu : X.A.units + 1 < cLine) : OpR X (compareOp .NotEq) (rEqE X.K true) := by
  intro pins s σ H x y v u Q I rx ry h
  obtain ⟨a, b, xs, rfl, rfl, ha, hb, q⟩ := h
  cases rx
  cases ry
  obtain ⟨its, rv, p, _⟩ := I.list ha
  obtain ⟨its2, rv2, p2, _⟩ := I.list hb
  cases rv2
  have hl := rv.length
  rw [Bool.true_xor] at q
  cases xs with
  | nil =>
    cases rv
    refine SeqAt.RcNeAt.lists (A := X.A) (e := fun _ => true) p.isList p2.isList rfl (by omega) (fun j h1 _ => absurd h1 (by simp)) _ _ _ _ ?_
    exact ⟨.bl false, H, I, rfl, q⟩
  | cons z r =>
    refine SeqAt.RcNeAt.lists_lengths (A := X.A) p.isList p2.isList ?_ (by omega) _ _ _ _ ⟨.bl true, H, I, rfl, q⟩
    rw [List.length_cons] at hl
    simp [← hl]
def eqE (neg : Bool) (x y : D) (Q : Bool → Prop) : Prop := ∃ xs, x = .lst xs ∧ y = .lst [] ∧ Q (neg ^^ xs.isEmpty)
theorem o_eqE {K : PySem.W.Frag} {neg : Bool} : Cm2 K (rEqE K neg) (eqE neg) := by
  intro F H dx dy x y Qd Q sub rx ry h hQ
  obtain ⟨xs, rfl, rfl, q⟩ := h
  obtain ⟨a, vs, rfl, h1, _, r1⟩ := rx
  obtain ⟨b, ws, rfl, h2, _, r2⟩ := ry
  cases r2
  have e : vs.isEmpty = xs.isEmpty := by
    have := r1.length
    cases vs <;> cases xs <;> simp at this ⊢
  refine ⟨a, b, vs, rfl, rfl, .inl (.inl (sub _ _ h1)), .inl (.inl (sub _ _ h2)), ?_⟩
  rw [e]
  exact hQ _ F H q (Grow.refl sub)
end
end DL

set_option Elab.async false
set_option linter.all false
set_option maxRecDepth 100000
/-! DL17: a def's own list by x, y = e, [] and by y = list(e) -/
namespace DL
open PySem PySem.Spec PyProof.Rows L2 TL
section
variable {X : Cx} {m : Mem} {E : Ent m} {pos : Pos}
def dParO {m : Mem} (i j : Nat) (ta : DT m) : DTS m := fun dd ρ s => ta ρ s fun d ρ1 s1 => dd.nx ((ρ1.set i (.sh d)).set j (.ow (.lst []))) s1
theorem ds_parO (i j : Nat) {x y : Str} {a : Expr} {ta : DT m} {px py pt lp : Pos} {kt k2 pt2} (hN : X.N.Nodup) (ha : PE X a (up X.K m ta)) (hc : X.calm = true := by rfl) (hi : X.N[i]? = some x := by rfl) (hj : X.N[j]? = some y := by rfl) (hij : i ≠ j := by decide)
    (hx : X.env.scope.names.lookup x = some .local := by rfl) (hy : X.env.scope.names.lookup y = some .local := by rfl)
    (hst : starEach [a, .List [] lp] X.env = (false, eval a X.env) :: starEach [.List [] lp] X.env := by rfl)
    (hw : swappedStores [.Tuple [.Name x px, .Name y py] kt pt] (.Tuple [a, .List [] lp] k2 pt2) X.env = pure (some [x, y]) := by rfl)
    (hs : swapsWithSole [.Tuple [.Name x px, .Name y py] kt pt] (.Tuple [a, .List [] lp] k2 pt2) pos.line X.env = pure false := by rfl) :
    PS X (.Assign [.Tuple [.Name x px, .Name y py] kt pt] (.Tuple [a, .List [] lp] k2 pt2) pos) (upS X.K m E (dParO i j ta)) := PS.imp (ps_par hc hN hi hj hij hx hy (pa_cons ha (pa_cons (pe_lst pa_nil) pa_nil (by rfl)) hst) hw hs) fun DD σ H h => by
  obtain ⟨F, ρ, s, dd, r, o, ht, f⟩ := h
  refine ⟨F, ρ, s, _, r, ht, fun d ρ1 s1 v F1 H1 q1 r1 st1 rv => ⟨by show 0 ≤ sizeLine; exact Nat.zero_le _, fun p np => ⟨v, .ref p, rfl, ?_⟩⟩⟩
  exact f.nx F1 _ _ _ s1 st1.ext ((r1.put rv).putO (o := .lst []) np ⟨[], rfl, Nat.zero_le _, .nil⟩) (Own.putO (r1.put rv) ((o.stp st1).put (K := X.K)) np) q1
def dSetListO {m : Mem} (i : Nat) (ta : DTA m) : DTS m := fun dd ρ s => ta ρ s fun ds ρ1 s1 => ∃ d xs, ds = [d] ∧ seqD d = some xs ∧ dd.nx (ρ1.set i (.ow (.lst xs))) s1
theorem ds_setListO (i : Nat) {x : Str} {e : Expr} {ta : DTA m} {pos' cp np : Pos} (hN : X.N.Nodup) (hg : Gl X "list") (hm : X.mg "list" = none) (ha : PA X [e] (upA X.K m ta)) (hi : X.N[i]? = some x := by rfl) (hx : Loc X.env.scope x := by first | exact Or.inl rfl | exact Or.inr rfl)
    (he : starEach [e] X.env = (false, eval e X.env) :: starEach [] X.env := by rfl) (hpl : (backTo cp (starEach [] X.env)).any (·.1) = false := by rfl)
    (hs : swapsWith (.Call (.Name "list" np) [e] [] cp) (some (.Name x pos')) pos.line X.env = pure false := by rfl) (hf : X.fn x = true ∨ X.env.scope.names.lookup x = some .local := by first | exact .inl rfl | exact .inr rfl) :
    PS X (.Assign [.Name x pos'] (.Call (.Name "list" np) [e] [] cp) pos) (upS X.K m E (dSetListO i ta)) := PS.imp (ps_set hN hi hx (pe_callTy call_list_of hg hm (by decide +kernel) ha (by decide) (by decide) he hpl) hs hf) fun DD σ H h => by
  obtain ⟨F, ρ, s, dd, r, o, ht, f⟩ := h
  refine ⟨F, ρ, s, _, r, ht, fun ds ρ1 s1 vs F1 H1 ⟨d, xs, ed, es, q1⟩ r1 st1 rs => ?_⟩
  subst ed
  obtain ⟨v, _, rfl, rv, rn⟩ := rs
  cases rn
  have fin : ∀ (p : Addr) (ws : List V), H1 p = none → ws.length ≤ sizeLine → Reps X.K F1 xs ws → DD.nx (σ.set i (some (.ref p))) (upd H1 p (.lst ws)) := fun p ws np hl rw' =>
    f.nx F1 _ _ _ s1 st1.ext (r1.putO (o := .lst xs) np ⟨ws, rfl, hl, rw'⟩) (Own.putO r1 (o.stp st1) np) q1
  cases d with
  | lst xs =>
    cases es
    obtain ⟨a, ws, rfl, h1, hl, rr⟩ := rv
    exact ⟨a, ws, rfl, .inl (.inl (.inl (r1.sub _ _ h1))), fun p np => fin p ws np hl rr⟩
  | tup xs =>
    cases es
    obtain ⟨a, ws, rfl, h1, hl, rr⟩ := rv
    exact ⟨a, ws, rfl, .inr (Same.seqT r1.sub h1), fun p np => fin p ws np hl rr⟩
  | fz xs =>
    cases es
    obtain ⟨a, ws, rfl, h1, hl, rr⟩ := rv
    exact ⟨a, ws, rfl, .inl (Same.seq r1.sub h1), fun p np => fin p ws np hl rr⟩
  | _ => cases es
end
end DL

set_option Elab.async false
set_option linter.all false
set_option maxRecDepth 100000
/-! DL18: t[::-1] of a tuple -/
namespace DLR
open PySem PySem.Spec PyProof.Rows L2 HT
section
variable {P : Program} {w : World} {A : Around} {X0 : Value → Shared → Prop} {s : Shared}
theorem back_many (n : Nat) : Builtin.Slice.slicePlaces ((n : Int) - 1) (-1) (-1) = n := by
  simp only [Builtin.Slice.slicePlaces, show ¬ (-1 : Int) > 0 by decide, if_false, Int.neg_neg, Int.ediv_one]
  by_cases h : (n : Int) - 1 > -1
  · rw [if_pos h]; omega
  · rw [if_neg h]; omega
theorem back_ends (n : Nat) : Builtin.Slice.sliceAdjust none none (-1) (n : Int) = ((n : Int) - 1, -1) := by
  simp [Builtin.Slice.sliceAdjust]
theorem back_applied {b : Addr} {k : Value} {n : Nat} {R : Int × Int × Nat → Shared → Prop} (hb : s.heap.IsSliceOf b .none .none k) (hk : IsPart k (some (-1))) (q : R ((n : Int) - 1, -1, n) s) :
    wpAny (model P w) A (Builtin.Slice.sliceApplied (.ref b) (pure (n : Int))) R X0 s := by
  obtain ⟨o, h1, _, h3⟩ := id hb
  have last : wpAny (model P w) A (match Builtin.Slice.sliceAdjust none none (-1) (n : Int) with | (lo, hi) => pure (lo, (-1 : Int), Builtin.Slice.slicePlaces lo hi (-1))) R X0 s := by
    rw [back_ends]
    show wpAny _ _ (pure ((n : Int) - 1, (-1 : Int), Builtin.Slice.slicePlaces ((n : Int) - 1) (-1) (-1))) _ _ s
    rw [back_many]
    exact wpAny_pure q
  unfold Builtin.Slice.sliceApplied Builtin.Slice.sliceFields
  exact wpAny_bind (wpAny_bind (wpAny_field h1 h3 (x := .none) rfl (wpAny_bind (wpAny_field h1 h3 (x := .none) rfl (wpAny_bind (wpAny_field h1 h3 (x := k) rfl (wpAny_pure (wpAny_bind (slicePart_ hk (wpAny_bind (slicePart_ .none (wpAny_bind (slicePart_ .none (wpAny_bind (wpAny_pure last)))))))))))))))
theorem all_at : ∀ l : List Value, (List.range l.length).filterMap (fun m => l[m]?) = l
  | [] => rfl
  | a :: r => by
    rw [List.length_cons, List.range_succ_eq_map, List.filterMap_cons]
    simp only [List.getElem?_cons_zero, List.filterMap_map]
    exact congrArg (a :: ·) (all_at r)
theorem filterMap_eq {f g : Nat → Option Value} : ∀ {l : List Nat}, (∀ m ∈ l, f m = g m) → l.filterMap f = l.filterMap g
  | [], _ => rfl
  | a :: r, h => by rw [List.filterMap_cons, List.filterMap_cons, h a List.mem_cons_self, filterMap_eq fun m hm => h m (List.mem_cons_of_mem _ hm)]
theorem back_picked (xs : Array Value) : ((List.range xs.size).filterMap fun (m : Nat) => xs[(((xs.size : Int) - 1) + (m : Int) * (-1)).toNat]?).toArray = xs.toList.reverse.toArray := by
  refine congrArg List.toArray ?_
  have h := all_at xs.toList.reverse
  rw [List.length_reverse, Array.length_toList] at h
  refine Eq.trans (filterMap_eq fun m hm => ?_) h
  have hm := List.mem_range.mp hm
  rw [show (((xs.size : Int) - 1) + (m : Int) * (-1)).toNat = xs.size - 1 - m by omega, List.getElem?_reverse (by rw [Array.length_toList]; exact hm), Array.length_toList, Array.getElem?_toList]
theorem tuple_back {t b : Addr} {xs : Array Value} {k : Value} {R : Value → Shared → Prop} (ht : IsTup s.heap t xs) (hb : s.heap.IsSliceOf b .none .none k) (hk : IsPart k (some (-1))) (small : xs.size ≤ sizeLine)
    (q : R (.ref s.heap.objs.size) { s with heap := s.heap.push { cls := .type "tuple", data := .seq xs.toList.reverse.toArray } }) : wpAny (model P w) A (getItem (.ref t) (.ref b)) R X0 s := by
  have hT : s.TypeIs (.ref b) "slice" := hb.elim fun o h => ⟨o, h.1, h.2.1⟩
  have room : sizeOk (.seq xs.toList.reverse.toArray) := by
    show xs.toList.reverse.toArray.size ≤ sizeLine
    simpa using small
  have part : ¬ (((xs.size : Int) - 1 == 0 && (-1 : Int) == 1 && xs.size == xs.size) = true) := by simp
  have body : wpAny (model P w) A.in1 (Builtin.«tuple.__getitem__» ⟨[.ref t, .ref b], []⟩) (fun o s' => ∃ v, o = .done (.ret v) ∧ wpAny (model P w) A (pure v) R X0 s') X0 s := by
    show wpAny _ _ (Builtin.Tuple.tupleItemsOf (.ref t) >>= _) _ _ s
    refine wpAny_bind (tupleItemsOf_ ht (wpAny_bind (wpAny_typeOf hT ?_)))
    rw [if_pos (show (Value.type "slice" == .type "slice") = true by decide)]
    refine wpAny_bind (back_applied hb hk ?_)
    show wpAny _ _ (if ((xs.size : Int) - 1 == 0 && (-1 : Int) == 1 && xs.size == xs.size) = true then _ else _) _ _ s
    rw [if_neg part, back_picked]
    have end_ : wpAny (model P w) A (pure (Value.ref s.heap.objs.size)) R X0 { s with heap := s.heap.push { cls := .type "tuple", data := .seq xs.toList.reverse.toArray } } := wpAny_pure q
    first
      | exact wpAny_bind (m := Builtin.Tuple.tupleExact _) (wpAny_newObj_type (wpAny_pure ⟨_, rfl, end_⟩) room)
      | exact wpAny_bind (m := Builtin.Tuple.tupleExact _) (wpAny_newObj_type (wpAny_bind (wpAny_pure (wpAny_pure ⟨_, rfl, end_⟩))) room)
      | exact wpAny_bind (wpAny_bind (m := Builtin.Tuple.tupleExact _) (wpAny_newObj_type (wpAny_pure (wpAny_pure ⟨_, rfl, end_⟩)) room))
      | exact wpAny_bind (wpAny_bind (m := Builtin.Tuple.tupleExact _) (wpAny_newObj_type (wpAny_pure ⟨_, rfl, end_⟩) room))
  have called := wpAny_call_entry PyProof.Rows.slot_tuple_getitem ht.typeIs entry_tuple_getitem body (args_tuple_getitem _ _)
  unfold getItem
  with_reducible refine wpAny_holding ?_
  exact wpAny_bind (wpAny_sequenceKey ht.typeIs (by decide) (wpAny_bind (wpAny_callSpecial?_slot (name := Str.ofString "__getitem__") ht.typeIs PyProof.Rows.slot_tuple_getitem called)))
end
section
variable {X : Cx}
def tRevT (K : PySem.W.Frag) (te : TE) : TE := fun σ H Q => te σ H fun x H1 => ∃ a xs, x = .ref a ∧ SqT K H1 a xs ∧ ∀ p, H1 p = none → Q (.ref p) (upd H1 p (.tup xs.reverse))
theorem pe_revT {e : Expr} {te : TE} {n : Nat} {u1 u2 u3 at_ : Pos} (he : PE X e te) : PE X (.Subscript e (.Slice none none (some (.UnaryOp .USub (.Constant (.int 1) n u1) u2)) u3) at_) (tRevT X.K te) := by
  have step : PO X (some (.UnaryOp .USub (.Constant (.int 1) n u1) u2)) (tPart (tUn (rU fun i => .int (-i)) (tC (.int 1)))) := po_some (pe_un un_neg pe_int)
  constructor
  intro pins s0 σ H Q I0 w0
  apply Subscript_
  refine thn (he.run pins s0 σ H _ I0 w0) fun v s1 ⟨_, H1, I1, r1, a, xs, e1, hx, fin⟩ => ?_
  subst e1
  cases r1
  apply wpAny_Slice
  refine thn (po_none.run pins s1 σ H1 (fun o J => o = none ∧ J = H1) I1 ⟨rfl, rfl⟩) fun lo s2 ⟨oa, Ha, I2, d2, ea, eb⟩ => ?_
  subst ea eb
  refine thn (po_none.run pins s2 σ _ (fun o J => o = none ∧ J = Ha) I2 ⟨rfl, rfl⟩) fun hi s3 ⟨oc, Hc, I3, d3, ec, ed⟩ => ?_
  subst ec ed
  refine thn (step.run pins s3 σ _ (fun o J => o = some (-1) ∧ J = Hc) I3 ⟨1, rfl, -1, rfl, rfl, rfl⟩) fun st s4 ⟨oe, He, I4, d4, ee, ef⟩ => ?_
  subst ee ef
  cases d2
  cases d3
  obtain ⟨s5, h5⟩ : ∃ s5 : Shared, s5 = { s4 with heap := s4.heap.push { cls := .type "slice", data := .fields #[.none, .none, st] } } := ⟨_, rfl⟩
  have I5 : Inv X pins σ He s5 := by rw [h5]; exact I4.kept (t' := s4.toks) fun _ _ z => Heap.get?_push_of_some _ z
  have cut : s5.heap.IsSliceOf s4.heap.objs.size .none .none st := by rw [h5]; exact Heap.IsSliceOf.new _ .none .none st
  obtain ⟨its, r, ht, hz⟩ := I5.tuple hx
  have len := r.length
  have got : wpAny (model X.prog X.w) X.A (getItem (.ref a) (.ref s4.heap.objs.size)) (EP X pins σ Q) X.xe s5 :=
    tuple_back ht cut d4 (by rw [List.size_toArray]; omega) ⟨.ref _, _, I5.laid (t' := s5.toks) (o := .tup xs.reverse) (fun _ _ z => Heap.get?_push_of_some _ z) (Nat.le_refl _) ⟨by rw [List.length_reverse]; exact hz, _, r.reverse, IsTup.new _ _⟩, rfl, fin _ (I5.hok.fresh (Nat.le_refl _))⟩
  show wpAny _ _ (subscriptTail e (.Slice none none (some (.UnaryOp .USub (.Constant (.int 1) n u1) u2)) u3) (.ref a) (.ref s4.heap.objs.size)) _ _ _
  rw [← h5]
  exact tail_any (ops := [.ref a, .ref s4.heap.objs.size]) ht.typeIs (PyProof.Rows.slot_tuple_getitem.lookup) got (by with_unfolding_all rfl)
end
end DLR
namespace DL
open PySem PySem.Spec PyProof.Rows L2 TL
section
variable {X : Cx} {m : Mem}
def dRevT {m : Mem} (ta : DT m) : DT m := fun ρ s Q => ta ρ s fun d ρ1 s1 => ∃ ds, d = .tup ds ∧ Q (.tup ds.reverse) ρ1 s1
theorem de_revT {e : Expr} {ta : DT m} {k : Nat} {p1 p2 p3 pos : Pos} (he : PE X e (up X.K m ta)) : PE X (.Subscript e (.Slice none none (some (.UnaryOp .USub (.Constant (.int 1) k p1) p2)) p3) pos) (up X.K m (dRevT ta)) := PE.imp (DLR.pe_revT he) fun σ H Q h => by
  obtain ⟨F, ρ, s, Qd, rl, ht, hQ⟩ := h
  refine ⟨F, ρ, s, _, rl, ht, fun d ρ1 s1 x F1 H1 ⟨ds, e, q1⟩ r1 st1 rx => ?_⟩
  subst e
  obtain ⟨a, vs, rfl, h1, hl, rs⟩ := rx
  refine ⟨a, vs, rfl, Same.seqT r1.sub h1, fun p np => ?_⟩
  have g : Grow F1 H1 (upd F1 p (.tup vs.reverse)) (upd H1 p (.tup vs.reverse)) := Grow.new r1.sub np
  exact hQ _ ρ1 s1 _ _ _ q1 (r1.grow g) (st1.trans g.stp) ⟨p, _, rfl, .inl (.inl upd_same), by rw [List.length_reverse]; exact hl, (Reps.mono g.fF _ _ rs).reverse⟩
end
end DL

set_option Elab.async false
set_option linter.all false
set_option maxRecDepth 100000
/-! DL19: a hidden list becomes a slot's own; x, y = [], e -/
namespace DL
open PySem PySem.Spec PyProof.Rows L2 TL
section
variable {X : Cx} {m : Mem} {E : Ent m} {pos : Pos}
theorem put_hid {K : PySem.W.Frag} {F' H' : Hp} {σ : L2.St} {ρ' : List Sl} {s' : m.S} (r' : Rel K m F' H' σ ρ' s') (o' : Own m E F' H' σ ρ' s') (i : Nat) {p : Addr} {ho : HO} {ob : Ob} (hp : H' p = some ho) (nF : F' p = none) (nR : ¬ m.R s' p) (nO : ∀ i, ¬ Owns σ ρ' i p) (eH : E.H p = none) (hob : ObAt K F' ob p ho) :
    Rel K m F' H' (σ.set i (some (.ref p))) (ρ'.set i (.ow ob)) s' ∧ Own m E F' H' (σ.set i (some (.ref p))) (ρ'.set i (.ow ob)) s' := by
  have other : ∀ (j : Nat) q, i ≠ j → Owns (σ.set i (some (.ref p))) (ρ'.set i (.ow ob)) j q → Owns σ ρ' j q := fun j q hj ⟨⟨o', h1⟩, h2⟩ => by
    rw [List.getElem?_set_ne hj] at h1 h2; exact ⟨⟨o', h1⟩, h2⟩
  have self : ∀ q, Owns (σ.set i (some (.ref p))) (ρ'.set i (.ow ob)) i q → q = p := fun q ⟨⟨o', h1⟩, h2⟩ => by
    have hi : i < σ.length := by
      have := (List.getElem?_eq_some_iff.mp h2).1
      rw [List.length_set] at this; exact this
    rw [List.getElem?_set_self hi] at h2
    cases h2; rfl
  refine ⟨⟨r'.sub, r'.mem, r'.reg, by rw [List.length_set, List.length_set]; exact r'.len, fun j d' z => ?_, fun j o' z => ?_, fun j q z => ?_, fun j k q h1 h2 => ?_⟩, ⟨o'.ext, o'.keep, o'.alive, o'.fresh, o'.regf, fun j q z => ?_⟩⟩
  · by_cases hj : i = j
    · subst hj
      have hi : i < ρ'.length := by
        have := (List.getElem?_eq_some_iff.mp z).1
        rw [List.length_set] at this; exact this
      rw [List.getElem?_set_self hi] at z
      cases z
    · rw [List.getElem?_set_ne hj] at z
      obtain ⟨w, h1, h2⟩ := r'.sh j d' z
      exact ⟨w, by rw [List.getElem?_set_ne hj]; exact h1, h2⟩
  · by_cases hj : i = j
    · subst hj
      have hi : i < ρ'.length := by
        have := (List.getElem?_eq_some_iff.mp z).1
        rw [List.length_set] at this; exact this
      rw [List.getElem?_set_self hi] at z
      cases z
      exact ⟨p, _, List.getElem?_set_self (by rw [r'.len]; exact hi), hp, hob⟩
    · rw [List.getElem?_set_ne hj] at z
      obtain ⟨q, ho', h1, h2, h3⟩ := r'.ow j o' z
      exact ⟨q, ho', by rw [List.getElem?_set_ne hj]; exact h1, h2, h3⟩
  · by_cases hj : i = j
    · subst hj
      rw [self q z]; exact ⟨nF, nR⟩
    · exact r'.owF j q (other j q hj z)
  · by_cases hj : i = j
    · subst hj
      by_cases hk : i = k
      · exact hk
      · exact absurd ((self q h1) ▸ other k q hk h2) (nO k)
    · by_cases hk : i = k
      · subst hk
        exact absurd ((self q h2) ▸ other j q hj h1) (nO j)
      · exact r'.uq j k q (other j q hj h1) (other k q hk h2)
  · by_cases hj : i = j
    · subst hj
      rw [self q z]; exact eH
    · exact o'.own j q (other j q hj z)
/-- a hidden object stays hidden, and as it is, while other things are done -/
theorem hid_keep {K : PySem.W.Frag} {F H : Hp} {σ : L2.St} {ρ : List Sl} {s : m.S} (r : Rel K m F H σ ρ s) (o : Own m E F H σ ρ s) {p : Addr} {ho : HO} (np : H p = none) :
    Rel K m F (upd H p ho) σ ρ s ∧ ∀ F1 H1 ρ1 s1, Stp m F (upd H p ho) σ ρ s F1 H1 ρ1 s1 → H1 p = some ho ∧ F1 p = none ∧ ¬ m.R s1 p ∧ (∀ i, ¬ Owns σ ρ1 i p) ∧ E.H p = none ∧ Own m E F1 H1 σ ρ1 s1 ∧ Same F F1 := by
  have nF : F p = none := r.sub.free np
  have nR : ¬ m.R s p := fun z => m.there s H p r.mem z np
  have nO : ∀ i, ¬ Owns σ ρ i p := fun i ⟨⟨o, e⟩, hσ⟩ => by
    obtain ⟨q, ho', h1, h2, _⟩ := r.own_at e
    rw [hσ] at h1; cases h1
    rw [np] at h2; cases h2
  have eH : E.H p = none := by
    cases q : E.H p with
    | none => rfl
    | some u => exact absurd np (o.alive p (by rw [q]; simp))
  refine ⟨r.hidW nF nR nO, fun F1 H1 ρ1 s1 st => ?_⟩
  have o1 : Own m E F (upd H p ho) σ ρ s := ⟨o.ext, fun a x h nr => by rw [upd_ne (ne_of_none h eH)]; exact o.keep a x h nr, fun a h => by
    have hp : a ≠ p := fun z => h (z ▸ eH)
    rw [upd_ne hp]; exact o.alive a h, o.fresh, o.regf, o.own⟩
  refine ⟨st.keep p _ upd_same nR, ?_, fun z => ?_, fun i z => nO i (st.owns z), eH, o1.stp st, st.ext⟩
  · cases q : F1 p with
    | none => rfl
    | some u =>
      rcases st.fresh p u q with z | z | ⟨i, z⟩
      · rw [nF] at z; cases z
      · rw [upd_same] at z; cases z
      · exact absurd z (nO i)
  · rcases st.regf p z with z | z
    · exact nR z
    · rw [upd_same] at z; cases z
end
end DL

set_option Elab.async false
set_option linter.all false
set_option maxRecDepth 100000
namespace DL
open PySem PySem.Spec PyProof.Rows L2 TL
/-! ### the forms of a path -/
def okc (c : Nat) : Bool := decide (97 ≤ c) && decide (c ≤ 122)
def okLen (x : Str) : Bool := decide (1 ≤ x.length) && decide (x.length ≤ 8)
def okName (x : Str) : Bool := okLen x && (tl x).all okc
def isPathS (x : Str) : Bool := decide ((splS 46 x).length ≤ 6) && (splS 46 x).all okName
def isPathD : D → Bool
  | .str x => isPathS x
  | _ => false
/-- the values that are asked -/
def Val (d : D) : Prop := (∃ t, tyT d = some t) ∧ ∀ x, d = .str x → x.length ≤ 10000
def spIsName {m : Mem} : DSp m := fun ds s Q => ∃ x : Str, ds = [.str x] ∧ x.length ≤ 10000 ∧ Q (.bl (okName x)) s
theorem spIsName_len {m : Mem} : ∀ ds s Qd, (spIsName : DSp m) ds s Qd → ds.length = 1 := fun ds s Qd ⟨_, e, _⟩ => by rw [e]; rfl
def spIsPath {m : Mem} : DSp m := fun ds s Q => ∃ d, ds = [d] ∧ Val d ∧ Q (.bl (isPathD d)) s
theorem spIsPath_len {m : Mem} : ∀ ds s Qd, (spIsPath : DSp m) ds s Qd → ds.length = 1 := fun ds s Qd ⟨_, e, _⟩ => by rw [e]; rfl
/-- a text of letters and dots -/
def Plain (x : Str) : Prop := x.length ≤ 200 ∧ ∀ c ∈ tl x, c = 46 ∨ (97 ≤ c ∧ c ≤ 122)
def spOdd : DSp Mem.deck := fun ds s Q => ∃ a b c x, s.adr = some (a, b, c) ∧ ds = [.any (.ref a), .str x] ∧ Plain x ∧ s.n + 20 < drawLim ∧ ∀ d k, Val d → k ≤ s.n + 20 → Q d ⟨s.adr, k⟩
theorem spOdd_len : ∀ ds s Qd, spOdd ds s Qd → ds.length = 2 := fun ds s Qd ⟨_, _, _, _, _, e, _⟩ => by rw [e]; rfl
def spBent : DSp Mem.deck := fun ds s Q => ∃ a b c x, s.adr = some (a, b, c) ∧ ds = [.any (.ref a), .str x] ∧ x.length ≤ 200 ∧ s.n + 20 < drawLim ∧ ∀ y k, y.length ≤ 2000 → k ≤ s.n + 20 → Q (.str y) ⟨s.adr, k⟩
theorem spBent_len : ∀ ds s Qd, spBent ds s Qd → ds.length = 2 := fun ds s Qd ⟨_, _, _, _, _, e, _⟩ => by rw [e]; rfl
theorem lt_one (c d : Nat) : decide (([c] : List Nat) < [d]) = decide (c < d) := by
  by_cases h : c < d
  · rw [decide_eq_true h, decide_eq_true (List.cons_lt_cons_iff.mpr (.inl h))]
  · rw [decide_eq_false h]
    refine decide_eq_false fun z => ?_
    rcases List.cons_lt_cons_iff.mp z with z | ⟨_, z⟩
    · exact h z
    · exact absurd z (by simp)
theorem le_a (c : Nat) : (!ltS ⟨#[c]⟩ (Str.ofString "a")) = decide (97 ≤ c) := by
  have e : (Str.ofString "a") = (⟨#[97]⟩ : Str) := by decide +kernel
  rw [e]
  show (!decide (([c] : List Nat) < [97])) = _
  rw [lt_one]
  by_cases h : c < 97
  · rw [decide_eq_true h, decide_eq_false (by omega)]; rfl
  · rw [decide_eq_false h, decide_eq_true (by omega)]; rfl
theorem le_z (c : Nat) : (!ltS (Str.ofString "z") ⟨#[c]⟩) = decide (c ≤ 122) := by
  have e : (Str.ofString "z") = (⟨#[122]⟩ : Str) := by decide +kernel
  rw [e]
  show (!decide (([122] : List Nat) < [c])) = _
  rw [lt_one]
  by_cases h : 122 < c
  · rw [decide_eq_true h, decide_eq_false (by omega)]; rfl
  · rw [decide_eq_false h, decide_eq_true (by omega)]; rfl
theorem ch_app {x : Str} {pre : List D} {y : D} {post : List D} (e : chD x = pre ++ y :: post) : ∃ c, y = D.str ⟨#[c]⟩ ∧ c ∈ tl x := by
  have hm : y ∈ chD x := by rw [e]; simp
  obtain ⟨c, hc, rfl⟩ := List.mem_map.mp hm
  exact ⟨c, rfl, hc⟩
theorem chr_inj : ∀ {l m : List Nat}, (l.map fun c => D.str ⟨#[c]⟩) = (m.map fun c => D.str ⟨#[c]⟩) → l = m
  | [], [], _ => rfl
  | [], _ :: _, h => by cases h
  | _ :: _, [], h => by cases h
  | c :: l, d :: m, h => by
    rw [List.map_cons, List.map_cons] at h
    injection h with h1 h2
    injection h1 with h1
    injection h1 with h1
    have h1' : c = d := by simpa using h1
    rw [h1', chr_inj h2]
theorem chD_length (x : Str) : (chD x).length = x.length := by
  unfold chD
  rw [List.length_map, len_tl]
theorem line_of {n : Nat} (h : n ≤ 1000000) : n ≤ sizeLine := Nat.le_trans h (Nat.le_trans (Nat.le_add_right _ 2) strLim_line)
theorem bl_app (l : List Nat) (f : Nat → Bool) (c : Nat) : (l.map f).map D.bl ++ [D.bl (f c)] = ((l ++ [c]).map f).map D.bl := by
  rw [List.map_append, List.map_append]; rfl
theorem splS_count {x : Str} : (splS 46 x).length ≤ x.length + 1 := by
  have h : ∀ (l acc : List Nat), (cutL 46 acc l).length ≤ l.length + 1 := by
    intro l
    induction l with
    | nil => intro acc; simp [cutL]
    | cons a r ih =>
      intro acc
      rw [cutL]
      by_cases h : a = 46
      · rw [if_pos h, List.length_cons, List.length_cons]; have := ih []; omega
      · rw [if_neg h, List.length_cons]; have := ih (acc ++ [a]); omega
  have e : (splS 46 x).length = ((splS 46 x).map tl).length := by rw [List.length_map]
  rw [e, tl_splS, len_tl]
  exact h _ _
theorem splS_each {x : Str} : ∀ y ∈ splS 46 x, y.length ≤ x.length := fun y hy => by
  obtain ⟨l, hl, rfl⟩ := List.mem_map.mp hy
  have := (spl_mem 0 [] (tl x) l hl).1
  rw [List.length_nil, Nat.zero_add] at this
  rw [len_tl, len_tl]
  exact this
theorem filter_nil {α : Type} {f : α → Bool} {l : List α} : (l.filter fun n => !f n) = [] ↔ ∀ n ∈ l, f n = true := by
  rw [List.filter_eq_nil_iff]
  constructor
  · intro h n hn; have := h n hn; simpa using this
  · intro h n hn; simpa using h n hn
theorem lz {n : Nat} (h : Nat.ble n 1000000 = true) : n ≤ sizeLine := line_of (Nat.le_of_ble_eq_true h)
theorem len_add (a b : Str) : (a ++ b).length = a.length + b.length := by rw [len_tl, tl_append, List.length_append, ← len_tl, ← len_tl]
theorem val_o {d : D} {t : Tg} (h : tyT d = some t) (n : t ≠ .str) : Val d := ⟨⟨t, h⟩, fun x e => by subst e; cases h; exact absurd rfl n⟩
theorem val_s {x : Str} (h : x.length ≤ 10000) : Val (.str x) := ⟨⟨_, rfl⟩, fun y e => by cases e; exact h⟩
end DL

set_option linter.all false
set_option maxRecDepth 100000
namespace R29
open PySem PySem.Spec PySem.Builtin PySem.Builtin.Str PyProof.Rows L2 TL DL
theorem tw_len {g : Nat → Bool} {c : Nat} {r : List Nat} (h : g c = false) : ((c :: r).reverse.takeWhile g).length ≤ r.length := by
  rw [List.reverse_cons, List.takeWhile_append]
  split
  · rw [List.takeWhile_cons, h]
    simp
  · have := (List.takeWhile_sublist g (l := r.reverse)).length_le
    rw [List.length_reverse] at this
    exact this
theorem tw_mem {g : Nat → Bool} {c : Nat} : ∀ {l : List Nat}, c ∈ l.takeWhile g → g c = true
  | [], h => by cases h
  | a :: l, h => by
    rw [List.takeWhile_cons] at h
    cases q : g a with
    | false => rw [q] at h; cases h
    | true =>
      rw [q] at h
      rcases List.mem_cons.mp h with z | z
      · rw [z]; exact q
      · exact tw_mem z
theorem letters_has (c : Nat) : (Str.ofString "abcdefghijklmnopqrstuvwxyz").cps.contains c = okc c := by
  have e : (Str.ofString "abcdefghijklmnopqrstuvwxyz").cps.contains c = (tl ("abcdefghijklmnopqrstuvwxyz" : Str)).contains c := by
    show _ = (Array.toList _).contains c
    simp
  rw [e, letters_tl]
  have hall : ∀ d ∈ [97, 98, 99, 100, 101, 102, 103, 104, 105, 106, 107, 108, 109, 110, 111, 112, 113, 114, 115, 116, 117, 118, 119, 120, 121, 122], 97 ≤ d ∧ d ≤ 122 := by decide
  have hback : ∀ d, d < 123 → 97 ≤ d → d ∈ [97, 98, 99, 100, 101, 102, 103, 104, 105, 106, 107, 108, 109, 110, 111, 112, 113, 114, 115, 116, 117, 118, 119, 120, 121, 122] := by decide
  by_cases h : 97 ≤ c ∧ c ≤ 122
  · have k : okc c = true := by unfold okc; rw [decide_eq_true h.1, decide_eq_true h.2]; rfl
    rw [k, List.contains_iff_mem]
    exact hback c (by omega) h.1
  · have k : okc c = false := by
      cases q : okc c with
      | false => rfl
      | true =>
        unfold okc at q
        rw [Bool.and_eq_true, decide_eq_true_iff, decide_eq_true_iff] at q
        exact absurd q h
    rw [k]
    cases q : List.contains [97, 98, 99, 100, 101, 102, 103, 104, 105, 106, 107, 108, 109, 110, 111, 112, 113, 114, 115, 116, 117, 118, 119, 120, 121, 122] c with
    | false => rfl
    | true => exact absurd (hall c (List.contains_iff_mem.mp q)) h
theorem strip_lo (g : Nat → Bool) (z : Str) : stripLo g true z = ((tl z).takeWhile g).length := rfl
theorem strip_hi (g : Nat → Bool) (z : Str) : stripHi g true z (stripLo g true z) = z.length - (((tl z).drop ((tl z).takeWhile g).length).reverse.takeWhile g).length := rfl
theorem strip_len (g : Nat → Bool) (z : Str) : (Txt.stripBy g true true z).length = 0 ↔ (tl z).all g = true := by
  rw [PyProof.Rows.stripBy_eq]
  have hs : (strSub z (stripLo g true z) (stripHi g true z (stripLo g true z))).length = min (stripHi g true z (stripLo g true z)) z.length - stripLo g true z := by
    show (Array.extract _ _ _).size = _
    rw [Array.size_extract]
    rfl
  rw [hs, strip_hi, strip_lo]
  have hz : (tl z).length = z.length := (len_tl z).symm
  have hw : (tl z).takeWhile g ++ (tl z).dropWhile g = tl z := List.takeWhile_append_dropWhile
  have hd : (tl z).drop ((tl z).takeWhile g).length = (tl z).dropWhile g := by
    have q : ∀ l m : List Nat, (l ++ m).drop l.length = m := fun l m => List.drop_left
    have q' := q ((tl z).takeWhile g) ((tl z).dropWhile g)
    rw [hw] at q'
    exact q'
  rw [hd]
  have hlen : ((tl z).takeWhile g).length + ((tl z).dropWhile g).length = z.length := by
    rw [← hz, ← List.length_append, hw]
  cases e : (tl z).dropWhile g with
  | nil =>
    rw [e] at hlen
    have : (tl z).all g = true := by
      rw [List.all_eq_true]
      intro c hc
      rw [e, List.append_nil] at hw
      rw [← hw] at hc
      exact tw_mem hc
    rw [this]
    simp at hlen ⊢
    omega
  | cons c r =>
    have hc : g c = false := by
      have := List.head?_dropWhile_not g (tl z)
      rw [e] at this
      simpa using this
    have h2 := tw_len (r := r) hc
    rw [e, List.length_cons] at hlen
    have : (tl z).all g ≠ true := fun h => by
      have := List.all_eq_true.mp h c (by rw [← hw, e]; simp)
      rw [hc] at this
      cases this
    constructor
    · intro h
      omega
    · intro h
      exact absurd h this
theorem strip_letters (z : Str) : decide (Txt.stripChars z (Str.ofString "abcdefghijklmnopqrstuvwxyz") = Str.ofString "") = (tl z).all okc := by
  have eg : (fun c => (Str.ofString "abcdefghijklmnopqrstuvwxyz").cps.contains c) = okc := funext letters_has
  have e : Txt.stripChars z (Str.ofString "abcdefghijklmnopqrstuvwxyz") = Txt.stripBy okc true true z := by
    unfold Txt.stripChars
    exact congrArg (fun g => Txt.stripBy g true true z) eg
  rw [e]
  have h := strip_len okc z
  have h0 : ∀ y : Str, y = Str.ofString "" ↔ y.length = 0 := fun y => by
    constructor
    · intro q; rw [q]; decide +kernel
    · intro q
      obtain ⟨l⟩ := y
      have : l = #[] := Array.eq_empty_of_size_eq_zero q
      rw [this]
      decide +kernel
  cases q : (tl z).all okc with
  | true => exact decide_eq_true ((h0 _).mpr (h.mpr q))
  | false => exact decide_eq_false fun z' => by rw [h.mp ((h0 _).mp z')] at q; cases q
end R29

set_option Elab.async false
set_option linter.all false
set_option maxRecDepth 100000
set_option maxHeartbeats 1000000
namespace R29
open PySem PySem.Spec PyProof.Rows L2 TL DL
def tab_FORMS : List (Str × D) := [(Str.ofString "forbid", .tup [.str (Str.ofString "sources"), .str (Str.ofString "targets"), .str (Str.ofString "how")]), (Str.ofString "layers", .tup [.str (Str.ofString "rows"), .str (Str.ofString "how")]), (Str.ofString "stairs", .tup [.str (Str.ofString "rows")]), (Str.ofString "apart", .tup [.str (Str.ofString "paths"), .str (Str.ofString "how")]), (Str.ofString "only", .tup [.str (Str.ofString "targets"), .str (Str.ofString "users")]), (Str.ofString "face", .tup [.str (Str.ofString "path"), .str (Str.ofString "exposed")]), (Str.ofString "noring", .tup [.str (Str.ofString "paths")])]
def tab_SIZES : List (Str × D) := [(Str.ofString "sources", .tup [.int 1, .int 6]), (Str.ofString "targets", .tup [.int 1, .int 6]), (Str.ofString "users", .tup [.int 0, .int 6]), (Str.ofString "paths", .tup [.int 2, .int 6]), (Str.ofString "exposed", .tup [.int 0, .int 6])]
def rp : D → Bool
  | .str x => decide ((splS 46 x).length ≤ 4) && (splS 46 x).all okName
  | _ => false
def rps (l m : Int) : D → Bool
  | .tup xs => decide (l ≤ (xs.length : Nat)) && (decide (((xs.length : Nat) : Int) ≤ m) && xs.all rp)
  | _ => false
def rows : D → Bool
  | .tup xs => decide ((2 : Int) ≤ (xs.length : Nat)) && (decide (((xs.length : Nat) : Int) ≤ 5) && xs.all (rps 1 4))
  | _ => false
/-- data that may be asked about: one, two, three deep -/
def V1 (d : D) : Prop := Val d ∧ ∀ xs, d = .tup xs → xs.length ≤ 100000 ∧ ∀ x ∈ xs, Val x
def V2 (d : D) : Prop := Val d ∧ ∀ xs, d = .tup xs → xs.length ≤ 100000 ∧ ∀ x ∈ xs, V1 x
def V3 (d : D) : Prop := Val d ∧ ∀ xs, d = .tup xs → xs.length ≤ 100000 ∧ ∀ x ∈ xs, V2 x
def spRp {m : Mem} : DSp m := fun ds s Q => ∃ d, ds = [d] ∧ Val d ∧ Q (.bl (rp d)) s
theorem spRp_len {m : Mem} : ∀ ds s Qd, (spRp : DSp m) ds s Qd → ds.length = 1 := fun ds s Qd ⟨_, e, _⟩ => by rw [e]; rfl
def spLp {m : Mem} : DSp m := fun ds s Q => ∃ d, ds = [d, .int 4] ∧ Val d ∧ Q (.bl (rp d)) s
theorem spLp_len {m : Mem} : ∀ ds s Qd, (spLp : DSp m) ds s Qd → ds.length = 2 := fun ds s Qd ⟨_, e, _⟩ => by rw [e]; rfl
def spRps {m : Mem} : DSp m := fun ds s Q => ∃ d l u, ds = [d, .int l, .int u] ∧ V1 d ∧ Q (.bl (rps l u d)) s
theorem spRps_len {m : Mem} : ∀ ds s Qd, (spRps : DSp m) ds s Qd → ds.length = 3 := fun ds s Qd ⟨_, _, _, e, _⟩ => by rw [e]; rfl
def spRows {m : Mem} : DSp m := fun ds s Q => ∃ d, ds = [d] ∧ V2 d ∧ Q (.bl (rows d)) s
theorem spRows_len {m : Mem} : ∀ ds s Qd, (spRows : DSp m) ds s Qd → ds.length = 1 := fun ds s Qd ⟨_, e, _⟩ => by rw [e]; rfl
def spOvl {m : Mem} : DSp m := fun ds s Q => ∃ p o : Str, ds = [.str p, .str o] ∧ p.length ≤ 1000 ∧ o.length ≤ 1000 ∧ Q (.bl (coversS p o || coversS o p)) s
theorem spOvl_len {m : Mem} : ∀ ds s Qd, (spOvl : DSp m) ds s Qd → ds.length = 2 := fun ds s Qd ⟨_, _, e, _⟩ => by rw [e]; rfl
theorem rp_eq (d : D) : rp d = (isPathD d && (match d with | .str x => decide ((splS 46 x).length ≤ 4) | _ => false)) := by
  cases d with
  | str x =>
    show (decide ((splS 46 x).length ≤ 4) && (splS 46 x).all okName) = ((decide ((splS 46 x).length ≤ 6) && (splS 46 x).all okName) && decide ((splS 46 x).length ≤ 4))
    by_cases h : (splS 46 x).length ≤ 4
    · rw [decide_eq_true h, decide_eq_true (by omega), Bool.true_and, Bool.and_true]
    · rw [decide_eq_false h, Bool.false_and, Bool.and_false]
  | _ => rfl
theorem path_str {d : D} (h : isPathD d = true) : ∃ x, d = .str x := by
  cases d with
  | str x => exact ⟨x, rfl⟩
  | _ => cases h
theorem le_int (a b : Nat) : decide ((a : Int) ≤ (b : Int)) = decide (a ≤ b) := by
  by_cases h : a ≤ b
  · rw [decide_eq_true h, decide_eq_true (by omega)]
  · rw [decide_eq_false h, decide_eq_false (by omega)]
theorem bl_app2 (f : D → Bool) (l : List D) (d : D) : (l.map f).map D.bl ++ [D.bl (f d)] = ((l ++ [d]).map f).map D.bl := by
  rw [List.map_append, List.map_append]; rfl
theorem lst_app (f : D → Bool) (l : List D) (d : D) : ifB (f d) ((l.filter f) ++ [d] = (l ++ [d]).filter f) (l.filter f = (l ++ [d]).filter f) := by
  cases h : f d with
  | true => show _ = _; rw [List.filter_append, List.filter_cons, h]; simp
  | false => show _ = _; rw [List.filter_append, List.filter_cons, h]; simp
theorem nil_all {α : Type} {f : α → Bool} {l : List α} : (l.filter fun d => !f d).isEmpty = l.all f := by
  cases h : l.all f with
  | true =>
    have e : (l.filter fun d => !f d) = [] := filter_nil.mpr (List.all_eq_true.mp h)
    rw [e]; rfl
  | false =>
    cases e : (l.filter fun d => !f d) with
    | nil =>
      rw [List.all_eq_true.mpr (filter_nil.mp e)] at h
      cases h
    | cons a r => rfl
abbrev sHow : Str := Str.ofString "how"
abbrev sRows : Str := Str.ofString "rows"
abbrev sPath : Str := Str.ofString "path"
abbrev sExp : Str := Str.ofString "exposed"
abbrev sDC : List Str := [Str.ofString "direct", Str.ofString "chain"]
/-- the names with a number of paths, each with the least one -/
abbrev los : List (Str × Int) := [(Str.ofString "sources", 1), (Str.ofString "targets", 1), (Str.ofString "users", 0), (Str.ofString "paths", 2), (Str.ofString "exposed", 0)]
def cov : D → D → Bool
  | .str p, .str o => coversS p o
  | _, _ => false
def expo (first : D) : D → Bool
  | .tup xs => xs.all fun p => !eqD p first && cov first p
  | _ => true
def fit (nm : Str) (item first : D) : Bool :=
  if nm = sHow then inTx item sDC else if nm = sRows then rows item else if nm = sPath then rp item else
    match los.lookup nm with
    | some l => rps l 6 item && (if nm = sExp then expo first item else true)
    | none => false
def okNm (nm : Str) : Prop := nm = sHow ∨ nm = sRows ∨ nm = sPath ∨ nm ∈ los.map (·.1)
theorem V2.v1 {d : D} (h : V2 d) : V1 d := ⟨h.1, fun xs e => ⟨(h.2 xs e).1, fun x hx => ((h.2 xs e).2 x hx).1⟩⟩
theorem ty_some {d : D} (h : Val d) : (tyT d).isSome = true := by
  obtain ⟨⟨t, e⟩, _⟩ := h
  rw [e]; rfl
theorem los_sizes {nm : Str} (h : nm ∈ los.map (·.1)) : nm ≠ sHow ∧ nm ≠ sRows ∧ nm ≠ sPath ∧ ∃ l, los.lookup nm = some l ∧ tab_SIZES.lookup nm = some (.tup [.int l, .int 6]) := by
  have h' : nm = Str.ofString "sources" ∨ nm = Str.ofString "targets" ∨ nm = Str.ofString "users" ∨ nm = Str.ofString "paths" ∨ nm = Str.ofString "exposed" := by simpa [los] using h
  rcases h' with rfl | rfl | rfl | rfl | rfl <;> exact ⟨by decide +kernel, by decide +kernel, by decide +kernel, _, rfl, rfl⟩
theorem rps_tup {l u : Int} {d : D} (h : rps l u d = true) : ∃ xs, d = .tup xs ∧ ∀ x ∈ xs, rp x = true := by
  cases d with
  | tup xs =>
    have h : (decide _ && (decide _ && xs.all rp)) = true := h
    rw [Bool.and_eq_true, Bool.and_eq_true] at h
    exact ⟨xs, rfl, fun x hx => List.all_eq_true.mp h.2.2 x hx⟩
  | _ => cases h
theorem rp_str {d : D} (h : rp d = true) : ∃ x, d = .str x := by
  cases d with
  | str x => exact ⟨x, rfl⟩
  | _ => cases h
def spFit {m : Mem} : DSp m := fun ds s Q => ∃ nm item first, ds = [.str nm, item, first] ∧ okNm nm ∧ V2 item ∧ (nm = sExp → ∃ p : Str, first = .str p ∧ p.length ≤ 1000) ∧ Q (.bl (fit nm item first)) s
theorem spFit_len {m : Mem} : ∀ ds s Qd, (spFit : DSp m) ds s Qd → ds.length = 3 := fun ds s Qd ⟨_, _, _, e, _⟩ => by rw [e]; rfl
abbrev leK : List Str := [Str.ofString "sources", Str.ofString "targets", Str.ofString "paths", Str.ofString "users", Str.ofString "exposed"]
theorem los_least {nm : Str} (h : nm ∈ los.map (·.1)) : ∃ l', dicGet (keysOf leK) [.int 1, .int 1, .int 2, .int 0, .int 7] (.inr nm) = some (.int l') ∧ (nm ≠ sExp → los.lookup nm = some l') ∧ (nm = sExp → l' = 7) := by
  have h' : nm = Str.ofString "sources" ∨ nm = Str.ofString "targets" ∨ nm = Str.ofString "users" ∨ nm = Str.ofString "paths" ∨ nm = Str.ofString "exposed" := by simpa [los] using h
  rcases h' with rfl | rfl | rfl | rfl | rfl
  · exact ⟨1, rfl, fun _ => rfl, fun z => absurd z (by decide +kernel)⟩
  · exact ⟨1, rfl, fun _ => rfl, fun z => absurd z (by decide +kernel)⟩
  · exact ⟨0, rfl, fun _ => rfl, fun z => absurd z (by decide +kernel)⟩
  · exact ⟨2, rfl, fun _ => rfl, fun z => absurd z (by decide +kernel)⟩
  · exact ⟨7, rfl, fun z => absurd rfl z, fun _ => rfl⟩
def ovs (a b : D) : Bool := cov a b || cov b a
theorem ovs_comm (a b : D) : ovs a b = ovs b a := Bool.or_comm _ _
/-- one of the first n overlaps one before it -/
def ovN (xs : List D) : Nat → Bool
  | 0 => false
  | n + 1 => ovN xs n || (match xs[n]? with | some p => (xs.take n).any (ovs p) | none => false)
def okS (d : D) : Prop := ∃ x : Str, d = .str x ∧ x.length ≤ 1000
def spAny {m : Mem} : DSp m := fun ds s Q => ∃ d xs, ds = [d] ∧ (d = .lst xs ∨ d = .tup xs) ∧ xs.length ≤ 100 ∧ (∀ x ∈ xs, okS x) ∧ Q (.bl (ovN xs xs.length)) s
theorem spAny_len {m : Mem} : ∀ ds s Qd, (spAny : DSp m) ds s Qd → ds.length = 1 := fun ds s Qd ⟨_, _, e, _⟩ => by rw [e]; rfl
theorem cut_take {xs : List D} {n : Nat} (h : n ≤ xs.length) : DL.cutD xs none (some (n : Int)) = xs.take n := by
  unfold DL.cutD
  rw [HT.sIx_none, HT.sIx_nat, Nat.min_eq_left h]
  rfl
theorem enum_split {xs : List D} {pre post : List D} {x : D} (e : enumD xs = pre ++ x :: post) : ∃ p, xs[pre.length]? = some p ∧ x = .tup [.int (pre.length : Nat), p] := by
  have h : (enumD xs)[pre.length]? = some x := by rw [e]; simp
  exact enum_get h
def tupOf : D → List D
  | .tup xs => xs
  | _ => []
def itemPaths (nm : Str) (item : D) : List D :=
  if nm = sRows then (tupOf item).flatMap tupOf else if nm = sPath then [item] else if nm = sHow then [] else tupOf item
def pthsOf (ps : List (Str × D)) : List D := ps.flatMap fun p => itemPaths p.1 p.2
def Shp (nm : Str) (item : D) : Prop := (nm = sRows → ∃ rs, item = .tup rs ∧ rs.length ≤ 5 ∧ ∀ r ∈ rs, ∃ xs, r = .tup xs ∧ xs.length ≤ 4) ∧ (nm ≠ sRows → nm ≠ sPath → nm ≠ sHow → ∃ xs, item = .tup xs ∧ xs.length ≤ 6)
theorem pairs_zip : ∀ (names : List Str) (items : List D), pairsD (names.map .str) items = (names.zip items).map fun p => .tup [.str p.1, p.2]
  | [], _ => rfl
  | _ :: _, [] => rfl
  | n :: ns, i :: is => by
    show D.tup [.str n, i] :: pairsD (ns.map .str) is = _
    rw [pairs_zip]
    rfl
theorem cut_tail {k : D} {items : List D} : DL.cutD (k :: items) (some 1) none = items := by
  unfold DL.cutD
  have e : HT.sIx (k :: items).length 0 (some 1) = 1 := by
    rw [show (some (1 : Int)) = some ((1 : Nat) : Int) from rfl, HT.sIx_nat, List.length_cons]
    omega
  rw [e, HT.sIx_none]
  simp
def spPaths {m : Mem} : DSp m := fun ds s Q => ∃ (k : Str) (names : List Str) (items : List D), ds = [.tup (.str k :: items)] ∧ tab_FORMS.lookup k = some (.tup (names.map .str)) ∧ names.length ≤ 3 ∧ (∀ p ∈ names.zip items, Shp p.1 p.2) ∧ Q (.lst (pthsOf (names.zip items))) s
theorem spPaths_len {m : Mem} : ∀ ds s Qd, (spPaths : DSp m) ds s Qd → ds.length = 1 := fun ds s Qd ⟨_, _, _, e, _⟩ => by rw [e]; rfl
theorem Shp.few {nm : Str} {item : D} (h : Shp nm item) : (itemPaths nm item).length ≤ 20 := by
  unfold itemPaths
  by_cases c1 : nm = sRows
  · rw [if_pos c1]
    obtain ⟨rs, rfl, hz, hr⟩ := h.1 c1
    have : ∀ l : List D, (∀ r ∈ l, ∃ xs, r = .tup xs ∧ xs.length ≤ 4) → (l.flatMap tupOf).length ≤ 4 * l.length := by
      intro l
      induction l with
      | nil => intro _; simp
      | cons r l ih =>
        intro hl
        obtain ⟨xs, rfl, hx⟩ := hl r (by simp)
        have := ih fun r hr => hl r (by simp [hr])
        rw [List.flatMap_cons, List.length_append, List.length_cons]
        show xs.length + _ ≤ _
        omega
    have := this rs hr
    show (rs.flatMap tupOf).length ≤ 20
    omega
  · rw [if_neg c1]
    by_cases c2 : nm = sPath
    · rw [if_pos c2]; simp
    · rw [if_neg c2]
      by_cases c3 : nm = sHow
      · rw [if_pos c3]; simp
      · rw [if_neg c3]
        obtain ⟨xs, rfl, hx⟩ := h.2 c1 c2 c3
        show xs.length ≤ 20
        omega
theorem pths_few : ∀ {ps : List (Str × D)}, (∀ p ∈ ps, Shp p.1 p.2) → (pthsOf ps).length ≤ 20 * ps.length
  | [], _ => by simp [pthsOf]
  | p :: ps, h => by
    have h1 := (h p (by simp)).few
    have h2 := pths_few fun q hq => h q (List.mem_cons_of_mem _ hq)
    show ((itemPaths p.1 p.2) ++ pthsOf ps).length ≤ _
    rw [List.length_append, List.length_cons]
    omega
theorem pths_app (ps : List (Str × D)) (p : Str × D) : pthsOf (ps ++ [p]) = pthsOf ps ++ itemPaths p.1 p.2 := by
  unfold pthsOf
  rw [List.flatMap_append]
  simp
def prD (p : Str × D) : D := .tup [.str p.1, p.2]
theorem pr_inj : ∀ {l m : List (Str × D)}, l.map prD = m.map prD → l = m
  | [], [], _ => rfl
  | [], _ :: _, h => by cases h
  | _ :: _, [], h => by cases h
  | p :: l, q :: m, h => by
    rw [List.map_cons, List.map_cons] at h
    injection h with h1 h2
    have h1' : D.tup [.str p.1, p.2] = D.tup [.str q.1, q.2] := h1
    injection h1' with h1'
    injection h1' with h3 h4
    injection h3 with h3
    injection h4 with h4
    rw [pr_inj h2, Prod.ext h3 h4]
theorem pr_split {l ps : List (Str × D)} {y : D} {post : List D} (h : l.map prD = ps.map prD ++ y :: post) : ∃ p rest, l = ps ++ p :: rest ∧ y = prD p := by
  obtain ⟨l1, l2, e1, e2, e3⟩ := List.map_eq_append_iff.mp h
  obtain ⟨q, rs, e4, e5, e6⟩ := List.map_eq_cons_iff.mp e3
  have h12 : l1 = ps := pr_inj e2
  subst h12
  exact ⟨q, rs, by rw [e1, e4], e5.symm⟩
abbrev sFace : Str := Str.ofString "face"
abbrev forms : List (Str × List Str) := [(Str.ofString "forbid", [Str.ofString "sources", Str.ofString "targets", Str.ofString "how"]), (Str.ofString "layers", [Str.ofString "rows", Str.ofString "how"]), (Str.ofString "stairs", [Str.ofString "rows"]),
  (Str.ofString "apart", [Str.ofString "paths", Str.ofString "how"]), (Str.ofString "only", [Str.ofString "targets", Str.ofString "users"]), (Str.ofString "face", [Str.ofString "path", Str.ofString "exposed"]), (Str.ofString "noring", [Str.ofString "paths"])]
theorem lookup_map {α β : Type} (f : α → β) (k : Str) : ∀ l : List (Str × α), (l.map fun p => (p.1, f p.2)).lookup k = (l.lookup k).map f
  | [] => rfl
  | p :: l => by
    rw [List.map_cons, List.lookup_cons, List.lookup_cons, lookup_map f k l]
    cases k == p.1 <;> rfl
theorem lookup_mem {α : Type} {k : Str} {x : α} : ∀ {l : List (Str × α)}, l.lookup k = some x → (k, x) ∈ l
  | [], h => by cases h
  | p :: l, h => by
    rw [List.lookup_cons] at h
    cases e : k == p.1 with
    | true =>
      rw [e] at h
      cases h
      rw [eq_of_beq e]
      exact List.mem_cons_self
    | false =>
      rw [e] at h
      exact List.mem_cons_of_mem _ (lookup_mem h)
theorem tab_forms (k : Str) : tab_FORMS.lookup k = (forms.lookup k).map fun ns => D.tup (ns.map .str) := lookup_map (fun ns : List Str => D.tup (ns.map .str)) k forms
theorem form_facts {k : Str} {names : List Str} (h : forms.lookup k = some names) : names.length ≤ 3 ∧ names ≠ [] ∧ (∀ nm ∈ names, okNm nm) ∧ (∀ pre post, names = pre ++ sExp :: post → pre = [sPath]) ∧ (k = sFace → names = [sPath, sExp]) := by
  have hm := lookup_mem h
  have h1 : ∀ p ∈ forms, (p.2.length ≤ 3 ∧ p.2 ≠ []) ∧ (p.1 = sFace → p.2 = [sPath, sExp]) := by decide +kernel
  have h2 : ∀ p ∈ forms, ∀ nm ∈ p.2, nm = sHow ∨ nm = sRows ∨ nm = sPath ∨ nm ∈ los.map (·.1) := by decide +kernel
  have h3 : ∀ p ∈ forms, sExp ∈ p.2 → p.2 = [sPath, sExp] := by decide +kernel
  obtain ⟨⟨g1, g2⟩, g3⟩ := h1 _ hm
  refine ⟨g1, g2, h2 _ hm, fun pre post e => ?_, g3⟩
  have e' := h3 _ hm (by show sExp ∈ names; rw [e]; simp)
  have e' : names = [sPath, sExp] := e'
  rw [e'] at e
  have ne : sPath ≠ sExp := by decide +kernel
  match pre, e with
  | [], e => exact absurd (by injection e) ne
  | [p], e => injection e with e1 e2; rw [e1]
  | p :: q :: r, e =>
    have := congrArg List.length e
    simp at this
abbrev wRule : D := .str (Str.ofString "rule")
abbrev wOver : D := .str (Str.ofString "overlap")
def mainPaths (k : Str) (names : List Str) (items : List D) : List D := if k = sFace then tupOf (items.getD 1 .non) else pthsOf (names.zip items)
def wordIn (k : Str) (names : List Str) (items : List D) : D :=
  match (names.zip items).find? fun p => !fit p.1 p.2 (items.headD .non) with
  | some p => .str p.1
  | none => if ovN (mainPaths k names items) (mainPaths k names items).length = true then wOver else .non
def wordD : D → D
  | .tup (.str k :: items) => match forms.lookup k with
    | none => wRule
    | some names => if items.length = names.length then wordIn k names items else wRule
  | _ => wRule
def spWord {m : Mem} : DSp m := fun ds s Q => ∃ d, ds = [d] ∧ V3 d ∧ Q (wordD d) s
theorem spWord_len {m : Mem} : ∀ ds s Qd, (spWord : DSp m) ds s Qd → ds.length = 1 := fun ds s Qd ⟨_, e, _⟩ => by rw [e]; rfl
theorem rp_len {x : Str} (h : rp (.str x) = true) : x.length ≤ 1000 := by
  have h : (decide ((splS 46 x).length ≤ 4) && (splS 46 x).all okName) = true := h
  rw [Bool.and_eq_true] at h
  have h1 := of_decide_eq_true h.1
  have h2 := List.all_eq_true.mp h.2
  have hs := sum_splS 46 x
  have : ∀ l : List Str, (∀ y ∈ l, okName y = true) → (l.map (·.length)).sum ≤ 8 * l.length := by
    intro l
    induction l with
    | nil => intro _; simp
    | cons y l ih =>
      intro hl
      have h8 := hl y (by simp)
      unfold okName okLen at h8
      rw [Bool.and_eq_true, Bool.and_eq_true] at h8
      have := of_decide_eq_true h8.1.2
      have := ih fun z hz => hl z (by simp [hz])
      rw [List.map_cons, List.sum_cons, List.length_cons]
      omega
  have := this _ h2
  omega
theorem eqi (a b : Int) : eqD (.int a) (.int b) = decide (a = b) := by
  show (a == b) = _
  by_cases h : a = b
  · rw [decide_eq_true h, h]; simp
  · rw [decide_eq_false h]; exact beq_eq_false_iff_ne.mpr h
theorem rps_ok {l u : Int} {d : D} (h : rps l u d = true) : ∃ xs, d = .tup xs ∧ ((xs.length : Nat) : Int) ≤ u ∧ ∀ x ∈ xs, okS x := by
  cases d with
  | tup xs =>
    have h : (decide _ && (decide _ && xs.all rp)) = true := h
    rw [Bool.and_eq_true, Bool.and_eq_true] at h
    refine ⟨xs, rfl, of_decide_eq_true h.2.1, fun x hx => ?_⟩
    have hr := List.all_eq_true.mp h.2.2 x hx
    obtain ⟨z, rfl⟩ := rp_str hr
    exact ⟨z, rfl, rp_len hr⟩
  | _ => cases h
theorem fit_ok {nm : Str} {it first : D} (hn : okNm nm) (h : fit nm it first = true) : Shp nm it ∧ ∀ x ∈ itemPaths nm it, okS x := by
  unfold fit at h
  unfold itemPaths
  by_cases c1 : nm = sHow
  · have n1 : nm ≠ sRows := by rw [c1]; decide +kernel
    have n2 : nm ≠ sPath := by rw [c1]; decide +kernel
    rw [if_neg n1, if_neg n2, if_pos c1]
    exact ⟨⟨fun z => absurd z n1, fun _ _ z => absurd c1 z⟩, fun x hx => by cases hx⟩
  rw [if_neg c1] at h
  by_cases c2 : nm = sRows
  · rw [if_pos c2] at h ⊢
    cases it with
    | tup rs =>
      have h : (decide _ && (decide _ && rs.all (rps 1 4))) = true := h
      rw [Bool.and_eq_true, Bool.and_eq_true] at h
      have h5 := of_decide_eq_true h.2.1
      have hr := List.all_eq_true.mp h.2.2
      refine ⟨⟨fun _ => ⟨rs, rfl, by omega, fun r hr' => ?_⟩, fun z => absurd c2 z⟩, fun x hx => ?_⟩
      · obtain ⟨xs, rfl, h4, _⟩ := rps_ok (hr r hr')
        exact ⟨xs, rfl, by omega⟩
      · obtain ⟨r, hr', hx⟩ := List.mem_flatMap.mp hx
        obtain ⟨xs, rfl, _, ho⟩ := rps_ok (hr r hr')
        exact ho x hx
    | _ => cases h
  rw [if_neg c2] at h ⊢
  by_cases c3 : nm = sPath
  · rw [if_pos c3] at h ⊢
    refine ⟨⟨fun z => absurd z c2, fun _ z => absurd c3 z⟩, fun x hx => ?_⟩
    have : x = it := by simpa using hx
    subst this
    obtain ⟨z, rfl⟩ := rp_str h
    exact ⟨z, rfl, rp_len h⟩
  rw [if_neg c3] at h ⊢
  rw [if_neg c1]
  have hm : nm ∈ los.map (·.1) := by
    rcases hn with z | z | z | z
    · exact absurd z c1
    · exact absurd z c2
    · exact absurd z c3
    · exact z
  obtain ⟨_, _, _, l, e1, _⟩ := los_sizes hm
  rw [e1] at h
  have h : (rps l 6 it && _) = true := h
  rw [Bool.and_eq_true] at h
  obtain ⟨xs, rfl, h6, ho⟩ := rps_ok h.1
  exact ⟨⟨fun z => absurd z c2, fun _ _ _ => ⟨xs, rfl, by omega⟩⟩, ho⟩
theorem zip_fst {names : List Str} {items : List D} {p : Str × D} (h : p ∈ names.zip items) : p.1 ∈ names := (List.of_mem_zip (show (p.1, p.2) ∈ names.zip items from h)).1
theorem zip_snd {names : List Str} {items : List D} {p : Str × D} (h : p ∈ names.zip items) : p.2 ∈ items := (List.of_mem_zip (show (p.1, p.2) ∈ names.zip items from h)).2
theorem find_all {α : Type} {f : α → Bool} {l : List α} (h : ∀ x ∈ l, f x = true) : l.find? (fun x => !f x) = none := List.find?_eq_none.mpr fun x hx => by rw [h x hx]; simp
theorem find_first {α : Type} {f : α → Bool} {ps rest : List α} {x : α} (h : ∀ y ∈ ps, f y = true) (hx : f x = false) : (ps ++ x :: rest).find? (fun x => !f x) = some x := by
  rw [List.find?_append, find_all h, List.find?_cons, hx]
  rfl
theorem dic_forms {α : Type} (g : α → D) (k : Str) : ∀ l : List (Str × α), dicGet (keysOf (l.map (·.1))) (l.map fun p => g p.2) (.inr k) = (l.lookup k).map g
  | [] => rfl
  | p :: l => by
    show (if (Sum.inr p.1 : Key) = .inr k then some (g p.2) else dicGet (keysOf (l.map (·.1))) (l.map fun p => g p.2) (.inr k)) = _
    rw [dic_forms g k l, List.lookup_cons]
    by_cases h : k = p.1
    · rw [if_pos (by rw [h]), h, beq_self_eq_true]; rfl
    · rw [if_neg (fun z => h (Sum.inr.inj z).symm), beq_eq_false_iff_ne.mpr h]
def lawIt (nm : Str) (it : D) : List D := if inTx (.str nm) [sRows, sHow, sPath] = true then [] else tupOf it
def lawPs (ps : List (Str × D)) : List D := ps.flatMap fun p => lawIt p.1 p.2
theorem lawPs_app (ps : List (Str × D)) (p : Str × D) : lawPs (ps ++ [p]) = lawPs ps ++ lawIt p.1 p.2 := by
  unfold lawPs
  rw [List.flatMap_append]
  simp
theorem fit_first {nm : Str} (h : nm ≠ sExp) (it a b : D) : fit nm it a = fit nm it b := by
  unfold fit
  cases los.lookup nm <;> simp only [if_neg h]
theorem it_tup {nm : Str} (h : nm = Str.ofString "sources" ∨ nm = Str.ofString "targets" ∨ nm = Str.ofString "users" ∨ nm = Str.ofString "paths" ∨ nm = Str.ofString "exposed") (it : D) : itemPaths nm it = tupOf it ∧ lawIt nm it = tupOf it := by
  have h3 : nm ≠ sRows ∧ nm ≠ sPath ∧ nm ≠ sHow ∧ inTx (.str nm) [sRows, sHow, sPath] = false := by rcases h with rfl | rfl | rfl | rfl | rfl <;> decide +kernel
  obtain ⟨g1, g2, g3, g4⟩ := h3
  constructor
  · unfold itemPaths; rw [if_neg g1, if_neg g2, if_neg g3]
  · unfold lawIt; rw [g4]; rfl
theorem it_none {nm : Str} (h : nm = sRows ∨ nm = sHow ∨ nm = sPath) (it : D) : lawIt nm it = [] := by
  have g : inTx (.str nm) [sRows, sHow, sPath] = true := by rcases h with rfl | rfl | rfl <;> decide +kernel
  unfold lawIt; rw [g]; rfl
theorem it_rows (it : D) : itemPaths sRows it = (tupOf it).flatMap tupOf := by unfold itemPaths; rw [if_pos rfl]
theorem it_how (it : D) : itemPaths sHow it = [] := by
  have g1 : sHow ≠ sRows := by decide +kernel
  have g2 : sHow ≠ sPath := by decide +kernel
  unfold itemPaths; rw [if_neg g1, if_neg g2, if_pos rfl]
theorem main_eq {k : Str} {names : List Str} {items : List D} (ef : forms.lookup k = some names) (hl : items.length = names.length) :
    lawPs (names.zip items) ++ (if names.headD sHow = sRows then (tupOf (items.headD .non)).flatMap tupOf else []) = mainPaths k names items := by
  have hm : (k, names) ∈ forms := lookup_mem ef
  have s1 : ∀ it, itemPaths (Str.ofString "sources") it = tupOf it ∧ lawIt (Str.ofString "sources") it = tupOf it := it_tup (by simp)
  have s2 : ∀ it, itemPaths (Str.ofString "targets") it = tupOf it ∧ lawIt (Str.ofString "targets") it = tupOf it := it_tup (by simp)
  have s3 : ∀ it, itemPaths (Str.ofString "users") it = tupOf it ∧ lawIt (Str.ofString "users") it = tupOf it := it_tup (by simp)
  have s4 : ∀ it, itemPaths (Str.ofString "paths") it = tupOf it ∧ lawIt (Str.ofString "paths") it = tupOf it := it_tup (by simp)
  have s5 : ∀ it, itemPaths (Str.ofString "exposed") it = tupOf it ∧ lawIt (Str.ofString "exposed") it = tupOf it := it_tup (by simp)
  have r1 : ∀ it, lawIt (Str.ofString "rows") it = [] := it_none (by simp)
  have r2 : ∀ it, lawIt (Str.ofString "how") it = [] := it_none (by simp)
  have r3 : ∀ it, lawIt (Str.ofString "path") it = [] := it_none (by simp)
  have nr : ∀ x ∈ [Str.ofString "sources", Str.ofString "targets", Str.ofString "paths", Str.ofString "path"], x ≠ sRows := by decide +kernel
  have nf : ∀ x ∈ [Str.ofString "forbid", Str.ofString "layers", Str.ofString "stairs", Str.ofString "apart", Str.ofString "only", Str.ofString "noring"], x ≠ sFace := by decide +kernel
  have hc : (k = Str.ofString "forbid" ∧ names = [Str.ofString "sources", Str.ofString "targets", Str.ofString "how"]) ∨ (k = Str.ofString "layers" ∧ names = [Str.ofString "rows", Str.ofString "how"]) ∨ (k = Str.ofString "stairs" ∧ names = [Str.ofString "rows"]) ∨
      (k = Str.ofString "apart" ∧ names = [Str.ofString "paths", Str.ofString "how"]) ∨ (k = Str.ofString "only" ∧ names = [Str.ofString "targets", Str.ofString "users"]) ∨ (k = Str.ofString "face" ∧ names = [Str.ofString "path", Str.ofString "exposed"]) ∨ (k = Str.ofString "noring" ∧ names = [Str.ofString "paths"]) := by
    simpa only [forms, List.mem_cons, Prod.mk.injEq, List.not_mem_nil, or_false] using hm
  unfold mainPaths
  rcases hc with ⟨rfl, rfl⟩ | ⟨rfl, rfl⟩ | ⟨rfl, rfl⟩ | ⟨rfl, rfl⟩ | ⟨rfl, rfl⟩ | ⟨rfl, rfl⟩ | ⟨rfl, rfl⟩
  · match items, hl with
    | [i0, i1, i2], _ =>
      rw [if_neg (nf _ (by simp)), show List.headD [Str.ofString "sources", Str.ofString "targets", Str.ofString "how"] sHow = Str.ofString "sources" from rfl, if_neg (nr _ (by simp))]
      show lawIt _ i0 ++ (lawIt _ i1 ++ (lawIt _ i2 ++ [])) ++ [] = itemPaths _ i0 ++ (itemPaths _ i1 ++ (itemPaths _ i2 ++ []))
      rw [(s1 i0).1, (s1 i0).2, (s2 i1).1, (s2 i1).2, it_how, r2, List.append_nil]
  · match items, hl with
    | [i0, i1], _ =>
      rw [if_neg (nf _ (by simp)), show List.headD [Str.ofString "rows", Str.ofString "how"] sHow = sRows from rfl, if_pos rfl]
      show lawIt _ i0 ++ (lawIt _ i1 ++ []) ++ (tupOf i0).flatMap tupOf = itemPaths _ i0 ++ (itemPaths _ i1 ++ [])
      rw [r1, r2, it_rows, it_how]
      simp
  · match items, hl with
    | [i0], _ =>
      rw [if_neg (nf _ (by simp)), show List.headD [Str.ofString "rows"] sHow = sRows from rfl, if_pos rfl]
      show lawIt _ i0 ++ [] ++ (tupOf i0).flatMap tupOf = itemPaths _ i0 ++ []
      rw [r1, it_rows]
      simp
  · match items, hl with
    | [i0, i1], _ =>
      rw [if_neg (nf _ (by simp)), show List.headD [Str.ofString "paths", Str.ofString "how"] sHow = Str.ofString "paths" from rfl, if_neg (nr _ (by simp))]
      show lawIt _ i0 ++ (lawIt _ i1 ++ []) ++ [] = itemPaths _ i0 ++ (itemPaths _ i1 ++ [])
      rw [(s4 i0).1, (s4 i0).2, it_how, r2, List.append_nil]
  · match items, hl with
    | [i0, i1], _ =>
      rw [if_neg (nf _ (by simp)), show List.headD [Str.ofString "targets", Str.ofString "users"] sHow = Str.ofString "targets" from rfl, if_neg (nr _ (by simp))]
      show lawIt _ i0 ++ (lawIt _ i1 ++ []) ++ [] = itemPaths _ i0 ++ (itemPaths _ i1 ++ [])
      rw [(s2 i0).1, (s2 i0).2, (s3 i1).1, (s3 i1).2, List.append_nil]
  · match items, hl with
    | [i0, i1], _ =>
      rw [if_pos rfl, show List.headD [Str.ofString "path", Str.ofString "exposed"] sHow = Str.ofString "path" from rfl, if_neg (nr _ (by simp))]
      show lawIt _ i0 ++ (lawIt _ i1 ++ []) ++ [] = tupOf i1
      rw [r3, (s5 i1).2]
      simp
  · match items, hl with
    | [i0], _ =>
      rw [if_neg (nf _ (by simp)), show List.headD [Str.ofString "paths"] sHow = Str.ofString "paths" from rfl, if_neg (nr _ (by simp))]
      show lawIt _ i0 ++ [] ++ [] = itemPaths _ i0 ++ []
      rw [(s4 i0).1, (s4 i0).2, List.append_nil]
theorem key_nin {k : Str} {ks : List Str} (h : k ∉ ks) : (Sum.inr k : Key) ∉ keysOf ks := fun z => by
  obtain ⟨x, hx, e⟩ := List.mem_map.mp z
  exact h (Sum.inr.inj e ▸ hx)
theorem ovN_mono {xs : List D} {n : Nat} (h : ovN xs n = true) : ∀ m, n ≤ m → ovN xs m = true
  | 0, hm => by
    have : n = 0 := by omega
    rw [← this]; exact h
  | m + 1, hm => by
    by_cases e : n = m + 1
    · rw [← e]; exact h
    · show (ovN xs m || _) = true
      rw [ovN_mono h m (by omega), Bool.true_or]
theorem ovN_at {xs : List D} {n : Nat} {p : D} (h : xs[n]? = some p) : ovN xs (n + 1) = (ovN xs n || (xs.take n).any (ovs p)) := by
  show (ovN xs n || (match xs[n]? with | some p => _ | none => false)) = _
  rw [h]
theorem filter_any {α : Type} {f : α → Bool} {l : List α} : (l.filter f).isEmpty = !l.any f := by
  cases h : l.any f with
  | true =>
    obtain ⟨x, hx, hf⟩ := List.any_eq_true.mp h
    cases e : l.filter f with
    | nil =>
      have : x ∈ l.filter f := List.mem_filter.mpr ⟨hx, hf⟩
      rw [e] at this
      cases this
    | cons a r => rfl
  | false =>
    have : l.filter f = [] := List.filter_eq_nil_iff.mpr fun x hx hf => by
      rw [List.any_eq_true.mpr ⟨x, hx, hf⟩] at h
      cases h
    rw [this]; rfl
theorem nin {nm : Str} (h : inTx (.str nm) [sRows, sHow, sPath] = false) : nm ≠ sRows ∧ nm ≠ sHow ∧ nm ≠ sPath := by
  refine ⟨fun e => ?_, fun e => ?_, fun e => ?_⟩ <;> subst e <;> exact absurd h (by decide +kernel)
theorem Shp.law {nm : Str} {it : D} (h : Shp nm it) : (lawIt nm it).length ≤ 6 := by
  unfold lawIt
  cases e : inTx (.str nm) [sRows, sHow, sPath] with
  | true => rw [if_pos rfl]; simp
  | false =>
    rw [if_neg (by simp)]
    obtain ⟨g1, g2, g3⟩ := nin e
    obtain ⟨xs, rfl, hx⟩ := h.2 g1 g3 g2
    exact hx
theorem law_few : ∀ {ps : List (Str × D)}, (∀ p ∈ ps, Shp p.1 p.2) → (lawPs ps).length ≤ 6 * ps.length
  | [], _ => by simp [lawPs]
  | p :: ps, h => by
    have h1 := (h p (by simp)).law
    have h2 := law_few fun q hq => h q (List.mem_cons_of_mem _ hq)
    show ((lawIt p.1 p.2) ++ lawPs ps).length ≤ _
    rw [List.length_append, List.length_cons]
    omega
theorem word_kind (d : D) : wordD d = .non ∨ ∃ x, wordD d = .str x := by
  unfold wordD
  split
  · split
    · exact .inr ⟨_, rfl⟩
    · split
      · unfold wordIn
        split
        · exact .inr ⟨_, rfl⟩
        · split
          · exact .inr ⟨_, rfl⟩
          · exact .inl rfl
      · exact .inr ⟨_, rfl⟩
  · exact .inr ⟨_, rfl⟩
/-- what may be picked of it -/
def itemsOf : D → List D
  | .lst xs => xs
  | .str z => (tl z).map fun c => .str ⟨#[c]⟩
  | _ => []
def spPick : DSp Mem.deck := fun ds s Q => ∃ a b c x, s.adr = some (a, b, c) ∧ ds = [.any (.ref a), x] ∧ itemsOf x ≠ [] ∧ (itemsOf x).length ≤ 1000 ∧ s.n < drawLim ∧ ∀ d k, d ∈ itemsOf x → k = s.n + 1 → Q d ⟨s.adr, k⟩
theorem spPick_len : ∀ ds s Qd, spPick ds s Qd → ds.length = 2 := fun ds s Qd ⟨_, _, _, _, _, e, _⟩ => by rw [e]; rfl
theorem shown_int40 {i : Int} (h : i.natAbs < 10 ^ 40) : (PyData.shown (.int i)).length ≤ 41 := by
  have e := int_text_length_le10 (k := 40) (by decide) h
  show (Str.ofString (toString i)).length ≤ 41
  rw [PySem.ofString_length]; exact e
/-! ### values that may be shown: their leaves, their depth, their weight -/
mutual
def gl : D → Bool
  | .non => true
  | .bl _ => true
  | .int i => decide (i.natAbs < 10 ^ 40)
  | .str x => (tl x).all fun c => decide (c < 1114112)
  | .lst xs => gls xs
  | .tup xs => gls xs
  | .dic ks xs => glk ks xs
  | _ => false
def gls : List D → Bool
  | [] => true
  | d :: ds => gl d && gls ds
def glk : List Key → List D → Bool
  | [], [] => true
  | .inr x :: ks, d :: ds => ((tl x).all fun c => decide (c < 1114112)) && (gl d && glk ks ds)
  | _, _ => false
end
theorem str_leaf {B : Nat} {x : Str} (h : ((tl x).all fun c => decide (c < 1114112)) = true) : (PyData.str x).leavesShort B = true := by
  show (x.cps.toList.all fun c => decide (c < 16 ^ 8)) = true
  rw [List.all_eq_true] at h ⊢
  intro c hc
  have := of_decide_eq_true (h c hc)
  exact decide_eq_true (by omega)
mutual
theorem gl_leaves : ∀ d : D, gl d = true → (pyR d).leavesShort 41 = true ∧ (pyR d).showable = true
  | .non, _ => ⟨rfl, rfl⟩
  | .bl _, _ => ⟨rfl, rfl⟩
  | .int i, h => by
    have h : decide (i.natAbs < 10 ^ 40) = true := h
    have h := of_decide_eq_true h
    refine ⟨decide_eq_true (shown_int40 h), decide_eq_true ?_⟩
    have : i.natAbs.log2 < 1920 := by
      by_cases hz : i.natAbs = 0
      · rw [hz]; decide
      · have : i.natAbs.log2 < 200 := (Nat.log2_lt hz).mpr (Nat.lt_of_lt_of_le h (by decide))
        omega
    exact this
  | .str x, h => ⟨str_leaf h, rfl⟩
  | .lst xs, h => gls_leaves xs h
  | .tup xs, h => gls_leaves xs h
  | .dic ks xs, h => glk_leaves ks xs h
  | .ins _ _ _, h => by cases h
  | .any _, h => by cases h
  | .fz _, h => by cases h
  | .exc _ _ _, h => by cases h
theorem gls_leaves : ∀ ds : List D, gls ds = true → PyData.leavesShortAll 41 (pyRs ds) = true ∧ PyData.showableAll (pyRs ds) = true
  | [], _ => ⟨rfl, rfl⟩
  | d :: ds, h => by
    have h : (gl d && gls ds) = true := h
    rw [Bool.and_eq_true] at h
    obtain ⟨a1, a2⟩ := gl_leaves d h.1
    obtain ⟨b1, b2⟩ := gls_leaves ds h.2
    constructor
    · show (_ && _) = true; rw [a1, b1]; rfl
    · show (_ && _) = true; rw [a2, b2]; rfl
theorem glk_leaves : ∀ (ks : List Key) (ds : List D), glk ks ds = true → PyData.leavesShortKv 41 (pyRk ks ds) = true ∧ PyData.showableKv (pyRk ks ds) = true
  | [], [], _ => ⟨rfl, rfl⟩
  | .inl i :: ks, [], h => by cases h
  | .inl i :: ks, d :: ds, h => by cases h
  | .inr x :: ks, d :: ds, h => by
    have h : (((tl x).all fun c => decide (c < 1114112)) && (gl d && glk ks ds)) = true := h
    rw [Bool.and_eq_true, Bool.and_eq_true] at h
    obtain ⟨a1, a2⟩ := gl_leaves d h.2.1
    obtain ⟨b1, b2⟩ := glk_leaves ks ds h.2.2
    have c1 := str_leaf (B := 41) h.1
    constructor
    · show ((PyData.leavesShort 41 (.str x) && _) && _) = true
      rw [c1, a1, b1]; rfl
    · show ((PyData.showable (.str x) && _) && _) = true
      rw [a2, b2]; rfl
  | [], _ :: _, h => by cases h
  | .inr _ :: _, [], h => by cases h
end
theorem repOk_of {d : D} (h1 : repD 60 d = true) (h2 : gl d = true) (h3 : (pyR d).weight ≤ 100000) : repOk d = true := by
  obtain ⟨a1, a2⟩ := gl_leaves d h2
  have h := PyData.shown_le 41 (by decide) (pyR d) a1
  unfold repOk
  rw [h1, a2, Bool.true_and, Bool.true_and]
  refine decide_eq_true (Nat.le_trans h ?_)
  have : (4400000 : Nat) ≤ sizeLine := by rw [sizeLine_eq]; decide
  omega
def valB (d : D) : Bool := (tyT d).isSome && (match d with | .str x => decide (x.length ≤ 10000) | _ => true)
def upB (f : D → Bool) (d : D) : Bool := valB d && (match d with | .tup xs => decide (xs.length ≤ 100000) && xs.all f | _ => true)
mutual
/-- texts and tuples of few signs and items -/
def sm (N : Nat) : D → Bool
  | .non => true
  | .bl _ => true
  | .int _ => true
  | .lst _ => true
  | .dic _ _ => true
  | .str x => decide (x.length ≤ N)
  | .tup xs => decide (xs.length ≤ N) && sms N xs
  | _ => false
def sms (N : Nat) : List D → Bool
  | [] => true
  | d :: ds => sm N d && sms N ds
end
theorem sms_iff {N : Nat} : ∀ {xs : List D}, sms N xs = true ↔ ∀ x ∈ xs, sm N x = true
  | [] => ⟨fun _ _ h => (by cases h), fun _ => rfl⟩
  | d :: ds => by
    show (sm N d && sms N ds) = true ↔ _
    rw [Bool.and_eq_true, sms_iff, List.forall_mem_cons]
theorem gls_iff : ∀ {xs : List D}, gls xs = true ↔ ∀ x ∈ xs, gl x = true
  | [] => ⟨fun _ _ h => (by cases h), fun _ => rfl⟩
  | d :: ds => by
    show (gl d && gls ds) = true ↔ _
    rw [Bool.and_eq_true, gls_iff, List.forall_mem_cons]
theorem repDs_iff {n : Nat} : ∀ {xs : List D}, repDs n xs = true ↔ ∀ x ∈ xs, repD n x = true
  | [] => ⟨fun _ _ h => by (cases h), fun _ => by simp [repDs]⟩
  | d :: ds => by
    simp only [repDs]
    rw [Bool.and_eq_true, repDs_iff, List.forall_mem_cons]
theorem rep_tup {n : Nat} {xs : List D} : repD (n + 1) (.tup xs) = repDs n xs := by simp only [repD]
theorem rep_lst {n : Nat} {xs : List D} : repD (n + 1) (.lst xs) = repDs n xs := by simp only [repD]
theorem rep_tup0 {xs : List D} : repD 0 (.tup xs) = false := by simp only [repD]
mutual
theorem rep_mono : ∀ (n : Nat) (d : D), repD n d = true → repD (n + 1) d = true
  | n, .non, _ => by simp [repD]
  | n, .bl _, _ => by simp [repD]
  | n, .int _, _ => by simp [repD]
  | n, .str _, _ => by simp [repD]
  | 0, .lst _, h => by simp [repD] at h
  | n + 1, .lst xs, h => by
    simp only [repD] at h ⊢
    exact reps_mono n xs h
  | 0, .tup _, h => by simp [repD] at h
  | n + 1, .tup xs, h => by
    simp only [repD] at h ⊢
    exact reps_mono n xs h
  | 0, .dic _ _, h => by simp [repD] at h
  | n + 1, .dic _ xs, h => by
    simp only [repD] at h ⊢
    exact reps_mono n xs h
  | n, .ins _ _ _, h => by simp [repD] at h
  | n, .any _, h => by simp [repD] at h
  | n, .fz _, h => by simp [repD] at h
  | n, .exc _ _ _, h => by simp [repD] at h
theorem reps_mono : ∀ (n : Nat) (ds : List D), repDs n ds = true → repDs (n + 1) ds = true
  | n, [], _ => by simp [repDs]
  | n, d :: ds, h => by
    simp only [repDs] at h ⊢
    rw [Bool.and_eq_true] at h ⊢
    exact ⟨rep_mono n d h.1, reps_mono n ds h.2⟩
end
theorem rep_le {d : D} {n : Nat} (h : repD n d = true) : ∀ m, n ≤ m → repD m d = true
  | 0, hm => by
    have e : n = 0 := by omega
    rw [e] at h; exact h
  | m + 1, hm => by
    by_cases e : n = m + 1
    · rw [← e]; exact h
    · exact rep_mono m d (rep_le h m (by omega))
theorem sm_val {N : Nat} {d : D} (h : sm N d = true) (hN : N ≤ 10000) : Val d := by
  cases d with
  | str x => exact val_s (Nat.le_trans (of_decide_eq_true h) hN)
  | non => exact val_o rfl (by intro z; cases z)
  | bl _ => exact val_o rfl (by intro z; cases z)
  | int _ => exact val_o rfl (by intro z; cases z)
  | lst _ => exact val_o rfl (by intro z; cases z)
  | tup _ => exact val_o rfl (by intro z; cases z)
  | dic _ _ => exact val_o rfl (by intro z; cases z)
  | _ => cases h
theorem sm_tup {N : Nat} {xs : List D} (h : sm N (.tup xs) = true) : xs.length ≤ N ∧ ∀ x ∈ xs, sm N x = true := by
  have h : (decide (xs.length ≤ N) && sms N xs) = true := h
  rw [Bool.and_eq_true] at h
  exact ⟨of_decide_eq_true h.1, sms_iff.mp h.2⟩
theorem tup_sm {N : Nat} {xs : List D} (h1 : xs.length ≤ N) (h2 : ∀ x ∈ xs, sm N x = true) : sm N (.tup xs) = true := by
  show (decide (xs.length ≤ N) && sms N xs) = true
  rw [decide_eq_true h1, sms_iff.mpr h2]; rfl
theorem sm_v3 {N : Nat} {d : D} (h : sm N d = true) (hN : N ≤ 10000) : V3 d :=
  ⟨sm_val h hN, fun xs e => by
    subst e
    obtain ⟨a1, a2⟩ := sm_tup h
    exact ⟨by omega, fun x hx => ⟨sm_val (a2 x hx) hN, fun ys e => by
      subst e
      obtain ⟨b1, b2⟩ := sm_tup (a2 _ hx)
      exact ⟨by omega, fun y hy => ⟨sm_val (b2 y hy) hN, fun zs e => by
        subst e
        obtain ⟨c1, c2⟩ := sm_tup (b2 _ hy)
        exact ⟨by omega, fun z hz => sm_val (c2 z hz) hN⟩⟩⟩⟩⟩⟩
mutual
theorem sm_mono {N M : Nat} (hN : N ≤ M) : ∀ d : D, sm N d = true → sm M d = true
  | .non, _ => rfl
  | .bl _, _ => rfl
  | .int _, _ => rfl
  | .lst _, _ => rfl
  | .dic _ _, _ => rfl
  | .str _, h => decide_eq_true (Nat.le_trans (of_decide_eq_true h) hN)
  | .tup xs, h => by
    have h : (decide (xs.length ≤ N) && sms N xs) = true := h
    rw [Bool.and_eq_true] at h
    show (decide (xs.length ≤ M) && sms M xs) = true
    rw [decide_eq_true (Nat.le_trans (of_decide_eq_true h.1) hN), sms_mono hN xs h.2]; rfl
  | .ins _ _ _, h => by cases h
  | .any _, h => by cases h
  | .fz _, h => by cases h
  | .exc _ _ _, h => by cases h
theorem sms_mono {N M : Nat} (hN : N ≤ M) : ∀ ds : List D, sms N ds = true → sms M ds = true
  | [], _ => rfl
  | d :: ds, h => by
    have h : (sm N d && sms N ds) = true := h
    rw [Bool.and_eq_true] at h
    show (sm M d && sms M ds) = true
    rw [sm_mono hN d h.1, sms_mono hN ds h.2]; rfl
end
def wt (d : D) : Nat := (pyR d).weight
def wl (xs : List D) : Nat := PyData.weightAll (pyRs xs)
theorem wl_cons (d : D) (ds : List D) : wl (d :: ds) = wt d + 1 + wl ds := by
  show PyData.weightAll (pyR d :: pyRs ds) = _
  simp only [PyData.weightAll]; rfl
theorem wl_nil : wl [] = 0 := by show PyData.weightAll [] = 0; simp only [PyData.weightAll]
theorem wt_tup (xs : List D) : wt (.tup xs) = wl xs := by
  show (PyData.tuple (pyRs xs)).weight = _
  simp only [PyData.weight]; rfl
theorem wt_lst (xs : List D) : wt (.lst xs) = wl xs := by
  show (PyData.list (pyRs xs)).weight = _
  simp only [PyData.weight]; rfl
theorem wt_str (x : Str) : wt (.str x) = x.length := by
  show (PyData.str x).weight = _
  simp only [PyData.weight]; rfl
theorem wl_app (xs ys : List D) : wl (xs ++ ys) = wl xs + wl ys := by
  induction xs with
  | nil => rw [List.nil_append, wl_nil]; omega
  | cons d ds ih => rw [List.cons_append, wl_cons, wl_cons, ih]; omega
theorem wl_take (n : Nat) (xs : List D) : wl (xs.take n) ≤ wl xs := by
  have h := wl_app (xs.take n) (xs.drop n)
  rw [List.take_append_drop] at h
  omega
theorem wl_drop (n : Nat) (xs : List D) : wl (xs.drop n) ≤ wl xs := by
  have h := wl_app (xs.take n) (xs.drop n)
  rw [List.take_append_drop] at h
  omega
theorem wl_rev (xs : List D) : wl xs.reverse = wl xs := by
  induction xs with
  | nil => rfl
  | cons d ds ih => rw [List.reverse_cons, wl_app, ih, wl_cons, wl_cons, wl_nil]; omega
theorem wl_mem {x : D} {xs : List D} (h : x ∈ xs) : wt x + 1 ≤ wl xs := by
  induction xs with
  | nil => cases h
  | cons d ds ih =>
    rw [wl_cons]
    rcases List.mem_cons.mp h with rfl | h
    · omega
    · have := ih h; omega
/-- what the drawing defs give: asked about and shown -/
structure Gd (N W n : Nat) (d : D) : Prop where
  s : sm N d = true
  r : repD n d = true
  g : gl d = true
  w : wt d ≤ W
structure Gs (N W n : Nat) (xs : List D) : Prop where
  s : ∀ x ∈ xs, sm N x = true
  r : ∀ x ∈ xs, repD n x = true
  g : ∀ x ∈ xs, gl x = true
  w : wl xs ≤ W
theorem Gd.mono {N W n N' W' n' : Nat} {d : D} (h : Gd N W n d) (h1 : N ≤ N') (h2 : W ≤ W') (h3 : n ≤ n') : Gd N' W' n' d := ⟨sm_mono h1 d h.s, rep_le h.r _ h3, h.g, Nat.le_trans h.w h2⟩
theorem Gs.mono {N W n N' W' n' : Nat} {d : List D} (h : Gs N W n d) (h1 : N ≤ N') (h2 : W ≤ W') (h3 : n ≤ n') : Gs N' W' n' d := ⟨fun x hx => sm_mono h1 x (h.s x hx), fun x hx => rep_le (h.r x hx) _ h3, h.g, Nat.le_trans h.w h2⟩
theorem Gd.items {N W n : Nat} {xs : List D} (h : Gd N W (n + 1) (.tup xs)) : Gs N W n xs ∧ xs.length ≤ N := by
  obtain ⟨h1, h2⟩ := sm_tup h.s
  have hr := h.r
  rw [rep_tup] at hr
  have hw := h.w
  rw [wt_tup] at hw
  exact ⟨⟨h2, repDs_iff.mp hr, gls_iff.mp h.g, hw⟩, h1⟩
theorem Gs.tup {N W n : Nat} {xs : List D} (h : Gs N W n xs) (hl : xs.length ≤ N) : Gd N W (n + 1) (.tup xs) :=
  ⟨tup_sm hl h.s, by rw [rep_tup]; exact repDs_iff.mpr h.r, gls_iff.mpr h.g, by rw [wt_tup]; exact h.w⟩
theorem Gs.lst {N W n : Nat} {xs : List D} (h : Gs N W n xs) : Gd N W (n + 1) (.lst xs) :=
  ⟨rfl, by rw [rep_lst]; exact repDs_iff.mpr h.r, gls_iff.mpr h.g, by rw [wt_lst]; exact h.w⟩
theorem Gs.app {N W W' n : Nat} {xs ys : List D} (h : Gs N W n xs) (h' : Gs N W' n ys) : Gs N (W + W') n (xs ++ ys) :=
  ⟨fun x hx => (List.mem_append.mp hx).elim (h.s x) (h'.s x), fun x hx => (List.mem_append.mp hx).elim (h.r x) (h'.r x), fun x hx => (List.mem_append.mp hx).elim (h.g x) (h'.g x), by rw [wl_app]; have := h.w; have := h'.w; omega⟩
theorem Gs.one {N W n : Nat} {x : D} (h : Gd N W n x) : Gs N (W + 1) n [x] :=
  ⟨fun y hy => by rw [List.mem_singleton.mp hy]; exact h.s, fun y hy => by rw [List.mem_singleton.mp hy]; exact h.r, fun y hy => by rw [List.mem_singleton.mp hy]; exact h.g, by rw [wl_cons, wl_nil]; have := h.w; omega⟩
theorem Gs.cut {N W n : Nat} {xs : List D} (h : Gs N W n xs) (lo hi : Option Int) : Gs N W n (DL.cutD xs lo hi) := by
  have sub : ∀ x ∈ DL.cutD xs lo hi, x ∈ xs := fun x hx => List.mem_of_mem_drop (List.mem_of_mem_take hx)
  exact ⟨fun x hx => h.s x (sub x hx), fun x hx => h.r x (sub x hx), fun x hx => h.g x (sub x hx), Nat.le_trans (wl_take _ _) (Nat.le_trans (wl_drop _ _) h.w)⟩
theorem Gs.rev {N W n : Nat} {xs : List D} (h : Gs N W n xs) : Gs N W n xs.reverse :=
  ⟨fun x hx => h.s x (List.mem_reverse.mp hx), fun x hx => h.r x (List.mem_reverse.mp hx), fun x hx => h.g x (List.mem_reverse.mp hx), by rw [wl_rev]; exact h.w⟩
theorem Gs.mem {N W n : Nat} {xs : List D} (h : Gs N W n xs) {x : D} (hx : x ∈ xs) : Gd N W n x := ⟨h.s x hx, h.r x hx, h.g x hx, by have := wl_mem hx; have := h.w; omega⟩
theorem cutD_len (xs : List D) (lo hi : Option Int) : (DL.cutD xs lo hi).length ≤ xs.length := by
  unfold DL.cutD
  rw [List.length_take, List.length_drop]
  omega
theorem Gd.right {N W n : Nat} {d : D} (h : Gd N W n d) (h1 : N ≤ 10000) (h2 : W ≤ 100000) (h3 : n ≤ 60) : V3 d ∧ repOk d = true :=
  ⟨sm_v3 h.s h1, repOk_of (rep_le h.r _ h3) h.g (Nat.le_trans h.w h2)⟩
def gdB (N W n : Nat) (d : D) : Bool := sm N d && (repD n d && (gl d && decide (wt d ≤ W)))
theorem gd_of {N W n : Nat} {d : D} (h : gdB N W n d = true) : Gd N W n d := by
  unfold gdB at h
  rw [Bool.and_eq_true, Bool.and_eq_true, Bool.and_eq_true] at h
  exact ⟨h.1, h.2.1, h.2.2.1, of_decide_eq_true h.2.2.2⟩
theorem gd_str {x : Str} {N : Nat} (h : x.length ≤ N) (hc : ∀ c ∈ tl x, c < 1114112) (n : Nat) : Gd N N n (.str x) :=
  ⟨decide_eq_true h, by simp [repD], List.all_eq_true.mpr fun c hx => decide_eq_true (hc c hx), by rw [wt_str]; exact h⟩
mutual
/-- tuples and texts of ASCII alone -/
def ts : D → Bool
  | .str x => (tl x).all fun c => decide (c < 128)
  | .tup xs => tss xs
  | _ => false
def tss : List D → Bool
  | [] => true
  | d :: ds => ts d && tss ds
end
theorem tss_iff : ∀ {xs : List D}, tss xs = true ↔ ∀ x ∈ xs, ts x = true
  | [] => ⟨fun _ _ h => (by cases h), fun _ => rfl⟩
  | d :: ds => by
    show (ts d && tss ds) = true ↔ _
    rw [Bool.and_eq_true, tss_iff, List.forall_mem_cons]
abbrev sA : D := .str (Str.ofString "a")
abbrev sB : D := .str (Str.ofString "b")
def oddL : List D := [.non, .bl true, .bl false, .int 0, .int 1, .int (-1), .int 7, .int (10 ^ 30), .str (Str.ofString ""), sA, .str (Str.ofString "a.b"), .str (Str.ofString "direct"), .str (Str.ofString "forbid"), .str (Str.ofString "apart"), .str (Str.ofString "cases"),
  .tup [], .tup [sA], .tup [sA, sB], .tup [.tup [sA, sB]], .lst [], .lst [sA, sB], .dic [] [], .dic (keysOf [Str.ofString "a"]) [sB], .tup [.non], .tup [.lst []], .tup [.str (Str.ofString "A"), .int 0]]
theorem odd_gd : ∀ d ∈ oddL, gdB 20 200 3 d = true := by
  intro d hd
  have : oddL.all (gdB 20 200 3) = true := by decide +kernel
  exact List.all_eq_true.mp this d hd
def spOdd : DSp Mem.deck := fun ds s Q => ∃ a b c, s.adr = some (a, b, c) ∧ ds = [.any (.ref a)] ∧ s.n < drawLim ∧ ∀ d k, Gd 20 200 3 d → k = s.n + 1 → Q d ⟨s.adr, k⟩
theorem spOdd_len : ∀ ds s Qd, R29.spOdd ds s Qd → ds.length = 1 := fun ds s Qd ⟨_, _, _, _, e, _⟩ => by rw [e]; rfl
mutual
def lv : D → List D
  | .tup xs => lvs xs
  | d => [d]
def lvs : List D → List D
  | [] => []
  | d :: ds => lv d ++ lvs ds
end
theorem lvs_app : ∀ (l m : List D), lvs (l ++ m) = lvs l ++ lvs m
  | [], m => rfl
  | d :: l, m => by
    show lv d ++ lvs (l ++ m) = (lv d ++ lvs l) ++ lvs m
    rw [lvs_app, List.append_assoc]
/-- tuples so deep at most -/
def dpt : Nat → D → Prop
  | 0, d => (tyT d).isSome = true ∧ ∀ xs, d ≠ .tup xs
  | n + 1, d => (tyT d).isSome = true ∧ ∀ xs, d = .tup xs → xs.length ≤ 1000 ∧ ∀ x ∈ xs, dpt n x
def spTx {m : Mem} : Nat → DSp m
  | 0 => fun _ _ _ => False
  | n + 1 => fun ds s Q => ∃ d, ds = [d] ∧ dpt n d ∧ (lv d).length ≤ 1000 ∧ Q (.lst (lv d)) s
theorem spTx_len {m : Mem} : ∀ (n : Nat) ds s Qd, (spTx n : DSp m) ds s Qd → ds.length = 1
  | 0, _, _, _, h => h.elim
  | _ + 1, _, _, _, ⟨_, e, _⟩ => by rw [e]; rfl
mutual
def pt (old new : D) : D → D
  | .tup xs => .tup (pts old new xs)
  | d => if eqD d old = true then new else d
def pts (old new : D) : List D → List D
  | [] => []
  | d :: ds => pt old new d :: pts old new ds
end
theorem pts_app (old new : D) : ∀ (l m : List D), pts old new (l ++ m) = pts old new l ++ pts old new m
  | [], m => rfl
  | d :: l, m => by
    show pt old new d :: pts old new (l ++ m) = _
    rw [pts_app]
    rfl
def spPut {m : Mem} : Nat → DSp m
  | 0 => fun _ _ _ => False
  | n + 1 => fun ds s Q => ∃ d old new, ds = [d, old, new] ∧ dpt n d ∧ plainD 60 old = true ∧ (∀ x ∈ lv d, plainD 60 x = true) ∧ Q (pt old new d) s
theorem spPut_len {m : Mem} : ∀ (n : Nat) ds s Qd, (spPut n : DSp m) ds s Qd → ds.length = 3
  | 0, _, _, _, h => h.elim
  | _ + 1, _, _, _, ⟨_, _, _, e, _⟩ => by rw [e]; rfl
/-! ### what is drawn: names, paths, rules -/
theorem nm_ok {x : Str} (h : NameOk x) : okName x = true := by
  unfold okName okLen
  rw [decide_eq_true h.1, decide_eq_true h.2.1]
  show (tl x).all okc = true
  rw [List.all_eq_true]
  intro c hc
  obtain ⟨h1, h2⟩ := h.2.2 c hc
  unfold okc
  rw [decide_eq_true h1, decide_eq_true h2]; rfl
theorem wheel {f : Int} (h0 : 0 ≤ f) (h1 : f < 26) {i j : Nat} (hi : i < 26) (hj : j < 26) (h : (f + (i : Int)) % 26 = (f + (j : Int)) % 26) : i = j := by omega
theorem letter_n {r : Int} (h0 : 0 ≤ r) (h1 : r < 26) : atI (tl ("abcdefghijklmnopqrstuvwxyz" : Str)) r = some (97 + r.toNat) := by
  obtain ⟨j, rfl⟩ : ∃ j : Nat, r = (j : Int) := ⟨r.toNat, by omega⟩
  have hj : j < 26 := by omega
  rw [letters_tl, Int.toNat_natCast]
  have : ∀ j, j < 26 → [97, 98, 99, 100, 101, 102, 103, 104, 105, 106, 107, 108, 109, 110, 111, 112, 113, 114, 115, 116, 117, 118, 119, 120, 121, 122][j]? = some (97 + j) := by decide
  exact atI_nat (this j hj)
/-- the letter at the place p of the i-th of the names is the (f + i)-th one -/
def Wheel (f : Int) (p : Nat) (xs : List Str) : Prop := ∀ (i : Nat) x, xs[i]? = some x → (tl x)[p]? = some (97 + ((f + (i : Int)) % 26).toNat)
theorem wheel_nodup {f : Int} {p : Nat} {xs : List Str} (h0 : 0 ≤ f) (h1 : f < 26) (hl : xs.length ≤ 26) (h : Wheel f p xs) : xs.Nodup := by
  refine List.pairwise_iff_getElem.mpr fun i j hi hj hij e => ?_
  have a1 := h i _ (List.getElem?_eq_getElem hi)
  have a2 := h j _ (List.getElem?_eq_getElem hj)
  rw [e, a2] at a1
  injection a1 with a1
  have b1 : 0 ≤ (f + (i : Int)) % 26 := Int.emod_nonneg _ (by decide)
  have b2 : 0 ≤ (f + (j : Int)) % 26 := Int.emod_nonneg _ (by decide)
  have := wheel h0 h1 (i := i) (j := j) (by omega) (by omega) (by omega)
  omega
def hd (x : Str) : Str := (splS 46 x).headD ⟨#[]⟩
/-- paths of at most four names of which no two begin alike -/
structure PsOk (ps : List Str) : Prop where
  l : ps.length = 20
  p : ∀ x ∈ ps, rp (.str x) = true
  n : ps.Pairwise fun x y => hd x ≠ hd y
/-- a drawn rule -/
structure RuleOk (d : D) : Prop where
  w : wordD d = .non
  t : ts d = true
  g : Gd 36 800 3 d
  e : ∃ x r, d = .tup (.str x :: r)
def spBent : Nat → DSp Mem.deck
  | 0 => fun _ _ _ => False
  | n + 1 => fun ds s Q => ∃ a b c d, ∃ k N W m : Nat, s.adr = some (a, b, c) ∧ ds = [.any (.ref a), d, .int k] ∧ k ≤ n ∧ ts d = true ∧ Gd N W m d ∧ 30 ≤ N ∧ N ≤ 500 ∧ m ≤ 20 ∧ s.n + 10 * (k + 1) < drawLim ∧
    ∀ d' k', Gd (N + 3) ((2 * k + 3) * W + 300 + k) (m + 4) d' → k' ≤ s.n + 10 * (k + 1) → Q d' ⟨s.adr, k'⟩
theorem spBent_len : ∀ (n : Nat) ds s Qd, spBent n ds s Qd → ds.length = 3
  | 0, _, _, _, h => h.elim
  | _ + 1, _, _, _, ⟨_, _, _, _, _, _, _, _, _, e, _⟩ => by rw [e]; rfl
def spCl : DSp Mem.deck := fun ds s Q => ∃ a b c d, s.adr = some (a, b, c) ∧ ds = [.any (.ref a), d] ∧ RuleOk d ∧ s.n + 10 < drawLim ∧ ∀ d' k', Gd 40 100000 3 d' → k' ≤ s.n + 10 → Q d' ⟨s.adr, k'⟩
theorem spCl_len : ∀ ds s Qd, spCl ds s Qd → ds.length = 2 := fun ds s Qd ⟨_, _, _, _, _, e, _⟩ => by rw [e]; rfl
theorem letter_of {d : D} (h : d ∈ itemsOf (.str (Str.ofString "abcdefghijklmnopqrstuvwxyz"))) : ∃ c, d = .str (one c) ∧ 97 ≤ c ∧ c ≤ 122 := by
  obtain ⟨c, hc, rfl⟩ := List.mem_map.mp h
  rw [letters_tl] at hc
  have hall : ∀ c ∈ [97, 98, 99, 100, 101, 102, 103, 104, 105, 106, 107, 108, 109, 110, 111, 112, 113, 114, 115, 116, 117, 118, 119, 120, 121, 122], 97 ≤ c ∧ c ≤ 122 := by decide
  exact ⟨c, rfl, hall c hc⟩
theorem wheel_app {f : Int} {p : Nat} {xs : List Str} {y : Str} (h : Wheel f p xs) (hy : (tl y)[p]? = some (97 + ((f + (xs.length : Int)) % 26).toNat)) : Wheel f p (xs ++ [y]) := by
  intro i x hx
  by_cases hi : i < xs.length
  · rw [List.getElem?_append_left hi] at hx
    exact h i x hx
  · rw [List.getElem?_append_right (by omega)] at hx
    have e : i - xs.length = 0 := by
      cases q : i - xs.length with
      | zero => rfl
      | succ n => rw [q] at hx; simp at hx
    rw [e] at hx
    have hx : some y = some x := hx
    cases hx
    have : i = xs.length := by omega
    rw [this]; exact hy
def namesTail : DTS Mem.deck := dSeq (dStO 10 (dOp ixD (dVar 2) (dOp modD (dB intD (daCons (dOp addD (dVar 7) (dVar 3)) daNil)) (dC (D.int 26)))) (dVar 6)) (dApp 9 (dMt "str" joinD (dC (D.str (Str.ofString ""))) (daCons (dVar 10) daNil)))
abbrev alfa : D := .str (Str.ofString "abcdefghijklmnopqrstuvwxyz")
theorem names_tail {c0 c1 c4 c5 c8 c11 : Sl} {t : Nat} {pl : Nat} {f0 : Int} {xs : List Str} {ls : List Nat} {z : Nat} {dd : DEnds Mem.deck} {s2 : Mem.deck.S} (hx : xs.length ≤ 100) (hl2 : ls.length = z + 1) (hz8 : z + 1 ≤ 8) (hpl : pl < z + 1) (hc2 : ∀ c ∈ ls, 97 ≤ c ∧ c ≤ 122)
    (h : ∀ (y : Str) c10, NameOk y → (tl y)[pl]? = some (97 + ((f0 + (t : Int)) % 26).toNat) → dd.nx [c0, c1, .sh alfa, .sh (.int (0 + (t : Int))), c4, c5, .sh (.int (pl : Int)), .sh (.int f0), c8, .ow (.lst ((xs ++ [y]).map .str)), c10, c11] s2) :
    namesTail dd [c0, c1, .sh alfa, .sh (.int (0 + (t : Int))), c4, c5, .sh (.int (pl : Int)), .sh (.int f0), c8, .ow (.lst (xs.map .str)), .ow (.lst ((ls.map one).map .str)), c11] s2 := by
  have hL : Str.ofString "" = (⟨#[]⟩ : Str) := by decide +kernel
  have m0 : 0 ≤ (f0 + (0 + (t : Int))) % 26 := Int.emod_nonneg _ (by decide)
  have m1 : (f0 + (0 + (t : Int))) % 26 < 26 := Int.emod_lt_of_pos _ (by decide)
  obtain ⟨v, hv⟩ : ∃ v, v = 97 + ((f0 + (0 + (t : Int))) % 26).toNat := ⟨_, rfl⟩
  have hat := letter_n m0 m1
  rw [← hv] at hat
  have hset : ((ls.map one).map D.str).set pl (.str (one v)) = ((ls.set pl v).map one).map D.str := by
    rw [List.map_set, List.map_set]
  have hls : ∀ c ∈ ls.set pl v, 97 ≤ c ∧ c ≤ 122 := fun c hc => by
    rcases List.mem_or_eq_of_mem_set hc with h | h
    · exact hc2 c h
    · rw [h]; omega
  have hll : (ls.set pl v).length = z + 1 := by rw [List.length_set, hl2]
  refine ⟨_, rfl, (by decide : (0 : Int) < 26), v, hat, ⟨_, rfl⟩, (pl : Int), _, pl, rfl, rfl, ixN_n (by rw [List.length_map, List.length_map, hl2]; exact hpl), ?_⟩
  show dApp 9 _ _ [c0, c1, .sh alfa, .sh (.int (0 + (t : Int))), c4, c5, .sh (.int (pl : Int)), .sh (.int f0), c8, .ow (.lst (xs.map .str)), .ow (.lst (((ls.map one).map D.str).set pl (.str (one v)))), c11] s2
  rw [hset]
  refine ⟨⟨_, rfl⟩, rfl, _, (ls.set pl v).map one, rfl, .inl rfl, ?_, _, rfl, ?_, ?_⟩
  · rw [hL, sum_ones, List.length_map]
    show _ + _ * 0 ≤ strLim
    have : strLim = 1000000 := rfl
    omega
  · rw [List.length_map]; exact Nat.lt_of_le_of_lt hx (by rw [sizeLine_eq]; decide)
  · have := h (joinS (Str.ofString "") ((ls.set pl v).map one)) (.sh (.lst (((ls.set pl v).map one).map .str))) (by rw [hL]; exact nameOk_of (by omega) (by omega) hls) (by
      rw [hL, join0, List.getElem?_set_self (by omega), hv, Int.zero_add])
    rw [List.map_append] at this
    exact this
theorem splS_free {c : Nat} {x : Str} (h : c ∉ tl x) : splS c x = [x] := by
  have h1 := splS_join (c := c) (ns := [x]) (by simp) (fun y hy => by rw [List.mem_singleton.mp hy]; exact h)
  have h2 : joinS ⟨#[c]⟩ [x] = x := by
    have := join_splS c x
    show Str.join _ [x] = x
    rfl
  rw [h2] at h1; exact h1
structure PthI (n : Nat) (f z : Str) : Prop where
  l : (splS 46 z).length = n
  k : ∀ y ∈ splS 46 z, NameOk y
  h : hd z = f
theorem nm_free {x : Str} (h : NameOk x) : 46 ∉ tl x := fun z => by have := h.2.2 46 z; omega
theorem PthI.one {x : Str} (h : NameOk x) : PthI 1 x x := by
  have e := splS_free (nm_free h)
  exact ⟨by rw [e]; rfl, fun y hy => by rw [e] at hy; rw [List.mem_singleton.mp hy]; exact h, by unfold hd; rw [e]; rfl⟩
theorem PthI.step {n : Nat} {f z y : Str} (h : PthI n f z) (hy : NameOk y) : PthI (n + 1) f (z ++ Str.ofString "." ++ y) := by
  have hd' : (Str.ofString ".") = (⟨#[46]⟩ : Str) := by decide +kernel
  rw [hd']
  have e : splS 46 (z ++ ⟨#[46]⟩ ++ y) = splS 46 z ++ [y] := by rw [splS_app, splS_free (nm_free hy)]
  refine ⟨by rw [e, List.length_append, h.l]; rfl, fun w hw => ?_, ?_⟩
  · rw [e] at hw
    rcases List.mem_append.mp hw with q | q
    · exact h.k w q
    · rw [List.mem_singleton.mp q]; exact hy
  · unfold hd
    rw [e]
    have := h.h
    unfold hd at this
    cases q : splS 46 z with
    | nil => exact absurd q (splS_ne 46 z)
    | cons a r => rw [q] at this; exact this
theorem PthI.len {n : Nat} {f z : Str} (h : PthI n f z) : z.length + 1 ≤ 9 * n := by
  have hs := sum_splS 46 z
  have : ∀ l : List Str, (∀ y ∈ l, NameOk y) → (l.map (·.length)).sum ≤ 8 * l.length := fun l hl => sum_le8 fun y hy => (hl y hy).2.1
  have := this _ h.k
  have := h.l
  omega
theorem PthI.rp {n : Nat} {f z : Str} (h : PthI n f z) (hn : n ≤ 4) : rp (.str z) = true := by
  show (decide _ && _) = true
  rw [decide_eq_true (by rw [h.l]; exact hn), Bool.true_and, List.all_eq_true]
  exact fun y hy => nm_ok (h.k y hy)
/-! ### rules made of paths -/
theorem cutL_all (c d : Nat) : ∀ l acc : List Nat, d ∈ acc ++ l → d = c ∨ ∃ y ∈ cutL c acc l, d ∈ y
  | [], acc, h => by
    rw [List.append_nil] at h
    exact .inr ⟨acc, by simp [cutL], h⟩
  | x :: r, acc, h => by
    rw [cutL]
    by_cases e : x = c
    · rw [if_pos e]
      rcases List.mem_append.mp h with h | h
      · exact .inr ⟨acc, by simp, h⟩
      · rcases List.mem_cons.mp h with h | h
        · exact .inl (h.trans e)
        · rcases cutL_all c d r [] (by simpa using h) with q | ⟨y, hy, q⟩
          · exact .inl q
          · exact .inr ⟨y, List.mem_cons_of_mem _ hy, q⟩
    · rw [if_neg e]
      exact cutL_all c d r (acc ++ [x]) (by simpa using h)
theorem rp_all {x : Str} (h : rp (.str x) = true) : (∀ c ∈ tl x, c < 128) ∧ x.length ≤ 35 ∧ (splS 46 x).length ≤ 4 ∧ ∀ y ∈ splS 46 x, okName y = true := by
  have h : (decide _ && _) = true := h
  rw [Bool.and_eq_true] at h
  have h4 := of_decide_eq_true h.1
  have hn := List.all_eq_true.mp h.2
  have h8 : ∀ y ∈ splS 46 x, y.length ≤ 8 ∧ ∀ c ∈ tl y, c < 128 := fun y hy => by
    have := hn y hy
    unfold okName okLen at this
    rw [Bool.and_eq_true, Bool.and_eq_true] at this
    refine ⟨of_decide_eq_true this.1.2, fun c hc => ?_⟩
    have := List.all_eq_true.mp this.2 c hc
    unfold okc at this
    rw [Bool.and_eq_true] at this
    have := of_decide_eq_true this.2
    omega
  refine ⟨fun c hc => ?_, ?_, h4, hn⟩
  · rcases cutL_all 46 c (tl x) [] (by simpa using hc) with q | ⟨y, hy, q⟩
    · omega
    · rw [← tl_splS] at hy
      obtain ⟨z, hz, rfl⟩ := List.mem_map.mp hy
      exact (h8 z hz).2 c q
  · have hs := sum_splS 46 x
    have := sum_le8 fun y hy => (h8 y hy).1
    omega
theorem path_gd {x : Str} (h : rp (.str x) = true) (n : Nat) : Gd 36 35 n (.str x) ∧ ts (.str x) = true := by
  obtain ⟨h1, h2, _⟩ := rp_all h
  refine ⟨(gd_str (N := 35) h2 (fun c hc => by have := h1 c hc; omega) n).mono (by decide) (by decide) (Nat.le_refl _), ?_⟩
  exact List.all_eq_true.mpr fun c hc => decide_eq_true (h1 c hc)
theorem paths_gs : ∀ {ps : List Str}, (∀ p ∈ ps, rp (.str p) = true) → ∀ n, Gs 36 (36 * ps.length) n (ps.map .str) ∧ tss (ps.map .str) = true
  | [], _, n => ⟨⟨by simp, by simp, by simp, by rw [List.map_nil, wl_nil]; omega⟩, rfl⟩
  | p :: ps, h, n => by
    obtain ⟨a1, a2⟩ := path_gd (h p (by simp)) n
    obtain ⟨b1, b2⟩ := paths_gs (fun q hq => h q (List.mem_cons_of_mem _ hq)) n
    refine ⟨((Gs.one a1).app b1).mono (Nat.le_refl _) (by rw [List.length_cons]; omega) (Nat.le_refl _), ?_⟩
    show (ts _ && tss _) = true
    rw [a2, b2]; rfl
theorem paths_gd {ps : List Str} (h : ∀ p ∈ ps, rp (.str p) = true) (hl : ps.length ≤ 20) (n : Nat) : Gd 36 (36 * ps.length) (n + 1) (.tup (ps.map .str)) ∧ ts (.tup (ps.map .str)) = true := by
  obtain ⟨h1, h2⟩ := paths_gs h n
  exact ⟨h1.tup (by rw [List.length_map]; omega), h2⟩
theorem ovs_hd {p q : Str} (h : hd p ≠ hd q) : ovs (.str p) (.str q) = false := by
  have key : ∀ a b : Str, hd a ≠ hd b → lcov a b = false := fun a b h => by
    unfold lcov
    rw [beq_eq_false_iff_ne]
    intro e
    apply h
    unfold hd
    cases qa : splS 46 a with
    | nil => exact absurd qa (splS_ne 46 a)
    | cons x xs =>
      cases qb : splS 46 b with
      | nil => exact absurd qb (splS_ne 46 b)
      | cons y ys =>
        rw [qa, qb, List.length_cons, List.take_succ_cons] at e
        injection e with e1 _
        exact e1.symm
  show (coversS p q || coversS q p) = false
  rw [cov_eq, cov_eq, key p q h, key q p (Ne.symm h)]; rfl
theorem ovN_false {xs : List D} (h : xs.Pairwise fun a b => ovs b a = false) : ∀ n, ovN xs n = false
  | 0 => rfl
  | n + 1 => by
    show (ovN xs n || _) = false
    rw [ovN_false h n, Bool.false_or]
    cases q : xs[n]? with
    | none => rfl
    | some p =>
      show (xs.take n).any (ovs p) = false
      rw [List.any_eq_false]
      intro y hy
      obtain ⟨i, hi, e⟩ := List.mem_take_iff_getElem.mp hy
      have hn : n < xs.length := (List.getElem?_eq_some_iff.mp q).1
      have hp : xs[n] = p := (List.getElem?_eq_some_iff.mp q).2
      have := List.pairwise_iff_getElem.mp h i n (by omega) hn (by omega)
      rw [← e, ← hp, this]
      exact Bool.false_ne_true
theorem word_none {k : Str} {names : List Str} {items : List D} (h1 : forms.lookup k = some names) (h2 : items.length = names.length) (h3 : ∀ p ∈ names.zip items, fit p.1 p.2 (items.headD .non) = true) (h4 : ∀ n, ovN (mainPaths k names items) n = false) : wordD (.tup (.str k :: items)) = .non := by
  show (match forms.lookup k with | none => wRule | some names => if items.length = names.length then wordIn k names items else wRule) = _
  rw [h1]
  show (if items.length = names.length then wordIn k names items else wRule) = _
  rw [if_pos h2]
  unfold wordIn
  rw [find_all h3, h4]
  rfl
theorem fit_how {it first : D} (h : inTx it sDC = true) : fit sHow it first = true := by
  unfold fit; rw [if_pos rfl]; exact h
theorem fit_tup {nm : Str} {l : Int} {ps : List Str} {first : D} (hn : los.lookup nm = some l) (hm : nm ≠ sHow ∧ nm ≠ sRows ∧ nm ≠ sPath ∧ nm ≠ sExp) (hp : ∀ p ∈ ps, rp (.str p) = true) (h1 : l ≤ (ps.length : Nat)) (h2 : ps.length ≤ 6) : fit nm (.tup (ps.map .str)) first = true := by
  have hr : rps l 6 (.tup (ps.map .str)) = true := by
    show (decide _ && (decide _ && _)) = true
    rw [List.length_map, decide_eq_true h1, decide_eq_true (by omega), Bool.true_and, Bool.true_and, List.all_map, List.all_eq_true]
    exact hp
  unfold fit
  rw [if_neg hm.1, if_neg hm.2.1, if_neg hm.2.2.1, hn]
  show (rps l 6 _ && _) = true
  rw [hr, if_neg hm.2.2.2]; rfl
theorem cut_nn {xs : List D} {i j : Nat} (h : i ≤ j) (hj : j ≤ xs.length) : DL.cutD xs (some (i : Int)) (some (j : Int)) = (xs.drop i).take (j - i) := by
  unfold DL.cutD
  rw [HT.sIx_nat, HT.sIx_nat, Nat.min_eq_left (Nat.le_trans h hj), Nat.min_eq_left hj]
/-- a piece of the paths -/
theorem cut_ps {ps : List Str} {i j : Nat} (h : i ≤ j) (hj : j ≤ ps.length) : DL.cutD (ps.map D.str) (some (i : Int)) (some (j : Int)) = ((ps.drop i).take (j - i)).map D.str := by
  rw [cut_nn h (by rw [List.length_map]; exact hj), List.map_take, List.map_drop]
theorem take_ps {ps : List Str} {j : Nat} (hj : j ≤ ps.length) : DL.cutD (ps.map D.str) none (some (j : Int)) = (ps.take j).map D.str := by
  rw [R29.cut_take (by rw [List.length_map]; exact hj), List.map_take]
theorem key_gd {k : Str} (h : k.length ≤ 8) (hc : ∀ c ∈ tl k, c < 128) (n : Nat) : Gd 36 35 n (.str k) ∧ ts (.str k) = true :=
  ⟨(gd_str (N := 8) h (fun c hc' => by have := hc c hc'; omega) n).mono (by decide) (by decide) (Nat.le_refl _), List.all_eq_true.mpr fun c hc' => decide_eq_true (hc c hc')⟩
abbrev kinds : List Str := [Str.ofString "forbid", Str.ofString "layers", Str.ofString "stairs", Str.ofString "apart", Str.ofString "only", Str.ofString "face", Str.ofString "noring"]
theorem kinds_gd : ∀ k ∈ kinds, ∀ n, Gd 36 35 n (.str k) ∧ ts (.str k) = true := fun k hk n => by
  have h : ∀ k ∈ kinds, k.length ≤ 8 ∧ ∀ c ∈ tl k, c < 128 := by decide +kernel
  exact key_gd (h k hk).1 (h k hk).2 n
theorem how_gd : ∀ k ∈ sDC, ∀ n, Gd 36 35 n (.str k) ∧ ts (.str k) = true := fun k hk n => by
  have h : ∀ k ∈ sDC, k.length ≤ 8 ∧ ∀ c ∈ tl k, c < 128 := by decide +kernel
  exact key_gd (h k hk).1 (h k hk).2 n
theorem how_in : ∀ k ∈ sDC, inTx (.str k) sDC = true := by decide +kernel
theorem rule_ok {k : Str} {items : List D} (hk : k ∈ kinds) (hw : wordD (.tup (.str k :: items)) = .non) (hg : Gs 36 764 2 items) (ht : tss items = true) (hl : items.length ≤ 10) : RuleOk (.tup (.str k :: items)) := by
  obtain ⟨g1, g2⟩ := kinds_gd k hk 2
  refine ⟨hw, ?_, (((Gs.one g1).app hg).tup (by rw [List.length_append, List.length_singleton]; omega)).mono (Nat.le_refl _) (by decide) (Nat.le_refl _), _, _, rfl⟩
  show (ts _ && tss items) = true
  rw [g2, ht]; rfl
theorem ps_gd {ps : List Str} (h : ∀ p ∈ ps, rp (.str p) = true) {m : Nat} (hl : ps.length ≤ m) (hm : m ≤ 20) (n : Nat) : Gd 36 (36 * m) (n + 1) (.tup (ps.map .str)) ∧ ts (.tup (ps.map .str)) = true := by
  obtain ⟨a, b⟩ := paths_gd h (by omega) n
  exact ⟨a.mono (Nat.le_refl _) (Nat.mul_le_mul_left 36 hl) (Nat.le_refl _), b⟩
theorem PsOk.sub {ps qs : List Str} (P : PsOk ps) (h : qs.Sublist ps) : ∀ p ∈ qs, rp (.str p) = true := fun p hp => P.p p (h.subset hp)
theorem two_tup {ps qs : List Str} {how : Str} {W : Nat} (h1 : ∀ p ∈ ps, rp (.str p) = true) (h2 : ∀ p ∈ qs, rp (.str p) = true) (l1 : ps.length ≤ 6) (l2 : qs.length ≤ 6) : Gs 36 434 2 [.tup (ps.map .str), .tup (qs.map .str)] ∧ tss [.tup (ps.map D.str), .tup (qs.map .str)] = true := by
  obtain ⟨a1, a2⟩ := ps_gd h1 l1 (by decide) 1
  obtain ⟨b1, b2⟩ := ps_gd h2 l2 (by decide) 1
  refine ⟨((Gs.one a1).app (Gs.one b1)).mono (Nat.le_refl _) (by decide) (Nat.le_refl _), ?_⟩
  show (ts _ && (ts _ && true)) = true
  rw [a2, b2]; rfl
theorem ok_free {x : Str} (h : okName x = true) : 46 ∉ tl x := fun z => by
  unfold okName at h
  rw [Bool.and_eq_true] at h
  have := List.all_eq_true.mp h.2 46 z
  exact absurd this (by decide)
/-- the head of a face, and a path below it -/
structure HeadOk (h : Str) : Prop where
  l : 1 ≤ (splS 46 h).length
  m : (splS 46 h).length ≤ 3
  k : ∀ y ∈ splS 46 h, okName y = true
theorem HeadOk.rp {h : Str} (H : HeadOk h) : rp (.str h) = true := by
  show (decide _ && _) = true
  have := H.m
  rw [decide_eq_true (by omega), Bool.true_and]
  exact List.all_eq_true.mpr H.k
abbrev rowD (rs : List (List Str)) : List D := rs.map fun r => .tup (r.map .str)
theorem rows_gd : ∀ {rs : List (List Str)}, (∀ r ∈ rs, r.length ≤ 4 ∧ ∀ p ∈ r, rp (.str p) = true) → Gs 36 (145 * rs.length) 1 (rowD rs) ∧ tss (rowD rs) = true
  | [], _ => ⟨⟨by simp, by simp, by simp, by show wl [] ≤ _; rw [wl_nil]; omega⟩, rfl⟩
  | r :: rs, h => by
    obtain ⟨a1, a2⟩ := ps_gd (h r (by simp)).2 (h r (by simp)).1 (by decide) 0
    obtain ⟨b1, b2⟩ := rows_gd fun q hq => h q (List.mem_cons_of_mem _ hq)
    refine ⟨((Gs.one a1).app b1).mono (Nat.le_refl _) (by rw [List.length_cons]; omega) (Nat.le_refl _), ?_⟩
    show (ts _ && tss _) = true
    rw [a2, b2]; rfl
theorem rows_flat : ∀ rs : List (List Str), (rowD rs).flatMap tupOf = rs.flatten.map .str
  | [] => rfl
  | r :: rs => by
    show (r.map D.str) ++ (rowD rs).flatMap tupOf = _
    rw [rows_flat rs, List.flatten_cons, List.map_append]
theorem cut_drop (xs : List D) (j : Nat) : DL.cutD xs (some (j : Int)) none = xs.drop j := by
  unfold DL.cutD
  rw [HT.sIx_nat, HT.sIx_none]
  by_cases h : j ≤ xs.length
  · rw [Nat.min_eq_left h, List.take_of_length_le (by rw [List.length_drop]; omega)]
  · rw [Nat.min_eq_right (by omega), Nat.sub_self, List.take_zero, List.drop_of_length_le (by omega)]
theorem cut_one (xs : List D) : (DL.cutD xs (some (-1)) none).length ≤ 1 ∧ (DL.cutD xs (some 1) (some 2)).length ≤ 1 ∧ (DL.cutD xs none (some 1)).length ≤ 1 := by
  refine ⟨?_, ?_, ?_⟩
  · unfold DL.cutD
    rw [HT.sIx_none, List.length_take, List.length_drop]
    have : HT.sIx xs.length 0 (some (-1)) = ((-1 : Int) + (xs.length : Int)).toNat := rfl
    rw [this]; omega
  · unfold DL.cutD
    rw [show (some (1 : Int)) = some ((1 : Nat) : Int) from rfl, show (some (2 : Int)) = some ((2 : Nat) : Int) from rfl, HT.sIx_nat, HT.sIx_nat, List.length_take, List.length_drop]
    omega
  · rw [show (some (1 : Int)) = some ((1 : Nat) : Int) from rfl, DL.cut_take, List.length_take]
    omega
mutual
theorem ts_dpt {N : Nat} (hN : N ≤ 1000) : ∀ (n : Nat) (d : D), ts d = true → repD n d = true → sm N d = true → dpt n d
  | 0, .str x, _, _, _ => ⟨rfl, fun xs z => by cases z⟩
  | n + 1, .str x, _, _, _ => ⟨rfl, fun xs z => by cases z⟩
  | 0, .tup xs, _, h, _ => by rw [rep_tup0] at h; cases h
  | n + 1, .tup xs, ht, hr, hs => by
    rw [rep_tup] at hr
    obtain ⟨h1, h2⟩ := sm_tup hs
    refine ⟨rfl, fun ys e => ?_⟩
    cases e
    exact ⟨by omega, tss_dpt hN n xs ht hr (sms_iff.mpr h2)⟩
  | _, .non, h, _, _ => by cases h
  | _, .bl _, h, _, _ => by cases h
  | _, .int _, h, _, _ => by cases h
  | _, .lst _, h, _, _ => by cases h
  | _, .dic _ _, h, _, _ => by cases h
  | _, .ins _ _ _, h, _, _ => by cases h
  | _, .any _, h, _, _ => by cases h
  | _, .fz _, h, _, _ => by cases h
  | _, .exc _ _ _, h, _, _ => by cases h
theorem tss_dpt {N : Nat} (hN : N ≤ 1000) : ∀ (n : Nat) (ds : List D), tss ds = true → repDs n ds = true → sms N ds = true → ∀ x ∈ ds, dpt n x
  | n, [], _, _, _ => fun _ h => by cases h
  | n, d :: ds, ht, hr, hs => by
    have ht : (ts d && tss ds) = true := ht
    have hs : (sm N d && sms N ds) = true := hs
    simp only [repDs] at hr
    rw [Bool.and_eq_true] at ht hr hs
    exact List.forall_mem_cons.mpr ⟨ts_dpt hN n d ht.1 hr.1 hs.1, tss_dpt hN n ds ht.2 hr.2 hs.2⟩
end
mutual
theorem ts_lv {N : Nat} : ∀ d : D, ts d = true → sm N d = true → (∀ x ∈ lv d, ∃ z : Str, x = .str z ∧ z.length ≤ N ∧ ∀ c ∈ tl z, c < 128) ∧ (lv d).length ≤ wt d + 1
  | .str x, ht, hs => by
    refine ⟨fun y hy => ⟨x, List.mem_singleton.mp hy, of_decide_eq_true hs, fun c hc => ?_⟩, (by show 1 ≤ _; omega)⟩
    exact of_decide_eq_true (List.all_eq_true.mp (show ((tl x).all fun c => decide (c < 128)) = true from ht) c hc)
  | .tup xs, ht, hs => by
    obtain ⟨h1, h2⟩ := sm_tup hs
    obtain ⟨a1, a2⟩ := tss_lv (N := N) xs ht (sms_iff.mpr h2)
    exact ⟨a1, by rw [wt_tup]; exact Nat.le_trans a2 (Nat.le_succ _)⟩
  | .non, h, _ => by cases h
  | .bl _, h, _ => by cases h
  | .int _, h, _ => by cases h
  | .lst _, h, _ => by cases h
  | .dic _ _, h, _ => by cases h
  | .ins _ _ _, h, _ => by cases h
  | .any _, h, _ => by cases h
  | .fz _, h, _ => by cases h
  | .exc _ _ _, h, _ => by cases h
theorem tss_lv {N : Nat} : ∀ ds : List D, tss ds = true → sms N ds = true → (∀ x ∈ lvs ds, ∃ z : Str, x = .str z ∧ z.length ≤ N ∧ ∀ c ∈ tl z, c < 128) ∧ (lvs ds).length ≤ wl ds
  | [], _, _ => ⟨fun _ h => (by cases h), Nat.zero_le _⟩
  | d :: ds, ht, hs => by
    have ht : (ts d && tss ds) = true := ht
    have hs : (sm N d && sms N ds) = true := hs
    rw [Bool.and_eq_true] at ht hs
    obtain ⟨a1, a2⟩ := ts_lv d ht.1 hs.1
    obtain ⟨b1, b2⟩ := tss_lv ds ht.2 hs.2
    refine ⟨fun x hx => ?_, ?_⟩
    · rcases List.mem_append.mp (show x ∈ lv d ++ lvs ds from hx) with z | z
      · exact a1 x z
      · exact b1 x z
    · show (lv d ++ lvs ds).length ≤ _
      rw [List.length_append, wl_cons]
      omega
end
mutual
/-- another text in the place of some -/
theorem pt_gd {N M n : Nat} {old new : D} (hn : ∀ k, Gd M M k new) (hNM : N ≤ M) : ∀ d : D, ts d = true → sm N d = true → repD n d = true → gl d = true → sm M (pt old new d) = true ∧ repD n (pt old new d) = true ∧ gl (pt old new d) = true ∧ wt (pt old new d) + 1 ≤ (M + 1) * (wt d + 1)
  | .str x, ht, hs, hr, hg => by
    show sm M (if eqD (.str x) old = true then new else .str x) = true ∧ repD n (if eqD (.str x) old = true then new else .str x) = true ∧ gl (if eqD (.str x) old = true then new else .str x) = true ∧ wt (if eqD (.str x) old = true then new else .str x) + 1 ≤ _
    by_cases q : eqD (.str x) old = true
    · rw [if_pos q]
      have := hn n
      refine ⟨this.s, this.r, this.g, ?_⟩
      have h1 := this.w
      have : (M + 1) * 1 ≤ (M + 1) * (wt (.str x) + 1) := Nat.mul_le_mul_left _ (by omega)
      omega
    · rw [if_neg q]
      refine ⟨sm_mono hNM _ hs, hr, hg, ?_⟩
      have : 1 * (wt (.str x) + 1) ≤ (M + 1) * (wt (.str x) + 1) := Nat.mul_le_mul_right _ (by omega)
      omega
  | .tup xs, ht, hs, hr, hg => by
    obtain ⟨h1, h2⟩ := sm_tup hs
    cases n with
    | zero => rw [rep_tup0] at hr; cases hr
    | succ n =>
      rw [rep_tup] at hr
      obtain ⟨a1, a2, a3, a4, a5⟩ := pts_gd (n := n) (old := old) hn hNM xs ht (sms_iff.mpr h2) hr hg
      refine ⟨tup_sm (by rw [a5]; omega) (sms_iff.mp a1), by show repD (n + 1) (.tup (pts old new xs)) = true; rw [rep_tup]; exact a2, a3, ?_⟩
      show wt (.tup (pts old new xs)) + 1 ≤ _
      rw [wt_tup, wt_tup, Nat.mul_add]
      omega
  | .non, h, _, _, _ => by cases h
  | .bl _, h, _, _, _ => by cases h
  | .int _, h, _, _, _ => by cases h
  | .lst _, h, _, _, _ => by cases h
  | .dic _ _, h, _, _, _ => by cases h
  | .ins _ _ _, h, _, _, _ => by cases h
  | .any _, h, _, _, _ => by cases h
  | .fz _, h, _, _, _ => by cases h
  | .exc _ _ _, h, _, _, _ => by cases h
theorem pts_gd {N M n : Nat} {old new : D} (hn : ∀ k, Gd M M k new) (hNM : N ≤ M) : ∀ ds : List D, tss ds = true → sms N ds = true → repDs n ds = true → gls ds = true → sms M (pts old new ds) = true ∧ repDs n (pts old new ds) = true ∧ gls (pts old new ds) = true ∧ wl (pts old new ds) ≤ (M + 1) * wl ds ∧ (pts old new ds).length = ds.length
  | [], _, _, _, _ => ⟨rfl, by simp [pts, repDs], rfl, by show wl [] ≤ _; rw [wl_nil]; omega, rfl⟩
  | d :: ds, ht, hs, hr, hg => by
    have ht : (ts d && tss ds) = true := ht
    have hs : (sm N d && sms N ds) = true := hs
    have hg : (gl d && gls ds) = true := hg
    simp only [repDs] at hr
    rw [Bool.and_eq_true] at ht hs hg hr
    obtain ⟨a1, a2, a3, a4⟩ := pt_gd (n := n) (old := old) hn hNM d ht.1 hs.1 hr.1 hg.1
    obtain ⟨b1, b2, b3, b4, b5⟩ := pts_gd (n := n) (old := old) hn hNM ds ht.2 hs.2 hr.2 hg.2
    refine ⟨?_, ?_, ?_, ?_, ?_⟩
    · show (sm M _ && sms M _) = true
      rw [a1, b1]; rfl
    · show repDs n (pt old new d :: pts old new ds) = true
      simp only [repDs]
      rw [a2, b2]; rfl
    · show (gl _ && gls _) = true
      rw [a3, b3]; rfl
    · show wl (pt old new d :: pts old new ds) ≤ _
      rw [wl_cons, wl_cons, Nat.mul_add]
      omega
    · show (pts old new ds).length + 1 = ds.length + 1
      rw [b5]
end
theorem rpart1 (z b : Str) : (Txt.rpartition z b).1.length ≤ z.length ∧ ∀ c ∈ tl (Txt.rpartition z b).1, c ∈ tl z := by
  unfold Txt.rpartition
  cases Builtin.Str.lastOccurrence z b 0 z.length with
  | none => exact ⟨Nat.zero_le _, fun c hc => by cases hc⟩
  | some i =>
    constructor
    · show (Builtin.Str.strSub z _ _).length ≤ _
      rw [len_tl, tl_strSub, List.length_take, List.length_drop, len_tl]
      omega
    · intro c hc
      have hc' : c ∈ tl (Builtin.Str.strSub z _ _) := hc
      rw [tl_strSub] at hc'
      exact List.mem_of_mem_drop (List.mem_of_mem_take hc')

def T_pick29 : DTS Mem.deck :=
  (dRet (dOp ixD (dVar 1) (dCall spNext (daCons (dVar 0) (daCons (dB lenD (daCons (dVar 1) daNil)) daNil)))))
theorem read_pick29 : ∀ ds s Qd, (spPick : DSp Mem.deck) ds s Qd → (T_pick29 : DTS Mem.deck) (endsOf Qd) (startD ["_law_reel_here", "_law_some"] ds) s := by
  intro ds s Qd h
  obtain ⟨a0, b, c, x, had, rfl, hne, hl, hn, hQ⟩ := h
  have key : ∀ {α : Type} (l : List α) (r : Int), 0 ≤ r → r < ((l.length : Nat) : Int) → ∃ y, atI l r = some y ∧ y ∈ l := fun l r h0 h1 => by
    obtain ⟨j, rfl⟩ : ∃ j : Nat, r = (j : Int) := ⟨r.toNat, by omega⟩
    have hj : j < l.length := by omega
    exact ⟨l[j], atI_nat (List.getElem?_eq_getElem hj), List.getElem_mem hj⟩
  cases x with
  | lst xs =>
    have hne : xs ≠ [] := hne
    have hl : xs.length ≤ 1000 := hl
    have hp : 0 < xs.length := List.length_pos_iff.mpr hne
    refine ⟨.lst xs, xs.length, rfl, rfl, a0, b, c, _, had, rfl, by omega, by omega, hn, fun r k h0 h1 hk => ?_⟩
    obtain ⟨y, e1, e2⟩ := key xs r h0 h1
    exact ⟨y, e1, hQ y k e2 hk⟩
  | str z =>
    have hz : (itemsOf (.str z)).length = z.length := by show ((tl z).map _).length = _; rw [List.length_map, len_tl]
    have hp : 0 < (itemsOf (.str z)).length := List.length_pos_iff.mpr hne
    rw [hz] at hl hp
    refine ⟨.str z, z.length, rfl, rfl, a0, b, c, _, had, rfl, by omega, by omega, hn, fun r k h0 h1 hk => ?_⟩
    rw [len_tl] at h1
    obtain ⟨y, e1, e2⟩ := key (tl z) r h0 h1
    exact ⟨y, e1, hQ _ k (List.mem_map_of_mem e2) hk⟩
  | _ => exact absurd rfl hne
def T_odd29 : DTS Mem.deck :=
  (dSeq (dSet 1 (dLst (daCons (dC D.non) (daCons (dC (D.bl true)) (daCons (dC (D.bl false)) (daCons (dC (D.int 0)) (daCons (dC (D.int 1)) (daCons (dUn negD (dC (D.int 1))) (daCons (dC (D.int 7)) (daCons (dOp powD (dC (D.int 10)) (dC (D.int 30))) (daCons (dC (D.str (Str.ofString ""))) (daCons (dC (D.str (Str.ofString "a"))) (daCons (dC (D.str (Str.ofString "a.b"))) (daCons (dC (D.str (Str.ofString "direct"))) (daCons (dC (D.str (Str.ofString "forbid"))) (daCons (dC (D.str (Str.ofString "apart"))) (daCons (dC (D.str (Str.ofString "cases"))) daNil)))))))))))))))))
      (dSeq (dSet 1 (dOp addD (dVar 1) (dLst (daCons (dTup daNil) (daCons (dTup (daCons (dC (D.str (Str.ofString "a"))) daNil)) (daCons (dTup (daCons (dC (D.str (Str.ofString "a"))) (daCons (dC (D.str (Str.ofString "b"))) daNil))) (daCons (dTup (daCons (dTup (daCons (dC (D.str (Str.ofString "a"))) (daCons (dC (D.str (Str.ofString "b"))) daNil))) daNil)) (daCons (dLst daNil) (daCons (dLst (daCons (dC (D.str (Str.ofString "a"))) (daCons (dC (D.str (Str.ofString "b"))) daNil))) (daCons dDict0 (daCons (dDictS [Str.ofString "a"] [(dC (D.str (Str.ofString "b")))]) (daCons (dTup (daCons (dC D.non) daNil)) (daCons (dTup (daCons (dLst daNil) daNil)) (daCons (dTup (daCons (dC (D.str (Str.ofString "A"))) (daCons (dC (D.int 0)) daNil))) daNil))))))))))))))
      (dRet (dCall spPick (daCons (dVar 0) (daCons (dVar 1) daNil))))))
theorem read_odd29 : ∀ ds s Qd, (R29.spOdd : DSp Mem.deck) ds s Qd → (T_odd29 : DTS Mem.deck) (endsOf Qd) (startD ["_law_reel_here", "_law_some"] ds) s := by
  intro ds s Qd h
  obtain ⟨a0, b, c, had, rfl, hn, hQ⟩ := h
  have zl : ∀ n, n ≤ 40 → n ≤ sizeLine := fun n h => line_of (by omega)
  refine ⟨⟨by decide, by decide, by decide⟩, zl _ (by decide), ?_⟩
  refine ⟨zl _ (by decide), zl _ (by decide), zl _ (by decide), zl _ (by decide), zl _ (by decide), zl _ (by decide), zl _ (by decide), zl _ (by decide), zl _ (by decide), zl _ (by decide), zl _ (by decide), zl _ (by decide), zl _ (by decide), ?_⟩
  exact ⟨a0, b, c, .lst oddL, had, rfl, (by intro z; cases z), (by decide), hn, fun d k hd hk => hQ d k (gd_of (odd_gd d hd)) hk⟩
def T_bent29_r1 (n : Nat) : DTS Mem.deck :=
  (dSeq (dIf (dTr (dB isiD (daCons (dVar 1) (daCons (dC (D.any (V.ty "tuple"))) daNil)))) (dSeq (dSet 4 (dOp addD (dOp addD (dSl slD (dVar 1) (doSome (dC (D.int 1))) (doSome (dC (D.int 2)))) (dSl slD (dVar 1) doNone (doSome (dC (D.int 1))))) (dSl slD (dVar 1) (doSome (dC (D.int 2))) doNone)))
        (dSeq (dSet 5 (dLst (daCons (dSl slD (dVar 1) (doSome (dC (D.int 1))) doNone) (daCons (dSl slD (dVar 1) doNone (doSome (dUn negD (dC (D.int 1))))) (daCons (dOp addD (dVar 1) (dSl slD (dVar 1) (doSome (dUn negD (dC (D.int 1)))) doNone)) (daCons (dRevT (dVar 1)) (daCons (dB listD (daCons (dVar 1) daNil)) (daCons (dVar 4) (daCons (dCall R29.spOdd (daCons (dVar 0) daNil)) daNil)))))))))
        (dRet (dCall spPick (daCons (dVar 0) (daCons (dVar 5) daNil)))))) dNext)
      (dSeq (dIf (dOrT (dTr (dB isiD (daCons (dVar 1) (daCons (dC (D.any (V.ty "bool"))) daNil)))) (dCmT isD' (dVar 1) (dC D.non))) (dRet (dCall R29.spOdd (daCons (dVar 0) daNil))) dNext)
      (dSeq (dIf (dTr (dB isiD (daCons (dVar 1) (daCons (dC (D.any (V.ty "int"))) daNil)))) (dRet (dCall spPick (daCons (dVar 0) (daCons (dLst (daCons (dOp addD (dVar 1) (dC (D.int 1))) (daCons (dOp subD (dVar 1) (dC (D.int 1))) (daCons (dCm eqC (dVar 1) (dC (D.int 1))) (daCons (dUn negD (dC (D.int 1))) (daCons (dB strID (daCons (dVar 1) daNil)) (daCons (dCall R29.spOdd (daCons (dVar 0) daNil)) daNil))))))) daNil)))) dNext)
      (dSeq (dIf (dTr (dB isiD (daCons (dVar 1) (daCons (dC (D.any (V.ty "str"))) daNil)))) (dSeq (dSet 5 (dLst (daCons (dOp addD (dVar 1) (dC (D.str (Str.ofString "a")))) (daCons (dSl slD (dVar 1) (doSome (dC (D.int 1))) doNone) (daCons (dOp addD (dVar 1) (dC (D.str (Str.ofString ".a")))) (daCons (dMt0 "str" upperD (dVar 1)) (daCons (dOp addD (dVar 1) (dC (D.str (Str.ofString "\n")))) (daCons (dLst (daCons (dVar 1) daNil)) (daCons (dCall R29.spOdd (daCons (dVar 0) daNil)) daNil)))))))))
        (dRet (dCall spPick (daCons (dVar 0) (daCons (dVar 5) daNil))))) dNext)
      (dRet (dCall R29.spOdd (daCons (dVar 0) daNil)))))))
def T_bent29 (n : Nat) : DTS Mem.deck :=
  (dSeq (dIf (dAndT (dTr (dB isiD (daCons (dVar 1) (daCons (dC (D.any (V.ty "tuple"))) daNil)))) (dAndT (dCmT gtD (dB lenD (daCons (dVar 1) daNil)) (dC (D.int 0))) (dAndT (dCmT gtD (dVar 2) (dC (D.int 0))) (dCmT gtD (dCall spNext (daCons (dVar 0) (daCons (dC (D.int 4)) daNil))) (dC (D.int 0)))))) (dSeq (dSet 3 (dCall spNext (daCons (dVar 0) (daCons (dB lenD (daCons (dVar 1) daNil)) daNil))))
        (dRet (dOp addD (dOp addD (dSl slD (dVar 1) doNone (doSome (dVar 3))) (dTup (daCons (dCall (spBent n) (daCons (dVar 0) (daCons (dOp ixD (dVar 1) (dVar 3)) (daCons (dOp subD (dVar 2) (dC (D.int 1))) daNil)))) daNil))) (dSl slD (dVar 1) (doSome (dOp addD (dVar 3) (dC (D.int 1)))) doNone)))) dNext)
      (dSeq (dIf (dTr (dB isiD (daCons (dVar 1) (daCons (dC (D.any (V.ty "tuple"))) daNil)))) (dSeq (dSet 4 (dOp addD (dOp addD (dSl slD (dVar 1) (doSome (dC (D.int 1))) (doSome (dC (D.int 2)))) (dSl slD (dVar 1) doNone (doSome (dC (D.int 1))))) (dSl slD (dVar 1) (doSome (dC (D.int 2))) doNone)))
        (dSeq (dSet 5 (dLst (daCons (dSl slD (dVar 1) (doSome (dC (D.int 1))) doNone) (daCons (dSl slD (dVar 1) doNone (doSome (dUn negD (dC (D.int 1))))) (daCons (dOp addD (dVar 1) (dSl slD (dVar 1) (doSome (dUn negD (dC (D.int 1)))) doNone)) (daCons (dRevT (dVar 1)) (daCons (dB listD (daCons (dVar 1) daNil)) (daCons (dVar 4) (daCons (dCall R29.spOdd (daCons (dVar 0) daNil)) daNil)))))))))
        (dRet (dCall spPick (daCons (dVar 0) (daCons (dVar 5) daNil)))))) dNext)
      (dSeq (dIf (dOrT (dTr (dB isiD (daCons (dVar 1) (daCons (dC (D.any (V.ty "bool"))) daNil)))) (dCmT isD' (dVar 1) (dC D.non))) (dRet (dCall R29.spOdd (daCons (dVar 0) daNil))) dNext)
      (dSeq (dIf (dTr (dB isiD (daCons (dVar 1) (daCons (dC (D.any (V.ty "int"))) daNil)))) (dRet (dCall spPick (daCons (dVar 0) (daCons (dLst (daCons (dOp addD (dVar 1) (dC (D.int 1))) (daCons (dOp subD (dVar 1) (dC (D.int 1))) (daCons (dCm eqC (dVar 1) (dC (D.int 1))) (daCons (dUn negD (dC (D.int 1))) (daCons (dB strID (daCons (dVar 1) daNil)) (daCons (dCall R29.spOdd (daCons (dVar 0) daNil)) daNil))))))) daNil)))) dNext)
      (dSeq (dIf (dTr (dB isiD (daCons (dVar 1) (daCons (dC (D.any (V.ty "str"))) daNil)))) (dSeq (dSet 5 (dLst (daCons (dOp addD (dVar 1) (dC (D.str (Str.ofString "a")))) (daCons (dSl slD (dVar 1) (doSome (dC (D.int 1))) doNone) (daCons (dOp addD (dVar 1) (dC (D.str (Str.ofString ".a")))) (daCons (dMt0 "str" upperD (dVar 1)) (daCons (dOp addD (dVar 1) (dC (D.str (Str.ofString "\n")))) (daCons (dLst (daCons (dVar 1) daNil)) (daCons (dCall R29.spOdd (daCons (dVar 0) daNil)) daNil)))))))))
        (dRet (dCall spPick (daCons (dVar 0) (daCons (dVar 5) daNil))))) dNext)
      (dRet (dCall R29.spOdd (daCons (dVar 0) daNil))))))))
theorem read_bent29 (n : Nat) : ∀ ds s Qd, (spBent (n + 1) : DSp Mem.deck) ds s Qd → (T_bent29 n : DTS Mem.deck) (endsOf Qd) (startD ["_law_reel_here", "_law_value", "_law_deep", "_law_at", "_law_swapped", "_law_some"] ds) s := by
  intro ds s Qd h
  obtain ⟨a, b, c, d, k, N, W, m, hs, rfl, hkn, hts, hg, hN, hN2, hm, hn, hQ⟩ := h
  have hlim : drawLim = 1152921504606846976 := rfl
  have zl : ∀ n, n ≤ 2000 → n ≤ sizeLine := fun n h => line_of (by omega)
  have hne : ∀ (d : D) (l : List D), itemsOf (.lst (d :: l)) ≠ [] := fun d l z => by cases z
  have hslim : strLim = 1000000 := rfl
  cases d with
  | tup xs =>
    obtain ⟨m, rfl⟩ : ∃ m', m = m' + 1 := by
      cases m with
      | zero => have := hg.r; rw [rep_tup0] at this; cases this
      | succ m => exact ⟨m, rfl⟩
    obtain ⟨hgs, hxl⟩ := hg.items
    have htss : ∀ x ∈ xs, ts x = true := tss_iff.mp hts
    have cl : ∀ lo hi, (DL.cutD xs lo hi).length ≤ xs.length := cutD_len xs
    obtain ⟨u1, u2, u3⟩ := cut_one xs
    have rest : ∀ s1 : Mem.deck.S, s1.adr = s.adr → s1.n ≤ s.n + 1 → T_bent29_r1 n (endsOf Qd) [.sh (.any (.ref a)), .sh (.tup xs), .sh (.int (k : Int)), .no, .no, .no] s1 := by
      intro s1 e1 e2
      have wb : ∀ w, w ≤ 3 * W + 300 → w ≤ (2 * k + 3) * W + 300 + k := fun w hw => by
        have : 3 * W ≤ (2 * k + 3) * W := Nat.mul_le_mul_right W (by omega)
        omega
      refine ⟨.tup xs, .tup, .tup, rfl, rfl, (by intro z; cases z), _, rfl, ?_⟩
      refine ⟨1, rfl, 2, rfl, 1, rfl, zl _ (by omega), ?_⟩
      refine ⟨2, rfl, (by rw [List.length_append]; have := cl (some 2) none; exact zl _ (by omega)), ?_⟩
      refine ⟨1, rfl, -1, rfl, -1, rfl, zl _ (by omega), xs, rfl, _, _, rfl, rfl, a, b, c, e1.trans hs, rfl, by omega, fun od k1 hod hk1 => ?_⟩
      refine ⟨lz rfl, a, b, c, _, e1.trans hs, rfl, hne _ _, (by show 7 ≤ 1000; decide), (by show k1 < _; omega), fun d k2 hd hk2 => ?_⟩
      have hk2 : k2 = k1 + 1 := hk2
      rw [show s1.adr = s.adr from e1]
      refine hQ d k2 ?_ (by omega)
      have key : ∀ d ∈ [D.tup (DL.cutD xs (some 1) none), .tup (DL.cutD xs none (some (-1))), .tup (xs ++ DL.cutD xs (some (-1)) none), .tup xs.reverse, .lst xs, .tup (DL.cutD xs (some 1) (some 2) ++ DL.cutD xs none (some 1) ++ DL.cutD xs (some 2) none), od], Gd (N + 3) ((2 * k + 3) * W + 300 + k) (m + 1 + 4) d := by
        have up : ∀ {W' n' : Nat} {d : D}, Gd (N + 3) W' n' d → W' ≤ 3 * W + 300 → n' ≤ m + 5 → Gd (N + 3) ((2 * k + 3) * W + 300 + k) (m + 1 + 4) d := fun h1 h2 h3 => h1.mono (Nat.le_refl _) (wb _ h2) (by omega)
        have g3 : Gs (N + 3) W m xs := hgs.mono (by omega) (Nat.le_refl _) (Nat.le_refl _)
        refine List.forall_mem_cons.mpr ⟨up ((g3.cut _ _).tup (by have := cl (some 1) none; omega)) (by omega) (by omega), List.forall_mem_cons.mpr ⟨up ((g3.cut _ _).tup (by have := cl none (some (-1)); omega)) (by omega) (by omega), List.forall_mem_cons.mpr ⟨up ((g3.app (g3.cut _ _)).tup (by rw [List.length_append]; omega)) (by omega) (by omega),
          List.forall_mem_cons.mpr ⟨up (g3.rev.tup (by rw [List.length_reverse]; omega)) (by omega) (by omega), List.forall_mem_cons.mpr ⟨up g3.lst (by omega) (by omega), List.forall_mem_cons.mpr ⟨up ((((g3.cut _ _).app (g3.cut _ _)).app (g3.cut _ _)).tup (by rw [List.length_append, List.length_append]; have := cl (some 2) none; omega)) (by omega) (by omega), List.forall_mem_cons.mpr ⟨hod.mono (by omega) (wb _ (by omega)) (by omega), fun _ h => by cases h⟩⟩⟩⟩⟩⟩⟩
      exact key d hd
    refine ⟨.tup xs, .tup, .tup, rfl, rfl, (by intro z; cases z), _, rfl, ?_⟩
    refine ⟨_, _, rfl, rfl, ifBd (fun g1 => ?_) fun g1 => rest s rfl (by omega)⟩
    refine ifBd (fun g2 => ?_) fun g2 => rest s rfl (by omega)
    refine ⟨a, b, c, 4, hs, rfl, by decide, by decide, by omega, fun r1 k1 r0 r2 hk1 => ?_⟩
    refine ifBd (fun g3 => ?_) fun g3 => rest ⟨s.adr, k1⟩ rfl (by show k1 ≤ _; omega)
    refine ⟨_, _, rfl, rfl, a, b, c, _, hs, rfl, (by omega), (by omega), (by show k1 < _; omega), fun at0 k2 a0 a1 hk2 => ?_⟩
    have hk2 : k2 = k1 + 1 := hk2
    obtain ⟨j, rfl⟩ : ∃ j : Nat, at0 = (j : Int) := ⟨at0.toNat, by omega⟩
    have hj : j < xs.length := by omega
    obtain ⟨k', rfl⟩ : ∃ k', k = k' + 1 := ⟨k - 1, by omega⟩
    obtain ⟨n', rfl⟩ : ∃ n', n = n' + 1 := ⟨n - 1, by omega⟩
    refine ⟨(j : Int), rfl, xs[j], atI_nat (List.getElem?_eq_getElem hj), ?_⟩
    refine ⟨a, b, c, xs[j], k', N, W, m, hs, (by show [D.any (.ref a), xs[j], .int (((k' + 1 : Nat) : Int) - 1)] = _; rw [show ((k' + 1 : Nat) : Int) - 1 = (k' : Int) by omega]), by omega, htss _ (List.getElem_mem hj), hgs.mem (List.getElem_mem hj), hN, hN2, by omega, (by show k2 + _ < _; omega), fun d' k3 hd3 hk3 => ?_⟩
    have hk3 : k3 ≤ k2 + 10 * (k' + 1) := hk3
    have l1 : (DL.cutD xs none (some (j : Int))).length = j := by rw [DL.cut_take, List.length_take]; omega
    have l2 : (DL.cutD xs (some ((j : Int) + 1)) none).length = xs.length - (j + 1) := by
      rw [show (j : Int) + 1 = ((j + 1 : Nat) : Int) by omega, cut_drop, List.length_drop]
    refine ⟨lz rfl, (by rw [l1]; exact zl _ (by show j + 1 ≤ _; omega)), (j : Int) + 1, rfl, (by rw [List.length_append, l1, l2]; exact zl _ (by show j + 1 + _ ≤ _; omega)), ?_⟩
    have g3 : Gs (N + 3) W (m + 4) xs := hgs.mono (by omega) (Nat.le_refl _) (by omega)
    have hdw : wt d' ≤ (2 * k' + 3) * W + 300 + k' := hd3.w
    have hw2 : (2 * (k' + 1) + 3) * W = (2 * k' + 3) * W + 2 * W := by rw [show 2 * (k' + 1) + 3 = (2 * k' + 3) + 2 by omega, Nat.add_mul]
    exact hQ _ k3 (((((g3.cut none (some (j : Int))).app (Gs.one hd3)).app (g3.cut (some ((j : Int) + 1)) none)).tup (by rw [List.length_append, List.length_append, l1, l2]; show j + 1 + _ ≤ _; omega)).mono (Nat.le_refl _) (by rw [hw2]; omega) (by omega)) (by omega)
  | str x =>
    have hx : x.length ≤ N := of_decide_eq_true hg.s
    have hxw : x.length ≤ W := by have := hg.w; rw [wt_str] at this; exact this
    have hA : ∀ c ∈ tl x, c < 128 := fun c hc => of_decide_eq_true (List.all_eq_true.mp (show ((tl x).all fun c => decide (c < 128)) = true from hts) c hc)
    have h1 : (Str.ofString "a").length = 1 ∧ (Str.ofString ".a").length = 2 ∧ (Str.ofString "\n").length = 1 := by decide +kernel
    have hc1 : (∀ c ∈ tl (Str.ofString "a"), c < 128) ∧ (∀ c ∈ tl (Str.ofString ".a"), c < 128) ∧ (∀ c ∈ tl (Str.ofString "\n"), c < 128) := by decide +kernel
    have hup : Txt.upper x = ⟨x.cps.map up1⟩ := upper_ascii hA
    have hupl : (Txt.upper x).length = x.length := by rw [hup]; exact Array.size_map ..
    have hup1 : ∀ c, c < 128 → up1 c < 128 := by decide
    have hupc : ∀ c ∈ tl (Txt.upper x), c < 128 := fun c hc => by
      rw [hup] at hc
      have hc' : c ∈ (x.cps.map up1).toList := hc
      rw [Array.toList_map] at hc'
      obtain ⟨d, hd, rfl⟩ := List.mem_map.mp hc'
      exact hup1 d (hA d hd)
    refine ⟨.str x, .tup, .str, rfl, rfl, (by intro z; cases z), _, rfl, ?_⟩
    refine ⟨.str x, .tup, .str, rfl, rfl, (by intro z; cases z), _, rfl, ?_⟩
    refine ⟨.str x, .bl, .str, rfl, rfl, (by intro z; cases z), _, rfl, ?_⟩
    refine ⟨(by intro w z; cases z), ?_⟩
    refine ⟨.str x, .int, .str, rfl, rfl, (by intro z; cases z), _, rfl, ?_⟩
    refine ⟨.str x, .str, .str, rfl, rfl, (by intro z; cases z), _, rfl, ?_⟩
    refine ⟨(by rw [h1.1]; omega), 1, rfl, (by rw [h1.2.1]; omega), rfl, x, rfl, rfl, sOk_of (by rw [hupl]; omega) (fun c hc => by have := hupc c hc; omega), (by rw [h1.2.2]; omega), lz rfl, a, b, c, hs, rfl, by omega, fun od k1 hod hk1 => ?_⟩
    refine ⟨lz rfl, a, b, c, _, hs, rfl, hne _ _, (by show 7 ≤ 1000; decide), (by show k1 < _; omega), fun d k2 hd hk2 => ?_⟩
    have hk2 : k2 = k1 + 1 := hk2
    refine hQ d k2 ?_ (by omega)
    have wb : ∀ w, w ≤ W + 300 → w ≤ (2 * k + 3) * W + 300 + k := fun w hw => by
      have : 1 * W ≤ (2 * k + 3) * W := Nat.mul_le_mul_right W (by omega)
      omega
    have st : ∀ y : Str, y.length ≤ x.length + 2 → (∀ c ∈ tl y, c < 1114112) → Gd (N + 3) ((2 * k + 3) * W + 300 + k) (m + 4) (.str y) := fun y hy hc => by
      have := gd_str (N := x.length + 2) hy hc (m + 4)
      exact this.mono (by omega) (wb _ (by omega)) (Nat.le_refl _)
    have app : ∀ u v : Str, (∀ c ∈ tl u, c < 128) → (∀ c ∈ tl v, c < 128) → ∀ c ∈ tl (u ++ v), c < 1114112 := fun u v hu hv c hc => by
      rw [tl_append] at hc
      rcases List.mem_append.mp hc with z | z
      · have := hu c z; omega
      · have := hv c z; omega
    have key : ∀ d ∈ [D.str (x ++ Str.ofString "a"), .str (cutS x (some 1) none), .str (x ++ Str.ofString ".a"), .str (Txt.upper x), .str (x ++ Str.ofString "\n"), .lst [.str x], od], Gd (N + 3) ((2 * k + 3) * W + 300 + k) (m + 4) d := by
      refine List.forall_mem_cons.mpr ⟨st _ (by rw [len_add, h1.1]; omega) (app _ _ hA hc1.1), List.forall_mem_cons.mpr ⟨st _ (by have := cutS_length x (some 1) none; omega) (fun c hc => ?_), List.forall_mem_cons.mpr ⟨st _ (by rw [len_add, h1.2.1]; omega) (app _ _ hA hc1.2.1), List.forall_mem_cons.mpr ⟨st _ (by rw [hupl]; omega) (fun c hc => by have := hupc c hc; omega),
        List.forall_mem_cons.mpr ⟨st _ (by rw [len_add, h1.2.2]; omega) (app _ _ hA hc1.2.2), List.forall_mem_cons.mpr ⟨?_, List.forall_mem_cons.mpr ⟨hod.mono (by omega) (wb _ (by omega)) (by omega), fun _ h => by cases h⟩⟩⟩⟩⟩⟩⟩
      · have hc' : c ∈ (x.cps.toList.drop (HT.sIx x.length 0 (some 1))).take (HT.sIx x.length x.length none - HT.sIx x.length 0 (some 1)) := hc
        have := hA c (List.mem_of_mem_drop (List.mem_of_mem_take hc'))
        omega
      · have := (Gs.one ((gd_str (N := x.length + 2) (x := x) (by omega) (fun c hc => by have := hA c hc; omega) m))).lst
        exact this.mono (by omega) (wb _ (by omega)) (by omega)
    exact key d hd
  | _ => cases hts
def T_law_path29 {m : Mem} : DTS m :=
  (dSeq (dIf (dNotT (dTr (dB isiD (daCons (dVar 0) (daCons (dC (D.any (V.ty "str"))) daNil))))) (dRet (dC (D.bl false))) dNext)
      (dSeq (dSet 2 (dMt "str" splitD (dVar 0) (daCons (dC (D.str (Str.ofString "."))) daNil)))
      (dSeq (dSet 3 (dLc (diSeq (dVar 2)) (gN 4) (dOrT (dNotT (dChT leD leD (dC (D.int 1)) (dB lenD (daCons (dVar 4) daNil)) (dC (D.int 8)))) (dCmT neC (dMt "str" stripD (dVar 4) (daCons (dC (D.str (Str.ofString "abcdefghijklmnopqrstuvwxyz"))) daNil)) (dC (D.str (Str.ofString ""))))) (dVar 4) [4]))
      (dRet (dAndV (dCm leD (dB lenD (daCons (dVar 2) daNil)) (dVar 1)) (dCm (eqE false) (dVar 3) (dLst daNil)))))))
theorem read_law_path29 {m : Mem} : ∀ ds s Qd, (spLp : DSp m) ds s Qd → (T_law_path29 : DTS m) (endsOf Qd) (startD ["_law_value", "_law_limit", "_law_parts", "_law_bad", "_law_part"] ds) s := by
  intro ds s Qd h
  obtain ⟨d, rfl, ⟨⟨t, ht⟩, hx⟩, hQ⟩ := h
  have hd : (Str.ofString ".") = dot := by decide +kernel
  refine ⟨d, .str, t, rfl, ht, (by intro z; cases z), _, rfl, ?_⟩
  cases d with
  | str x =>
    cases ht
    have hx := hx x rfl
    have hc := splS_count (x := x)
    refine ⟨rfl, x, 46, rfl, (by rw [hd]; rfl), by decide, ?_⟩
    refine ⟨_, rfl, (by rw [List.length_map]; exact line_of (by omega)), fun pre acc s' => s' = s ∧ ∃ ls : List Str, pre = ls.map D.str ∧ acc = (ls.filter fun n => !okName n).map D.str, ⟨rfl, [], rfl, rfl⟩, ?_, ?_⟩
    · rintro pre y post acc s' e - ⟨rfl, ls, rfl, rfl⟩
      obtain ⟨z, rfl, hz⟩ : ∃ z, y = D.str z ∧ z ∈ splS 46 x := by
        have hm : y ∈ (splS 46 x).map D.str := by rw [e]; simp
        obtain ⟨z, hz, rfl⟩ := List.mem_map.mp hm
        exact ⟨z, rfl, hz⟩
      have app : ∀ k, (!okName z) = k → ifB k ((ls.filter fun n => !okName n).map D.str ++ [D.str z] = ((ls ++ [z]).filter fun n => !okName n).map D.str) ((ls.filter fun n => !okName n).map D.str = ((ls ++ [z]).filter fun n => !okName n).map D.str) := fun k hk => by
        cases k with
        | true => show _ = _; rw [List.filter_append, List.filter_cons, hk, List.map_append]; rfl
        | false => show _ = _; rw [List.filter_append, List.filter_cons, hk]; simp
      refine ⟨.str z, z.length, rfl, rfl, ifBd (fun h1 => ?_) fun h1 => ?_⟩
      · refine ifB2 (fun g => ?_) fun g => ?_
        · have ek : (!okName z) = true := by
            have : ¬ (z.length : Int) ≤ 8 := by simpa using g
            unfold okName okLen
            rw [decide_eq_false (p := z.length ≤ 8) (by omega), Bool.and_false, Bool.false_and]
            rfl
          exact ⟨rfl, rfl, rfl, ls ++ [z], (by rw [List.map_append]; rfl), app _ ek⟩
        · have g' : (z.length : Int) ≤ 8 := by simpa using g
          refine ⟨rfl, z, _, rfl, rfl, rfl, rfl, ?_⟩
          have ek : okName z = (tl z).all okc := by
            unfold okName okLen
            rw [decide_eq_true (by omega), decide_eq_true (by omega)]
            rfl
          have ha := app (!(tl z).all okc) (by rw [ek])
          show (_ = _ ∧ ifB (!eqD (.str _) (.str _)) _ _)
          rw [eqs, strip_letters]
          refine ⟨rfl, ifB2 (fun q => ?_) fun q => ?_⟩
          · rw [q] at ha
            exact ⟨rfl, rfl, ls ++ [z], (by rw [List.map_append]; rfl), ha⟩
          · rw [q] at ha
            exact ⟨rfl, ls ++ [z], (by rw [List.map_append]; rfl), ha⟩
      · have ek : (!okName z) = true := by
          unfold okName okLen
          rw [decide_eq_false (p := 1 ≤ z.length) (by omega), Bool.false_and, Bool.false_and]
          rfl
        exact ⟨rfl, rfl, rfl, ls ++ [z], (by rw [List.map_append]; rfl), app _ ek⟩
    · rintro acc s' - ⟨rfl, ls, e, rfl⟩
      have e1 : splS 46 x = ls := map_str_inj e
      subst e1
      refine ⟨_, (splS 46 x).length, rfl, (by show some _ = _; rw [List.length_map]), _, rfl, ?_⟩
      have e4 : decide (((splS 46 x).length : Int) ≤ 4) = decide ((splS 46 x).length ≤ 4) := le_int _ 4
      have hN : (splS 46 x).all okName = (((splS 46 x).filter fun n => !okName n).map D.str).isEmpty := by
        rw [← nil_all]
        cases (splS 46 x).filter fun n => !okName n <;> rfl
      have hQ : Qd (.bl (decide ((splS 46 x).length ≤ 4) && (splS 46 x).all okName)) s' := hQ
      refine ifB2 (fun g => ?_) fun g => ?_
      · rw [e4] at g
        rw [g, Bool.true_and, hN] at hQ
        refine ⟨(by show 0 ≤ sizeLine; exact Nat.zero_le _), _, rfl, rfl, ?_⟩
        rw [Bool.false_xor]
        exact hQ
      · rw [e4] at g
        rw [g, Bool.false_and] at hQ
        show Qd (.bl (decide (((splS 46 x).length : Int) ≤ 4))) s'
        rw [e4, g]
        exact hQ
  | any _ => cases ht
  | fz _ => cases ht
  | ins _ _ _ => cases ht
  | exc _ _ _ => cases ht
  | cau _ _ _ _ => cases ht
  | exk _ _ _ => cases ht
  | _ => cases ht; exact hQ
def T_law_paths29 {m : Mem} : DTS m :=
  (dSeq (dIf (dOrT (dNotT (dTr (dB isiD (daCons (dVar 0) (daCons (dC (D.any (V.ty "tuple"))) daNil))))) (dNotT (dChT leD leD (dVar 1) (dB lenD (daCons (dVar 0) daNil)) (dVar 2)))) (dRet (dC (D.bl false))) dNext)
      (dRet (dCm (eqE false) (dLc (diSeq (dVar 0)) (gN 3) (dNotT (dTr (dCall spLp (daCons (dVar 3) (daCons (dC (D.int 4)) daNil))))) (dVar 3) [3]) (dLst daNil))))
theorem read_law_paths29 {m : Mem} : ∀ ds s Qd, (spRps : DSp m) ds s Qd → (T_law_paths29 : DTS m) (endsOf Qd) (startD ["_law_value", "_law_least", "_law_limit", "_law_path_here"] ds) s := by
  intro ds s Qd h
  obtain ⟨d, l, u, rfl, ⟨⟨⟨t, ht⟩, hx⟩, hv⟩, hQ⟩ := h
  refine ⟨d, .tup, t, rfl, ht, (by intro z; cases z), _, rfl, ?_⟩
  cases d with
  | tup xs =>
    cases ht
    obtain ⟨hz, hv⟩ := hv xs rfl
    refine ⟨.tup xs, xs.length, rfl, rfl, ifBd (fun h1 => ?_) fun h1 => ?_⟩
    · refine ifB2 (fun g => ?_) fun g => ?_
      · have h2 : ¬ ((xs.length : Nat) : Int) ≤ u := by simpa using g
        have ek : rps l u (.tup xs) = false := by
          show (decide _ && (decide _ && _)) = _
          rw [decide_eq_false h2, Bool.false_and, Bool.and_false]
        rw [ek] at hQ
        exact hQ
      · have h2 : ((xs.length : Nat) : Int) ≤ u := by simpa using g
        refine ⟨xs, rfl, line_of (by omega), fun pre acc s' => s' = s ∧ acc = pre.filter fun d => !rp d, ⟨rfl, rfl⟩, ?_, ?_⟩
        · rintro pre y post acc s' e - ⟨rfl, rfl⟩
          have hy : y ∈ xs := by rw [e]; simp
          have ha := lst_app (fun d => !rp d) pre y
          refine ⟨y, rfl, hv y hy, _, rfl, rfl, ifB2 (fun q => ?_) fun q => ?_⟩
          · rw [q] at ha
            exact ⟨rfl, rfl, ha⟩
          · rw [q] at ha
            exact ⟨rfl, ha⟩
        · rintro acc s' - ⟨rfl, rfl⟩
          have ek : rps l u (.tup xs) = (xs.filter fun d => !rp d).isEmpty := by
            show (decide _ && (decide _ && _)) = _
            rw [decide_eq_true h1, decide_eq_true h2, Bool.true_and, Bool.true_and, nil_all]
          rw [ek] at hQ
          refine ⟨(by show 0 ≤ sizeLine; exact Nat.zero_le _), _, rfl, rfl, ?_⟩
          rw [Bool.false_xor]
          exact hQ
    · have ek : rps l u (.tup xs) = false := by
        show (decide _ && (decide _ && _)) = _
        rw [decide_eq_false h1, Bool.false_and]
      rw [ek] at hQ
      exact hQ
  | any _ => cases ht
  | fz _ => cases ht
  | ins _ _ _ => cases ht
  | exc _ _ _ => cases ht
  | cau _ _ _ _ => cases ht
  | exk _ _ _ => cases ht
  | _ => cases ht; exact hQ
def T_law_item29 {m : Mem} : DTS m :=
  (dSeq (dIf (dCmT eqC (dVar 0) (dC (D.str (Str.ofString "how")))) (dRet (dAndV (dB isiD (daCons (dVar 1) (daCons (dC (D.any (V.ty "str"))) daNil))) (dCm inTxD (dVar 1) (dTup (daCons (dC (D.str (Str.ofString "direct"))) (daCons (dC (D.str (Str.ofString "chain"))) daNil)))))) dNext)
      (dSeq (dIf (dCmT eqC (dVar 0) (dC (D.str (Str.ofString "rows")))) (dSeq (dIf (dOrT (dNotT (dTr (dB isiD (daCons (dVar 1) (daCons (dC (D.any (V.ty "tuple"))) daNil))))) (dNotT (dChT leD leD (dC (D.int 2)) (dB lenD (daCons (dVar 1) daNil)) (dC (D.int 5))))) (dRet (dC (D.bl false))) dNext)
        (dRet (dCm (eqE false) (dLc (diSeq (dVar 1)) (gN 4) (dNotT (dTr (dCall spRps (daCons (dVar 4) (daCons (dC (D.int 1)) (daCons (dC (D.int 4)) daNil)))))) (dVar 4) [4]) (dLst daNil)))) dNext)
      (dSeq (dIf (dCmT eqC (dVar 0) (dC (D.str (Str.ofString "path")))) (dRet (dCall spLp (daCons (dVar 1) (daCons (dC (D.int 4)) daNil)))) dNext)
      (dSeq (dIf (dAndT (dCmT eqC (dVar 0) (dC (D.str (Str.ofString "exposed")))) (dTr (dCall spRps (daCons (dVar 1) (daCons (dC (D.int 0)) (daCons (dC (D.int 6)) daNil)))))) (dRet (dCm (eqE false) (dLc (diSeq (dVar 1)) (gN 5) (dOrT (dCmT eqC (dVar 5) (dVar 2)) (dNotT (dTr (dCall spCovers (daCons (dVar 2) (daCons (dVar 5) daNil)))))) (dVar 5) [5]) (dLst daNil))) dNext)
      (dSeq (dSet 3 (dDictS [Str.ofString "sources", Str.ofString "targets", Str.ofString "paths", Str.ofString "users", Str.ofString "exposed"] [(dC (D.int 1)), (dC (D.int 1)), (dC (D.int 2)), (dC (D.int 0)), (dC (D.int 7))]))
      (dRet (dCall spRps (daCons (dVar 1) (daCons (dGet (dVar 3) (dVar 0)) (daCons (dC (D.int 6)) daNil))))))))))
theorem read_law_item29 {m : Mem} : ∀ ds s Qd, (spFit : DSp m) ds s Qd → (T_law_item29 : DTS m) (endsOf Qd) (startD ["_law_name", "_law_item_here", "_law_before", "_law_least", "_law_row", "_law_path_here"] ds) s := by
  intro ds s Qd h
  obtain ⟨nm, item, first, rfl, hn, hv, hf, hQ⟩ := h
  unfold fit at hQ
  refine ⟨rfl, rfl, ?_⟩
  rw [eqs]
  refine ifBd (fun c1 => ?_) fun c1 => ?_
  · rw [if_pos c1] at hQ
    obtain ⟨⟨t, ht⟩, _⟩ := hv.1
    refine ⟨item, .str, t, rfl, ht, (by intro z; cases z), _, rfl, ?_⟩
    cases item with
    | str x =>
      cases ht
      exact ⟨by show 2 ≤ sizeLine; decide, sDC, rfl, rfl, hQ⟩
    | any _ => cases ht
    | fz _ => cases ht
    | ins _ _ _ => cases ht
    | exc _ _ _ => cases ht
    | cau _ _ _ _ => cases ht
    | exk _ _ _ => cases ht
    | _ => cases ht; exact hQ
  rw [if_neg c1] at hQ
  refine ⟨rfl, rfl, ?_⟩
  rw [eqs]
  refine ifBd (fun c2 => ?_) fun c2 => ?_
  · rw [if_pos c2] at hQ
    obtain ⟨⟨⟨t, ht⟩, hx⟩, hv⟩ := hv
    refine ⟨item, .tup, t, rfl, ht, (by intro z; cases z), _, rfl, ?_⟩
    cases item with
    | tup xs =>
      cases ht
      obtain ⟨hz, hv⟩ := hv xs rfl
      refine ⟨.tup xs, xs.length, rfl, rfl, ifBd (fun h1 => ?_) fun h1 => ?_⟩
      · refine ifB2 (fun g => ?_) fun g => ?_
        · have h2 : ¬ ((xs.length : Nat) : Int) ≤ 5 := by simpa using g
          have ek : rows (.tup xs) = false := by
            show (decide _ && (decide _ && _)) = _
            rw [decide_eq_false h2, Bool.false_and, Bool.and_false]
          rw [ek] at hQ
          exact hQ
        · have h2 : ((xs.length : Nat) : Int) ≤ 5 := by simpa using g
          refine ⟨xs, rfl, line_of (by omega), fun pre acc s' => s' = s ∧ acc = pre.filter fun d => !rps 1 4 d, ⟨rfl, rfl⟩, ?_, ?_⟩
          · rintro pre y post acc s' e - ⟨rfl, rfl⟩
            have hy : y ∈ xs := by rw [e]; simp
            have ha := lst_app (fun d => !rps 1 4 d) pre y
            refine ⟨y, 1, 4, rfl, hv y hy, _, rfl, rfl, ifB2 (fun q => ?_) fun q => ?_⟩
            · rw [q] at ha
              exact ⟨rfl, rfl, ha⟩
            · rw [q] at ha
              exact ⟨rfl, ha⟩
          · rintro acc s' - ⟨rfl, rfl⟩
            have ek : rows (.tup xs) = (xs.filter fun d => !rps 1 4 d).isEmpty := by
              show (decide _ && (decide _ && _)) = _
              rw [decide_eq_true h1, decide_eq_true h2, Bool.true_and, Bool.true_and, nil_all]
            rw [ek] at hQ
            refine ⟨(by show 0 ≤ sizeLine; exact Nat.zero_le _), _, rfl, rfl, ?_⟩
            rw [Bool.false_xor]
            exact hQ
      · have ek : rows (.tup xs) = false := by
          show (decide _ && (decide _ && _)) = _
          rw [decide_eq_false h1, Bool.false_and]
        rw [ek] at hQ
        exact hQ
    | any _ => cases ht
    | fz _ => cases ht
    | ins _ _ _ => cases ht
    | exc _ _ _ => cases ht
    | cau _ _ _ _ => cases ht
    | exk _ _ _ => cases ht
    | _ => cases ht; exact hQ
  rw [if_neg c2] at hQ
  refine ⟨rfl, rfl, ?_⟩
  rw [eqs]
  refine ifBd (fun c3 => ?_) fun c3 => ?_
  · rw [if_pos c3] at hQ
    exact ⟨item, rfl, hv.1, hQ⟩
  rw [if_neg c3] at hQ
  have hm : nm ∈ los.map (·.1) := by
    rcases hn with h | h | h | h
    · exact absurd h c1
    · exact absurd h c2
    · exact absurd h c3
    · exact h
  obtain ⟨_, _, _, l, e1, _⟩ := los_sizes hm
  obtain ⟨l', e3, e4, e5⟩ := los_least hm
  rw [e1] at hQ
  have hv1 := hv.v1
  have hQ : Qd (.bl (rps l 6 item && if nm = sExp then expo first item else true)) s := hQ
  refine ⟨rfl, rfl, ?_⟩
  rw [eqs]
  refine ifBd (fun c4 => ?_) fun c4 => ?_
  · have el : l = 0 := by
      have : los.lookup sExp = some 0 := rfl
      have c4' : nm = sExp := c4
      rw [c4', this] at e1
      exact (Option.some.inj e1).symm
    subst el
    rw [if_pos c4] at hQ
    refine ⟨item, 0, 6, rfl, hv1, _, rfl, ifB2 (fun g => ?_) fun g => ?_⟩
    · rw [g, Bool.true_and] at hQ
      obtain ⟨p, rfl, hp⟩ := hf c4
      obtain ⟨xs, rfl, hx⟩ := rps_tup g
      obtain ⟨hz, _⟩ := hv1.2 xs rfl
      refine ⟨xs, rfl, line_of (by omega), fun pre acc s' => s' = s ∧ acc = pre.filter fun q => !(!eqD q (.str p) && cov (.str p) q), ⟨rfl, rfl⟩, ?_, ?_⟩
      · rintro pre y post acc s' e - ⟨rfl, rfl⟩
        obtain ⟨z, rfl⟩ := rp_str (hx y (by rw [e]; simp))
        have ha := lst_app (fun q => !(!eqD q (.str p) && cov (.str p) q)) pre (.str z)
        refine ⟨rfl, rfl, ifB2 (fun q => ?_) fun q => ?_⟩
        · have ek : (!(!eqD (.str z) (.str p) && cov (.str p) (.str z))) = true := by rw [q]; rfl
          rw [ek] at ha
          exact ⟨rfl, rfl, rfl, ha⟩
        · have ek : (!(!eqD (.str z) (.str p) && cov (.str p) (.str z))) = !coversS p z := by rw [q]; rfl
          rw [ek] at ha
          refine ⟨p, z, rfl, hp, _, rfl, rfl, ifB2 (fun q => ?_) fun q => ?_⟩
          · rw [q] at ha
            exact ⟨rfl, rfl, ha⟩
          · rw [q] at ha
            exact ⟨rfl, ha⟩
      · rintro acc s' - ⟨rfl, rfl⟩
        have ek : expo (.str p) (.tup xs) = (xs.filter fun q => !(!eqD q (.str p) && cov (.str p) q)).isEmpty := by
          rw [nil_all]; rfl
        rw [ek] at hQ
        refine ⟨(by show 0 ≤ sizeLine; exact Nat.zero_le _), _, rfl, rfl, ?_⟩
        rw [Bool.false_xor]
        exact hQ
    · rw [g, Bool.false_and] at hQ
      have e7 := e5 c4
      subst e7
      refine ⟨_, _, nm, _, rfl, rfl, e3, item, 7, 6, rfl, hv1, ?_⟩
      have ek : rps 7 6 item = false := by
        cases item with
        | tup xs =>
          show (decide _ && (decide _ && _)) = _
          by_cases h : (7 : Int) ≤ (xs.length : Nat)
          · rw [decide_eq_false (p := ((xs.length : Nat) : Int) ≤ 6) (by omega), Bool.false_and, Bool.and_false]
          · rw [decide_eq_false h, Bool.false_and]
        | _ => rfl
      rw [ek]
      exact hQ
  · rw [if_neg c4, Bool.and_true] at hQ
    have e6 := e4 c4
    rw [e1] at e6
    cases e6
    exact ⟨_, _, nm, _, rfl, rfl, e3, item, l, 6, rfl, hv1, hQ⟩
def T_law_word29 {m : Mem} : DTS m :=
  (dSeq (dSetD 1 [Str.ofString "forbid", Str.ofString "layers", Str.ofString "stairs"] [(dLst (daCons (dC (D.str (Str.ofString "sources"))) (daCons (dC (D.str (Str.ofString "targets"))) (daCons (dC (D.str (Str.ofString "how"))) daNil)))), (dLst (daCons (dC (D.str (Str.ofString "rows"))) (daCons (dC (D.str (Str.ofString "how"))) daNil))), (dLst (daCons (dC (D.str (Str.ofString "rows"))) daNil))])
      (dSeq (dPut2 1 (Str.ofString "apart") (Str.ofString "only") (daCons (dLst (daCons (dC (D.str (Str.ofString "paths"))) (daCons (dC (D.str (Str.ofString "how"))) daNil))) (daCons (dLst (daCons (dC (D.str (Str.ofString "targets"))) (daCons (dC (D.str (Str.ofString "users"))) daNil))) daNil)))
      (dSeq (dPut2 1 (Str.ofString "face") (Str.ofString "noring") (daCons (dLst (daCons (dC (D.str (Str.ofString "path"))) (daCons (dC (D.str (Str.ofString "exposed"))) daNil))) (daCons (dLst (daCons (dC (D.str (Str.ofString "paths"))) daNil)) daNil)))
      (dSeq (dIf (dOrT (dNotT (dTr (dB isiD (daCons (dVar 0) (daCons (dC (D.any (V.ty "tuple"))) daNil))))) (dOrT (dCmT eqC (dB lenD (daCons (dVar 0) daNil)) (dC (D.int 0))) (dOrT (dNotT (dTr (dB isiD (daCons (dOp ixD (dVar 0) (dC (D.int 0))) (daCons (dC (D.any (V.ty "str"))) daNil))))) (dInO true (dOp ixD (dVar 0) (dC (D.int 0))) 1)))) (dRet (dC (D.str (Str.ofString "rule")))) dNext)
      (dSeq (dSet 2 (dGetO 1 (dOp ixD (dVar 0) (dC (D.int 0)))))
      (dSeq (dIf (dCmT neC (dB lenD (daCons (dVar 0) daNil)) (dOp addD (dB lenD (daCons (dVar 2) daNil)) (dC (D.int 1)))) (dRet (dC (D.str (Str.ofString "rule")))) dNext)
      (dSeq (dSet 3 (dLst daNil))
      (dSeq (dFor (diR1 (daCons (dB lenD (daCons (dVar 2) daNil)) daNil)) (gN 4)
        (dSeq (dIf (dNotT (dTr (dCall spFit (daCons (dOp ixD (dVar 2) (dVar 4)) (daCons (dOp ixD (dVar 0) (dOp addD (dVar 4) (dC (D.int 1)))) (daCons (dOp ixD (dVar 0) (dVar 4)) daNil)))))) (dRet (dOp ixD (dVar 2) (dVar 4))) dNext)
        (dIf (dCmT notInTxD (dOp ixD (dVar 2) (dVar 4)) (dTup (daCons (dC (D.str (Str.ofString "rows"))) (daCons (dC (D.str (Str.ofString "how"))) (daCons (dC (D.str (Str.ofString "path"))) daNil))))) (dSet 3 (dOp addD (dVar 3) (dB listD (daCons (dOp ixD (dVar 0) (dOp addD (dVar 4) (dC (D.int 1)))) daNil)))) dNext)))
      (dSeq (dIf (dCmT eqC (dOp ixD (dVar 2) (dC (D.int 0))) (dC (D.str (Str.ofString "rows")))) (dFor (diSeq (dOp ixD (dVar 0) (dC (D.int 1)))) (gN 5)
          (dSet 3 (dOp addD (dVar 3) (dB listD (daCons (dVar 5) daNil))))) dNext)
      (dSeq (dFor (diR1 (daCons (dB lenD (daCons (dVar 3) daNil)) daNil)) (gN 4)
        (dIf (dCmT (eqE true) (dLc (diSeq (dSl slD (dVar 3) doNone (doSome (dVar 4)))) (gN 6) (dTr (dCall spOvl (daCons (dVar 6) (daCons (dOp ixD (dVar 3) (dVar 4)) daNil)))) (dVar 6) [6]) (dLst daNil)) (dRet (dC (D.str (Str.ofString "overlap")))) dNext))
      (dRet (dC D.non))))))))))))
theorem read_law_word29 {m : Mem} : ∀ ds s Qd, (spWord : DSp m) ds s Qd → (T_law_word29 : DTS m) (endsOf Qd) (startD ["_law_value", "_law_due", "_law_names_here", "_law_paths_here", "_law_at", "_law_row", "_law_path_here"] ds) s := by
  intro ds s Qd h
  obtain ⟨d, rfl, ⟨⟨⟨t, ht⟩, hx⟩, hv⟩, hQ⟩ := h
  have zl : ∀ n, n ≤ 10 → n ≤ sizeLine := fun n h => line_of (by omega)
  have big : (1000000 : Nat) ≤ sizeLine := line_of (Nat.le_refl _)
  refine ⟨zl _ (by decide), zl _ (by decide), zl _ (by decide), zl _ (by decide), zl _ (by decide), zl _ (by decide), _, _, _, _, rfl, rfl, key_nin (by decide +kernel), key_nin (by decide +kernel), (by decide +kernel), (by decide), ?_⟩
  have five : keysOf [Str.ofString "forbid", Str.ofString "layers", Str.ofString "stairs"] ++ [Sum.inr (Str.ofString "apart"), Sum.inr (Str.ofString "only")] = keysOf [Str.ofString "forbid", Str.ofString "layers", Str.ofString "stairs", Str.ofString "apart", Str.ofString "only"] := rfl
  refine ⟨zl _ (by decide), zl _ (by decide), zl _ (by decide), _, _, _, _, rfl, rfl, (by rw [five]; exact key_nin (by decide +kernel)), (by rw [five]; exact key_nin (by decide +kernel)), (by decide +kernel), (by decide), ?_⟩
  refine ⟨d, .tup, t, rfl, ht, (by intro z; cases z), _, rfl, ?_⟩
  cases d with
  | tup xs =>
    cases ht
    have hv := hv xs rfl
    cases xs with
    | nil => exact ⟨.tup [], 0, rfl, rfl, rfl, rfl, hQ⟩
    | cons x items =>
      have hvx := (hv.2 x (by simp)).1
      obtain ⟨⟨tx, htx⟩, _⟩ := hvx
      refine ⟨.tup (x :: items), _, rfl, rfl, rfl, rfl, ?_⟩
      show ifB (eqD (.int _) (.int 0)) _ _
      rw [eqi, decide_eq_false (by rw [List.length_cons]; omega)]
      refine ⟨x, atI_nat (j := 0) rfl, x, .str, tx, rfl, htx, (by intro z; cases z), _, rfl, ?_⟩
      cases x with
      | str k =>
        cases htx
        have hg : dicGet (keysOf (forms.map (·.1))) (forms.map fun p => D.lst (p.2.map .str)) (.inr k) = (forms.lookup k).map fun ns => D.lst (ns.map .str) := dic_forms (fun ns : List Str => D.lst (ns.map .str)) k forms
        refine ⟨.str k, atI_nat (j := 0) rfl, keysOf (forms.map (·.1)), forms.map (fun p => D.lst (p.2.map .str)), k, rfl, rfl, ?_⟩
        rw [hg]
        have hQ : Qd (match forms.lookup k with | none => wRule | some names => if items.length = names.length then wordIn k names items else wRule) s := hQ
        cases ef : forms.lookup k with
        | none => rw [ef] at hQ; exact hQ
        | some names =>
          rw [ef] at hQ hg
          have hQ : Qd (if items.length = names.length then wordIn k names items else wRule) s := hQ
          have hg : dicGet (keysOf (forms.map (·.1))) (forms.map fun p => D.lst (p.2.map .str)) (.inr k) = some (D.lst (names.map .str)) := hg
          obtain ⟨hn3, hne, hok, hex, hface⟩ := form_facts ef
          refine ⟨⟨_, _, rfl⟩, .str k, atI_nat (j := 0) rfl, keysOf (forms.map (·.1)), forms.map (fun p => D.lst (p.2.map .str)), k, _, rfl, rfl, hg, ?_⟩
          refine ⟨.tup (.str k :: items), _, rfl, rfl, .lst (names.map .str), names.length, rfl, (by show some _ = _; rw [List.length_map]), rfl, rfl, ?_⟩
          show ifB (!eqD (.int _) (.int _)) _ _
          rw [eqi]
          refine ifB2 (fun g => ?_) fun g => ?_
          · have c : ¬ items.length = names.length := fun z => by
              rw [decide_eq_true (by rw [List.length_cons, z]; omega)] at g
              cases g
            rw [if_neg c] at hQ
            exact hQ
          · have c : items.length = names.length := by
              have g' : (((D.str k :: items).length : Nat) : Int) = ((names.length : Nat) : Int) + 1 := by simpa using g
              rw [List.length_cons] at g'
              omega
            rw [if_pos c] at hQ
            refine ⟨by show 0 ≤ sizeLine; exact Nat.zero_le _, ?_⟩
            have hzz : (names.zip items).length = names.length := by rw [List.length_zip]; omega
            refine ⟨.lst (names.map .str), names.length, rfl, (by show some _ = _; rw [List.length_map]), _, rfl, (by omega), (by omega), fun pre ρ s' => s' = s ∧ ∃ c4 c5 c6, ρ = [.sh (.tup (.str k :: items)), .ow (.dic (keysOf (forms.map (·.1))) (forms.map fun p => D.lst (p.2.map .str))), .sh (.lst (names.map .str)), .sh (.lst (lawPs ((names.zip items).take pre.length))), c4, c5, c6] ∧ ∀ p ∈ (names.zip items).take pre.length, fit p.1 p.2 (items.headD .non) = true, ⟨rfl, _, _, _, rfl, fun p hp => nomatch hp⟩, ?_, ?_⟩
            · rintro pre x post ρ s' e ⟨rfl, c4, c5, c6, rfl, hps⟩
              obtain ⟨hp, rfl⟩ := rng_pre e
              have hp : pre.length < names.length := by simpa using hp
              have hpi : pre.length < items.length := by omega
              obtain ⟨nm, hnm⟩ : ∃ nm, names[pre.length]? = some nm := ⟨_, List.getElem?_eq_getElem hp⟩
              obtain ⟨it, hit⟩ : ∃ it, items[pre.length]? = some it := ⟨_, List.getElem?_eq_getElem hpi⟩
              obtain ⟨bef, hbef⟩ : ∃ bef, (D.str k :: items)[pre.length]? = some bef := ⟨_, List.getElem?_eq_getElem (by rw [List.length_cons]; omega)⟩
              have hz : (names.zip items)[pre.length]? = some (nm, it) := by
                rw [List.getElem?_zip_eq_some]
                exact ⟨hnm, hit⟩
              have hsplit : names.zip items = (names.zip items).take pre.length ++ (nm, it) :: (names.zip items).drop (pre.length + 1) := by
                have hl : pre.length < (names.zip items).length := by omega
                have e1 : (names.zip items)[pre.length] = (nm, it) := by
                  have := List.getElem?_eq_getElem hl
                  rw [hz] at this
                  exact (Option.some.inj this).symm
                rw [← e1, List.getElem_cons_drop, List.take_append_drop]
              have hin : (nm, it) ∈ names.zip items := List.mem_of_getElem? hz
              have hv2 : V2 it := hv.2 it (List.mem_cons_of_mem _ (zip_snd hin))
              rw [show (0 : Int) + ((pre.length : Nat) : Int) = ((pre.length : Nat) : Int) from Int.zero_add _]
              have hatn : atI (names.map D.str) ((pre.length : Nat) : Int) = some (.str nm) := atI_nat (by rw [List.getElem?_map, hnm]; rfl)
              have hati : atI (D.str k :: items) (((pre.length : Nat) : Int) + 1) = some it := by
                rw [show ((pre.length : Nat) : Int) + 1 = ((pre.length + 1 : Nat) : Int) from rfl]
                exact atI_nat (by rw [List.getElem?_cons_succ]; exact hit)
              have hatb : atI (D.str k :: items) ((pre.length : Nat) : Int) = some bef := atI_nat hbef
              have hokn := hok nm (zip_fst hin)
              have hexp : nm = sExp → bef = items.headD .non ∧ ∃ p : Str, bef = .str p ∧ p.length ≤ 1000 := fun z => by
                have hn : names = names.take pre.length ++ sExp :: names.drop (pre.length + 1) := by
                  have e1 : names[pre.length] = sExp := by
                    have := List.getElem?_eq_getElem hp
                    rw [hnm] at this
                    rw [← Option.some.inj this, z]
                  rw [← e1, List.getElem_cons_drop, List.take_append_drop]
                have h1 := hex _ _ hn
                have hl1 : pre.length = 1 := by
                  have := congrArg List.length h1
                  rw [List.length_take] at this
                  simp at this
                  omega
                obtain ⟨i0, its, rfl⟩ : ∃ i0 its, items = i0 :: its := by
                  cases items with
                  | nil => simp at hpi
                  | cons i0 its => exact ⟨i0, its, rfl⟩
                obtain ⟨n0, ns, rfl⟩ : ∃ n0 ns, names = n0 :: ns := by
                  cases names with
                  | nil => simp at hp
                  | cons n0 ns => exact ⟨n0, ns, rfl⟩
                rw [hl1] at hbef h1
                have hb : i0 = bef := by simpa using hbef
                subst hb
                have hn0 : n0 = sPath := by simpa using h1
                subst hn0
                have hf := hps (sPath, i0) (by rw [hl1]; simp)
                have hf : fit sPath i0 i0 = true := hf
                have n1 : sPath ≠ sHow := by decide +kernel
                have n2 : sPath ≠ sRows := by decide +kernel
                unfold fit at hf
                rw [if_neg n1, if_neg n2, if_pos rfl] at hf
                obtain ⟨w, rfl⟩ := rp_str hf
                exact ⟨rfl, w, rfl, rp_len hf⟩
              have hfb : fit nm it bef = fit nm it (items.headD .non) := by
                by_cases h : nm = sExp
                · rw [(hexp h).1]
                · exact fit_first h _ _ _
              have hall : ∀ p ∈ (names.zip items).take pre.length, Shp p.1 p.2 := fun p hp => (fit_ok (hok _ (zip_fst (List.mem_of_mem_take hp))) (hps p hp)).1
              have hfew := law_few hall
              rw [List.length_take] at hfew
              have eT : (names.zip items).take (pre.length + 1) = (names.zip items).take pre.length ++ [(nm, it)] := by
                rw [List.take_add_one, hz]; rfl
              refine ⟨.str nm, hatn, it, hati, bef, hatb, nm, it, bef, rfl, hokn, hv2, fun z => (hexp z).2, _, rfl, ifB2 (fun g => ?_) fun g => ?_⟩
              · have g' : fit nm it (items.headD .non) = false := by rw [← hfb]; simpa using g
                unfold wordIn at hQ
                rw [hsplit, find_first (f := fun p : Str × D => fit p.1 p.2 (items.headD .non)) hps g'] at hQ
                exact ⟨.str nm, hatn, hQ⟩
              · have g' : fit nm it (items.headD .non) = true := by rw [← hfb]; simpa using g
                have hps' : ∀ p ∈ (names.zip items).take (pre ++ [D.int ((pre.length : Nat) : Int)]).length, fit p.1 p.2 (items.headD .non) = true := fun p hp => by
                  rw [List.length_append, List.length_singleton, eT] at hp
                  rcases List.mem_append.mp hp with z | z
                  · exact hps p z
                  · have : p = (nm, it) := by simpa using z
                    rw [this]
                    exact g'
                have eL : lawPs ((names.zip items).take (pre ++ [D.int ((pre.length : Nat) : Int)]).length) = lawPs ((names.zip items).take pre.length) ++ lawIt nm it := by
                  rw [List.length_append, List.length_singleton, eT, lawPs_app]
                refine ⟨.str nm, hatn, zl _ (by decide), [sRows, sHow, sPath], rfl, rfl, ifB2 (fun q => ?_) fun q => ?_⟩
                · have q' : inTx (.str nm) [sRows, sHow, sPath] = false := by simpa using q
                  obtain ⟨g1, g2, g3⟩ := nin q'
                  obtain ⟨xs, rfl, hx6⟩ := (fit_ok hokn g').1.2 g1 g3 g2
                  have eI : lawIt nm (.tup xs) = xs := by unfold lawIt; rw [q']; rfl
                  rw [eI] at eL
                  refine ⟨.tup xs, hati, .tup xs, xs, rfl, rfl, by omega, rfl, .sh (.int ((pre.length : Nat) : Int)), c5, c6, ?_, hps'⟩
                  rw [eL]
                  rfl
                · have q' : inTx (.str nm) [sRows, sHow, sPath] = true := by simpa using q
                  have eI : lawIt nm it = [] := by unfold lawIt; rw [q']; rfl
                  rw [eI, List.append_nil] at eL
                  refine ⟨rfl, .sh (.int ((pre.length : Nat) : Int)), c5, c6, ?_, hps'⟩
                  rw [eL]
                  rfl
            · rintro ρ s' ⟨rfl, c4, c5, c6, rfl, hps⟩
              have hr : (rngD 0 ((names.length : Nat) : Int).toNat).length = names.length := by rw [rngD_length]; simp
              rw [hr, List.take_of_length_le (by omega)] at hps
              rw [hr, List.take_of_length_le (by omega)]
              obtain ⟨n0, ns, rfl⟩ : ∃ n0 ns, names = n0 :: ns := by
                cases names with
                | nil => exact absurd rfl hne
                | cons n0 ns => exact ⟨n0, ns, rfl⟩
              obtain ⟨i0, its, rfl⟩ : ∃ i0 its, items = i0 :: its := by
                cases items with
                | nil => simp at c
                | cons i0 its => exact ⟨i0, its, rfl⟩
              have hme := main_eq ef c
              have hall : ∀ p ∈ (n0 :: ns).zip (i0 :: its), Shp p.1 p.2 := fun p hp => (fit_ok (hok _ (zip_fst hp)) (hps p hp)).1
              have hMfew : (mainPaths k (n0 :: ns) (i0 :: its)).length ≤ 60 ∧ ∀ x ∈ mainPaths k (n0 :: ns) (i0 :: its), okS x := by
                unfold mainPaths
                by_cases hk : k = sFace
                · rw [if_pos hk]
                  have hnm := hface hk
                  injection hnm with hn0 hns
                  subst hn0 hns
                  obtain ⟨i1, rfl⟩ : ∃ i1, its = [i1] := by
                    match its, c with
                    | [i1], _ => exact ⟨i1, rfl⟩
                  have n1 : sExp ≠ sHow := by decide +kernel
                  have n2 : sExp ≠ sRows := by decide +kernel
                  have n3 : sExp ≠ sPath := by decide +kernel
                  obtain ⟨hsh, hoks⟩ := fit_ok (hok sExp (by simp)) (hps (sExp, i1) (by simp))
                  obtain ⟨xs, rfl, hx6⟩ := hsh.2 n2 n3 n1
                  have ei : itemPaths sExp (.tup xs) = xs := by unfold itemPaths; rw [if_neg n2, if_neg n3, if_neg n1]; rfl
                  rw [ei] at hoks
                  exact ⟨by show xs.length ≤ 60; omega, hoks⟩
                · rw [if_neg hk]
                  have hfew := pths_few hall
                  refine ⟨by omega, fun x hx => ?_⟩
                  obtain ⟨p, hp, hx⟩ := List.mem_flatMap.mp hx
                  exact (fit_ok (hok _ (zip_fst hp)) (hps p hp)).2 x hx
              unfold wordIn at hQ
              rw [find_all (f := fun p : Str × D => fit p.1 p.2 (List.headD (i0 :: its) .non)) hps] at hQ
              generalize hM : mainPaths k (n0 :: ns) (i0 :: its) = M at hme hMfew hQ
              obtain ⟨hM60, hMok⟩ := hMfew
              have hQ : Qd (if ovN M M.length = true then wOver else .non) s' := hQ
              have cont : ∀ c4 c5 c6 : Sl, (dSeq (dFor (diR1 (daCons (dB lenD (daCons (dVar 3) daNil)) daNil)) (gN 4) (dIf (dCmT (eqE true) (dLc (diSeq (dSl slD (dVar 3) doNone (doSome (dVar 4)))) (gN 6) (dTr (dCall spOvl (daCons (dVar 6) (daCons (dOp ixD (dVar 3) (dVar 4)) daNil)))) (dVar 6) [6]) (dLst daNil)) (dRet (dC (D.str (Str.ofString "overlap")))) dNext)) (dRet (dC D.non)) : DTS m) (endsOf Qd)
                  [.sh (.tup (.str k :: i0 :: its)), .ow (.dic (keysOf (forms.map (·.1))) (forms.map fun p => D.lst (p.2.map .str))), .sh (.lst ((n0 :: ns).map .str)), .sh (.lst M), c4, c5, c6] s' := fun c4 c5 c6 => by
                refine ⟨.lst M, M.length, rfl, rfl, _, rfl, by omega, by omega, fun pre ρ s2 => s2 = s' ∧ (∃ c4 c5 c6, ρ = [.sh (.tup (.str k :: i0 :: its)), .ow (.dic (keysOf (forms.map (·.1))) (forms.map fun p => D.lst (p.2.map .str))), .sh (.lst ((n0 :: ns).map .str)), .sh (.lst M), c4, c5, c6]) ∧ ovN M pre.length = false, ⟨rfl, ⟨_, _, _, rfl⟩, rfl⟩, ?_, ?_⟩
                · rintro pre x post ρ s2 e ⟨rfl, ⟨c4, c5, c6, rfl⟩, ho⟩
                  obtain ⟨hp, rfl⟩ := rng_pre e
                  have hp : pre.length < M.length := by simpa using hp
                  rw [show (0 : Int) + ((pre.length : Nat) : Int) = ((pre.length : Nat) : Int) from Int.zero_add _]
                  obtain ⟨p, hpM⟩ : ∃ p, M[pre.length]? = some p := ⟨_, List.getElem?_eq_getElem hp⟩
                  obtain ⟨z, rfl, hz⟩ := hMok p (List.mem_of_getElem? hpM)
                  have hcut : DL.cutD M none (some ((pre.length : Nat) : Int)) = M.take pre.length := cut_take (by omega)
                  have hat := ovN_at hpM
                  have hcl : (DL.cutD M none (some ((pre.length : Nat) : Int))).length ≤ 60 := by rw [hcut, List.length_take]; omega
                  refine ⟨_, rfl, _, rfl, line_of (by omega), fun pre1 acc s3 => s3 = s2 ∧ acc = pre1.filter fun y => ovs y (.str z), ⟨rfl, rfl⟩, ?_, ?_⟩
                  · rintro pre1 y post1 acc s3 e1 - ⟨rfl, rfl⟩
                    rw [hcut] at e1
                    obtain ⟨o, rfl, ho'⟩ := hMok y (List.mem_of_mem_take (by rw [e1]; simp))
                    have ha := lst_app (fun y => ovs y (.str z)) pre1 (.str o)
                    refine ⟨.str z, atI_nat hpM, o, z, rfl, ho', hz, _, rfl, rfl, ifB2 (fun q => ?_) fun q => ?_⟩
                    · rw [show ovs (.str o) (.str z) = true from q] at ha
                      exact ⟨rfl, rfl, ha⟩
                    · rw [show ovs (.str o) (.str z) = false from q] at ha
                      exact ⟨rfl, ha⟩
                  · rintro acc s3 - ⟨rfl, rfl⟩
                    rw [hcut]
                    have ef2 : ((M.take pre.length).filter fun y => ovs y (.str z)).isEmpty = !((M.take pre.length).any (ovs (.str z))) := by
                      rw [filter_any]
                      congr 2
                      funext y
                      exact ovs_comm _ _
                    refine ⟨by show 0 ≤ sizeLine; exact Nat.zero_le _, _, rfl, rfl, ?_⟩
                    rw [ef2, Bool.true_xor, Bool.not_not]
                    refine ifB2 (fun q => ?_) fun q => ?_
                    · rw [q, Bool.or_true] at hat
                      rw [if_pos (ovN_mono hat M.length (by omega))] at hQ
                      exact hQ
                    · refine ⟨rfl, ⟨_, _, _, rfl⟩, ?_⟩
                      rw [List.length_append]
                      show ovN M (pre.length + 1) = false
                      rw [hat, ho, q]
                      rfl
                · rintro ρ s2 ⟨rfl, ⟨c4, c5, c6, rfl⟩, ho⟩
                  have hr : (rngD 0 ((M.length : Nat) : Int).toNat).length = M.length := by rw [rngD_length]; simp
                  rw [hr] at ho
                  rw [if_neg (by rw [ho]; simp)] at hQ
                  exact hQ
              refine ⟨.str n0, atI_nat (j := 0) rfl, rfl, rfl, ?_⟩
              rw [eqs]
              refine ifBd (fun hn0 => ?_) fun hn0 => ?_
              · rw [show List.headD (n0 :: ns) sHow = n0 from rfl, if_pos hn0] at hme
                have hfit := hps (n0, i0) (by simp)
                obtain ⟨rs, rfl, hr5, hrr⟩ := (hall (n0, i0) (by simp)).1 hn0
                have hme : lawPs ((n0 :: ns).zip (.tup rs :: its)) ++ rs.flatMap tupOf = M := hme
                refine ⟨.tup rs, atI_nat (j := 1) rfl, rs, rfl, fun pre ρ s2 => s2 = s' ∧ ∃ c4 c5 c6, ρ = [.sh (.tup (.str k :: .tup rs :: its)), .ow (.dic (keysOf (forms.map (·.1))) (forms.map fun p => D.lst (p.2.map .str))), .sh (.lst ((n0 :: ns).map .str)), .sh (.lst (lawPs ((n0 :: ns).zip (.tup rs :: its)) ++ pre.flatMap tupOf)), c4, c5, c6], ⟨rfl, _, _, _, by rw [show (([] : List D).flatMap tupOf) = [] from rfl, List.append_nil]⟩, ?_, ?_⟩
                · rintro pre x post ρ s2 e1 ⟨rfl, c4, c5, c6, rfl⟩
                  obtain ⟨xs, rfl, hx4⟩ := hrr x (by rw [e1]; simp)
                  have efm : (pre ++ [D.tup xs]).flatMap tupOf = pre.flatMap tupOf ++ xs := by rw [List.flatMap_append]; simp [tupOf]
                  refine ⟨.tup xs, xs, rfl, rfl, ?_, rfl, c4, .sh (.tup xs), c6, by rw [efm, ← List.append_assoc]; rfl⟩
                  have : (lawPs ((n0 :: ns).zip (.tup rs :: its)) ++ rs.flatMap tupOf).length ≤ 60 := by rw [hme]; exact hM60
                  have hfl : (rs.flatMap tupOf).length = (pre.flatMap tupOf).length + ((tupOf (.tup xs)).length + (post.flatMap tupOf).length) := by
                    rw [e1]
                    simp only [List.flatMap_append, List.flatMap_cons, List.length_append]
                  rw [List.length_append, hfl] at this
                  have h2 : (tupOf (.tup xs)).length = xs.length := rfl
                  show (lawPs _ ++ pre.flatMap tupOf).length + xs.length ≤ sizeLine
                  rw [List.length_append]
                  omega
                · rintro ρ s2 ⟨rfl, c4, c5, c6, rfl⟩
                  rw [hme]
                  exact cont _ _ _
              · rw [show List.headD (n0 :: ns) sHow = n0 from rfl, if_neg hn0, List.append_nil] at hme
                rw [hme]
                exact cont _ _ _
      | any _ => cases htx
      | fz _ => cases htx
      | ins _ _ _ => cases htx
      | exc _ _ _ => cases htx
      | cau _ _ _ _ => cases htx
      | exk _ _ _ => cases htx
      | _ => cases htx; exact hQ
  | any _ => cases ht
  | fz _ => cases ht
  | ins _ _ _ => cases ht
  | exc _ _ _ => cases ht
  | cau _ _ _ _ => cases ht
  | exk _ _ _ => cases ht
  | _ => cases ht; exact hQ
def T_texts29 (n : Nat) {m : Mem} : DTS m :=
  (dSeq (dIf (dNotT (dTr (dB isiD (daCons (dVar 0) (daCons (dC (D.any (V.ty "tuple"))) daNil))))) (dRet (dLst (daCons (dVar 0) daNil))) dNext)
      (dSeq (dSet 1 (dLst daNil))
      (dSeq (dFor (diSeq (dVar 0)) (gN 2)
        (dSet 1 (dOp addD (dVar 1) (dCall (spTx n) (daCons (dVar 2) daNil)))))
      (dRet (dVar 1)))))
theorem read_texts29 (n : Nat) {m : Mem} : ∀ ds s Qd, (spTx (n + 1) : DSp m) ds s Qd → (T_texts29 n : DTS m) (endsOf Qd) (startD ["_law_value", "_law_found", "_law_part"] ds) s := by
  intro ds s Qd h
  obtain ⟨d, rfl, hd, hl, hQ⟩ := h
  have zl : ∀ n, n ≤ 40 → n ≤ sizeLine := fun n h => line_of (by omega)
  have hty : (tyT d).isSome = true := by cases n <;> exact hd.1
  obtain ⟨t, ht⟩ := Option.isSome_iff_exists.mp hty
  refine ⟨d, .tup, t, rfl, ht, (by intro z; cases z), _, rfl, ?_⟩
  cases d with
  | tup xs =>
    cases ht
    cases n with
    | zero => exact absurd rfl (hd.2 xs)
    | succ n =>
      obtain ⟨hz, hx⟩ := hd.2 xs rfl
      have hl : (lvs xs).length ≤ 1000 := hl
      refine ⟨zl _ (by decide), xs, rfl, fun pre ρ s' => s' = s ∧ ∃ c2, ρ = [.sh (.tup xs), .sh (.lst (lvs pre)), c2], ⟨rfl, _, rfl⟩, ?_, ?_⟩
      · rintro pre x post ρ s' e ⟨rfl, c2, rfl⟩
        have hle : (lvs pre).length + ((lv x).length + (lvs post).length) ≤ 1000 := by
          have h := hl
          rw [e, lvs_app] at h
          have h2 : (lvs pre ++ (lv x ++ lvs post)).length ≤ 1000 := h
          rw [List.length_append, List.length_append] at h2
          exact h2
        refine ⟨x, rfl, hx x (by rw [e]; simp), by omega, line_of (by omega), rfl, .sh x, ?_⟩
        rw [lvs_app]
        show _ = [_, Sl.sh (.lst (lvs pre ++ (lv x ++ []))), _]
        rw [List.append_nil]
        rfl
      · rintro ρ s' ⟨rfl, c2, rfl⟩
        exact hQ
  | any _ => cases ht
  | fz _ => cases ht
  | ins _ _ _ => cases ht
  | exc _ _ _ => cases ht
  | cau _ _ _ _ => cases ht
  | exk _ _ _ => cases ht
  | _ => cases ht; exact ⟨zl 1 (by decide), hQ⟩
def T_put29 (n : Nat) {m : Mem} : DTS m :=
  (dSeq (dIf (dTr (dB isiD (daCons (dVar 0) (daCons (dC (D.any (V.ty "tuple"))) daNil)))) (dRet (dB tupD (daCons (dLc (diSeq (dVar 0)) (gN 3) dYes (dCall (spPut n) (daCons (dVar 3) (daCons (dVar 1) (daCons (dVar 2) daNil)))) [3]) daNil))) dNext)
      (dRet (dIfE (dCmT eqC (dVar 0) (dVar 1)) (dVar 2) (dVar 0))))
theorem read_put29 (n : Nat) {m : Mem} : ∀ ds s Qd, (spPut (n + 1) : DSp m) ds s Qd → (T_put29 n : DTS m) (endsOf Qd) (startD ["_law_value", "_law_old", "_law_new", "_law_part"] ds) s := by
  intro ds s Qd h
  obtain ⟨d, old, new, rfl, hd, ho, hp, hQ⟩ := h
  have hty : (tyT d).isSome = true := by cases n <;> exact hd.1
  obtain ⟨t, ht⟩ := Option.isSome_iff_exists.mp hty
  refine ⟨d, .tup, t, rfl, ht, (by intro z; cases z), _, rfl, ?_⟩
  have leaf : ∀ d : D, plainD 60 d = true → Qd (if eqD d old = true then new else d) s → (plainD 60 d = true ∧ plainD 60 old = true ∧ ifB (eqD d old) (Qd new s) (Qd d s)) := fun d h1 h2 => by
    refine ⟨h1, ho, ifB2 (fun g => ?_) fun g => ?_⟩
    · rw [if_pos g] at h2; exact h2
    · rw [if_neg (by rw [g]; simp)] at h2; exact h2
  cases d with
  | tup xs =>
    cases ht
    cases n with
    | zero => exact absurd rfl (hd.2 xs)
    | succ n =>
      obtain ⟨hz, hx⟩ := hd.2 xs rfl
      have hp : ∀ x ∈ lvs xs, plainD 60 x = true := hp
      refine ⟨xs, rfl, line_of (by omega), fun pre acc s' => s' = s ∧ acc = pts old new pre, ⟨rfl, rfl⟩, ?_, ?_⟩
      · rintro pre x post acc s' e - ⟨rfl, rfl⟩
        refine ⟨rfl, x, old, new, rfl, hx x (by rw [e]; simp), ho, fun y hy => hp y ?_, rfl, rfl, ?_⟩
        · rw [e, lvs_app]
          exact List.mem_append_right _ (List.mem_append_left _ hy)
        · rw [pts_app]
          rfl
      · rintro acc s' - ⟨rfl, rfl⟩
        exact ⟨_, _, rfl, rfl, hQ⟩
  | any _ => cases ht
  | fz _ => cases ht
  | ins _ _ _ => cases ht
  | exc _ _ _ => cases ht
  | cau _ _ _ _ => cases ht
  | exk _ _ _ => cases ht
  | _ => cases ht; exact leaf _ (hp _ (List.mem_singleton.mpr rfl)) hQ
def T_covers29 {m : Mem} : DTS m :=
  (dRet (dOrV (dCm eqC (dVar 1) (dVar 0)) (dMt "str" swD (dVar 1) (daCons (dOp addD (dVar 0) (dC (D.str (Str.ofString ".")))) daNil))))
theorem read_covers29 {m : Mem} : ∀ ds s Qd, (spCovers : DSp m) ds s Qd → (T_covers29 : DTS m) (endsOf Qd) (startD ["path", "other"] ds) s := by
  intro ds s Qd h
  obtain ⟨p, o, rfl, hl, hQ⟩ := h
  have hd : (Str.ofString ".") = dot := by decide +kernel
  refine ⟨rfl, rfl, _, rfl, ?_⟩
  rw [eqs]
  unfold coversS at hQ
  rw [beq_dec] at hQ
  by_cases e : o = p
  · rw [decide_eq_true e, Bool.true_or] at hQ
    rw [decide_eq_true e]
    exact hQ
  · rw [decide_eq_false e, Bool.false_or] at hQ
    rw [decide_eq_false e]
    refine ⟨rfl, ?_, o, p ++ Str.ofString ".", rfl, rfl, ?_⟩
    · rw [hd]
      show p.length + 1 ≤ strLim
      have : strLim = 1000000 := rfl
      omega
    · rw [hd]
      exact hQ
def T_is_name29 {m : Mem} : DTS m :=
  (dRet (dAndV (dCh leD leD (dC (D.int 1)) (dB lenD (daCons (dVar 0) daNil)) (dC (D.int 8))) (dB allD (daCons (dLc (diStr (dVar 0)) (gN 1) dYes (dCh leD leD (dC (D.str (Str.ofString "a"))) (dVar 1) (dC (D.str (Str.ofString "z")))) [1]) daNil))))
theorem read_is_name29 {m : Mem} : ∀ ds s Qd, (spIsName : DSp m) ds s Qd → (T_is_name29 : DTS m) (endsOf Qd) (startD ["text", "letter"] ds) s := by
  intro ds s Qd h
  obtain ⟨x, rfl, hx, hQ⟩ := h
  refine ⟨.str x, x.length, rfl, rfl, ifBd (fun h1 => ?_) fun h1 => ?_⟩
  · refine ⟨_, rfl, ifBd (fun h2 => ?_) fun h2 => ?_⟩
    · refine ⟨x, rfl, (by rw [chD_length]; exact line_of (by omega)), fun pre acc s' => s' = s ∧ ∃ cs : List Nat, pre = cs.map (fun c => D.str ⟨#[c]⟩) ∧ acc = (cs.map okc).map D.bl, ⟨rfl, [], rfl, rfl⟩, ?_, ?_⟩
      · rintro pre y post acc s' e - ⟨rfl, cs, rfl, rfl⟩
        obtain ⟨c, rfl, hc⟩ := ch_app e
        refine ⟨rfl, ?_⟩
        show ifB (!ltS ⟨#[c]⟩ (Str.ofString "a")) _ _
        rw [le_a]
        refine ifBd (fun g1 => ?_) fun g1 => ?_
        · refine ⟨rfl, rfl, cs ++ [c], by rw [List.map_append]; rfl, ?_⟩
          rw [← bl_app, le_z]
          unfold okc
          rw [decide_eq_true g1, Bool.true_and]
        · refine ⟨rfl, rfl, cs ++ [c], by rw [List.map_append]; rfl, ?_⟩
          rw [← bl_app]
          unfold okc
          rw [decide_eq_false g1, Bool.false_and]
      · rintro acc s' - ⟨rfl, cs, e, rfl⟩
        have ec : tl x = cs := chr_inj e
        refine ⟨_, rfl, ?_⟩
        have ek : okName x = (cs.map okc).all id := by
          unfold okName okLen
          rw [decide_eq_true (by omega), decide_eq_true (by omega), ec, List.all_map]
          rfl
        rw [ek] at hQ
        exact hQ
    · have ek : okName x = false := by unfold okName okLen; rw [decide_eq_false (p := x.length ≤ 8) (by omega), Bool.and_false, Bool.false_and]
      rw [ek] at hQ
      rw [decide_eq_false h2]
      exact hQ
  · have ek : okName x = false := by unfold okName okLen; rw [decide_eq_false (p := 1 ≤ x.length) (by omega), Bool.false_and, Bool.false_and]
    rw [ek] at hQ
    exact ⟨_, rfl, hQ⟩
def T_is_path29 {m : Mem} : DTS m :=
  (dSeq (dIf (dNotT (dTr (dB isiD (daCons (dVar 0) (daCons (dC (D.any (V.ty "str"))) daNil))))) (dRet (dC (D.bl false))) dNext)
      (dSeq (dSet 1 (dMt "str" splitD (dVar 0) (daCons (dC (D.str (Str.ofString "."))) daNil)))
      (dRet (dAndV (dCm leD (dB lenD (daCons (dVar 1) daNil)) (dC (D.int 6))) (dB allD (daCons (dLc (diSeq (dVar 1)) (gN 2) dYes (dCall spIsName (daCons (dVar 2) daNil)) [2]) daNil))))))
theorem read_is_path29 {m : Mem} : ∀ ds s Qd, (spIsPath : DSp m) ds s Qd → (T_is_path29 : DTS m) (endsOf Qd) (startD ["value", "names", "name"] ds) s := by
  intro ds s Qd h
  obtain ⟨d, rfl, ⟨⟨t, ht⟩, hx⟩, hQ⟩ := h
  have hd : (Str.ofString ".") = dot := by decide +kernel
  refine ⟨d, .str, t, rfl, ht, (by intro z; cases z), _, rfl, ?_⟩
  cases d with
  | str x =>
    cases ht
    have hx := hx x rfl
    refine ⟨rfl, x, 46, rfl, (by rw [hd]; rfl), by decide, ?_⟩
    refine ⟨_, (splS 46 x).length, rfl, (by show some _ = _; rw [List.length_map]), _, rfl, ?_⟩
    refine ifBd (fun h1 => ?_) fun h1 => ?_
    · refine ⟨_, rfl, (by rw [List.length_map]; exact line_of (Nat.le_trans splS_count (by omega))), fun pre acc s' => s' = s ∧ ∃ ls : List Str, pre = ls.map D.str ∧ acc = (ls.map okName).map D.bl, ⟨rfl, [], rfl, rfl⟩, ?_, ?_⟩
      · rintro pre y post acc s' e - ⟨rfl, ls, rfl, rfl⟩
        obtain ⟨z, rfl, hz⟩ : ∃ z, y = D.str z ∧ z ∈ splS 46 x := by
          have hm : y ∈ (splS 46 x).map D.str := by rw [e]; simp
          obtain ⟨z, hz, rfl⟩ := List.mem_map.mp hm
          exact ⟨z, rfl, hz⟩
        exact ⟨rfl, z, rfl, Nat.le_trans (splS_each z hz) hx, rfl, rfl, ls ++ [z], (by rw [List.map_append]; rfl), (by rw [List.map_append, List.map_append]; rfl)⟩
      · rintro acc s' - ⟨rfl, ls, e, rfl⟩
        have e1 : splS 46 x = ls := map_str_inj e
        refine ⟨_, rfl, ?_⟩
        have ek : isPathD (.str x) = (ls.map okName).all id := by
          show (decide _ && _) = _
          rw [decide_eq_true (by omega), Bool.true_and, e1, List.all_map]
          rfl
        rw [ek] at hQ
        exact hQ
    · have ek : isPathD (.str x) = false := by
        show (decide _ && _) = _
        rw [decide_eq_false (by omega), Bool.false_and]
      rw [ek] at hQ
      rw [decide_eq_false h1]
      exact hQ
  | any _ => cases ht
  | fz _ => cases ht
  | ins _ _ _ => cases ht
  | exc _ _ _ => cases ht
  | cau _ _ _ _ => cases ht
  | exk _ _ _ => cases ht
  | _ => cases ht; exact hQ
def T_is_rule_path29 {m : Mem} : DTS m :=
  (dRet (dAndV (dCall spIsPath (daCons (dVar 0) daNil)) (dCm leD (dB lenD (daCons (dMt "str" splitD (dVar 0) (daCons (dC (D.str (Str.ofString "."))) daNil)) daNil)) (dC (D.int 4)))))
theorem read_is_rule_path29 {m : Mem} : ∀ ds s Qd, (spRp : DSp m) ds s Qd → (T_is_rule_path29 : DTS m) (endsOf Qd) (startD ["value"] ds) s := by
  intro ds s Qd h
  obtain ⟨d, rfl, hv, hQ⟩ := h
  have hd : (Str.ofString ".") = dot := by decide +kernel
  rw [rp_eq] at hQ
  refine ⟨d, rfl, hv, _, rfl, ifB2 (fun h => ?_) fun h => ?_⟩
  · obtain ⟨x, rfl⟩ := path_str h
    refine ⟨rfl, x, 46, rfl, (by rw [hd]; rfl), by decide, _, (splS 46 x).length, rfl, (by show some _ = _; rw [List.length_map]), ?_⟩
    rw [h, Bool.true_and] at hQ
    show Qd (.bl (decide (((splS 46 x).length : Int) ≤ 4))) s
    rw [show (4 : Int) = ((4 : Nat) : Int) from rfl, le_int]
    exact hQ
  · rw [h, Bool.false_and] at hQ
    show Qd (.bl (isPathD d)) s
    rw [h]
    exact hQ
def T_are_rule_paths29 {m : Mem} : DTS m :=
  (dRet (dAndV (dB isiD (daCons (dVar 0) (daCons (dC (D.any (V.ty "tuple"))) daNil))) (dAndV (dCh leD leD (dVar 1) (dB lenD (daCons (dVar 0) daNil)) (dVar 2)) (dB allD (daCons (dLc (diSeq (dVar 0)) (gN 3) dYes (dCall spRp (daCons (dVar 3) daNil)) [3]) daNil)))))
theorem read_are_rule_paths29 {m : Mem} : ∀ ds s Qd, (spRps : DSp m) ds s Qd → (T_are_rule_paths29 : DTS m) (endsOf Qd) (startD ["value", "least", "most", "path"] ds) s := by
  intro ds s Qd h
  obtain ⟨d, l, u, rfl, ⟨⟨⟨t, ht⟩, hx⟩, hv⟩, hQ⟩ := h
  refine ⟨d, .tup, t, rfl, ht, (by intro z; cases z), _, rfl, ?_⟩
  cases d with
  | tup xs =>
    cases ht
    obtain ⟨hz, hv⟩ := hv xs rfl
    refine ⟨.tup xs, xs.length, rfl, rfl, ifBd (fun h1 => ?_) fun h1 => ?_⟩
    · refine ⟨_, rfl, ifBd (fun h2 => ?_) fun h2 => ?_⟩
      · refine ⟨xs, rfl, line_of (by omega), fun pre acc s' => s' = s ∧ acc = (pre.map rp).map D.bl, ⟨rfl, rfl⟩, ?_, ?_⟩
        · rintro pre y post acc s' e - ⟨rfl, rfl⟩
          have hy : y ∈ xs := by rw [e]; simp
          exact ⟨rfl, y, rfl, hv y hy, rfl, rfl, bl_app2 rp pre y⟩
        · rintro acc s' - ⟨rfl, rfl⟩
          refine ⟨_, rfl, ?_⟩
          have ek : rps l u (.tup xs) = (xs.map rp).all id := by
            show (decide _ && (decide _ && _)) = _
            rw [decide_eq_true h1, decide_eq_true h2, Bool.true_and, Bool.true_and, List.all_map]
            rfl
          rw [ek] at hQ
          exact hQ
      · have ek : rps l u (.tup xs) = false := by
          show (decide _ && (decide _ && _)) = _
          rw [decide_eq_false h2, Bool.false_and, Bool.and_false]
        rw [ek] at hQ
        rw [decide_eq_false h2]
        exact hQ
    · have ek : rps l u (.tup xs) = false := by
        show (decide _ && (decide _ && _)) = _
        rw [decide_eq_false h1, Bool.false_and]
      rw [ek] at hQ
      exact ⟨_, rfl, hQ⟩
  | any _ => cases ht
  | fz _ => cases ht
  | ins _ _ _ => cases ht
  | exc _ _ _ => cases ht
  | cau _ _ _ _ => cases ht
  | exk _ _ _ => cases ht
  | _ => cases ht; exact hQ
def T_are_rows29 {m : Mem} : DTS m :=
  (dRet (dAndV (dB isiD (daCons (dVar 0) (daCons (dC (D.any (V.ty "tuple"))) daNil))) (dAndV (dCh leD leD (dC (D.int 2)) (dB lenD (daCons (dVar 0) daNil)) (dC (D.int 5))) (dB allD (daCons (dLc (diSeq (dVar 0)) (gN 1) dYes (dCall spRps (daCons (dVar 1) (daCons (dC (D.int 1)) (daCons (dC (D.int 4)) daNil)))) [1]) daNil)))))
theorem read_are_rows29 {m : Mem} : ∀ ds s Qd, (spRows : DSp m) ds s Qd → (T_are_rows29 : DTS m) (endsOf Qd) (startD ["value", "row"] ds) s := by
  intro ds s Qd h
  obtain ⟨d, rfl, ⟨⟨⟨t, ht⟩, hx⟩, hv⟩, hQ⟩ := h
  refine ⟨d, .tup, t, rfl, ht, (by intro z; cases z), _, rfl, ?_⟩
  cases d with
  | tup xs =>
    cases ht
    obtain ⟨hz, hv⟩ := hv xs rfl
    refine ⟨.tup xs, xs.length, rfl, rfl, ifBd (fun h1 => ?_) fun h1 => ?_⟩
    · refine ⟨_, rfl, ifBd (fun h2 => ?_) fun h2 => ?_⟩
      · refine ⟨xs, rfl, line_of (by omega), fun pre acc s' => s' = s ∧ acc = (pre.map (rps 1 4)).map D.bl, ⟨rfl, rfl⟩, ?_, ?_⟩
        · rintro pre y post acc s' e - ⟨rfl, rfl⟩
          have hy : y ∈ xs := by rw [e]; simp
          exact ⟨rfl, y, 1, 4, rfl, hv y hy, rfl, rfl, bl_app2 (rps 1 4) pre y⟩
        · rintro acc s' - ⟨rfl, rfl⟩
          refine ⟨_, rfl, ?_⟩
          have ek : rows (.tup xs) = (xs.map (rps 1 4)).all id := by
            show (decide _ && (decide _ && _)) = _
            rw [decide_eq_true h1, decide_eq_true h2, Bool.true_and, Bool.true_and, List.all_map]
            rfl
          rw [ek] at hQ
          exact hQ
      · have ek : rows (.tup xs) = false := by
          show (decide _ && (decide _ && _)) = _
          rw [decide_eq_false h2, Bool.false_and, Bool.and_false]
        rw [ek] at hQ
        rw [decide_eq_false h2]
        exact hQ
    · have ek : rows (.tup xs) = false := by
        show (decide _ && (decide _ && _)) = _
        rw [decide_eq_false h1, Bool.false_and]
      rw [ek] at hQ
      exact ⟨_, rfl, hQ⟩
  | any _ => cases ht
  | fz _ => cases ht
  | ins _ _ _ => cases ht
  | exc _ _ _ => cases ht
  | cau _ _ _ _ => cases ht
  | exk _ _ _ => cases ht
  | _ => cases ht; exact hQ
def T_overlap29 {m : Mem} : DTS m :=
  (dRet (dOrV (dCall spCovers (daCons (dVar 0) (daCons (dVar 1) daNil))) (dCall spCovers (daCons (dVar 1) (daCons (dVar 0) daNil)))))
theorem read_overlap29 {m : Mem} : ∀ ds s Qd, (spOvl : DSp m) ds s Qd → (T_overlap29 : DTS m) (endsOf Qd) (startD ["path", "other"] ds) s := by
  intro ds s Qd h
  obtain ⟨p, o, rfl, hp, ho, hQ⟩ := h
  refine ⟨p, o, rfl, hp, _, rfl, ifB2 (fun h => ?_) fun h => ⟨o, p, rfl, ho, ?_⟩⟩
  · rw [h] at hQ ⊢; exact hQ
  · rw [h] at hQ; exact hQ
def T_any_overlap29 {m : Mem} : DTS m :=
  (dRet (dB anyD (daCons (dLc2 (dEnumA (daCons (dVar 0) daNil)) (gTup' 2 (gCons' (gN 2) (gCons' (gN 3) gNil'))) (diSeq (dSl slD (dVar 0) doNone (doSome (dVar 2)))) (gN 1) (dCall spOvl (daCons (dVar 3) (daCons (dVar 1) daNil))) [2, 3, 1] [1]) daNil)))
theorem read_any_overlap29 {m : Mem} : ∀ ds s Qd, (spAny : DSp m) ds s Qd → (T_any_overlap29 : DTS m) (endsOf Qd) (startD ["paths", "other", "index", "path"] ds) s := by
  intro ds s Qd h
  obtain ⟨d, xs, rfl, hd, hz, hs, hQ⟩ := h
  refine ⟨d, xs, rfl, hd, fun pre acc s' => s' = s ∧ ∃ bs : List Bool, acc = bs.map D.bl ∧ bs.any id = ovN xs pre.length ∧ bs.length ≤ pre.length * 100, ⟨rfl, [], rfl, rfl, Nat.zero_le _⟩, ?_, ?_⟩
  · rintro pre x post acc s' e ⟨rfl, bs, rfl, hb, hbl⟩
    obtain ⟨p, ep, rfl⟩ := enum_split e
    have hlt : pre.length < xs.length := (List.getElem?_eq_some_iff.mp ep).1
    obtain ⟨z, rfl, hzl⟩ := hs p (List.mem_of_getElem? ep)
    refine ⟨_, rfl, rfl, _, _, rfl, _, _, rfl, rfl, ?_⟩
    have tk : ∀ (pre1 : List D) y post1, xs.take pre.length = pre1 ++ y :: post1 → okS y ∧ pre1.length < 100 := fun pre1 y post1 q => by
      have hy : y ∈ xs.take pre.length := by rw [q]; simp
      have hl : pre1.length + (post1.length + 1) = pre.length := by
        have := congrArg List.length q
        rw [List.length_take, List.length_append, List.length_cons] at this
        omega
      exact ⟨hs y (List.mem_of_mem_take hy), by omega⟩
    have hcut : DL.cutD xs none (some ((pre.length : Nat) : Int)) = xs.take pre.length := cut_take (by omega)
    have eN : ovN xs (pre.length + 1) = (ovN xs pre.length || (xs.take pre.length).any (ovs (.str z))) := by
      show (ovN xs pre.length || (match xs[pre.length]? with | some p => _ | none => false)) = _
      rw [ep]
    rcases hd with rfl | rfl <;>
    · refine ⟨_, rfl, _, rfl, rfl, fun pre1 acc1 s2 => s2 = s' ∧ ∃ bs1 : List Bool, acc1 = bs1.map D.bl ∧ bs1.any id = (ovN xs pre.length || pre1.any (ovs (.str z))) ∧ bs1.length ≤ pre.length * 100 + pre1.length, ⟨rfl, bs, rfl, (by rw [hb]; simp), (by simpa using hbl)⟩, ?_, ?_⟩
      · rintro pre1 y post1 acc1 s2 e1 ⟨rfl, bs1, rfl, hb1, hbl1⟩
        rw [hcut] at e1
        obtain ⟨⟨o, rfl, ho⟩, h100⟩ := tk pre1 y post1 e1
        refine ⟨?_, z, o, rfl, hzl, ho, rfl, rfl, bs1 ++ [coversS z o || coversS o z], (by rw [List.map_append]; rfl), ?_, ?_⟩
        · rw [List.length_map]
          have : (1000000 : Nat) ≤ sizeLine := line_of (Nat.le_refl _)
          omega
        · rw [List.any_append, hb1, List.any_append, Bool.or_assoc]
          congr 1
        · rw [List.length_append, List.length_append]; simp <;> omega
      · rintro acc1 s2 ⟨rfl, bs1, rfl, hb1, hbl1⟩
        rw [hcut] at hb1 hbl1
        refine ⟨rfl, bs1, rfl, ?_, ?_⟩
        · rw [List.length_append]
          show bs1.any id = ovN xs (pre.length + 1)
          rw [hb1, eN]
        · rw [List.length_take] at hbl1
          rw [List.length_append]
          simp <;> omega
  · rintro acc s' ⟨rfl, bs, rfl, hb, hbl⟩
    have hl : (enumD xs).length = xs.length := by unfold enumD; rw [List.length_mapIdx]
    rw [hl] at hb
    rw [← hb] at hQ
    exact ⟨_, rfl, hQ⟩
end R29

set_option Elab.async false
set_option linter.all false
set_option maxRecDepth 100000
/-! EL1: sorted(..) of a tuple, by any order -/
namespace ELR
open PySem PySem.Spec PyProof.Rows L2 HT SrtO
section
variable {P : Program} {w : World} {A : Around} {X0 : Value → Shared → Prop} {s : Shared}
end
end ELR

set_option Elab.async false
set_option linter.all false
set_option maxRecDepth 100000
/-! EL2: instances of own classes: made by a call, whose __init__ is a def over data -/
namespace DL
open PySem PySem.Spec PyProof.Rows L2 TL
/-- all but one object -/
def hid (H : Hp) (x : Addr) : Hp := fun a => if a = x then none else H a
theorem hid_self {H : Hp} {x : Addr} : hid H x x = none := if_pos rfl
theorem hid_ne {H : Hp} {x a : Addr} (h : a ≠ x) : hid H x a = H a := if_neg h
theorem hid_some {H : Hp} {x a : Addr} {o : HO} (h : hid H x a = some o) : a ≠ x ∧ H a = some o := by
  unfold hid at h
  split at h
  · cases h
  · rename_i n
    exact ⟨n, h⟩
section
variable {P : Program} {w : World} {K : PySem.W.Frag} {mg : Str → Option Value} {base : Heap} {m : Mem}
end
section
variable {X : Cx} {m : Mem} {E : Ent m} {e : Expr} {es : List Expr} {t : TA} {u : DTA m} {x : Str} {p pos : Pos} {C f : Addr} {k : Nat} {fd : FuncData} {ps : List Str} {sp : Sp}
end
end DL

set_option Elab.async false
set_option linter.all false
set_option maxRecDepth 100000
/-! EL3: fields stored in an __init__; empty sets; sorted of what is empty; isinstance of own instances -/
namespace DL
open PySem PySem.Spec PyProof.Rows L2 TL
theorem putF_new {f : Str} {v : V} : ∀ {fs : List (Str × V)}, f ∉ fs.map (·.1) → putF f v fs = fs ++ [(f, v)]
  | [], _ => rfl
  | (g, x) :: r, h => by
    have h1 : g ≠ f := fun e => h (by rw [e]; simp)
    have h2 : f ∉ r.map (·.1) := fun e => h (by rw [List.map_cons]; exact List.mem_cons_of_mem _ e)
    show (if g = f then (g, v) :: r else (g, x) :: putF f v r) = _
    rw [if_neg h1, putF_new h2]
    rfl
section
variable {X : Cx} {m : Mem} {E : Ent m} {e : Expr} {te : DT m} {pos : Pos}
/-- self.f = e, a field that is not there yet -/
def dFst {m : Mem} (C : Addr) (i : Nat) (f : Str) (te : DT m) : DTS m := fun dd ρ s => te ρ s fun d ρ1 s1 => ∃ x dx ns ds, ρ1[i]? = some (.ow (.ins x dx C ns ds)) ∧ f ∉ ns ∧ ns.length < 900 ∧ dd.nx (ρ1.set i (.ow (.ins x dx C (ns ++ [f]) (ds ++ [d])))) s1
theorem ds_fst (i : Nat) {y f : Str} {C : Addr} {xpos p' : Pos} (cl : Cls X.K C) (na : NoAttr X.K C f) (he : PE X e (up X.K m te)) (hN : X.N[i]? = some y := by rfl) (hv : Vis X.env.scope y := by first | exact Or.inl rfl | exact Or.inr (Or.inl rfl) | exact Or.inr (Or.inr rfl))
    (hd : (y == ("__debug__" : Str)) = false := by decide) (hcd : (y == ("__classdict__" : Str)) = false := by decide) (hs : swapsWith e (some (.Attribute (.Name y xpos) f p')) pos.line X.env = pure false := by rfl) :
    PS X (.Assign [.Attribute (.Name y xpos) f p'] e pos) (upS X.K m E (dFst C i f te)) :=
  PS.imp (ps_fld (pv i hN hv hd hcd) he hs) fun DD σ H h => by
    obtain ⟨F, ρ, s, dd, r, o, ht, ft⟩ := h
    refine ⟨F, ρ, s, _, r, ht, fun d ρ1 s1 v F1 H1 ⟨x, dx, ns, ds, e1, hn, hl, q1⟩ r1 st1 rv => ?_⟩
    obtain ⟨p, ho, h1, h2, ⟨rfl, fs, rfl, h3, h4⟩, h5, h6⟩ := r1.own_at e1
    have hl2 : fs.length < 900 := by rw [← h3, List.length_map] at hl; exact hl
    refine ⟨.ref p, h1, p, C, dx, fs, rfl, h2, cl, na, by omega, ?_⟩
    rw [putF_new (by rw [h3]; exact hn)]
    exact ft.nx F1 _ σ _ s1 st1.ext (r1.write (o' := .ins p dx C (ns ++ [f]) (ds ++ [d])) e1 h1 ⟨rfl, _, rfl, by rw [List.map_append, h3]; rfl, by rw [List.map_append]; exact h4.append (.one rv)⟩) ((o.stp st1).write (K := X.K) e1 h1) q1
/-! ### sets that stay empty -/
/-! ### sorted(()) -/
/-! ### isinstance of instances of own classes -/
structure InsK (K : PySem.W.Frag) (C : Addr) : Prop where
  cl : Cls K C
  ha : PySem.W.findIn K (.ref C) "__class__" = some (some (.builtin "object.__class__"))
  hn : PySem.W.specialIn K (.builtin "object.__class__") "__get__" = some (some (.builtin "getset_descriptor.__get__"))
  ht : PySem.W.takesIn K (.builtin "object.__class__") = some true
  hm : PySem.W.mroIn K C (.type "object") = some true
  no : PySem.W.kitOne K (.ref C) (.type "tuple") = some false
end
end DL

set_option Elab.async false
set_option linter.all false
set_option maxRecDepth 100000
/-! EL4: lists of texts that lie in a list and are changed there; a popped item appended; two own lists at once -/
namespace DL
open PySem PySem.Spec PyProof.Rows L2 TL
/-- beside the state of m: lists of texts that may be changed, wherever they are named -/
def Mem.hot (m : Mem) : Mem where
  S := m.S × List (Addr × List Str)
  M := fun s H => m.M s.1 H ∧ (s.2.map Prod.fst).Nodup ∧ ∀ p ∈ s.2, H p.1 = some (.lst (p.2.map V.str)) ∧ p.2.length ≤ sizeLine ∧ (∀ x ∈ p.2, sOk x = true) ∧ ¬ m.R s.1 p.1
  R := fun s a => m.R s.1 a ∨ ∃ p ∈ s.2, p.1 = a
  loc := fun s H H' h k => ⟨m.loc s.1 H H' h.1 fun a ha => k a (.inl ha), h.2.1, fun p hp => by
    obtain ⟨h1, h2⟩ := h.2.2 p hp
    exact ⟨(k p.1 (.inr ⟨p, hp, rfl⟩)).trans h1, h2⟩⟩
  there := fun s H a h ha => by
    rcases ha with ha | ⟨p, hp, rfl⟩
    · exact m.there s.1 H a h.1 ha
    · rw [(h.2.2 p hp).1]; simp
/-- a promise kept with such lists beside -/
def hotSp {m : Mem} (sp : DSp m) : DSp (Mem.hot m) := fun ds s Q => sp ds s.1 fun d s' => Q d (s', s.2)
theorem lift_hot {K : PySem.W.Frag} {m : Mem} {n : Nat} {sp : DSp m} {vs : List V} {H : Hp} {Q : VK} {E : XK} (h : lift K (Mem.hot m) n (hotSp sp) vs H Q E) : lift K m n sp vs H Q E := by
  obtain ⟨hl, F, ds, s, Qd, sub, hm, hr, rs, hsp, hQ⟩ := h
  refine ⟨hl, F, ds, s.1, fun d s' => Qd d (s', s.2), sub, hm.1, fun a h => hr a (.inl h), rs, hsp, fun d s' v F' H' q c rv => hQ d (s', s.2) v F' H' q ?_ rv⟩
  refine ⟨c.ext, fun a o e nr => c.keep a o e fun z => nr (.inl z), c.alive, c.fresh, fun a e => ?_, c.sub, ⟨c.mem, hm.2.1, fun p hp => ?_⟩, fun a e => ?_⟩
  · rcases e with e | e
    · exact (c.regf a e).elim (fun z => .inl (.inl z)) .inr
    · exact .inl (.inr e)
  · obtain ⟨h1, h2, h3, h4⟩ := hm.2.2 p hp
    refine ⟨c.keep _ _ h1 h4, h2, h3, fun z => ?_⟩
    rcases c.regf _ z with z | z
    · exact h4 z
    · rw [h1] at z; cases z
  · rcases e with e | ⟨p, hp, rfl⟩
    · exact c.reg a e
    · cases q : F' p.1 with
      | none => rfl
      | some o =>
        rcases c.fresh _ o q with z | z
        · rw [hr _ (.inr ⟨p, hp, rfl⟩)] at z; cases z
        · rw [(hm.2.2 p hp).1] at z; cases z
/-- .. and a def that makes such lists for itself -/
theorem lift_cold {K : PySem.W.Frag} {m : Mem} {n : Nat} {sp : DSp m} {sp' : DSp (Mem.hot m)} (hs : ∀ ds s Q, sp ds s Q → sp' ds (s, []) fun d s' => Q d s'.1) {vs : List V} {H : Hp} {Q : VK} {E : XK} (h : lift K m n sp vs H Q E) : lift K (Mem.hot m) n sp' vs H Q E := by
  obtain ⟨hl, F, ds, s, Qd, sub, hm, hr, rs, hsp, hQ⟩ := h
  refine ⟨hl, F, ds, (s, []), fun d s' => Qd d s'.1, sub, ⟨hm, List.nodup_nil, fun p hp => nomatch hp⟩, fun a h => ?_, rs, hs _ _ _ hsp, fun d s' v F' H' q c rv => hQ d s'.1 v F' H' q ⟨c.ext, fun a o e nr => c.keep a o e fun z => ?_, c.alive, c.fresh, fun a e => ?_, c.sub, c.mem.1, fun a e => c.reg a (.inl e)⟩ rv⟩
  · rcases h with h | ⟨p, hp, _⟩
    · exact hr a h
    · cases hp
  · rcases z with z | ⟨p, hp, _⟩
    · exact nr z
    · cases hp
  · rcases c.regf a (.inl e) with z | z
    · rcases z with z | ⟨p, hp, _⟩
      · exact .inl z
      · cases hp
    · exact .inr z
section
variable {K : PySem.W.Frag} {m : Mem} {F H : Hp} {σ : L2.St} {ρ : List Sl} {s : m.S} {L : List (Addr × List Str)} {q : Addr} {xs ys : List Str} {E : Ent (Mem.hot m)}
theorem Rel.hotNew (r : Rel K (Mem.hot m) F H σ ρ (s, L)) (n : H q = none) (hl : xs.length ≤ sizeLine) (hs : ∀ x ∈ xs, sOk x = true) : Rel K (Mem.hot m) F (upd H q (.lst (xs.map V.str))) σ ρ (s, L ++ [(q, xs)]) := by
  have nF : F q = none := r.sub.free n
  have nR : ¬ (Mem.hot m).R (s, L) q := fun z => (Mem.hot m).there (s, L) H q r.mem z n
  have nO : ∀ i, ¬ Owns σ ρ i q := fun i ⟨⟨o, e⟩, hσ⟩ => by
    obtain ⟨p, ho, h1, h2, _⟩ := r.own_at e
    rw [hσ] at h1; cases h1
    rw [n] at h2; cases h2
  have r1 := r.hidW (ho := .lst (xs.map V.str)) nF nR nO
  obtain ⟨m1, m2, m3⟩ := r1.mem
  refine ⟨r1.sub, ⟨m1, ?_, fun p hp => ?_⟩, fun a ha => ?_, r1.len, r1.sh, r1.ow, fun i p hp => ⟨(r1.owF i p hp).1, fun z => ?_⟩, r1.uq⟩
  · show ((L ++ [(q, xs)]).map (·.1)).Nodup
    rw [List.map_append, List.nodup_append]
    refine ⟨m2, by simp, fun a ha b hb => ?_⟩
    rw [show b = q from by simpa using hb]
    rintro rfl
    obtain ⟨p, hp, e⟩ := List.mem_map.mp ha
    exact nR (.inr ⟨p, hp, e⟩)
  · rcases List.mem_append.mp hp with z | z
    · exact m3 p z
    · obtain rfl : p = (q, xs) := by simpa using z
      exact ⟨upd_same, hl, hs, fun z => nR (.inl z)⟩
  · rcases ha with ha | ⟨p, hp, rfl⟩
    · exact r1.reg a (.inl ha)
    · rcases List.mem_append.mp hp with z | z
      · exact r1.reg _ (.inr ⟨p, z, rfl⟩)
      · obtain rfl : p = (q, xs) := by simpa using z
        exact nF
  · rcases z with z | ⟨p', hp', rfl⟩
    · exact (r1.owF i p hp).2 (.inl z)
    · rcases List.mem_append.mp hp' with z | z
      · exact (r1.owF i _ hp).2 (.inr ⟨p', z, rfl⟩)
      · obtain rfl : p' = (q, xs) := by simpa using z
        exact nO i hp
theorem Own.hotNew (o : Own (Mem.hot m) E F H σ ρ (s, L)) (n : H q = none) : Own (Mem.hot m) E F (upd H q (.lst (xs.map V.str))) σ ρ (s, L ++ [(q, xs)]) := by
  have eH : E.H q = none := by
    cases z : E.H q with
    | none => rfl
    | some u => exact absurd n (o.alive q (by rw [z]; simp))
  refine ⟨o.ext, fun a x h nr => by rw [upd_ne (ne_of_none h eH)]; exact o.keep a x h nr, fun a h => ?_, o.fresh, fun a ha => ?_, o.own⟩
  · have hp : a ≠ q := fun z => h (z ▸ eH)
    rw [upd_ne hp]; exact o.alive a h
  · rcases ha with ha | ⟨p, hp, rfl⟩
    · exact o.regf a (.inl ha)
    · rcases List.mem_append.mp hp with z | z
      · exact o.regf _ (.inr ⟨p, z, rfl⟩)
      · obtain rfl : p = (q, xs) := by simpa using z
        exact .inr eH
theorem Rel.hotW (r : Rel K (Mem.hot m) F H σ ρ (s, L ++ [(q, xs)])) (hl : ys.length ≤ sizeLine) (hs : ∀ x ∈ ys, sOk x = true) : Rel K (Mem.hot m) F (upd H q (.lst (ys.map V.str))) σ ρ (s, L ++ [(q, ys)]) := by
  obtain ⟨m1, m2, m3⟩ := r.mem
  have hin : (q, xs) ∈ L ++ [(q, xs)] := by simp
  have hR : (Mem.hot m).R (s, L ++ [(q, xs)]) q := .inr ⟨_, hin, rfl⟩
  have nF : F q = none := r.reg q hR
  obtain ⟨a1, a2, a3, a4⟩ := m3 _ hin
  have same : ∀ a, (Mem.hot m).R (s, L ++ [(q, ys)]) a → (Mem.hot m).R (s, L ++ [(q, xs)]) a := fun a ha => by
    rcases ha with ha | ⟨p, hp, rfl⟩
    · exact .inl ha
    · rcases List.mem_append.mp hp with z | z
      · exact .inr ⟨p, List.mem_append_left _ z, rfl⟩
      · obtain rfl : p = (q, ys) := by simpa using z
        exact hR
  have m2' : (L.map (·.1) ++ [q]).Nodup := by rw [show L.map (·.1) ++ [q] = (L ++ [(q, xs)]).map (·.1) by rw [List.map_append]; rfl]; exact m2
  have ne : ∀ p ∈ L, p.1 ≠ q := fun p hp z => (List.nodup_append.mp m2').2.2 p.1 (List.mem_map_of_mem hp) q (by simp) z
  refine ⟨fun b x e => by rw [upd_ne (ne_of_none e nF)]; exact r.sub _ _ e, ⟨m.loc s H _ m1 fun a ha => upd_ne fun z => a4 (z ▸ ha), ?_, fun p hp => ?_⟩, fun a ha => r.reg a (same a ha), r.len, r.sh, fun i o e => ?_, fun i p hp => ⟨(r.owF i p hp).1, fun z => (r.owF i p hp).2 (same p z)⟩, r.uq⟩
  · show ((L ++ [(q, ys)]).map (·.1)).Nodup
    rw [List.map_append]; exact m2'
  · rcases List.mem_append.mp hp with z | z
    · obtain ⟨b1, b2⟩ := m3 p (List.mem_append_left _ z)
      exact ⟨(upd_ne (ne p z)).trans b1, b2⟩
    · obtain rfl : p = (q, ys) := by simpa using z
      exact ⟨upd_same, hl, hs, a4⟩
  · obtain ⟨p, ho, h1, h2, h3⟩ := r.ow i o e
    have hp : p ≠ q := fun z => (r.owF i p ⟨⟨o, e⟩, h1⟩).2 (z ▸ hR)
    exact ⟨p, ho, h1, by rw [upd_ne hp]; exact h2, h3⟩
theorem Own.hotW (o : Own (Mem.hot m) E F H σ ρ (s, L ++ [(q, xs)])) : Own (Mem.hot m) E F (upd H q (.lst (ys.map V.str))) σ ρ (s, L ++ [(q, ys)]) := by
  have hR : (Mem.hot m).R (s, L ++ [(q, xs)]) q := .inr ⟨(q, xs), by simp, rfl⟩
  refine ⟨o.ext, fun a x h nr => ?_, fun a h => ?_, o.fresh, fun a ha => ?_, o.own⟩
  · have hp : a ≠ q := fun z => by
      rcases o.regf q hR with w | w
      · exact nr (z ▸ w)
      · rw [z, w] at h; cases h
    rw [upd_ne hp]; exact o.keep a x h nr
  · by_cases hp : a = q
    · rw [hp, upd_same]; simp
    · rw [upd_ne hp]; exact o.alive a h
  · rcases ha with ha | ⟨p, hp, rfl⟩
    · exact o.regf a (.inl ha)
    · rcases List.mem_append.mp hp with z | z
      · exact o.regf _ (.inr ⟨p, List.mem_append_left _ z, rfl⟩)
      · obtain rfl : p = (q, ys) := by simpa using z
        exact o.regf _ hR
end
section
variable {X : Cx} {m : Mem} {E : Ent (Mem.hot m)} {e b : Expr} {te tb : DT (Mem.hot m)} {pos : Pos}
/-- x = [[e]] -/
def dHot0 {m : Mem} (i : Nat) (te : DT (Mem.hot m)) : DTS (Mem.hot m) := fun dd ρ s => te ρ s fun d ρ1 s1 => ∃ t, d = .str t ∧ ∀ q, dd.nx (ρ1.set i (.ow (.lst [.any (.ref q)]))) (s1.1, s1.2 ++ [(q, [t])])
theorem ds_hot0 (i : Nat) {x : Str} {pos' lpos lpos2 : Pos} (hN : X.N.Nodup) (he : PE X e (up X.K (Mem.hot m) te)) (hi : X.N[i]? = some x := by rfl) (hx : Loc X.env.scope x := by first | exact Or.inl rfl | exact Or.inr rfl)
    (hst : starEach [e] X.env = (false, eval e X.env) :: starEach [] X.env := by rfl)
    (hst2 : starEach [.List [e] lpos2] X.env = (false, eval (.List [e] lpos2) X.env) :: starEach [] X.env := by rfl)
    (hs : swapsWith (.List [.List [e] lpos2] lpos) (some (.Name x pos')) pos.line X.env = pure false := by rfl) (hf : X.fn x = true ∨ X.env.scope.names.lookup x = some .local := by first | exact .inl rfl | exact .inr rfl) :
    PS X (.Assign [.Name x pos'] (.List [.List [e] lpos2] lpos) pos) (upS X.K (Mem.hot m) E (dHot0 i te)) := PS.imp (ps_set hN hi hx (pe_lst (pa_cons (pe_lst (pa_cons he pa_nil hst)) pa_nil hst2)) hs hf) fun DD σ H h => by
  obtain ⟨F, ρ, s, dd, r, o, ht, f⟩ := h
  refine ⟨F, ρ, s, _, r, ht, fun d ρ1 s1 v F1 H1 ⟨t, ed, q1⟩ r1 st1 rv => ⟨by show 1 ≤ sizeLine; decide, fun q nq => ⟨by show 1 ≤ sizeLine; decide, fun p np => ?_⟩⟩⟩
  subst ed
  obtain ⟨rfl, hok⟩ := rv
  have r2 : Rel X.K (Mem.hot m) F1 (upd H1 q (.lst [V.str t])) σ ρ1 (s1.1, s1.2 ++ [(q, [t])]) := Rel.hotNew (xs := [t]) (s := s1.1) (L := s1.2) r1 nq (by show 1 ≤ sizeLine; decide) (by simpa using hok)
  have o2 : Own (Mem.hot m) E F1 (upd H1 q (.lst [V.str t])) σ ρ1 (s1.1, s1.2 ++ [(q, [t])]) := Own.hotNew (xs := [t]) (s := s1.1) (L := s1.2) (o.stp st1) nq
  exact f.nx F1 _ _ _ _ st1.ext (r2.putO (o := .lst [.any (.ref q)]) np ⟨[.ref q], rfl, (by show 1 ≤ sizeLine; decide), .one rfl⟩) (Own.putO r2 o2 np) (q1 q)
/-- x.append([e]) -/
def dHotNew {m : Mem} (i : Nat) (te : DT (Mem.hot m)) : DTS (Mem.hot m) := fun dd ρ s => (∃ ds0, ρ[i]? = some (.ow (.lst ds0))) ∧ te ρ s fun d ρ1 s1 => ∃ t ds, d = .str t ∧ ρ1[i]? = some (.ow (.lst ds)) ∧ ds.length < sizeLine ∧ ∀ q, dd.nx (ρ1.set i (.ow (.lst (ds ++ [.any (.ref q)])))) (s1.1, s1.2 ++ [(q, [t])])
theorem ds_hotNew (i : Nat) {x : Str} {xpos apos cpos lpos : Pos} (he : PE X e (up X.K (Mem.hot m) te)) (hN : X.N[i]? = some x := by rfl) (hv : Vis X.env.scope x := by first | exact Or.inl rfl | exact Or.inr (Or.inl rfl) | exact Or.inr (Or.inr rfl))
    (hd : (x == ("__debug__" : Str)) = false := by decide) (hcd : (x == ("__classdict__" : Str)) = false := by decide)
    (hst : starEach [e] X.env = (false, eval e X.env) :: starEach [] X.env := by rfl)
    (hbase : attributeBase (.Name x xpos) "append" X.env (eval (.Name x xpos) X.env) = eval (.Name x xpos) X.env := by rfl)
    (hfew : ((backTo cpos (starEach [.List [e] lpos] X.env)).all (fun x => !x.1) && (backToKw cpos (keywordEach [] X.env)).all (fun x => x.1.isSome)
      && decide ([Expr.List [e] lpos].length + ([] : List Keyword).length + (if ([] : List Keyword).isEmpty then 0 else 1) < 30)) = true := by rfl)
    (hline : (apos.endLine == cpos.line) = true := by rfl) (hs : starEach [.List [e] lpos] X.env = [(false, eval (.List [e] lpos) X.env)] := by rfl)
    (hsw : swapsWith (.Call (.Attribute (.Name x xpos) "append" apos) [.List [e] lpos] [] cpos) none pos.line X.env = pure false := by rfl) :
    PS X (.Expr (.Call (.Attribute (.Name x xpos) "append" apos) [.List [e] lpos] [] cpos) pos) (upS X.K (Mem.hot m) E (dHotNew i te)) :=
  PS.imp (ps_expr (pe_bm PySem.F.plainAttrs_list PySem.F.slot_list_append PySem.F.type_list_append mt_append (pv i hN hv hd hcd) (pa_cons (pe_lst (pa_cons he pa_nil hst)) pa_nil (by rw [hs]; rfl)) hbase hfew hline (by rw [hs]; rfl) rfl) hsw) fun DD σ H h => by
  obtain ⟨F, ρ, s, dd, r, o, ⟨⟨ds0, e0⟩, ht⟩, f⟩ := h
  obtain ⟨p, ho, h1, h2, ⟨vs0, rfl, hl0, rs0⟩, h4, h5⟩ := r.own_at e0
  refine ⟨_, h1, .inl ⟨rfl, vs0, .inl (.inl h2)⟩, F, ρ, s, _, r, ht, fun d ρ1 s1 v F1 H1 ⟨t, ds, ed, e1, hz, q1⟩ r1 st1 rv => ⟨by show 1 ≤ sizeLine; decide, fun q nq => ?_⟩⟩
  subst ed
  obtain ⟨rfl, hok⟩ := rv
  have r2 : Rel X.K (Mem.hot m) F1 (upd H1 q (.lst [V.str t])) σ ρ1 (s1.1, s1.2 ++ [(q, [t])]) := Rel.hotNew (xs := [t]) (s := s1.1) (L := s1.2) r1 nq (by show 1 ≤ sizeLine; decide) (by simpa using hok)
  have o2 : Own (Mem.hot m) E F1 (upd H1 q (.lst [V.str t])) σ ρ1 (s1.1, s1.2 ++ [(q, [t])]) := Own.hotNew (xs := [t]) (s := s1.1) (L := s1.2) (o.stp st1) nq
  obtain ⟨p', ho, g1, g2, ⟨vs, rfl, hl, rs⟩, g4, g5⟩ := r2.own_at e1
  rw [h1] at g1; cases g1
  have hlen := rs.length
  refine ⟨p, vs, .ref q, rfl, rfl, g2, by omega, ?_⟩
  refine f.nx F1 _ σ _ _ st1.ext (r2.write (o' := .lst (ds ++ [.any (.ref q)])) e1 h1 ⟨vs ++ [.ref q], rfl, by rw [List.length_append]; exact (by simp; omega), rs.append (Reps.one (d := .any (.ref q)) (v := .ref q) rfl)⟩) (o2.write (K := X.K) e1 h1) (q1 q)
/-- x[k].append(e) -/
def dHotApp {m : Mem} (i : Nat) (tb te : DT (Mem.hot m)) : DTS (Mem.hot m) := fun dd ρ s => (∃ ds0, ρ[i]? = some (.ow (.lst ds0))) ∧ tb ρ s fun y ρ1 s1 => ∃ k ds q, y = .int k ∧ ρ1[i]? = some (.ow (.lst ds)) ∧ atI ds k = some (.any (.ref q)) ∧ (∃ xs, (q, xs) ∈ s1.2) ∧
  te ρ1 s1 fun d ρ2 s2 => ∃ L xs t, d = .str t ∧ s2.2 = L ++ [(q, xs)] ∧ xs.length < sizeLine ∧ dd.nx ρ2 (s2.1, L ++ [(q, xs ++ [t])])
theorem ds_hotApp (i : Nat) {x : Str} {xpos spos apos cpos : Pos} (hb : PE X b (up X.K (Mem.hot m) tb)) (he : PE X e (up X.K (Mem.hot m) te)) (hN : X.N[i]? = some x := by rfl) (hv : Vis X.env.scope x := by first | exact Or.inl rfl | exact Or.inr (Or.inl rfl) | exact Or.inr (Or.inr rfl))
    (hd : (x == ("__debug__" : Str)) = false := by decide) (hcd : (x == ("__classdict__" : Str)) = false := by decide) (hix : PlainIx b := by exact fun _ _ => rfl)
    (hbase : attributeBase (.Subscript (.Name x xpos) b spos) "append" X.env (eval (.Subscript (.Name x xpos) b spos) X.env) = eval (.Subscript (.Name x xpos) b spos) X.env := by rfl)
    (hfew : ((backTo cpos (starEach [e] X.env)).all (fun x => !x.1) && (backToKw cpos (keywordEach [] X.env)).all (fun x => x.1.isSome)
      && decide ([e].length + ([] : List Keyword).length + (if ([] : List Keyword).isEmpty then 0 else 1) < 30)) = true := by rfl)
    (hline : (apos.endLine == cpos.line) = true := by rfl) (hs : starEach [e] X.env = [(false, eval e X.env)] := by rfl)
    (hsw : swapsWith (.Call (.Attribute (.Subscript (.Name x xpos) b spos) "append" apos) [e] [] cpos) none pos.line X.env = pure false := by rfl) :
    PS X (.Expr (.Call (.Attribute (.Subscript (.Name x xpos) b spos) "append" apos) [e] [] cpos) pos) (upS X.K (Mem.hot m) E (dHotApp i tb te)) :=
  PS.imp (ps_expr (pe_bm PySem.F.plainAttrs_list PySem.F.slot_list_append PySem.F.type_list_append mt_append (pe_ix ix_list (pv i hN hv hd hcd) hb hix) (pa_cons he pa_nil (by rw [hs]; rfl)) hbase hfew hline (by rw [hs]; rfl) rfl) hsw) fun DD σ H h => by
  obtain ⟨F, ρ, s, dd, r, o, ⟨⟨ds0, e0⟩, ht⟩, f⟩ := h
  obtain ⟨p, ho, h1, h2, ⟨vs0, rfl, hl0, rs0⟩, h4, h5⟩ := r.own_at e0
  refine ⟨_, h1, F, ρ, s, _, r, ht, fun y ρ1 s1 v F1 H1 ⟨k, ds, q, ey, e1, ea, ⟨xs0, hin⟩, q1⟩ r1 st1 rv => ?_⟩
  subst ey
  cases rv
  obtain ⟨p', ho, g1, g2, ⟨vs, rfl, hl, rs⟩, g4, g5⟩ := r1.own_at e1
  rw [h1] at g1; cases g1
  obtain ⟨w, ew, rw'⟩ := rs.atI ea
  obtain rfl : w = .ref q := rw'
  obtain ⟨m1, m2, m3⟩ := r1.mem
  have a1 := (m3 _ hin).1
  refine ⟨p, vs, k, .ref q, rfl, rfl, .inl (.inl g2), ew, .inl ⟨rfl, _, .inl (.inl a1)⟩, F1, ρ1, s1, _, r1, q1, fun d ρ2 s2 v F2 H2 ⟨L, xs, t, ed, es, hz, q2⟩ r2 st2 rv => ?_⟩
  subst ed
  obtain ⟨rfl, hok⟩ := rv
  obtain ⟨s2a, s2b⟩ := s2
  obtain rfl : s2b = L ++ [(q, xs)] := es
  obtain ⟨b1, b2, b3, b4⟩ := r2.mem.2.2 (q, xs) (by simp)
  have b1 : H2 q = some (.lst (xs.map V.str)) := b1
  refine ⟨q, xs.map V.str, .str t, rfl, rfl, b1, by rw [List.length_map]; omega, ?_⟩
  have es : xs.map V.str ++ [V.str t] = (xs ++ [t]).map V.str := by rw [List.map_append]; rfl
  rw [es]
  exact f.nx F2 _ σ _ _ (st1.ext.trans st2.ext) (r2.hotW (by rw [List.length_append, List.length_singleton]; omega) fun x hx => (List.mem_append.mp hx).elim (b3 x) fun z => by rw [List.mem_singleton.mp z]; exact hok) (((o.stp st1).stp st2).hotW) q2
/-- len(x[k]) -/
def dHotLen {m : Mem} (i : Nat) (tb : DT (Mem.hot m)) : DT (Mem.hot m) := fun ρ s Q => (∃ ds0, ρ[i]? = some (.ow (.lst ds0))) ∧ tb ρ s fun y ρ1 s1 => ∃ k ds q xs, y = .int k ∧ ρ1[i]? = some (.ow (.lst ds)) ∧ atI ds k = some (.any (.ref q)) ∧ (q, xs) ∈ s1.2 ∧ Q (.int (xs.length : Nat)) ρ1 s1
theorem de_hotLen (i : Nat) {x : Str} {xpos spos p : Pos} (hg : Gl X "len") (hm : X.mg "len" = none) (hb : PE X b (up X.K (Mem.hot m) tb)) (hN : X.N[i]? = some x := by rfl) (hv : Vis X.env.scope x := by first | exact Or.inl rfl | exact Or.inr (Or.inl rfl) | exact Or.inr (Or.inr rfl))
    (hd : (x == ("__debug__" : Str)) = false := by decide) (hcd : (x == ("__classdict__" : Str)) = false := by decide) (hix : PlainIx b := by exact fun _ _ => rfl)
    (hs : starEach [.Subscript (.Name x xpos) b spos] X.env = [(false, eval (.Subscript (.Name x xpos) b spos) X.env)] := by rfl) : PE X (.Call (.Name "len" p) [.Subscript (.Name x xpos) b spos] [] pos) (up X.K (Mem.hot m) (dHotLen i tb)) :=
  PE.imp (pe_callB call_len_seq hg hm PySem.boot_len (pa_cons (pe_ix ix_list (pv i hN hv hd hcd) hb hix) pa_nil (by rw [hs]; rfl)) (by decide) (by decide) (by rw [hs]; rfl) rfl) fun σ H Q h => by
    obtain ⟨F, ρ, s, Qd, r, ⟨⟨ds0, e0⟩, ht⟩, hQ⟩ := h
    obtain ⟨p, ho, h1, h2, ⟨vs0, rfl, hl0, rs0⟩, h4, h5⟩ := r.own_at e0
    refine ⟨_, h1, F, ρ, s, _, r, ht, fun y ρ1 s1 v F1 H1 ⟨k, ds, q, xs, ey, e1, ea, hin, q1⟩ r1 st1 rv => ?_⟩
    subst ey
    cases rv
    obtain ⟨p', ho, g1, g2, ⟨vs, rfl, hl, rs⟩, g4, g5⟩ := r1.own_at e1
    rw [h1] at g1; cases g1
    obtain ⟨w, ew, rw'⟩ := rs.atI ea
    obtain rfl : w = .ref q := rw'
    have a1 := (r1.mem.2.2 _ hin).1
    refine ⟨p, vs, k, .ref q, rfl, rfl, .inl (.inl g2), ew, q, _, rfl, .inl (.inl (.inl a1)), ?_⟩
    show Q (.int ((xs.map V.str).length : Nat)) H1
    rw [List.length_map]
    exact hQ _ ρ1 s1 _ F1 H1 q1 r1 st1 rfl
/-- tuple(x), x such a list -/
def dHotTup {m : Mem} (i : Nat) : DT (Mem.hot m) := fun ρ s Q => ∃ q xs, ρ[i]? = some (.sh (.any (.ref q))) ∧ (q, xs) ∈ s.2 ∧ Q (.tup (xs.map .str)) ρ s
end
section
variable {X : Cx} {m : Mem} {E : Ent m} {e : Expr} {te : DT m} {pos : Pos}
/-- x.append(y.pop(e)) -/
def dAppPop {m : Mem} (i j : Nat) (te : DT m) : DTS m := fun dd ρ s => (∃ ds0, ρ[i]? = some (.ow (.lst ds0))) ∧ (∃ es0, ρ[j]? = some (.ow (.lst es0))) ∧ te ρ s fun d ρ1 s1 => ∃ k ds es n y, d = .int k ∧ -(2 ^ 63) ≤ k ∧ k < 2 ^ 63 ∧ ρ1[i]? = some (.ow (.lst ds)) ∧ ρ1[j]? = some (.ow (.lst es)) ∧
  seqIndex? k es.length = some n ∧ es[n]? = some y ∧ ds.length < sizeLine ∧ dd.nx ((ρ1.set j (.ow (.lst (es.eraseIdx n)))).set i (.ow (.lst (ds ++ [y])))) s1
theorem Reps.eraseIdx {K : PySem.W.Frag} {F : Hp} : ∀ {ds : List D} {vs : List V} (n : Nat), Reps K F ds vs → Reps K F (ds.eraseIdx n) (vs.eraseIdx n)
  | [], _, n, h => by cases h; exact Reps.nil
  | d :: ds, _, 0, ⟨v, r, e, h, t⟩ => by subst e; exact t
  | d :: ds, _, n + 1, ⟨v, r, e, h, t⟩ => by subst e; exact .cons h (Reps.eraseIdx n t)
theorem ds_appPop (i j : Nat) {x y : Str} {xpos apos cpos ypos bpos dpos : Pos} (he : PE X e (up X.K m te)) (hij : i ≠ j := by decide) (hN : X.N[i]? = some x := by rfl) (hM : X.N[j]? = some y := by rfl) (hv : Vis X.env.scope x := by first | exact Or.inl rfl | exact Or.inr (Or.inl rfl) | exact Or.inr (Or.inr rfl))
    (hw : Vis X.env.scope y := by first | exact Or.inl rfl | exact Or.inr (Or.inl rfl) | exact Or.inr (Or.inr rfl))
    (hd : (x == ("__debug__" : Str)) = false := by decide) (hcd : (x == ("__classdict__" : Str)) = false := by decide) (hd2 : (y == ("__debug__" : Str)) = false := by decide) (hcd2 : (y == ("__classdict__" : Str)) = false := by decide)
    (hbase2 : attributeBase (.Name y ypos) "pop" X.env (eval (.Name y ypos) X.env) = eval (.Name y ypos) X.env := by rfl)
    (hfew2 : ((backTo dpos (starEach [e] X.env)).all (fun x => !x.1) && (backToKw dpos (keywordEach [] X.env)).all (fun x => x.1.isSome)
      && decide ([e].length + ([] : List Keyword).length + (if ([] : List Keyword).isEmpty then 0 else 1) < 30)) = true := by rfl)
    (hline2 : (bpos.endLine == dpos.line) = true := by rfl) (hs2 : starEach [e] X.env = [(false, eval e X.env)] := by rfl)
    (hbase : attributeBase (.Name x xpos) "append" X.env (eval (.Name x xpos) X.env) = eval (.Name x xpos) X.env := by rfl)
    (hfew : ((backTo cpos (starEach [.Call (.Attribute (.Name y ypos) "pop" bpos) [e] [] dpos] X.env)).all (fun x => !x.1) && (backToKw cpos (keywordEach [] X.env)).all (fun x => x.1.isSome)
      && decide ([Expr.Call (.Attribute (.Name y ypos) "pop" bpos) [e] [] dpos].length + ([] : List Keyword).length + (if ([] : List Keyword).isEmpty then 0 else 1) < 30)) = true := by rfl)
    (hline : (apos.endLine == cpos.line) = true := by rfl) (hs : starEach [.Call (.Attribute (.Name y ypos) "pop" bpos) [e] [] dpos] X.env = [(false, eval (.Call (.Attribute (.Name y ypos) "pop" bpos) [e] [] dpos) X.env)] := by rfl)
    (hsw : swapsWith (.Call (.Attribute (.Name x xpos) "append" apos) [.Call (.Attribute (.Name y ypos) "pop" bpos) [e] [] dpos] [] cpos) none pos.line X.env = pure false := by rfl) :
    PS X (.Expr (.Call (.Attribute (.Name x xpos) "append" apos) [.Call (.Attribute (.Name y ypos) "pop" bpos) [e] [] dpos] [] cpos) pos) (upS X.K m E (dAppPop i j te)) :=
  PS.imp (ps_expr (pe_bm PySem.F.plainAttrs_list PySem.F.slot_list_append PySem.F.type_list_append mt_append (pv i hN hv hd hcd) (pa_cons (pe_bm PySem.F.plainAttrs_list PySem.F.slot_list_pop PySem.F.type_list_pop mt_popAt (pv j hM hw hd2 hcd2) (pa_cons he pa_nil (by rw [hs2]; rfl)) hbase2 hfew2 hline2 (by rw [hs2]; rfl) rfl) pa_nil (by rw [hs]; rfl)) hbase hfew hline (by rw [hs]; rfl) rfl) hsw) fun DD σ H h => by
  obtain ⟨F, ρ, s, dd, r, o, ⟨⟨ds0, e0⟩, ⟨es0, f0⟩, ht⟩, f⟩ := h
  obtain ⟨p, ho, h1, h2, ⟨vs0, rfl, hl0, rs0⟩, h4, h5⟩ := r.own_at e0
  obtain ⟨p2, ho2, k1, k2, ⟨ws0, rfl, kl0, ks0⟩, k4, k5⟩ := r.own_at f0
  refine ⟨_, h1, .inl ⟨rfl, vs0, .inl (.inl h2)⟩, _, k1, .inl ⟨rfl, ws0, .inl (.inl k2)⟩, F, ρ, s, _, r, ht, fun d ρ1 s1 v F1 H1 ⟨k, ds, es, n, y, ed, b1, b2, e1, f1, en, ey, hz, q1⟩ r1 st1 rv => ?_⟩
  subst ed
  cases rv
  obtain ⟨p3, ho3, g1, g2, ⟨vs, rfl, hl, rs⟩, g4, g5⟩ := r1.own_at f1
  rw [k1] at g1; cases g1
  obtain ⟨w, ew, rw'⟩ := rs.get ey
  refine ⟨p2, vs, k, n, w, rfl, rfl, g2, b1, b2, by rw [rs.length]; exact en, ew, ?_⟩
  have len := rs.length
  have r2 := r1.write (o' := .lst (es.eraseIdx n)) f1 k1 ⟨vs.eraseIdx n, rfl, by have := List.length_eraseIdx_le vs n; omega, rs.eraseIdx n⟩
  have o2 := (o.stp st1).write (K := X.K) (ob' := .lst (es.eraseIdx n)) (ho := .lst (vs.eraseIdx n)) f1 k1
  have e2 : (ρ1.set j (.ow (.lst (es.eraseIdx n))))[i]? = some (.ow (.lst ds)) := by rw [List.getElem?_set_ne (Ne.symm hij)]; exact e1
  obtain ⟨p4, ho4, t1, t2, ⟨us, rfl, tl, ts⟩, t4, t5⟩ := r2.own_at e2
  rw [h1] at t1; cases t1
  have tlen := ts.length
  refine ⟨p, us, w, rfl, rfl, t2, by omega, ?_⟩
  exact f.nx F1 _ σ _ s1 st1.ext (r2.write (o' := .lst (ds ++ [y])) e2 h1 ⟨us ++ [w], rfl, by rw [List.length_append]; exact (by simp; omega), ts.append (.one rw')⟩) (o2.write (K := X.K) e2 h1) q1
end
end DL

set_option Elab.async false
set_option linter.all false
set_option maxRecDepth 100000
/-! EL5: tuple(x) of a list of texts beside; x, y = list(e), [] -/
namespace DL
open PySem PySem.Spec PyProof.Rows L2 TL
section
variable {X : Cx} {m : Mem} {pos : Pos}
theorem de_hotTup (i : Nat) {x : Str} {xpos p : Pos} (hg : Gl X "tuple") (hm : X.mg "tuple" = none) (hN : X.N[i]? = some x := by rfl) (hv : Vis X.env.scope x := by first | exact Or.inl rfl | exact Or.inr (Or.inl rfl) | exact Or.inr (Or.inr rfl))
    (hd : (x == ("__debug__" : Str)) = false := by decide) (hcd : (x == ("__classdict__" : Str)) = false := by decide)
    (hs : starEach [.Name x xpos] X.env = (false, eval (.Name x xpos) X.env) :: starEach [] X.env := by rfl) (hpl : (backTo pos (starEach [] X.env)).any (·.1) = false := by rfl) :
    PE X (.Call (.Name "tuple" p) [.Name x xpos] [] pos) (up X.K (Mem.hot m) (dHotTup i)) :=
  PE.imp (pe_callTy call_tuple_of hg hm (by decide +kernel) (pa_cons (pv i hN hv hd hcd) pa_nil hs) (by decide) (by decide) hs hpl) fun σ H Q h => by
    obtain ⟨F, ρ, s, Qd, r, ⟨q, xs, e1, hin, q1⟩, hQ⟩ := h
    obtain ⟨v, h1, h2⟩ := r.sh i _ e1
    obtain rfl : v = .ref q := h2
    obtain ⟨a1, a2, a3, a4⟩ := r.mem.2.2 _ hin
    refine ⟨_, h1, q, xs.map V.str, rfl, .inl ⟨.inl (.inl a1), fun l nl => ?_⟩⟩
    have g : Grow F H (upd F l (.tup (xs.map V.str))) (upd H l (.tup (xs.map V.str))) := Grow.new r.sub nl
    exact hQ _ ρ s _ _ _ q1 (r.grow g) g.stp ⟨l, _, rfl, .inl (.inl upd_same), by rw [List.length_map]; exact a2, reps_of_strs _ a3⟩
end
section
variable {X : Cx} {m : Mem} {E : Ent m} {pos : Pos}
theorem seq_at {K : PySem.W.Frag} {F H : Hp} {d : D} {xs : List D} {v : V} (sub : Same F H) (rv : Rep K F d v) (e : seqD d = some xs) : ∃ a ws, v = .ref a ∧ (SqL K H a ws ∨ SqT K H a ws) ∧ ws.length ≤ sizeLine ∧ Reps K F xs ws := by
  cases d with
  | lst ys => cases e; obtain ⟨a, ws, rfl, h1, hl, r⟩ := rv; exact ⟨a, ws, rfl, .inl (.inl (.inl (sub _ _ h1))), hl, r⟩
  | tup ys => cases e; obtain ⟨a, ws, rfl, h1, hl, r⟩ := rv; exact ⟨a, ws, rfl, .inr (Same.seqT sub h1), hl, r⟩
  | fz ys => cases e; obtain ⟨a, ws, rfl, h1, hl, r⟩ := rv; exact ⟨a, ws, rfl, .inl (Same.seq sub h1), hl, r⟩
  | _ => cases e
def dParLO {m : Mem} (i j : Nat) (te : DT m) : DTS m := fun dd ρ s => te ρ s fun d ρ1 s1 => ∃ xs, seqD d = some xs ∧ dd.nx ((ρ1.set i (.ow (.lst xs))).set j (.ow (.lst []))) s1
theorem ds_parLO (i j : Nat) {x y : Str} {a : Expr} {te : DT m} {px py pt lp np cp : Pos} {kt k2 pt2} (hN : X.N.Nodup) (ha : PE X a (up X.K m te)) (hg : Gl X "list") (hm : X.mg "list" = none) (hc : X.calm = true := by rfl) (hi : X.N[i]? = some x := by rfl) (hj : X.N[j]? = some y := by rfl) (hij : i ≠ j := by decide)
    (hx : X.env.scope.names.lookup x = some .local := by rfl) (hy : X.env.scope.names.lookup y = some .local := by rfl)
    (hsa : starEach [a] X.env = (false, eval a X.env) :: starEach [] X.env := by rfl) (hpl : (backTo cp (starEach [] X.env)).any (·.1) = false := by rfl)
    (hst : starEach [.Call (.Name "list" np) [a] [] cp, .List [] lp] X.env = (false, eval (.Call (.Name "list" np) [a] [] cp) X.env) :: starEach [.List [] lp] X.env := by rfl) (hst2 : starEach [.List [] lp] X.env = (false, eval (.List [] lp) X.env) :: starEach [] X.env := by rfl)
    (hw : swappedStores [.Tuple [.Name x px, .Name y py] kt pt] (.Tuple [.Call (.Name "list" np) [a] [] cp, .List [] lp] k2 pt2) X.env = pure (some [x, y]) := by rfl)
    (hs : swapsWithSole [.Tuple [.Name x px, .Name y py] kt pt] (.Tuple [.Call (.Name "list" np) [a] [] cp, .List [] lp] k2 pt2) pos.line X.env = pure false := by rfl) :
    PS X (.Assign [.Tuple [.Name x px, .Name y py] kt pt] (.Tuple [.Call (.Name "list" np) [a] [] cp, .List [] lp] k2 pt2) pos) (upS X.K m E (dParLO i j te)) := PS.imp (ps_par hc hN hi hj hij hx hy (pa_cons (pe_callTy call_list_of hg hm (by decide +kernel) (pa_cons ha pa_nil hsa) (by decide) (by decide) hsa hpl) (pa_cons (pe_lst pa_nil) pa_nil hst2) hst) hw hs) fun DD σ H h => by
  obtain ⟨F, ρ, s, dd, r, o, ht, f⟩ := h
  refine ⟨F, ρ, s, _, r, ht, fun d ρ1 s1 v F1 H1 ⟨xs, ed, q1⟩ r1 st1 rv => ?_⟩
  obtain ⟨p, ws, rfl, hsq, hl, rs⟩ := seq_at r1.sub rv ed
  refine ⟨p, ws, rfl, hsq, fun l nl => ⟨by show 0 ≤ sizeLine; exact Nat.zero_le _, fun b nb => ⟨.ref l, .ref b, rfl, ?_⟩⟩⟩
  obtain ⟨r2, keep⟩ := hid_keep (ho := .lst ws) r1 (o.stp st1) nl
  obtain ⟨g1, g2, g3, g4, g5, g6, g7⟩ := keep F1 _ ρ1 s1 Stp.refl
  obtain ⟨r3, o3⟩ := put_hid r2 g6 i (ob := .lst xs) g1 g2 g3 g4 g5 ⟨ws, rfl, hl, rs⟩
  exact f.nx F1 _ _ _ s1 st1.ext (r3.putO (i := j) (o := .lst []) nb ⟨[], rfl, Nat.zero_le _, .nil⟩) (Own.putO (i := j) r3 o3 nb) q1
end
end DL
namespace DL
open PySem PySem.Spec PyProof.Rows L2 TL
/-- the promise of a def that makes such lists for itself -/
def coldSp {m : Mem} (sp : DSp m) : DSp (Mem.hot m) := fun ds s Q => s.2 = [] ∧ ∃ Q0, sp ds s.1 Q0 ∧ ∀ d s' L, Q0 d s' → Q d (s', L)
theorem lift_coldSp {K : PySem.W.Frag} {m : Mem} {n : Nat} {sp : DSp m} {vs : List V} {H : Hp} {Q : VK} {E : XK} (h : lift K m n sp vs H Q E) : lift K (Mem.hot m) n (coldSp sp) vs H Q E := lift_cold (fun _ _ Q h => ⟨rfl, Q, h, fun _ _ _ h => h⟩) h
/-- x.count(y) -/
def countD : D → List D → (D → Prop) → Prop := fun x ds Q => ∃ z c, x = .str z ∧ ds = [.str c] ∧ Q (.int (Txt.count z c))
theorem o_count {K : PySem.W.Frag} : OpM K (fun x xs H Q => ∃ a b, x = .str a ∧ xs = [.str b] ∧ Q (.int (Txt.count a b)) H) countD := by
  intro F H dx x ds vs Qd Q sub rx rs h hQ
  obtain ⟨z, c, rfl, rfl, q⟩ := h
  obtain ⟨rfl, hz⟩ := rx
  obtain ⟨v, _, rfl, ⟨rfl, _⟩, rn⟩ := rs
  cases rn
  exact ⟨z, c, rfl, rfl, hQ _ _ F H q (Grow.refl sub) rfl⟩
end DL

set_option Elab.async false
set_option linter.all false
set_option maxRecDepth 100000
/-! EL6: behind a test, or a value that holds no object, what a slot owned is its own again -/
namespace DL
open PySem PySem.Spec PyProof.Rows L2 TL
section
variable {K : PySem.W.Frag} {m : Mem} {F H F' H' : Hp} {σ : L2.St} {ρ ρ' : List Sl} {s s' : m.S}
theorem Rel.back (r : Rel K m F H σ ρ s) (r' : Rel K m F' H' σ ρ' s') (st : Stp m F H σ ρ s F' H' ρ' s') : Rel K m F H' σ ρ s' ∧ Stp m F H σ ρ s F H' ρ s' := by
  have keep : ∀ (i : Nat) o p ho, ρ[i]? = some (Sl.ow o) → σ[i]? = some (some (V.ref p)) → H p = some ho → H' p = some ho := fun i o p ho e h1 h2 => st.keep p ho h2 (r.owF i p ⟨⟨o, e⟩, h1⟩).2
  refine ⟨⟨fun b x e => r'.sub _ _ (st.ext _ _ e), r'.mem, fun a ha => ?_, r.len, r.sh, fun i o e => ?_, fun i p hp => ⟨(r.owF i p hp).1, fun z => ?_⟩, r.uq⟩, ⟨Same.refl F, st.keep, st.alive, fun a o h => .inl h, st.regf, fun _ _ h => h⟩⟩
  · cases q : F a with
    | none => rfl
    | some u =>
      have := r'.reg a ha
      rw [st.ext _ _ q] at this
      cases this
  · obtain ⟨p, ho, h1, h2, h3⟩ := r.ow i o e
    exact ⟨p, ho, h1, keep i o p ho e h1 h2, h3⟩
  · rcases st.regf p z with z | z
    · exact (r.owF i p hp).2 z
    · obtain ⟨⟨o, e⟩, hσ⟩ := hp
      obtain ⟨p', ho, h1, h2, h3⟩ := r.ow i o e
      rw [hσ] at h1; cases h1
      rw [z] at h2; cases h2
end
section
variable {X : Cx} {m : Mem} {e : Expr} {t : DTT m} {te : DT m}
def dBackT {m : Mem} (t : DTT m) : DTT m := fun ρ s Q => t ρ s fun b _ s1 => Q b ρ s1
theorem dt_back (h : PT X e (upT X.K m t)) : PT X e (upT X.K m (dBackT t)) := PT.imp h fun σ H Q h => by
  obtain ⟨F, ρ, s, Qd, r, ht, hQ⟩ := h
  exact ⟨F, ρ, s, _, r, ht, fun b ρ1 s1 F1 H1 q1 r1 st1 => by
    obtain ⟨r2, st2⟩ := r.back r1 st1
    exact hQ b ρ s1 F H1 q1 r2 st2⟩
def flat : D → Bool
  | .non => true
  | .bl _ => true
  | .int _ => true
  | .str _ => true
  | _ => false
theorem flat_rep {K : PySem.W.Frag} {F F' : Hp} {d : D} {v : V} (h : flat d = true) (r : Rep K F d v) : Rep K F' d v := by
  cases d with
  | non => exact r
  | bl _ => exact r
  | int _ => exact r
  | str _ => exact r
  | _ => cases h
def dBack {m : Mem} (te : DT m) : DT m := fun ρ s Q => te ρ s fun d _ s1 => flat d = true ∧ Q d ρ s1
theorem de_back (h : PE X e (up X.K m te)) : PE X e (up X.K m (dBack te)) := PE.imp h fun σ H Q h => by
  obtain ⟨F, ρ, s, Qd, r, ht, hQ⟩ := h
  exact ⟨F, ρ, s, _, r, ht, fun d ρ1 s1 v F1 H1 ⟨hf, q1⟩ r1 st1 rv => by
    obtain ⟨r2, st2⟩ := r.back r1 st1
    exact hQ d ρ s1 v F H1 q1 r2 st2 (flat_rep hf rv)⟩
end
end DL

set_option Elab.async false
set_option linter.all false
set_option maxRecDepth 100000
/-! EL7: fields and properties of instances that are data -/
namespace DL
open PySem PySem.Spec PyProof.Rows L2 TL
theorem fld_rep {K : PySem.W.Frag} {F : Hp} {f : Str} {d : D} : ∀ {fs : List (Str × V)} {ds : List D}, Reps K F ds (fs.map (·.2)) → ((fs.map (·.1)).zip ds).lookup f = some d → ∃ v, fs.lookup f = some v ∧ Rep K F d v
  | [], ds, h, e => by cases e
  | (g, x) :: fs, [], h, e => by cases e
  | (g, x) :: fs, y :: ds, ⟨v, r, e1, h1, h2⟩, e => by
    rw [List.map_cons] at e1
    injection e1 with e1 e2
    subst e1 e2
    rw [List.map_cons, List.zip_cons_cons, List.lookup_cons] at e
    rw [List.lookup_cons]
    cases q : f == g with
    | true => rw [q] at e; cases e; exact ⟨x, rfl, h1⟩
    | false => rw [q] at e; exact fld_rep h2 e
section
variable {X : Cx} {m : Mem} {e : Expr} {te : DT m} {pos : Pos}
/-- e.f, a field of an instance of C -/
def dFld {m : Mem} (C : Addr) (f : Str) (te : DT m) : DT m := fun ρ s Q => te ρ s fun x ρ1 s1 => ∃ ns ds d, x = .ins C ns ds ∧ (ns.zip ds).lookup f = some d ∧ Q d ρ1 s1
theorem de_fld {C : Addr} {f : Str} (cl : Cls X.K C) (na : NoAttr X.K C f) (he : PE X e (up X.K m te)) (hb : attributeBase e f X.env (eval e X.env) = eval e X.env := by rfl) : PE X (.Attribute e f pos) (up X.K m (dFld C f te)) :=
  PE.imp (pe_fld he hb) fun σ H Q h => by
    obtain ⟨F, ρ, s, Qd, r, ht, hQ⟩ := h
    refine ⟨F, ρ, s, _, r, ht, fun x ρ1 s1 v F1 H1 ⟨ns, ds, d, ex, el, q1⟩ r1 st1 rv => ?_⟩
    subst ex
    obtain ⟨a, dx, fs, rfl, h1, h2, h3⟩ := rv
    subst h2
    obtain ⟨w, hl, rw'⟩ := fld_rep h3 el
    exact ⟨a, C, dx, fs, w, rfl, r1.sub _ _ h1, cl, na, hl, hQ d ρ1 s1 w F1 H1 q1 r1 st1 rw'⟩
/-- a property read: its getter is called at the object -/
theorem pe_propG {C p g : Addr} {k : Nat} {f : Str} {fd : FuncData} {ps : List Str} {sp : Sp} {ta : TE} (he : PE X e ta) (c : Cls X.K C) (hp : PropOf X.K C f p g) (G : FnG X.prog X.w X.K X.mg X.base CX0 k g fd ps sp) (hr : RoomG (k + 1) X.A) (hb : Binds X.K fd ps [])
    (hab : attributeBase e f X.env (eval e X.env) = eval e X.env) : PE X (.Attribute e f pos) (tProp C sp [] E0 ta) := by
  refine ⟨fun pins s σ H Q I h => ?_⟩
  refine attr_of hab (thn (he.run pins s σ H _ I h) fun u s1 ⟨x, H1, I1, rx, a, dx, fs, ex, ea, q⟩ => ?_)
  subst ex
  obtain rfl : u = Value.ref a := rx
  obtain ⟨_, O, _⟩ := ins_get I1.hok ea
  obtain ⟨od, J, _⟩ := O.look
  obtain ⟨rest, hrec⟩ := hp.rec_
  have I2 := I1.tok (s1.toks + 1)
  have hl : ([Value.ref a] : List Value).length = ps.length := (G.len _ _ _ _ q).symm ▸ rfl
  have bd := hb _ [Value.ref a] I2.kIn hl
  have hc : (PySem.W.clsIn X.K C).isSome = true := by
    obtain ⟨cd, hc, _⟩ := PySem.W.any_some c.hd
    rw [hc]; rfl
  have pl := PySem.W.plainGet_of (c.get f)
  refine PySem.W.get_bind I1.kIn J pl.1 (PySem.W.findObj_data hc hp.at_ hp.get hp.tak) pl.2 (wpAny_call (PySem.W.prop_get (s := { s1 with toks := s1.toks + 1 }) I1.kIn hrec ?_))
  refine codeAny_mono (G.run X.A.in1 X.stack { s1 with toks := s1.toks + 1 } H1 ⟨[.ref a], []⟩ [.ref a] [.ref a] Q E0 hr.in1 I2.env0.in1 bd (.cons rfl .nil) q) fun r s' z => ?_
  rcases r with er | (_ | _ | _ | u)
  · exact z.elim
  · exact z.elim
  · exact z.elim
  · exact z.elim
  · obtain ⟨v, H', I3, rv, q3⟩ := I2.after z
    show wpAny _ _ (handedOut u) _ _ _
    rw [PySem.W.handedOut_of (handed_of rv)]
    exact wpAny_pure ⟨v, H', I3, rv, q3⟩
end
end DL

set_option Elab.async false
set_option linter.all false
set_option maxRecDepth 100000
/-! EL8: own operators and own comparisons of instances of one class, over data -/
namespace DL
open PySem PySem.Spec PyProof.Rows L2 TL
section
variable {X : Cx} {k : Nat} {C f : Addr} {fd : FuncData} {ps : List Str} {sp : Sp}
end
end DL
namespace DL
open PySem PySem.Spec PyProof.Rows L2 TL
section
variable {X : Cx} {m : Mem} {k : Nat} {C f : Addr} {fd : FuncData} {ps : List Str} {sp : DSp m} {a b : Expr} {ta tb : DT m} {pos : Pos}
end
end DL
namespace DL
open PySem PySem.Spec PyProof.Rows L2 TL
section
variable {X : Cx} {m : Mem} {k : Nat} {C f : Addr} {fd : FuncData} {ps : List Str} {sp : DSp m} {a b : Expr} {ta tb : DT m} {pos : Pos}
end
end DL

set_option Elab.async false
set_option linter.all false
set_option maxRecDepth 100000
/-! EL9: (*a, *b), f'..' over data -/
namespace DL
open PySem PySem.Spec PyProof.Rows L2 TL
section
variable {X : Cx} {m : Mem} {e : Expr} {es : List Expr} {te : DT m} {u : DTA m} {pos p : Pos}
end
end DL

set_option Elab.async false
set_option linter.all false
set_option maxRecDepth 100000
/-! EL10: an instance with an own ==, compared with data of a built-in type or with one of its class -/
namespace DL
open PySem PySem.Spec PyProof.Rows L2 TL
section
variable {X : Cx} {k : Nat} {C f : Addr} {fd : FuncData} {ps : List Str} {sp : Sp}
end
section
variable {X : Cx} {m : Mem} {k : Nat} {C f : Addr} {fd : FuncData} {ps : List Str} {sp : DSp m} {a b : Expr} {ta tb : DT m} {pos : Pos}
/-- no built-in type stands above the class -/
def NoFirst (K : PySem.W.Frag) (C : Addr) : Prop := ∀ t : Tg, PySem.W.notFirst K C (.type (tgS t)) = true
end
end DL

set_option Elab.async false
set_option linter.all false
set_option maxRecDepth 100000
/-! EL11: len(x) and v in x, x an instance whose class has them as defs -/
namespace DL
open PySem PySem.Spec PyProof.Rows L2 TL
section
variable {X : Cx} {k : Nat} {C f : Addr} {fd : FuncData} {ps : List Str} {sp : Sp}
end
section
variable {X : Cx} {m : Mem} {k : Nat} {C f : Addr} {fd : FuncData} {ps : List Str} {sp : DSp m} {a b e : Expr} {ta tb te : DT m} {pos p : Pos}
end
end DL

set_option Elab.async false
set_option linter.all false
set_option maxRecDepth 100000
/-! EL12: str(x) by an own __str__; isinstance(x, C), C an own class -/
namespace DL
open PySem PySem.Spec PyProof.Rows L2 TL
section
variable {X : Cx} {k : Nat} {C f : Addr} {fd : FuncData} {ps : List Str} {sp : Sp}
end
section
variable {X : Cx} {m : Mem} {k : Nat} {C f : Addr} {fd : FuncData} {ps : List Str} {sp : DSp m} {e : Expr} {te : DT m} {pos p : Pos}
end
end DL

set_option Elab.async false
set_option linter.all false
set_option maxRecDepth 100000
/-! EL13: x in t, t a tuple of plain data -/
namespace DL
open PySem PySem.Spec PyProof.Rows L2 TL
def rInTP (K : PySem.W.Frag) (neg : Bool) : R2 := fun x y H Q => ∃ d ds, Dp K H x d ∧ Dp K H y (.tuple ds) ∧ SeqAt.shaped d = true ∧ SeqAt.shaped (.tuple ds) = true ∧ Q (.bl (neg ^^ ds.any fun z => PyData.eqv z d)) H
section
variable {X : Cx}
theorem op_inTP (hu : X.A.units + 65 < cLine) : OpR X (compareOp .In) (rInTP X.K false) := by
  intro pins s σ H x y v u Q I rx ry h
  obtain ⟨d, ds, hd, he, sd, se, q⟩ := h
  obtain ⟨as, r1⟩ := Dp.reads I d x v hd rx
  obtain ⟨bs, r2⟩ := Dp.reads I (.tuple ds) y u he ry
  rw [Bool.false_xor] at q
  exact SeqAt.in_tuple_reads r2 r1 (SeqAt.canLay_of_shaped se) (SeqAt.canLay_of_shaped sd) (room_in_shaped sd hu) ⟨.bl _, H, I, rfl, q⟩
end
def inTD (neg : Bool) : D → D → (Bool → Prop) → Prop := fun x y Q => ∃ ys, y = .tup ys ∧ plainD 58 x = true ∧ plainDs 58 ys = true ∧ Q (neg ^^ ys.any fun y => eqD y x)
theorem o_inTP {K : PySem.W.Frag} {neg : Bool} : Cm2 K (rInTP K neg) (inTD neg) := by
  intro F H dx dy x y Qd Q sub rx ry h hQ
  obtain ⟨ys, rfl, p1, p2, q⟩ := h
  have q1 := plain_mono 58 60 dx (by omega) p1
  have q2 : plainD 60 (.tup ys) = true := by
    have := plain_monos 58 59 ys (by omega) p2
    simpa [plainD] using this
  exact ⟨toPy dx, toPys ys, rep_dp sub 60 dx x q1 rx, rep_dp sub 60 _ y q2 ry, shaped_of q1 rx, shaped_of q2 ry, by rw [any_eqv 58 58 dx p1 ys p2]; exact hQ _ F H q (Grow.refl sub)⟩
end DL

set_option Elab.async false
set_option linter.all false
set_option maxRecDepth 100000
set_option maxHeartbeats 1000000
namespace R43
open PySem PySem.Spec PyProof.Rows L2 TL DL R29
def spNames43 : DSp Mem.deck := fun ds s Q => ∃ a b c, s.adr = some (a, b, c) ∧ ds = [.any (.ref a), .int 5] ∧ s.n + 100 < drawLim ∧ ∀ (xs : List Str) k, xs.length = 5 → (∀ x ∈ xs, NameOk x) → xs.Nodup → k ≤ s.n + 100 → Q (.lst (xs.map .str)) ⟨s.adr, k⟩
theorem spNames43_len : ∀ ds s Qd, spNames43 ds s Qd → ds.length = 2 := fun ds s Qd ⟨_, _, _, _, e, _⟩ => by rw [e]; rfl
/-- in another order -/
def spMixed : DSp Mem.deck := fun ds s Q => ∃ a b c x xs, s.adr = some (a, b, c) ∧ ds = [.any (.ref a), x] ∧ seqD x = some xs ∧ lenOf x = some xs.length ∧ xs.length ≤ 1000 ∧ s.n + xs.length < drawLim ∧ ∀ ys k, List.Perm ys xs → k = s.n + xs.length → Q (.lst ys) ⟨s.adr, k⟩
theorem spMixed_len : ∀ ds s Qd, spMixed ds s Qd → ds.length = 2 := fun ds s Qd ⟨_, _, _, _, _, _, e, _⟩ => by rw [e]; rfl
/-- paths that don't overlap, as many as may be, but at most l -/
structure Alone (ps : List Str) (l : Int) (qs : List Str) : Prop where
  i : ∀ q ∈ qs, q ∈ ps
  n : (qs.map D.str).Pairwise fun a b => ovs b a = false
  u : ((qs.length : Nat) : Int) ≤ l ∨ qs = []
  m : l ≤ (qs.length : Nat) ∨ ∀ p ∈ ps, ∃ q ∈ qs, ovs (.str q) (.str p) = true
def spAlone : DSp Mem.deck := fun ds s Q => ∃ a b c x ps l, s.adr = some (a, b, c) ∧ ds = [.any (.ref a), x, .int l] ∧ seqD x = some ((ps : List Str).map .str) ∧ lenOf x = some ps.length ∧ ps.length ≤ 100 ∧ (∀ p ∈ ps, rp (.str p) = true) ∧ s.n + ps.length < drawLim ∧ ∀ qs k, Alone ps l qs → k = s.n + ps.length → Q (.lst (qs.map .str)) ⟨s.adr, k⟩
theorem spAlone_len : ∀ ds s Qd, spAlone ds s Qd → ds.length = 3 := fun ds s Qd ⟨_, _, _, _, _, _, _, e, _⟩ => by rw [e]; rfl
/-- two to five rows of one to four paths, all of them in their order -/
structure RowsOk (ps : List Str) (rs : List (List Str)) : Prop where
  j : rs.flatten = ps
  a : 2 ≤ rs.length
  b : rs.length ≤ 5
  r : ∀ r ∈ rs, 1 ≤ r.length ∧ r.length ≤ 4
def spRows43 : DSp Mem.deck := fun ds s Q => ∃ a b c ps, s.adr = some (a, b, c) ∧ ds = [.any (.ref a), .lst ((ps : List Str).map .str)] ∧ 2 ≤ ps.length ∧ ps.length ≤ 6 ∧ s.n + 6 < drawLim ∧ ∀ rs k, RowsOk ps rs → k ≤ s.n + 6 → Q (.tup (rs.map fun r => .tup (r.map .str))) ⟨s.adr, k⟩
theorem spRows43_len : ∀ ds s Qd, spRows43 ds s Qd → ds.length = 2 := fun ds s Qd ⟨_, _, _, _, _, e, _⟩ => by rw [e]; rfl
theorem seqIx {r : Int} {n : Nat} (h0 : 0 ≤ r) (h1 : r < (n : Nat)) : seqIndex? r n = some r.toNat := by
  have h2 : ¬ r < 0 := by omega
  unfold seqIndex?
  simp [h0, h1, h2]
theorem perm_pop {α : Type} {l : List α} {n : Nat} (h : n < l.length) : List.Perm ([l[n]] ++ l.eraseIdx n) l := by
  rw [List.eraseIdx_eq_take_drop_succ]
  have e : l = l.take n ++ l[n] :: l.drop (n + 1) := by rw [List.getElem_cons_drop, List.take_append_drop]
  have p : List.Perm (l.take n ++ l[n] :: l.drop (n + 1)) (l[n] :: (l.take n ++ l.drop (n + 1))) := List.perm_middle
  rw [← e] at p
  exact p.symm
theorem ovs_self (p : Str) : ovs (.str p) (.str p) = true := by
  have h : cov (.str p) (.str p) = true := by
    show coversS p p = true
    unfold coversS
    rw [beq_self_eq_true, Bool.true_or]
  unfold ovs
  rw [h]; rfl

abbrev rowD (L : List (Addr × List Str)) : List D := L.map fun p => D.any (.ref p.1)
abbrev T43t : DTS (Mem.hot Mem.deck) := dIf (dAndT (dTr (dVar 4)) (dCmT ltD (dLenO 2) (dC (D.int 5)))) (dHotNew 2 (dVar 3)) (dHotApp 2 (dUn negD (dC (D.int 1))) (dVar 3))
theorem rowD_app (A B : List (Addr × List Str)) : rowD (A ++ B) = rowD A ++ rowD B := List.map_append
theorem rowD_last (L : List (Addr × List Str)) (q : Addr) (xs : List Str) : atI (rowD (L ++ [(q, xs)])) (-1) = some (.any (.ref q)) := by
  rw [rowD_app]; exact atI_last _ _
theorem rows_len : ∀ {L : List (Addr × List Str)}, (∀ r ∈ L, 1 ≤ r.2.length) → L.length ≤ ((L.map (·.2)).flatten).length
  | [], _ => Nat.le_refl _
  | r :: L, h => by
    have h1 := h r (by simp)
    have h2 := rows_len (L := L) fun x hx => h x (List.mem_cons_of_mem _ hx)
    rw [List.map_cons, List.flatten_cons, List.length_append, List.length_cons]
    omega
theorem tail43 {E : DEnds (Mem.hot Mem.deck)} {c0 c1 c5 : Sl} {y : Str} {g : Bool} {L : List (Addr × List Str)} {q : Addr} {xs : List Str} {s : Mem.deck.S} (h5 : L.length ≤ 100) (hx : xs.length ≤ 100)
    (hnew : g = true → L.length + 1 < 5 → ∀ q', E.nx [c0, c1, .ow (.lst (rowD ((L ++ [(q, xs)]) ++ [(q', [y])]))), .sh (.str y), .sh (.bl g), c5] (s, (L ++ [(q, xs)]) ++ [(q', [y])]))
    (happ : g = false ∨ 5 ≤ L.length + 1 → E.nx [c0, c1, .ow (.lst (rowD (L ++ [(q, xs ++ [y])]))), .sh (.str y), .sh (.bl g), c5] (s, L ++ [(q, xs ++ [y])])) :
    T43t E [c0, c1, .ow (.lst (rowD (L ++ [(q, xs)]))), .sh (.str y), .sh (.bl g), c5] (s, L ++ [(q, xs)]) := by
  have zl : ∀ n, n ≤ 2000 → n ≤ sizeLine := fun n h => line_of (by omega)
  have hlen : (rowD (L ++ [(q, xs)])).length = L.length + 1 := by rw [List.length_map, List.length_append, List.length_singleton]
  have app : g = false ∨ 5 ≤ L.length + 1 → (dHotApp 2 (dUn negD (dC (D.int 1))) (dVar 3) : DTS (Mem.hot Mem.deck)) E [c0, c1, .ow (.lst (rowD (L ++ [(q, xs)]))), .sh (.str y), .sh (.bl g), c5] (s, L ++ [(q, xs)]) := fun h => by
    refine ⟨⟨_, rfl⟩, -1, _, q, rfl, rfl, rowD_last L q xs, ⟨xs, by simp⟩, L, xs, y, rfl, rfl, Nat.lt_of_lt_of_le (by omega) (zl 200 (by decide)), ?_⟩
    have := happ h
    rw [show rowD (L ++ [(q, xs ++ [y])]) = rowD (L ++ [(q, xs)]) by rw [rowD_app, rowD_app]; rfl] at this
    exact this
  refine ⟨g, rfl, ?_⟩
  cases g with
  | true =>
    refine ⟨_, rfl, ?_⟩
    rw [hlen]
    refine ifBd (fun h => ?_) fun h => app (.inr (by omega))
    refine ⟨⟨_, rfl⟩, y, _, rfl, rfl, Nat.lt_of_lt_of_le (by rw [hlen]; omega) (zl 200 (by decide)), fun q' => ?_⟩
    have := hnew rfl (by omega) q'
    rw [rowD_app (L ++ [(q, xs)])] at this
    exact this
  | false => exact app (.inl rfl)

theorem strs_inj : ∀ {a b : List Str}, a.map D.str = b.map D.str → a = b
  | [], [], _ => rfl
  | [], _ :: _, h => by cases h
  | _ :: _, [], h => by cases h
  | x :: a, y :: b, h => by
    rw [List.map_cons, List.map_cons] at h
    injection h with h1 h2
    injection h1 with h1
    rw [h1, strs_inj h2]
def RInv (a : Addr) (p0 : Str) (pr : List Str) (s : Mem.deck.S) (pre : List D) (ρ : List Sl) (s' : (Mem.hot Mem.deck).S) : Prop := ∃ k L q xs c3 c4 c5 done, s' = (⟨s.adr, k⟩, L ++ [(q, xs)]) ∧ ρ = [.sh (.any (.ref a)), .sh (.lst ((p0 :: pr).map D.str)), .ow (.lst (rowD (L ++ [(q, xs)]))), c3, c4, c5] ∧ k ≤ s.n + pre.length ∧ pre = (done : List Str).map D.str ∧ ((L ++ [(q, xs)]).map (·.2)).flatten = p0 :: done ∧ (∀ r ∈ L ++ [(q, xs)], 1 ≤ r.2.length ∧ r.2.length ≤ 4) ∧ L.length + 1 ≤ 5 ∧ (done.length = pr.length → 2 ≤ L.length + 1)

/-- drawn paths: two of them begin with different names -/
structure Spots (xs : List Str) : Prop where
  p : ∀ x ∈ xs, rp (.str x) = true
  n : xs.Nodup
  l : xs.length ≤ 10
  two : ∃ x y, x ∈ xs ∧ y ∈ xs ∧ splS 46 x = [x] ∧ splS 46 y = [y] ∧ x ≠ y
def spSpots : DSp Mem.deck := fun ds s Q => ∃ a b c ns, s.adr = some (a, b, c) ∧ ds = [.any (.ref a), .lst ((ns : List Str).map .str)] ∧ ns.length = 5 ∧ (∀ x ∈ ns, NameOk x) ∧ ns.Nodup ∧ s.n + 50 < drawLim ∧ ∀ xs k, Spots xs → k ≤ s.n + 50 → Q (.lst (xs.map .str)) ⟨s.adr, k⟩
theorem spSpots_len : ∀ ds s Qd, spSpots ds s Qd → ds.length = 2 := fun ds s Qd ⟨_, _, _, _, _, e, _⟩ => by rw [e]; rfl
theorem count_spl (x : Str) : (((splS 46 x).length : Nat) : Int) ≤ Txt.count x ⟨#[46]⟩ + 1 := by
  rw [← split_splS (by decide)]
  unfold Txt.split Txt.count
  split
  · show ((1 : Nat) : Int) ≤ _; omega
  · split
    · show ((1 : Nat) : Int) ≤ _; omega
    · rw [length_partsBetween]; omega
theorem spl_name {x : Str} (h : NameOk x) : splS 46 x = [x] := splS_free (ok_free (nm_ok h))
theorem rp_of {x : Str} (h1 : (splS 46 x).length ≤ 4) (h2 : ∀ y ∈ splS 46 x, okName y = true) : rp (.str x) = true := by
  show (decide _ && _) = true
  rw [decide_eq_true h1, Bool.true_and]
  exact List.all_eq_true.mpr h2
abbrev T43s : DTS Mem.deck := dIf (dBackT (dAndT (dCmT notInD (dVar 4) (dVar 2)) (dCmT ltD (dMt "str" countD (dVar 4) (daCons (dC (D.str (Str.ofString "."))) daNil)) (dC (D.int 4))))) (dApp 2 (dVar 4)) dNext
theorem spot43 {E : DEnds Mem.deck} {c0 c1 c3 : Sl} {z : Str} {xs : List Str} {s : Mem.deck.S} (hl : xs.length ≤ 100) (hz : ∀ y ∈ splS 46 z, okName y = true)
    (h1 : z ∉ xs → rp (.str z) = true → E.nx [c0, c1, .ow (.lst ((xs ++ [z]).map .str)), c3, .sh (.str z)] s) (h2 : E.nx [c0, c1, .ow (.lst (xs.map .str)), c3, .sh (.str z)] s) :
    T43s E [c0, c1, .ow (.lst (xs.map .str)), c3, .sh (.str z)] s := by
  have hd' : (Str.ofString ".") = (⟨#[46]⟩ : Str) := by decide +kernel
  refine ⟨rfl, plain_strs _ _, ifB2 (fun g => ?_) fun g => h2⟩
  refine ⟨rfl, z, _, rfl, rfl, ?_⟩
  rw [hd']
  refine ifBd (fun g2 => ?_) fun g2 => h2
  have g : ∀ x ∈ xs, eqD (.str x) (.str z) = false := by simpa using g
  have hn : z ∉ xs := fun w => by
    have := g z w
    rw [eqs, decide_eq_true rfl] at this
    cases this
  have hc := count_spl z
  refine ⟨⟨_, rfl⟩, _, rfl, Nat.lt_of_lt_of_le (by rw [List.length_map]; omega) (line_of (n := 200) (by decide)), ?_⟩
  have := h1 hn (rp_of (by omega) hz)
  rw [List.map_append] at this
  exact this

/-- paths of rules that don't overlap -/
structure Nov (ps : List Str) : Prop where
  p : ∀ x ∈ ps, rp (.str x) = true
  n : (ps.map D.str).Pairwise fun a b => ovs b a = false
theorem Nov.sub {ps qs : List Str} (P : Nov ps) (h : qs.Sublist ps) : Nov qs := ⟨fun x hx => P.p x (h.subset hx), P.n.sublist (h.map D.str)⟩
theorem rl_forbid {ps qs : List Str} {how : Str} (P : Nov (ps ++ qs)) (o1 : 1 ≤ ps.length) (o2 : ps.length ≤ 6) (t1 : 1 ≤ qs.length) (t2 : qs.length ≤ 6) (hh : how ∈ sDC) : RuleOk (.tup [.str (Str.ofString "forbid"), .tup (ps.map .str), .tup (qs.map .str), .str how]) := by
  have q1 : ∀ p ∈ ps, rp (.str p) = true := fun p h => P.p p (List.mem_append_left _ h)
  have q2 : ∀ p ∈ qs, rp (.str p) = true := fun p h => P.p p (List.mem_append_right _ h)
  obtain ⟨a1, a2⟩ := two_tup (how := how) (W := 0) q1 q2 (by omega) (by omega)
  obtain ⟨b1, b2⟩ := how_gd how hh 2
  refine rule_ok (by decide +kernel) (word_none (names := [Str.ofString "sources", Str.ofString "targets", Str.ofString "how"]) (by decide +kernel) rfl ?_ fun n => ?_) ((a1.app (Gs.one b1)).mono (Nat.le_refl _) (by decide) (Nat.le_refl _)) ?_ (by show 3 ≤ 10; decide)
  · refine List.forall_mem_cons.mpr ⟨fit_tup (nm := Str.ofString "sources") (l := 1) (by decide +kernel) (by decide +kernel) q1 (by omega) (by omega), List.forall_mem_cons.mpr ⟨fit_tup (nm := Str.ofString "targets") (l := 1) (by decide +kernel) (by decide +kernel) q2 (by omega) (by omega), List.forall_mem_cons.mpr ⟨fit_how (how_in how hh), fun _ h => by cases h⟩⟩⟩
  · have e : mainPaths (Str.ofString "forbid") [Str.ofString "sources", Str.ofString "targets", Str.ofString "how"] [.tup (ps.map .str), .tup (qs.map .str), .str how] = (ps ++ qs).map .str := by
      unfold mainPaths
      rw [if_neg (by decide +kernel)]
      show itemPaths _ _ ++ (itemPaths _ _ ++ (itemPaths _ _ ++ [])) = _
      rw [(it_tup (by simp) _).1, (it_tup (by simp) _).1, it_how, List.map_append]
      show _ ++ (_ ++ []) = _
      rw [List.append_nil]; rfl
    rw [e]
    exact ovN_false P.n n
  · show (ts _ && (ts _ && (ts _ && true))) = true
    have : (ts _ && (ts _ && true)) = true := a2
    rw [Bool.and_eq_true, Bool.and_true] at this
    rw [this.1, this.2, b2]; rfl
theorem rl_only {ps qs : List Str} (P : Nov (ps ++ qs)) (o1 : 1 ≤ ps.length) (o2 : ps.length ≤ 6) (t2 : qs.length ≤ 6) : RuleOk (.tup [.str (Str.ofString "only"), .tup (ps.map .str), .tup (qs.map .str)]) := by
  have q1 : ∀ p ∈ ps, rp (.str p) = true := fun p h => P.p p (List.mem_append_left _ h)
  have q2 : ∀ p ∈ qs, rp (.str p) = true := fun p h => P.p p (List.mem_append_right _ h)
  obtain ⟨a1, a2⟩ := two_tup (how := Str.ofString "") (W := 0) q1 q2 (by omega) (by omega)
  refine rule_ok (by decide +kernel) (word_none (names := [Str.ofString "targets", Str.ofString "users"]) (by decide +kernel) rfl ?_ fun n => ?_) (a1.mono (Nat.le_refl _) (by decide) (Nat.le_refl _)) a2 (by show 2 ≤ 10; decide)
  · refine List.forall_mem_cons.mpr ⟨fit_tup (nm := Str.ofString "targets") (l := 1) (by decide +kernel) (by decide +kernel) q1 (by omega) (by omega), List.forall_mem_cons.mpr ⟨fit_tup (nm := Str.ofString "users") (l := 0) (by decide +kernel) (by decide +kernel) q2 (by omega) (by omega), fun _ h => by cases h⟩⟩
  · have e : mainPaths (Str.ofString "only") [Str.ofString "targets", Str.ofString "users"] [.tup (ps.map .str), .tup (qs.map .str)] = (ps ++ qs).map .str := by
      unfold mainPaths
      rw [if_neg (by decide +kernel)]
      show itemPaths _ _ ++ (itemPaths _ _ ++ []) = _
      rw [(it_tup (by simp) _).1, (it_tup (by simp) _).1, List.map_append, List.append_nil]; rfl
    rw [e]
    exact ovN_false P.n n
theorem rl_apart {ps : List Str} {how : Str} (P : Nov ps) (o1 : 2 ≤ ps.length) (o2 : ps.length ≤ 6) (hh : how ∈ sDC) : RuleOk (.tup [.str (Str.ofString "apart"), .tup (ps.map .str), .str how]) := by
  have q1 : ∀ p ∈ ps, rp (.str p) = true := P.p
  obtain ⟨a1, a2⟩ := ps_gd q1 (m := 6) (by omega) (by decide) 1
  obtain ⟨b1, b2⟩ := how_gd how hh 2
  refine rule_ok (by decide +kernel) (word_none (names := [Str.ofString "paths", Str.ofString "how"]) (by decide +kernel) rfl ?_ fun n => ?_) (((Gs.one a1).app (Gs.one b1)).mono (Nat.le_refl _) (by decide) (Nat.le_refl _)) ?_ (by show 2 ≤ 10; decide)
  · refine List.forall_mem_cons.mpr ⟨fit_tup (nm := Str.ofString "paths") (l := 2) (by decide +kernel) (by decide +kernel) q1 (by omega) (by omega), List.forall_mem_cons.mpr ⟨fit_how (how_in how hh), fun _ h => by cases h⟩⟩
  · have e : mainPaths (Str.ofString "apart") [Str.ofString "paths", Str.ofString "how"] [.tup (ps.map .str), .str how] = ps.map .str := by
      unfold mainPaths
      rw [if_neg (by decide +kernel)]
      show itemPaths _ _ ++ (itemPaths _ _ ++ []) = _
      rw [(it_tup (by simp) _).1, it_how, List.append_nil, List.append_nil]; rfl
    rw [e]
    exact ovN_false P.n n
  · show (ts _ && (ts _ && true)) = true
    rw [a2, b2]; rfl
theorem rl_noring {ps : List Str} {how : Str} (P : Nov ps) (o1 : 2 ≤ ps.length) (o2 : ps.length ≤ 6) : RuleOk (.tup [.str (Str.ofString "noring"), .tup (ps.map .str)]) := by
  have q1 : ∀ p ∈ ps, rp (.str p) = true := P.p
  obtain ⟨a1, a2⟩ := ps_gd q1 (m := 6) (by omega) (by decide) 1
  refine rule_ok (by decide +kernel) (word_none (names := [Str.ofString "paths"]) (by decide +kernel) rfl ?_ fun n => ?_) ((Gs.one a1).mono (Nat.le_refl _) (by decide) (Nat.le_refl _)) ?_ (by show 1 ≤ 10; decide)
  · exact List.forall_mem_cons.mpr ⟨fit_tup (nm := Str.ofString "paths") (l := 2) (by decide +kernel) (by decide +kernel) q1 (by omega) (by omega), fun _ h => by cases h⟩
  · have e : mainPaths (Str.ofString "noring") [Str.ofString "paths"] [.tup (ps.map .str)] = ps.map .str := by
      unfold mainPaths
      rw [if_neg (by decide +kernel)]
      show itemPaths _ _ ++ [] = _
      rw [(it_tup (by simp) _).1, List.append_nil]; rfl
    rw [e]
    exact ovN_false P.n n
  · show (ts _ && true) = true
    rw [a2]; rfl
theorem rl_face {ps : List Str} {h : Str} (P : Nov ps) (hr : rp (.str h) = true) (hb : ∀ q ∈ ps, coversS h q = true ∧ q ≠ h) (t2 : ps.length ≤ 6) : RuleOk (.tup [.str (Str.ofString "face"), .str h, .tup (ps.map .str)]) := by
  obtain ⟨a1, a2⟩ := ps_gd P.p (m := 6) (by omega) (by decide) 1
  obtain ⟨b1, b2⟩ := path_gd hr 2
  refine rule_ok (by decide +kernel) (word_none (names := [Str.ofString "path", Str.ofString "exposed"]) (by decide +kernel) rfl ?_ fun n => ?_) (((Gs.one b1).app (Gs.one a1)).mono (Nat.le_refl _) (by decide) (Nat.le_refl _)) ?_ (by show 2 ≤ 10; decide)
  · refine List.forall_mem_cons.mpr ⟨?_, List.forall_mem_cons.mpr ⟨?_, fun _ h => by cases h⟩⟩
    · show fit sPath (.str h) _ = true
      unfold fit
      rw [if_neg (by decide +kernel), if_neg (by decide +kernel), if_pos rfl]
      exact hr
    · show fit sExp _ (.str h) = true
      unfold fit
      rw [if_neg (by decide +kernel), if_neg (by decide +kernel), if_neg (by decide +kernel), show los.lookup sExp = some 0 by decide +kernel]
      show (rps 0 6 _ && _) = true
      rw [if_pos rfl, Bool.and_eq_true]
      constructor
      · obtain ⟨L, hL⟩ : ∃ L, L = ps.map D.str := ⟨_, rfl⟩
        show rps 0 6 (.tup (ps.map D.str)) = true
        rw [← hL]
        show (decide ((0 : Int) ≤ (L.length : Nat)) && (decide (((L.length : Nat) : Int) ≤ 6) && L.all rp)) = true
        rw [hL]
        rw [List.length_map, decide_eq_true (by omega), decide_eq_true (by omega), Bool.true_and, Bool.true_and, List.all_map, List.all_eq_true]
        exact P.p
      · show List.all _ _ = true
        rw [List.all_map, List.all_eq_true]
        intro q hq
        obtain ⟨c1, c2⟩ := hb q hq
        show (!eqD (.str q) (.str h) && coversS h q) = true
        rw [eqs, decide_eq_false c2, c1]; rfl
  · have e : mainPaths (Str.ofString "face") [Str.ofString "path", Str.ofString "exposed"] [.str h, .tup (ps.map .str)] = ps.map .str := by
      unfold mainPaths
      rw [if_pos (by decide +kernel)]
      rfl
    rw [e]
    exact ovN_false P.n n
  · show (ts _ && (ts _ && true)) = true
    rw [a2, b2]; rfl
theorem rl_rows {k : Str} {names : List Str} {rs : List (List Str)} {tail : List D} (P : Nov rs.flatten) (h1 : 2 ≤ rs.length) (h2 : rs.length ≤ 5) (hr : ∀ r ∈ rs, 1 ≤ r.length ∧ r.length ≤ 4)
    (hk : (k = Str.ofString "stairs" ∧ names = [sRows] ∧ tail = []) ∨ (k = Str.ofString "layers" ∧ names = [sRows, sHow] ∧ ∃ how ∈ sDC, tail = [.str how])) : RuleOk (.tup (.str k :: .tup (R29.rowD rs) :: tail)) := by
  have hp := P.p
  have hrp : ∀ r ∈ rs, r.length ≤ 4 ∧ ∀ p ∈ r, rp (.str p) = true := fun r hr' => ⟨(hr r hr').2, fun p hp' => hp p (List.mem_flatten.mpr ⟨r, hr', hp'⟩)⟩
  obtain ⟨a1, a2⟩ := rows_gd hrp
  have a3 : Gd 36 725 2 (.tup (R29.rowD rs)) := (a1.mono (Nat.le_refl _) (by omega : 145 * rs.length ≤ 725) (Nat.le_refl _)).tup (by rw [List.length_map]; omega)
  have fr : fit sRows (.tup (R29.rowD rs)) (.tup (R29.rowD rs)) = true := by
    unfold fit
    rw [if_neg (by decide +kernel), if_pos rfl]
    show (decide _ && (decide _ && _)) = true
    rw [List.length_map, decide_eq_true (by omega), decide_eq_true (by omega), Bool.true_and, Bool.true_and, List.all_map, List.all_eq_true]
    intro r hr'
    show (decide ((1 : Int) ≤ ((r.map D.str).length : Nat)) && (decide ((((r.map D.str).length : Nat) : Int) ≤ 4) && (r.map D.str).all rp)) = true
    have := hr r hr'
    rw [List.length_map, decide_eq_true (by omega), decide_eq_true (by omega), Bool.true_and, Bool.true_and, List.all_map, List.all_eq_true]
    exact (hrp r hr').2
  rcases hk with ⟨rfl, rfl, rfl⟩ | ⟨rfl, rfl, how, hh, rfl⟩
  · refine rule_ok (by decide +kernel) (word_none (names := [sRows]) (by decide +kernel) rfl ?_ fun n => ?_) ((Gs.one a3).mono (Nat.le_refl _) (by decide) (Nat.le_refl _)) ?_ (by show 1 ≤ 10; decide)
    · exact List.forall_mem_cons.mpr ⟨fr, fun _ h => by cases h⟩
    · have e : mainPaths (Str.ofString "stairs") [sRows] [.tup (R29.rowD rs)] = rs.flatten.map .str := by
        unfold mainPaths
        rw [if_neg (by decide +kernel)]
        show itemPaths sRows _ ++ [] = _
        rw [it_rows, List.append_nil]
        exact rows_flat rs
      rw [e]
      exact ovN_false P.n n
    · show (ts _ && true) = true
      rw [Bool.and_true]; exact a2
  · obtain ⟨b1, b2⟩ := how_gd how hh 2
    refine rule_ok (by decide +kernel) (word_none (names := [sRows, sHow]) (by decide +kernel) rfl ?_ fun n => ?_) (((Gs.one a3).app (Gs.one b1)).mono (Nat.le_refl _) (by decide) (Nat.le_refl _)) ?_ (by show 2 ≤ 10; decide)
    · exact List.forall_mem_cons.mpr ⟨fr, List.forall_mem_cons.mpr ⟨fit_how (how_in how hh), fun _ h => by cases h⟩⟩
    · have e : mainPaths (Str.ofString "layers") [sRows, sHow] [.tup (R29.rowD rs), .str how] = rs.flatten.map .str := by
        unfold mainPaths
        rw [if_neg (by decide +kernel)]
        show itemPaths sRows _ ++ (itemPaths sHow _ ++ []) = _
        rw [it_rows, it_how, List.append_nil, List.append_nil]
        exact rows_flat rs
      rw [e]
      exact ovN_false P.n n
    · show (ts _ && (ts _ && true)) = true
      have : tss (R29.rowD rs) = true := a2
      rw [show ts (D.tup (R29.rowD rs)) = true from a2, b2]; rfl

theorem Spots.few {xs qs : List Str} {l : Int} (S : Spots xs) (A : Alone xs l qs) (h2 : 2 ≤ l) : 2 ≤ qs.length := by
  rcases A.m with h | h
  · omega
  · obtain ⟨x, y, hx, hy, ex, ey, hne⟩ := S.two
    have hdx : hd x = x := by unfold hd; rw [ex]; rfl
    have hdy : hd y = y := by unfold hd; rw [ey]; rfl
    have key : ∀ {q z : Str}, ovs (.str q) (.str z) = true → hd q = hd z := fun {q z} h => by
      by_cases e : hd q = hd z
      · exact e
      · rw [ovs_hd e] at h; cases h
    obtain ⟨q1, m1, o1⟩ := h x hx
    obtain ⟨q2, m2, o2⟩ := h y hy
    have e1 := key o1
    have e2 := key o2
    match qs, m1, m2 with
    | [], m1, _ => cases m1
    | [q], m1, m2 =>
      rw [List.mem_singleton.mp m1] at e1
      rw [List.mem_singleton.mp m2] at e2
      rw [e1, hdx, hdy] at e2
      exact absurd e2 hne
    | _ :: _ :: _, _, _ => simp
theorem Alone.nov {xs qs : List Str} {l : Int} (A : Alone xs l qs) (h : ∀ x ∈ xs, rp (.str x) = true) : Nov qs := ⟨fun q hq => h q (A.i q hq), A.n⟩
theorem cut_any {ps : List Str} {j m : Nat} (h : j ≤ m) (hj : j ≤ ps.length) : DL.cutD (ps.map D.str) (some (j : Int)) (some (m : Int)) = ((ps.drop j).take (m - j)).map D.str := by
  by_cases hm : m ≤ ps.length
  · exact cut_ps h hm
  · rw [List.take_of_length_le (by rw [List.length_drop]; omega)]
    unfold DL.cutD
    rw [HT.sIx_nat, HT.sIx_nat, List.length_map, Nat.min_eq_left hj, Nat.min_eq_right (by omega), List.take_of_length_le (by rw [List.length_drop, List.length_map]; omega), List.map_drop]
def spRuleOf : DSp Mem.deck := fun ds s Q => ∃ a b c kind xs, s.adr = some (a, b, c) ∧ ds = [.any (.ref a), .str kind, .lst ((xs : List Str).map .str)] ∧ kind ∈ kinds ∧ Spots xs ∧ s.n + 60 < drawLim ∧ ∀ d k, RuleOk d → k ≤ s.n + 60 → Q d ⟨s.adr, k⟩
theorem spRuleOf_len : ∀ ds s Qd, spRuleOf ds s Qd → ds.length = 3 := fun ds s Qd ⟨_, _, _, _, _, _, e, _⟩ => by rw [e]; rfl
def spRule43 : DSp Mem.deck := fun ds s Q => ∃ a b c xs, s.adr = some (a, b, c) ∧ ds = [.any (.ref a), .lst ((xs : List Str).map .str)] ∧ Spots xs ∧ s.n + 61 < drawLim ∧ ∀ d k, RuleOk d → k ≤ s.n + 61 → Q d ⟨s.adr, k⟩
theorem spRule43_len : ∀ ds s Qd, spRule43 ds s Qd → ds.length = 2 := fun ds s Qd ⟨_, _, _, _, _, e, _⟩ => by rw [e]; rfl
def spSome : DSp Mem.deck := fun ds s Q => ∃ a b c xs, s.adr = some (a, b, c) ∧ ds = [.any (.ref a), .lst ((xs : List Str).map .str), .int 8] ∧ Spots xs ∧ s.n + 500 < drawLim ∧ ∀ rs k, (∀ r ∈ rs, RuleOk r) → rs.length ≤ 8 → (rs.Pairwise fun x y => eqD x y = false) → k ≤ s.n + 500 → Q (.tup rs) ⟨s.adr, k⟩
theorem spSome_len : ∀ ds s Qd, spSome ds s Qd → ds.length = 3 := fun ds s Qd ⟨_, _, _, _, _, e, _⟩ => by rw [e]; rfl

mutual
theorem ts_plain : ∀ (n : Nat) (d : D), ts d = true → repD n d = true → plainD n d = true
  | n, .str x, _, _ => by cases n <;> rfl
  | 0, .tup xs, _, h => by rw [rep_tup0] at h; cases h
  | n + 1, .tup xs, h1, h2 => by
    rw [rep_tup] at h2
    show plainDs n xs = true
    exact tss_plain n xs h1 h2
  | _, .non, h, _ => by cases h
  | _, .bl _, h, _ => by cases h
  | _, .int _, h, _ => by cases h
  | _, .lst _, h, _ => by cases h
  | _, .dic _ _, h, _ => by cases h
  | _, .ins _ _ _, h, _ => by cases h
  | _, .any _, h, _ => by cases h
  | _, .fz _, h, _ => by cases h
  | _, .exc _ _ _, h, _ => by cases h
theorem tss_plain : ∀ (n : Nat) (ds : List D), tss ds = true → repDs n ds = true → plainDs n ds = true
  | n, [], _, _ => rfl
  | n, d :: ds, h1, h2 => by
    have h1 : (ts d && tss ds) = true := h1
    have h2 : (repD n d && repDs n ds) = true := by simpa [repDs] using h2
    rw [Bool.and_eq_true] at h1 h2
    show (plainD n d && plainDs n ds) = true
    rw [ts_plain n d h1.1 h2.1, tss_plain n ds h1.2 h2.2]; rfl
end
theorem plains_of : ∀ {n : Nat} {ds : List D}, (∀ d ∈ ds, plainD n d = true) → plainDs n ds = true
  | _, [], _ => rfl
  | n, d :: ds, h => by
    show (plainD n d && plainDs n ds) = true
    rw [h d (by simp), plains_of fun x hx => h x (List.mem_cons_of_mem _ hx)]; rfl
theorem rule_plain {d : D} (R : RuleOk d) : plainD 58 d = true := plain_mono 3 58 d (by decide) (ts_plain 3 d R.t R.g.r)

mutual
def few : D → Bool
  | .lst xs => decide (xs.length ≤ 1000) && fews xs
  | .tup xs => decide (xs.length ≤ 1000) && fews xs
  | _ => true
def fews : List D → Bool
  | [] => true
  | d :: ds => few d && fews ds
end
theorem fews_iff : ∀ {xs : List D}, fews xs = true ↔ ∀ x ∈ xs, few x = true
  | [] => ⟨fun _ _ h => (by cases h), fun _ => rfl⟩
  | d :: ds => by
    show (few d && fews ds) = true ↔ _
    rw [Bool.and_eq_true, fews_iff, List.forall_mem_cons]
theorem plains_iff {n : Nat} : ∀ {xs : List D}, plainDs n xs = true → ∀ x ∈ xs, plainD n x = true
  | [], _, _, h => (by cases h)
  | d :: ds, h, x, hx => by
    have h : (plainD n d && plainDs n ds) = true := h
    rw [Bool.and_eq_true] at h
    rcases List.mem_cons.mp hx with rfl | hx
    · exact h.1
    · exact plains_iff h.2 x hx
/-- a value compared with itself -/
def spSame43 {m : Mem} : Nat → DSp m
  | 0 => fun _ _ _ => False
  | n + 1 => fun ds s Q => ∃ d, ds = [d, d] ∧ plainD n d = true ∧ few d = true ∧ Q (.bl true) s
theorem spSame43_len {m : Mem} : ∀ (n : Nat) ds s Qd, (spSame43 n : DSp m) ds s Qd → ds.length = 2
  | 0, _, _, _, h => h.elim
  | _ + 1, _, _, _, ⟨_, e, _⟩ => by rw [e]; rfl
theorem pairs_self : ∀ (xs : List D), pairsD xs xs = xs.map fun x => .tup [x, x]
  | [] => rfl
  | x :: xs => by
    show D.tup [x, x] :: pairsD xs xs = _
    rw [pairs_self xs]; rfl

def T_under43 {m : Mem} : DTS m :=
  (dRet (dOrV (dCm eqC (dVar 1) (dVar 0)) (dMt "str" swD (dVar 1) (daCons (dOp addD (dVar 0) (dC (D.str (Str.ofString ".")))) daNil))))
theorem read_under43 {m : Mem} : ∀ ds s Qd, (spCovers : DSp m) ds s Qd → (T_under43 : DTS m) (endsOf Qd) (startD ["_law_path", "_law_other"] ds) s := by
  intro ds s Qd h
  obtain ⟨p, o, rfl, hl, hQ⟩ := h
  have hd : (Str.ofString ".") = dot := by decide +kernel
  refine ⟨rfl, rfl, _, rfl, ?_⟩
  rw [eqs]
  unfold coversS at hQ
  rw [beq_dec] at hQ
  by_cases e : o = p
  · rw [decide_eq_true e, Bool.true_or] at hQ
    rw [decide_eq_true e]
    exact hQ
  · rw [decide_eq_false e, Bool.false_or] at hQ
    rw [decide_eq_false e]
    refine ⟨rfl, ?_, o, p ++ Str.ofString ".", rfl, rfl, ?_⟩
    · rw [hd]
      show p.length + 1 ≤ strLim
      have : strLim = 1000000 := rfl
      omega
    · rw [hd]
      exact hQ
def T_mixed43 : DTS Mem.deck :=
  (dSeq (dParLO 3 4 (dVar 1))
      (dSeq (dFor (diR1 (daCons (dB lenD (daCons (dVar 1) daNil)) daNil)) (gN 2)
        (dAppPop 4 3 (dCall spNext (daCons (dVar 0) (daCons (dLenO 3) daNil)))))
      (dRet (dVar 4))))
theorem read_mixed43 : ∀ ds s Qd, (spMixed : DSp Mem.deck) ds s Qd → (T_mixed43 : DTS Mem.deck) (endsOf Qd) (startD ["_law_reel_here", "_law_some", "_law_turn", "_law_rest", "_law_found"] ds) s := by
  intro ds s Qd h
  obtain ⟨a, b, c, x, xs, had, rfl, hx, hlx, hl, hn, hQ⟩ := h
  have zl : ∀ n, n ≤ 2000 → n ≤ sizeLine := fun n h => line_of (by omega)
  refine ⟨xs, hx, x, xs.length, rfl, hlx, _, rfl, (by omega), (by omega), fun pre ρ s' => s'.adr = s.adr ∧ s'.n = s.n + pre.length ∧ ∃ c2 rest found, ρ = [.sh (.any (.ref a)), .sh x, c2, .ow (.lst rest), .ow (.lst found)] ∧ List.Perm (found ++ rest) xs ∧ found.length = pre.length,
    ⟨rfl, rfl, _, xs, [], rfl, List.Perm.refl _, rfl⟩, ?_, ?_⟩
  · rintro pre y post ρ s' e ⟨e1, e2, c2, rest, found, rfl, hp, hf⟩
    obtain ⟨hp1, rfl⟩ := rng_pre e
    have hlen := hp.length_eq
    rw [List.length_append] at hlen
    have hp1 : pre.length < xs.length := by simpa using hp1
    refine ⟨⟨_, rfl⟩, ⟨_, rfl⟩, rest, rfl, a, b, c, _, e1.trans had, rfl, (by omega), (by omega), (by omega), fun r k h0 h1 hk => ?_⟩
    have hrn : r.toNat < rest.length := by omega
    refine ⟨r, found, rest, r.toNat, rest[r.toNat], rfl, by omega, by omega, rfl, rfl, seqIx h0 h1, List.getElem?_eq_getElem hrn, zl _ (by omega), e1, ?_, _, _, _, rfl, ?_, ?_⟩
    · show k = _
      rw [List.length_append, List.length_singleton]; omega
    · refine List.Perm.trans ?_ hp
      rw [List.append_assoc]
      exact List.Perm.append_left _ (perm_pop hrn)
    · rw [List.length_append, List.length_append, hf]; rfl
  · rintro ρ s' ⟨e1, e2, c2, rest, found, rfl, hp, hf⟩
    have hlen := hp.length_eq
    rw [List.length_append] at hlen
    rw [rngD_length] at e2 hf
    have h0 : rest = [] := List.eq_nil_of_length_eq_zero (by simp at hf; omega)
    subst h0
    rw [List.append_nil] at hp
    have := hQ found s'.n hp (by rw [e2]; simp)
    rw [← e1] at this
    exact this
def T_meet43 {m : Mem} : DTS m :=
  (dRet (dOrV (dCall spCovers (daCons (dVar 0) (daCons (dVar 1) daNil))) (dCall spCovers (daCons (dVar 1) (daCons (dVar 0) daNil)))))
theorem read_meet43 {m : Mem} : ∀ ds s Qd, (spOvl : DSp m) ds s Qd → (T_meet43 : DTS m) (endsOf Qd) (startD ["_law_path", "_law_other"] ds) s := by
  intro ds s Qd h
  obtain ⟨p, o, rfl, hp, ho, hQ⟩ := h
  refine ⟨p, o, rfl, hp, _, rfl, ifB2 (fun h => ?_) fun h => ⟨o, p, rfl, ho, ?_⟩⟩
  · rw [h] at hQ ⊢; exact hQ
  · rw [h] at hQ; exact hQ
def T_alone43 : DTS Mem.deck :=
  (dSeq (dSetL 3 daNil)
      (dSeq (dFor (diSeq (dCall spMixed (daCons (dVar 0) (daCons (dVar 1) daNil)))) (gN 4)
        (dIf (dBackT (dAndT (dCmT ltD (dLenO 3) (dVar 2)) (dCmT (eqE false) (dLc (diSeq (dVar 3)) (gN 5) (dTr (dCall spOvl (daCons (dVar 5) (daCons (dVar 4) daNil)))) (dVar 5) [5]) (dLst daNil)))) (dApp 3 (dVar 4)) dNext))
      (dRet (dVar 3))))
theorem read_alone43 : ∀ ds s Qd, (spAlone : DSp Mem.deck) ds s Qd → (T_alone43 : DTS Mem.deck) (endsOf Qd) (startD ["_law_reel_here", "_law_paths", "_law_limit", "_law_found", "_law_path", "_law_one"] ds) s := by
  intro ds s Qd h
  obtain ⟨a, b, c, x, ps, l, had, rfl, hx, hlx, hl, hrp, hn, hQ⟩ := h
  have zl : ∀ n, n ≤ 2000 → n ≤ sizeLine := fun n h => line_of (by omega)
  have hlim : drawLim = 1152921504606846976 := rfl
  have r10 : ∀ p, rp (.str p) = true → p.length ≤ 1000 := fun p h => rp_len h
  refine ⟨by show 0 ≤ sizeLine; exact Nat.zero_le _, a, b, c, x, _, had, rfl, hx, by rw [List.length_map]; exact hlx, by rw [List.length_map]; omega, by rw [List.length_map]; exact hn, fun ys k hp hk => ?_⟩
  rw [List.length_map] at hk
  have hyl := hp.length_eq
  rw [List.length_map] at hyl
  have hys : ∀ y ∈ ys, ∃ p ∈ ps, y = .str p := fun y hy => by
    obtain ⟨p, h1, h2⟩ := List.mem_map.mp (hp.mem_iff.mp hy)
    exact ⟨p, h1, h2.symm⟩
  refine ⟨ys, rfl, fun pre ρ s' => s' = ⟨s.adr, k⟩ ∧ ∃ c4 c5 qs, ρ = [.sh (.any (.ref a)), .sh x, .sh (.int l), .ow (.lst ((qs : List Str).map .str)), c4, c5] ∧ (∀ q ∈ qs, q ∈ ps) ∧ (qs.map D.str).Pairwise (fun a b => ovs b a = false) ∧ (((qs.length : Nat) : Int) ≤ l ∨ qs = []) ∧ (l ≤ (qs.length : Nat) ∨ ∀ p, D.str p ∈ pre → ∃ q ∈ qs, ovs (.str q) (.str p) = true) ∧ qs.length ≤ pre.length,
    ⟨rfl, _, _, [], rfl, (fun _ h => nomatch h), List.Pairwise.nil, .inr rfl, .inr (fun _ h => nomatch h), Nat.le_refl _⟩, ?_, ?_⟩
  · rintro pre y post ρ s' e ⟨rfl, c4, c5, qs, rfl, h1, h2, h3, h4, h5⟩
    obtain ⟨p, hpp, rfl⟩ := hys y (by rw [e]; simp)
    have hpre : pre.length ≤ 100 := by
      have := congrArg List.length e
      rw [List.length_append] at this
      omega
    have stay : (l ≤ (qs.length : Nat) ∨ ∃ q ∈ qs, ovs (.str q) (.str p) = true) → ∀ c4 c5 : Sl, ∃ d4 d5 rs, ([.sh (.any (.ref a)), .sh x, .sh (.int l), .ow (.lst (qs.map .str)), c4, c5] : List Sl) = [.sh (.any (.ref a)), .sh x, .sh (.int l), .ow (.lst ((rs : List Str).map .str)), d4, d5] ∧ (∀ q ∈ rs, q ∈ ps) ∧ (rs.map D.str).Pairwise (fun a b => ovs b a = false) ∧ (((rs.length : Nat) : Int) ≤ l ∨ rs = []) ∧ (l ≤ (rs.length : Nat) ∨ ∀ p', D.str p' ∈ pre ++ [D.str p] → ∃ q ∈ rs, ovs (.str q) (.str p') = true) ∧ rs.length ≤ (pre ++ [D.str p]).length := fun h c4 c5 => by
      refine ⟨c4, c5, qs, rfl, h1, h2, h3, ?_, by rw [List.length_append]; omega⟩
      rcases h4 with z | z
      · exact .inl z
      · rcases h with w | w
        · exact .inl w
        · refine .inr fun p' hp' => ?_
          rcases List.mem_append.mp hp' with v | v
          · exact z p' v
          · have : D.str p' = D.str p := by simpa using v
            cases this
            exact w
    refine ⟨_, rfl, ?_⟩
    rw [List.length_map]
    refine ifBd (fun g => ?_) fun g => ?_
    · refine ⟨_, rfl, zl _ (by rw [List.length_map]; omega), fun pre1 acc s3 => s3 = ⟨s.adr, k⟩ ∧ acc = pre1.filter (fun q => ovs q (.str p)), ⟨rfl, rfl⟩, ?_, ?_⟩
      · rintro pre1 z post1 acc s3 e1 - ⟨rfl, rfl⟩
        obtain ⟨o, ho, rfl⟩ : ∃ o ∈ qs, .str o = z := List.mem_map.mp (show z ∈ qs.map D.str by rw [e1]; simp)
        have ha := lst_app (fun y => ovs y (.str p)) pre1 (.str o)
        refine ⟨o, p, rfl, r10 o (hrp o (h1 o ho)), r10 p (hrp p hpp), _, rfl, rfl, ifB2 (fun q => ?_) fun q => ?_⟩
        · rw [show ovs (.str o) (.str p) = true from q] at ha
          exact ⟨rfl, rfl, ha⟩
        · rw [show ovs (.str o) (.str p) = false from q] at ha
          exact ⟨rfl, ha⟩
      · rintro acc s3 - ⟨rfl, rfl⟩
        refine ⟨by show 0 ≤ sizeLine; exact Nat.zero_le _, _, rfl, rfl, ?_⟩
        rw [Bool.false_xor, filter_any]
        refine ifB2 (fun q => ?_) fun q => ?_
        · have q : ∀ o ∈ qs, ovs (.str o) (.str p) = false := by simpa using q
          refine ⟨⟨_, rfl⟩, _, rfl, zl _ (by rw [List.length_map]; omega), rfl, _, _, qs ++ [p], by rw [List.map_append]; rfl, fun o ho => ?_, ?_, .inl (by rw [List.length_append, List.length_singleton]; omega), ?_, by rw [List.length_append, List.length_append]; simp; omega⟩
          · rcases List.mem_append.mp ho with z | z
            · exact h1 o z
            · rw [List.mem_singleton.mp z]; exact hpp
          · rw [List.map_append, List.pairwise_append]
            refine ⟨h2, List.pairwise_singleton _ _, fun u hu v hv => ?_⟩
            obtain ⟨o, ho, rfl⟩ := List.mem_map.mp hu
            have : v = .str p := by simpa using hv
            rw [this, ovs_comm]
            exact q o ho
          · rcases h4 with z | z
            · omega
            · refine .inr fun p' hp' => ?_
              rcases List.mem_append.mp hp' with v | v
              · obtain ⟨o, ho, w⟩ := z p' v
                exact ⟨o, List.mem_append_left _ ho, w⟩
              · have : D.str p' = D.str p := by simpa using v
                cases this
                exact ⟨p, by simp, ovs_self p⟩
        · have q : ∃ o ∈ qs, ovs (.str o) (.str p) = true := by simpa using q
          exact ⟨rfl, stay (.inr q) _ _⟩
    · exact ⟨rfl, stay (.inl (by omega)) _ _⟩
  · rintro ρ s' ⟨rfl, c4, c5, qs, rfl, h1, h2, h3, h4, h5⟩
    exact hQ qs k ⟨h1, h2, h3, h4.imp_right fun h p hpp => h p (hp.mem_iff.mpr (List.mem_map_of_mem hpp))⟩ hk
def T_rows43 : DTS (Mem.hot Mem.deck) :=
  (dSeq (dHot0 2 (dOp ixD (dVar 1) (dC (D.int 0))))
      (dSeq (dFor (diSeq (dSl slD (dVar 1) (doSome (dC (D.int 1))) doNone)) (gN 3)
        (dSeq (dSet 4 (dOrV (dCm eqC (dCall (hotSp spNext) (daCons (dVar 0) (daCons (dC (D.int 2)) daNil))) (dC (D.int 0))) (dOrV (dCm eqC (dHotLen 2 (dUn negD (dC (D.int 1)))) (dC (D.int 4))) (dAndV (dCm eqC (dLenO 2) (dC (D.int 1))) (dCm eqC (dVar 3) (dOp ixD (dVar 1) (dUn negD (dC (D.int 1)))))))))
        (dIf (dAndT (dTr (dVar 4)) (dCmT ltD (dLenO 2) (dC (D.int 5)))) (dHotNew 2 (dVar 3)) (dHotApp 2 (dUn negD (dC (D.int 1))) (dVar 3)))))
      (dRet (dB tupD (daCons (dLc (diSeq (dVar 2)) (gN 5) dYes (dHotTup 5) [5]) daNil)))))
theorem read_rows43 : ∀ ds s Qd, (coldSp spRows43 : DSp (Mem.hot Mem.deck)) ds s Qd → (T_rows43 : DTS (Mem.hot Mem.deck)) (endsOf Qd) (startD ["_law_reel_here", "_law_paths", "_law_rows_here", "_law_path", "_law_again", "_law_row"] ds) s := by
  intro ds s Qd h
  obtain ⟨s, L0⟩ := s
  obtain ⟨hL0, Q0, ⟨a, b, c, ps, had, rfl, h2, h6, hn, hQ⟩, hQd⟩ := h
  obtain rfl : L0 = [] := hL0
  have zl : ∀ n, n ≤ 2000 → n ≤ sizeLine := fun n h => line_of (by omega)
  have hlim : drawLim = 1152921504606846976 := rfl
  have hn : s.n + 6 < drawLim := hn
  obtain ⟨p0, pr, rfl⟩ : ∃ p0 r, ps = p0 :: r := by
    cases ps with
    | nil => simp at h2
    | cons p r => exact ⟨p, r, rfl⟩
  rw [List.length_cons] at h2 h6
  obtain ⟨dl, last, hpr⟩ : ∃ dl last, pr = dl ++ [last] := ⟨pr.dropLast, pr.getLast (by rintro rfl; simp at h2), (List.dropLast_concat_getLast _).symm⟩
  have hat : atI ((p0 :: pr).map D.str) (-1) = some (.str last) := by
    rw [hpr, List.map_cons, List.map_append]
    exact atI_last (D.str p0 :: dl.map D.str) (D.str last)
  refine ⟨.str p0, atI_nat (j := 0) rfl, p0, rfl, fun q0 => ?_⟩
  have ect : DL.cutD ((p0 :: pr).map D.str) (some 1) none = pr.map D.str := cut_tail
  refine ⟨1, rfl, _, rfl, RInv a p0 pr s,
    ⟨s.n, [], q0, [p0], _, _, _, [], rfl, rfl, Nat.le_refl _, rfl, rfl, (by simp), (by decide), fun z => by simp at z; omega⟩, ?_, ?_⟩
  · rintro pre y post ρ s' e ⟨k, L, q, xs, c3, c4, c5, done, rfl, rfl, hk, rfl, hfl, hr, hL5, hL2⟩
    rw [ect] at e
    obtain ⟨yy, rest, epr, rfl⟩ : ∃ yy rest, pr = done ++ yy :: rest ∧ D.str yy = y := by
      obtain ⟨l1, l2, g1, g2, g3⟩ := List.map_eq_append_iff.mp e
      obtain ⟨z, l3, g4, g5, g6⟩ := List.map_eq_cons_iff.mp g3
      have : l1 = done := strs_inj g2
      exact ⟨z, l3, by rw [g1, this, g4], g5⟩
    have hdl : done.length < pr.length := by rw [epr, List.length_append, List.length_cons]; omega
    have hk : k ≤ s.n + done.length := by rw [List.length_map] at hk; exact hk
    have hfc := congrArg List.length hfl
    have hxs := hr (q, xs) (by simp)
    have hxs : 1 ≤ xs.length ∧ xs.length ≤ 4 := hxs
    have hLr := rows_len (L := L) fun r h => (hr r (List.mem_append_left _ h)).1
    rw [List.map_append, List.flatten_append, List.length_append, List.length_cons] at hfc
    have hfc : ((L.map (·.2)).flatten).length + xs.length = done.length + 1 := by simpa using hfc
    have newI : ∀ (k' : Nat) (g : Bool) (c5 : Sl) q', k' ≤ s.n + (done.length + 1) → L.length + 1 < 5 → RInv a p0 pr s (done.map D.str ++ [D.str yy]) [.sh (.any (.ref a)), .sh (.lst ((p0 :: pr).map D.str)), .ow (.lst (rowD ((L ++ [(q, xs)]) ++ [(q', [yy])]))), .sh (.str yy), .sh (.bl g), c5] (⟨s.adr, k'⟩, (L ++ [(q, xs)]) ++ [(q', [yy])]) := fun k' g c5 q' hk' hl => by
      refine ⟨k', L ++ [(q, xs)], q', [yy], _, _, _, done ++ [yy], rfl, rfl, by rw [List.length_append, List.length_map, List.length_singleton]; exact hk', by rw [List.map_append]; rfl, ?_, fun r h => ?_, by rw [List.length_append, List.length_singleton]; omega, fun _ => by rw [List.length_append, List.length_singleton]; omega⟩
      · rw [List.map_append, List.flatten_append, hfl]; rfl
      · rcases List.mem_append.mp h with z | z
        · exact hr r z
        · rw [List.mem_singleton.mp z]; exact ⟨Nat.le_refl _, by show 1 ≤ 4; decide⟩
    have appI : ∀ (k' : Nat) (g : Bool) (c5 : Sl), k' ≤ s.n + (done.length + 1) → xs.length ≤ 3 → (done.length + 1 = pr.length → 2 ≤ L.length + 1) → RInv a p0 pr s (done.map D.str ++ [D.str yy]) [.sh (.any (.ref a)), .sh (.lst ((p0 :: pr).map D.str)), .ow (.lst (rowD (L ++ [(q, xs ++ [yy])]))), .sh (.str yy), .sh (.bl g), c5] (⟨s.adr, k'⟩, L ++ [(q, xs ++ [yy])]) := fun k' g c5 hk' hl h2 => by
      refine ⟨k', L, q, xs ++ [yy], _, _, _, done ++ [yy], rfl, rfl, by rw [List.length_append, List.length_map, List.length_singleton]; exact hk', by rw [List.map_append]; rfl, ?_, fun r h => ?_, hL5, fun z => h2 (by rw [List.length_append, List.length_singleton] at z; exact z)⟩
      · rw [List.map_append, List.flatten_append] at hfl ⊢
        have hfl : (L.map (·.2)).flatten ++ xs = p0 :: done := by simpa using hfl
        have : (L.map (·.2)).flatten ++ (xs ++ [yy]) = p0 :: (done ++ [yy]) := by rw [← List.append_assoc, hfl]; rfl
        simpa using this
      · rcases List.mem_append.mp h with z | z
        · exact hr r (List.mem_append_left _ z)
        · rw [List.mem_singleton.mp z]; exact ⟨by show 1 ≤ (xs ++ [yy]).length; rw [List.length_append]; omega, by show (xs ++ [yy]).length ≤ 4; rw [List.length_append, List.length_singleton]; omega⟩
    have hlast : done.length + 1 = pr.length → yy = last := fun z => by
      have h0 : rest = [] := List.eq_nil_of_length_eq_zero (by have := congrArg List.length epr; rw [List.length_append, List.length_cons] at this; omega)
      rw [h0, hpr] at epr
      have := List.append_inj_right' epr rfl
      injection this with w _
      exact w.symm
    refine ⟨a, b, c, 2, had, rfl, by decide, by decide, (by show k < _; omega), fun r k1 r0 r1 hk1 => ?_⟩
    have hk1 : k1 = k + 1 := hk1
    have fin : ∀ (E : DEnds (Mem.hot Mem.deck)) (_ : ∀ ρ s', RInv a p0 pr s (done.map D.str ++ [D.str yy]) ρ s' → E.nx ρ s') (g : Bool), (g = false → xs.length ≠ 4 ∧ ¬ (L.length + 1 = 1 ∧ yy = last)) → T43t E [.sh (.any (.ref a)), .sh (.lst ((p0 :: pr).map D.str)), .ow (.lst (rowD (L ++ [(q, xs)]))), .sh (.str yy), .sh (.bl g), c5] (⟨s.adr, k1⟩, L ++ [(q, xs)]) := fun E hE g hg =>
      tail43 (by omega) (by omega) (fun _ hl q' => hE _ _ (newI k1 g c5 q' (by omega) hl)) fun h => hE _ _ (appI k1 g c5 (by omega) (by
        rcases h with z | z
        · have := (hg z).1; omega
        · omega) fun w => by
        rcases h with z | z
        · have := (hg z).2
          have hy := hlast w
          by_cases q1 : L.length + 1 = 1
          · exact absurd ⟨q1, hy⟩ this
          · omega
        · omega)
    refine ⟨rfl, rfl, _, rfl, ?_⟩
    refine ifB2 (fun g1 => ?_) fun g1 => ?_
    · exact fin _ (fun _ _ h => h) _ fun z => by rw [g1] at z; cases z
    refine ⟨⟨_, rfl⟩, -1, _, q, xs, rfl, rfl, rowD_last L q xs, (by simp), rfl, rfl, _, rfl, ?_⟩
    refine ifB2 (fun g2 => ?_) fun g2 => ?_
    · exact fin _ (fun _ _ h => h) _ fun z => by rw [g2] at z; cases z
    rw [eqi] at g2
    have g2 := of_decide_eq_false g2
    refine ⟨_, rfl, rfl, rfl, _, rfl, ?_⟩
    refine ifB2 (fun g3 => ?_) fun g3 => ?_
    · refine ⟨.str last, hat, rfl, rfl, ?_⟩
      refine fin _ (fun _ _ h => h) _ fun z => ⟨fun w => g2 (by rw [w]; rfl), fun w => ?_⟩
      rw [eqs, w.2, decide_eq_true rfl] at z
      cases z
    · refine fin _ (fun _ _ h => h) _ fun z => ⟨fun w => g2 (by rw [w]; rfl), fun w => ?_⟩
      rw [eqi] at g3
      refine of_decide_eq_false g3 ?_
      rw [List.length_map, List.length_append, List.length_singleton, w.1]
      rfl
  · rintro ρ s' ⟨k, L, q, xs, c3, c4, c5, done, rfl, rfl, hk, hd, hfl, hr, hL5, hL2⟩
    rw [ect] at hd hk
    obtain rfl : done = pr := strs_inj hd.symm
    generalize hLL : L ++ [(q, xs)] = LL at hfl hr
    have hlen : LL.length = L.length + 1 := by rw [← hLL, List.length_append]; rfl
    refine ⟨_, rfl, zl _ (by rw [List.length_map]; omega), fun pre acc s3 => s3 = (⟨s.adr, k⟩, LL) ∧ acc = (LL.take pre.length).map fun p => D.tup (p.2.map .str), ⟨rfl, rfl⟩, ?_, ?_⟩
    · rintro pre x post acc s3 e - ⟨rfl, rfl⟩
      have hx : (rowD LL)[pre.length]? = some x := by rw [e]; simp
      rw [List.getElem?_map] at hx
      cases hp : LL[pre.length]? with
      | none => rw [hp] at hx; cases hx
      | some p =>
        rw [hp] at hx
        obtain rfl : D.any (.ref p.1) = x := by simpa using hx
        refine ⟨rfl, p.1, p.2, rfl, List.mem_of_getElem? hp, rfl, rfl, ?_⟩
        rw [List.length_append, List.length_singleton, List.take_add_one, hp, List.map_append]
        rfl
    · rintro acc s3 - ⟨rfl, rfl⟩
      rw [List.length_map, List.take_of_length_le (Nat.le_refl _)]
      refine ⟨_, _, rfl, rfl, hQd _ _ _ ?_⟩
      have := hQ (LL.map (·.2)) k ⟨hfl, by rw [List.length_map]; have := hL2 rfl; omega, by rw [List.length_map]; omega, fun r h => ?_⟩ (by rw [List.length_map] at hk; show k ≤ s.n + 6; omega)
      · rw [List.map_map] at this
        exact this
      · obtain ⟨p, hp, rfl⟩ := List.mem_map.mp h
        exact hr p hp
def T_rule_of43_r2 : DTS Mem.deck :=
  (dSeq (dIf (dCmT eqC (dVar 1) (dC (D.str (Str.ofString "forbid")))) (dRet (dTup (daCons (dVar 1) (daCons (dB tupD (daCons (dSl slD (dVar 7) doNone (doSome (dVar 3))) daNil)) (daCons (dB tupD (daCons (dSl slD (dVar 7) (doSome (dVar 3)) doNone) daNil)) (daCons (dVar 6) daNil)))))) dNext)
      (dSeq (dIf (dCmT eqC (dVar 1) (dC (D.str (Str.ofString "layers")))) (dRet (dTup (daCons (dVar 1) (daCons (dCall spRows43 (daCons (dVar 0) (daCons (dVar 7) daNil))) (daCons (dVar 6) daNil))))) dNext)
      (dSeq (dIf (dCmT eqC (dVar 1) (dC (D.str (Str.ofString "stairs")))) (dRet (dTup (daCons (dVar 1) (daCons (dCall spRows43 (daCons (dVar 0) (daCons (dVar 7) daNil))) daNil)))) dNext)
      (dSeq (dIf (dCmT eqC (dVar 1) (dC (D.str (Str.ofString "apart")))) (dRet (dTup (daCons (dVar 1) (daCons (dB tupD (daCons (dVar 7) daNil)) (daCons (dVar 6) daNil))))) dNext)
      (dSeq (dIf (dCmT eqC (dVar 1) (dC (D.str (Str.ofString "only")))) (dRet (dTup (daCons (dVar 1) (daCons (dB tupD (daCons (dSl slD (dVar 7) doNone (doSome (dVar 3))) daNil)) (daCons (dB tupD (daCons (dSl slD (dVar 7) (doSome (dVar 3)) (doSome (dOp addD (dVar 3) (dCall spNext (daCons (dVar 0) (daCons (dC (D.int 5)) daNil)))))) daNil)) daNil))))) dNext)
      (dSeq (dIf (dCmT eqC (dVar 1) (dC (D.str (Str.ofString "noring")))) (dRet (dTup (daCons (dVar 1) (daCons (dB tupD (daCons (dVar 7) daNil)) daNil)))) dNext)
      (dSeq (dSet 4 (dCall spPick (daCons (dVar 0) (daCons (dVar 2) daNil))))
      (dSeq (dSet 5 (dLc (diSeq (dVar 2)) (gN 8) (dAndT (dCmT neC (dVar 8) (dVar 4)) (dTr (dCall spCovers (daCons (dVar 4) (daCons (dVar 8) daNil))))) (dVar 8) [8]))
      (dRet (dTup (daCons (dC (D.str (Str.ofString "face"))) (daCons (dVar 4) (daCons (dB tupD (daCons (dCall spAlone (daCons (dVar 0) (daCons (dVar 5) (daCons (dCall spNext (daCons (dVar 0) (daCons (dC (D.int 4)) daNil))) daNil)))) daNil)) daNil)))))))))))))
def T_rule_of43 : DTS Mem.deck :=
  (dSeq (dPar 6 7 (daCons (dCall spPick (daCons (dVar 0) (daCons (dLst (daCons (dC (D.str (Str.ofString "direct"))) (daCons (dC (D.str (Str.ofString "chain"))) daNil))) daNil))) (daCons (dCall spAlone (daCons (dVar 0) (daCons (dVar 2) (daCons (dOp addD (dC (D.int 2)) (dCall spNext (daCons (dVar 0) (daCons (dC (D.int 5)) daNil)))) daNil)))) daNil)))
      (dSeq (dSet 3 (dOp addD (dC (D.int 1)) (dCall spNext (daCons (dVar 0) (daCons (dOp subD (dB lenD (daCons (dVar 7) daNil)) (dC (D.int 1))) daNil)))))
      (dSeq (dIf (dCmT eqC (dVar 1) (dC (D.str (Str.ofString "forbid")))) (dRet (dTup (daCons (dVar 1) (daCons (dB tupD (daCons (dSl slD (dVar 7) doNone (doSome (dVar 3))) daNil)) (daCons (dB tupD (daCons (dSl slD (dVar 7) (doSome (dVar 3)) doNone) daNil)) (daCons (dVar 6) daNil)))))) dNext)
      (dSeq (dIf (dCmT eqC (dVar 1) (dC (D.str (Str.ofString "layers")))) (dRet (dTup (daCons (dVar 1) (daCons (dCall spRows43 (daCons (dVar 0) (daCons (dVar 7) daNil))) (daCons (dVar 6) daNil))))) dNext)
      (dSeq (dIf (dCmT eqC (dVar 1) (dC (D.str (Str.ofString "stairs")))) (dRet (dTup (daCons (dVar 1) (daCons (dCall spRows43 (daCons (dVar 0) (daCons (dVar 7) daNil))) daNil)))) dNext)
      (dSeq (dIf (dCmT eqC (dVar 1) (dC (D.str (Str.ofString "apart")))) (dRet (dTup (daCons (dVar 1) (daCons (dB tupD (daCons (dVar 7) daNil)) (daCons (dVar 6) daNil))))) dNext)
      (dSeq (dIf (dCmT eqC (dVar 1) (dC (D.str (Str.ofString "only")))) (dRet (dTup (daCons (dVar 1) (daCons (dB tupD (daCons (dSl slD (dVar 7) doNone (doSome (dVar 3))) daNil)) (daCons (dB tupD (daCons (dSl slD (dVar 7) (doSome (dVar 3)) (doSome (dOp addD (dVar 3) (dCall spNext (daCons (dVar 0) (daCons (dC (D.int 5)) daNil)))))) daNil)) daNil))))) dNext)
      (dSeq (dIf (dCmT eqC (dVar 1) (dC (D.str (Str.ofString "noring")))) (dRet (dTup (daCons (dVar 1) (daCons (dB tupD (daCons (dVar 7) daNil)) daNil)))) dNext)
      (dSeq (dSet 4 (dCall spPick (daCons (dVar 0) (daCons (dVar 2) daNil))))
      (dSeq (dSet 5 (dLc (diSeq (dVar 2)) (gN 8) (dAndT (dCmT neC (dVar 8) (dVar 4)) (dTr (dCall spCovers (daCons (dVar 4) (daCons (dVar 8) daNil))))) (dVar 8) [8]))
      (dRet (dTup (daCons (dC (D.str (Str.ofString "face"))) (daCons (dVar 4) (daCons (dB tupD (daCons (dCall spAlone (daCons (dVar 0) (daCons (dVar 5) (daCons (dCall spNext (daCons (dVar 0) (daCons (dC (D.int 4)) daNil))) daNil)))) daNil)) daNil)))))))))))))))
theorem read_rule_of43 : ∀ ds s Qd, (spRuleOf : DSp Mem.deck) ds s Qd → (T_rule_of43 : DTS Mem.deck) (endsOf Qd) (startD ["_law_reel_here", "_law_kind", "_law_spots_here", "_law_cut", "_law_head", "_law_below", "_law_how", "_law_paths", "_law_path"] ds) s := by
  intro ds s Qd h
  obtain ⟨a, b, c, kind, xs, had, rfl, hkin, S, hn, hQ⟩ := h
  have zl : ∀ n, n ≤ 2000 → n ≤ sizeLine := fun n h => line_of (by omega)
  have hlim : drawLim = 1152921504606846976 := rfl
  have hne : ∀ (d : D) (l : List D), itemsOf (.lst (d :: l)) ≠ [] := fun d l z => by cases z
  have hxl := S.l
  refine ⟨lz rfl, a, b, c, _, had, rfl, hne _ _, (by show 2 ≤ 1000; decide), (by omega), fun hw k1 hhow hk1 => ?_⟩
  have hk1 : k1 = s.n + 1 := hk1
  obtain ⟨how, hhi, rfl⟩ : ∃ h ∈ sDC, hw = .str h := by
    obtain ⟨k, h1, h2⟩ := List.mem_map.mp (show hw ∈ sDC.map D.str from hhow)
    exact ⟨k, h1, h2.symm⟩
  clear hhow
  refine ⟨a, b, c, 5, had, rfl, by decide, by decide, (by show k1 < _; omega), fun r0 k2 g0 g1 hk2 => ?_⟩
  have hk2 : k2 = k1 + 1 := hk2
  refine ⟨a, b, c, .lst (xs.map .str), xs, 2 + r0, had, rfl, rfl, (by show some _ = _; rw [List.length_map]), by omega, S.p, (by show k2 + _ < _; omega), fun qs k3 A hk3 => ?_⟩
  have hk3 : k3 = k2 + xs.length := hk3
  have P := A.nov S.p
  have h2 := S.few A (by omega)
  have h6 : qs.length ≤ 6 := by
    rcases A.u with h | h
    · omega
    · rw [h]; decide
  refine ⟨_, _, rfl, ?_⟩
  refine ⟨.lst (qs.map .str), qs.length, rfl, (by show some _ = _; rw [List.length_map]), a, b, c, ((qs.length : Nat) : Int) - 1, had, rfl, by omega, by omega, (by show k3 < _; omega), fun r1 k4 f0 f1 hk4 => ?_⟩
  have hk4 : k4 = k3 + 1 := hk4
  obtain ⟨j, hj⟩ : ∃ j : Nat, 1 + r1 = (j : Int) := ⟨(1 + r1).toNat, by omega⟩
  have j1 : 1 ≤ j := by omega
  have j2 : j < qs.length := by omega
  have hk : k4 ≤ s.n + 14 := by omega
  clear hk1 hk2 hk3 hk4 g0 g1 f0 f1
  have fin : ∀ d k, RuleOk d → k ≤ s.n + 60 → Qd d ⟨s.adr, k⟩ := hQ
  have kq : ∀ {x y : Str}, eqD (.str x) (.str y) = true → x = y := fun q => by rw [eqs] at q; exact of_decide_eq_true q
  have kn : ∀ {x y : Str}, eqD (.str x) (.str y) = false → x ≠ y := fun q => by rw [eqs] at q; exact of_decide_eq_false q
  have etake : DL.cutD (qs.map D.str) none (some (j : Int)) = (qs.take j).map D.str := take_ps (by omega)
  have edrop : DL.cutD (qs.map D.str) (some (j : Int)) none = (qs.drop j).map D.str := by rw [cut_drop, List.map_drop]
  suffices rest : T_rule_of43_r2 (endsOf Qd) [.sh (.any (.ref a)), .sh (.str kind), .sh (.lst (xs.map .str)), .sh (.int (j : Int)), .no, .no, .sh (.str how), .sh (.lst (qs.map .str)), .no] ⟨s.adr, k4⟩ by
    rw [← hj] at rest
    exact rest
  refine ⟨rfl, rfl, ifB2 (fun q => ?_) fun q1 => ?_⟩
  · cases kq q
    refine ⟨_, rfl, _, _, rfl, rfl, _, rfl, _, _, rfl, rfl, lz rfl, ?_⟩
    show Qd (.tup [.str (Str.ofString "forbid"), .tup (DL.cutD (qs.map D.str) none (some (j : Int))), .tup (DL.cutD (qs.map D.str) (some (j : Int)) none), .str how]) _
    rw [etake, edrop]
    exact fin _ _ (rl_forbid (by rw [List.take_append_drop]; exact P) (by rw [List.length_take]; omega) (by rw [List.length_take]; omega) (by rw [List.length_drop]; omega) (by rw [List.length_drop]; omega) hhi) (by omega)
  refine ⟨rfl, rfl, ifB2 (fun q => ?_) fun q2 => ?_⟩
  · cases kq q
    refine ⟨a, b, c, qs, had, rfl, h2, h6, (by show k4 + 6 < _; omega), fun rs k5 R hk5 => ?_⟩
    have hk5 : k5 ≤ k4 + 6 := hk5
    exact ⟨lz rfl, fin _ _ (rl_rows (names := [sRows, sHow]) (by rw [R.j]; exact P) R.a R.b R.r (.inr ⟨rfl, rfl, how, hhi, rfl⟩)) (by omega)⟩
  refine ⟨rfl, rfl, ifB2 (fun q => ?_) fun q3 => ?_⟩
  · cases kq q
    refine ⟨a, b, c, qs, had, rfl, h2, h6, (by show k4 + 6 < _; omega), fun rs k5 R hk5 => ?_⟩
    have hk5 : k5 ≤ k4 + 6 := hk5
    exact ⟨lz rfl, fin _ _ (rl_rows (names := [sRows]) (by rw [R.j]; exact P) R.a R.b R.r (.inl ⟨rfl, rfl, rfl⟩)) (by omega)⟩
  refine ⟨rfl, rfl, ifB2 (fun q => ?_) fun q4 => ?_⟩
  · cases kq q
    exact ⟨_, _, rfl, rfl, lz rfl, fin _ _ (rl_apart P h2 h6 hhi) (by omega)⟩
  refine ⟨rfl, rfl, ifB2 (fun q => ?_) fun q5 => ?_⟩
  · cases kq q
    refine ⟨_, rfl, _, _, rfl, rfl, _, rfl, a, b, c, 5, had, rfl, by decide, by decide, (by show k4 < _; omega), fun r5 k5 u0 u1 hk5 => ?_⟩
    have hk5 : k5 = k4 + 1 := hk5
    refine ⟨_, rfl, _, _, rfl, rfl, lz rfl, ?_⟩
    obtain ⟨u, rfl⟩ : ∃ u : Nat, r5 = (u : Int) := ⟨r5.toNat, by omega⟩
    show Qd (.tup [.str (Str.ofString "only"), .tup (DL.cutD (qs.map D.str) none (some (j : Int))), .tup (DL.cutD (qs.map D.str) (some (j : Int)) (some ((j : Int) + (u : Int))))]) _
    rw [etake, show (j : Int) + (u : Int) = ((j + u : Nat) : Int) by omega, cut_any (by omega) (by omega), Nat.add_sub_cancel_left]
    refine fin _ _ (rl_only (P.sub ?_) (by rw [List.length_take]; omega) (by rw [List.length_take]; omega) (by rw [List.length_take, List.length_drop]; omega)) (by omega)
    have := (List.Sublist.refl (qs.take j)).append (List.take_sublist u (qs.drop j))
    rw [List.take_append_drop] at this
    exact this
  refine ⟨rfl, rfl, ifB2 (fun q => ?_) fun q6 => ?_⟩
  · cases kq q
    exact ⟨_, _, rfl, rfl, lz rfl, fin _ _ (rl_noring (how := how) P h2 h6) (by omega)⟩
  have hxn : itemsOf (.lst (xs.map D.str)) ≠ [] := fun z => by
    have z : xs.map D.str = [] := z
    rw [List.map_eq_nil_iff] at z
    obtain ⟨x, y, hx, _⟩ := S.two
    rw [z] at hx; cases hx
  refine ⟨a, b, c, _, had, rfl, hxn, (by show (xs.map D.str).length ≤ 1000; rw [List.length_map]; omega), (by show k4 < _; omega), fun d k5 hd hk5 => ?_⟩
  have hk5 : k5 = k4 + 1 := hk5
  obtain ⟨hh, hhm, rfl⟩ : ∃ o ∈ xs, D.str o = d := List.mem_map.mp hd
  have hrh := S.p hh hhm
  simp only [List.set_cons_zero, List.set_cons_succ]
  refine ⟨_, rfl, zl _ (by rw [List.length_map]; omega), fun pre acc s' => s' = ⟨s.adr, k5⟩ ∧ acc = pre.filter (fun d => !eqD d (.str hh) && cov (.str hh) d), ⟨rfl, rfl⟩, ?_, ?_⟩
  · rintro pre x post acc s' e - ⟨rfl, rfl⟩
    obtain ⟨o, ho, rfl⟩ : ∃ o ∈ xs, D.str o = x := List.mem_map.mp (show x ∈ xs.map D.str by rw [e]; simp)
    have ha := lst_app (fun d => !eqD d (.str hh) && cov (.str hh) d) pre (.str o)
    refine ⟨rfl, rfl, ifB2 (fun q => ?_) fun q => ?_⟩
    · refine ⟨hh, o, rfl, rp_len hrh, _, rfl, rfl, ifB2 (fun q2 => ?_) fun q2 => ?_⟩
      · rw [show (!eqD (.str o) (.str hh) && cov (.str hh) (.str o)) = true by rw [q, Bool.true_and]; exact q2] at ha
        exact ⟨rfl, rfl, ha⟩
      · rw [show (!eqD (.str o) (.str hh) && cov (.str hh) (.str o)) = false by rw [q, Bool.true_and]; exact q2] at ha
        exact ⟨rfl, ha⟩
    · rw [show (!eqD (.str o) (.str hh) && cov (.str hh) (.str o)) = false by rw [q, Bool.false_and]] at ha
      exact ⟨rfl, rfl, ha⟩
  · rintro acc s' - ⟨rfl, rfl⟩
    have eb : (xs.map D.str).filter (fun d => !eqD d (.str hh) && cov (.str hh) d) = (xs.filter (fun x => !eqD (.str x) (.str hh) && coversS hh x)).map D.str := by rw [List.filter_map]; rfl
    rw [eb]
    obtain ⟨bs, hbs⟩ : ∃ bs, bs = xs.filter (fun x => !eqD (.str x) (.str hh) && coversS hh x) := ⟨_, rfl⟩
    rw [← hbs]
    have hb : ∀ q ∈ bs, q ∈ xs ∧ coversS hh q = true ∧ q ≠ hh := fun q hq => by
      rw [hbs, List.mem_filter, Bool.and_eq_true] at hq
      refine ⟨hq.1, hq.2.2, fun z => ?_⟩
      have := hq.2.1
      rw [eqs, z, decide_eq_true rfl] at this
      cases this
    have hbl : bs.length ≤ 10 := by rw [hbs]; exact Nat.le_trans (List.length_filter_le _ _) hxl
    refine ⟨a, b, c, 4, had, rfl, by decide, by decide, (by show k5 < _; omega), fun r6 k6 v0 v1 hk6 => ?_⟩
    have hk6 : k6 = k5 + 1 := hk6
    refine ⟨a, b, c, .lst (bs.map .str), bs, r6, had, rfl, rfl, (by show some _ = _; rw [List.length_map]), by omega, fun q hq => S.p q (hb q hq).1, (by show k6 + _ < _; omega), fun ts k7 A2 hk7 => ?_⟩
    have hk7 : k7 = k6 + bs.length := hk7
    refine ⟨_, _, rfl, rfl, lz rfl, fin _ _ (rl_face (A2.nov fun q hq => S.p q (hb q hq).1) hrh (fun q hq => (hb q (A2.i q hq)).2) ?_) (by omega)⟩
    rcases A2.u with h | h
    · omega
    · rw [h]; decide
def T_rule43 : DTS Mem.deck :=
  (dSeq (dSet 2 (dLst (daCons (dC (D.str (Str.ofString "forbid"))) (daCons (dC (D.str (Str.ofString "layers"))) (daCons (dC (D.str (Str.ofString "stairs"))) (daCons (dC (D.str (Str.ofString "apart"))) (daCons (dC (D.str (Str.ofString "only"))) (daCons (dC (D.str (Str.ofString "face"))) (daCons (dC (D.str (Str.ofString "noring"))) daNil)))))))))
      (dRet (dCall spRuleOf (daCons (dVar 0) (daCons (dCall spPick (daCons (dVar 0) (daCons (dVar 2) daNil))) (daCons (dVar 1) daNil))))))
theorem read_rule43 : ∀ ds s Qd, (spRule43 : DSp Mem.deck) ds s Qd → (T_rule43 : DTS Mem.deck) (endsOf Qd) (startD ["_law_reel_here", "_law_spots_here", "_law_kinds"] ds) s := by
  intro ds s Qd h
  obtain ⟨a, b, c, xs, had, rfl, S, hn, hQ⟩ := h
  have hne : ∀ (d : D) (l : List D), itemsOf (.lst (d :: l)) ≠ [] := fun d l z => by cases z
  refine ⟨lz rfl, a, b, c, _, had, rfl, hne _ _, (by show 7 ≤ 1000; decide), (by omega), fun kd k1 hkd hk1 => ?_⟩
  have hk1 : k1 = s.n + 1 := hk1
  obtain ⟨kind, hkin, rfl⟩ : ∃ k ∈ kinds, D.str k = kd := List.mem_map.mp (show kd ∈ kinds.map D.str from hkd)
  exact ⟨a, b, c, kind, xs, had, rfl, hkin, S, (by show k1 + _ < _; omega), fun d k R hk => hQ d k R (by have hk : k ≤ k1 + 60 := hk; omega)⟩
def T_some43 : DTS Mem.deck :=
  (dSeq (dSetL 3 daNil)
      (dSeq (dFor (diR1 (daCons (dCall spPick (daCons (dVar 0) (daCons (dLst (daCons (dVar 2) (daCons (dCall spNext (daCons (dVar 0) (daCons (dOp addD (dVar 2) (dC (D.int 1))) daNil))) daNil))) daNil))) daNil)) (gN 4)
        (dSeq (dSet 5 (dCall spRule43 (daCons (dVar 0) (daCons (dVar 1) daNil))))
        (dIf (dBackT (dCmT notInD (dVar 5) (dVar 3))) (dApp 3 (dVar 5)) dNext)))
      (dRet (dB tupD (daCons (dVar 3) daNil)))))
theorem read_some43 : ∀ ds s Qd, (spSome : DSp Mem.deck) ds s Qd → (T_some43 : DTS Mem.deck) (endsOf Qd) (startD ["_law_reel_here", "_law_spots_here", "_law_limit", "_law_found", "_law_turn", "_law_rule_here"] ds) s := by
  intro ds s Qd h
  obtain ⟨a, b, c, xs, had, rfl, S, hn, hQ⟩ := h
  have zl : ∀ n, n ≤ 2000 → n ≤ sizeLine := fun n h => line_of (by omega)
  have hlim : drawLim = 1152921504606846976 := rfl
  have hne : ∀ (d : D) (l : List D), itemsOf (.lst (d :: l)) ≠ [] := fun d l z => by cases z
  refine ⟨zl _ (Nat.le_of_ble_eq_true rfl), ?_⟩
  refine ⟨a, b, c, 9, had, rfl, by decide, by decide, (by omega), fun r0 k1 g0 g1 hk1 => ?_⟩
  have hk1 : k1 = s.n + 1 := hk1
  refine ⟨zl _ (Nat.le_of_ble_eq_true rfl), a, b, c, _, had, rfl, hne _ _, Nat.le_of_ble_eq_true rfl, (by show k1 < _; omega), fun m k2 hm hk2 => ?_⟩
  have hk2 : k2 = k1 + 1 := hk2
  obtain ⟨w, w8, rfl⟩ : ∃ w : Nat, w ≤ 8 ∧ m = .int (w : Int) := by
    rcases List.mem_cons.mp hm with z | z
    · exact ⟨8, by decide, z⟩
    · exact ⟨r0.toNat, by omega, by rw [List.mem_singleton.mp z]; congr 1; omega⟩
  clear hm
  refine ⟨(w : Int), rfl, by omega, by omega, fun pre ρ s' => s'.adr = s.adr ∧ s'.n ≤ k2 + 61 * pre.length ∧ ∃ c4 c5 rs, ρ = [.sh (.any (.ref a)), .sh (.lst (xs.map .str)), .sh (.int 8), .ow (.lst rs), c4, c5] ∧ (∀ r ∈ rs, RuleOk r) ∧ rs.length ≤ pre.length ∧ rs.Pairwise (fun x y => eqD x y = false),
    ⟨rfl, Nat.le_refl _, _, _, [], rfl, (fun _ h => nomatch h), Nat.le_refl _, .nil⟩, ?_, ?_⟩
  · rintro pre y post ρ s' e ⟨e1, e2, c4, c5, rs, rfl, h1, h2, h3⟩
    obtain ⟨hp, rfl⟩ := rng_pre e
    have hp : pre.length < 8 := by omega
    refine ⟨a, b, c, xs, e1.trans had, rfl, S, (by omega), fun d k R hk => ?_⟩
    have hk : k ≤ s'.n + 61 := hk
    obtain ⟨x, r, rfl⟩ := R.e
    refine ⟨rule_plain R, plains_of fun y hy => rule_plain (h1 y hy), ifB2 (fun g => ?_) fun g => ?_⟩
    · have g : ∀ y ∈ rs, eqD y (.tup (.str x :: r)) = false := by simpa using g
      refine ⟨⟨_, rfl⟩, _, rfl, Nat.lt_of_lt_of_le (by omega) (zl 200 (by decide)), e1, (by show k ≤ _; rw [List.length_append, List.length_singleton]; omega), _, _, rs ++ [.tup (.str x :: r)], rfl, fun r hr => ?_, by rw [List.length_append, List.length_append]; simp; omega, ?_⟩
      · rcases List.mem_append.mp hr with z | z
        · exact h1 r z
        · rw [List.mem_singleton.mp z]; exact R
      · rw [List.pairwise_append]
        refine ⟨h3, List.pairwise_singleton _ _, fun u hu v hv => ?_⟩
        rw [List.mem_singleton.mp hv]
        exact g u hu
    · exact ⟨e1, (by show k ≤ _; rw [List.length_append, List.length_singleton]; omega), _, _, rs, rfl, h1, by rw [List.length_append]; omega, h3⟩
  · rintro ρ s' ⟨e1, e2, c4, c5, rs, rfl, h1, h2, h3⟩
    rw [rngD_length] at e2 h2
    refine ⟨_, _, rfl, rfl, ?_⟩
    have := hQ rs s'.n h1 (by omega) h3 (by omega)
    rw [← e1] at this
    exact this
end R43

set_option Elab.async false
set_option linter.all false
set_option maxRecDepth 100000
/-! PS: sets whose items are tuples of texts: what `in` and `add` do (how the table lies is the library's, by the hashes alone) -/
namespace PS
open PySem PySem.Spec PyProof.Rows L2
section
variable {P : Program} {w : World} {A : Around} {E : Value → Shared → Prop} {s : Shared}
/-- at b stands a tuple of just these texts -/
abbrev Tt (P : Program) (w : World) (h : Heap) (xs : List Str) (b : Addr) : Prop := IsTupleKey (strKind P w) h xs b
def hT (w : World) (xs : List Str) : Int := reduceHash (Builtin.Tuple.tupleHashOf (xs.map (hashStr w)))
theorem texts_in : ∀ {xs : List Str} {vs : List Value}, ItemsAre (strKind P w) xs vs → ∀ v ∈ vs, ∃ y t, v = Value.str y t
  | _, _, .nil, v, hv => absurd hv List.not_mem_nil
  | _, _, .cons h1 h2, v, hv => by
    rcases List.mem_cons.mp hv with rfl | hv
    · obtain ⟨t, e⟩ := Value.isStrOf_shape h1
      exact ⟨_, t, e⟩
    · exact texts_in h2 v hv
theorem ownClass_no {xs : List Str} {b : Addr} {Q : Bool → Shared → Prop} (hb : Tt P w s.heap xs b) (q : Q false s) : wpAny (model P w) A (ofAClassStatement 8 (.ref b)) Q E s := by
  have isT := hb.typeIs
  obtain ⟨o, its, n, ho, _, hd, hi⟩ := hb
  unfold ofAClassStatement
  refine wpAny_bind (wpAny_typeOf isT ?_)
  simp only [show (("tuple" : String) == "tuple") = true by decide, if_true]
  refine wpAny_bind (wpAny_pure ?_)
  simp only [Bool.not_true, Bool.false_eq_true, if_false]
  show wpAny _ _ (seqItems? (.ref b) >>= _) _ _ s
  refine wpAny_bind (wpAny_seqItems ho hd ?_)
  dsimp only
  refine wpAny_bind ?_
  show wpAny _ _ (forIn its _ _) _ _ s
  rw [← Array.forIn_toList]
  refine wpAny_forIn_list _ (fun left r s' => (∀ v ∈ left, ∃ y t, v = Value.str y t) ∧ r.1 = none ∧ s' = s) _ (fun v left r s' z => ?_) (fun r s' z => ?_) _ _ ⟨texts_in hi, rfl, rfl⟩
  · obtain ⟨all, h1, h2⟩ := z
    obtain ⟨y, t, rfl⟩ := all v List.mem_cons_self
    rw [show ofAClassStatement 7 (Value.str y t) = pure false from rfl]
    refine wpAny_bind (wpAny_pure ?_)
    simp only [Bool.false_eq_true, if_false]
    exact wpAny_pure ⟨fun u hu => all u (List.mem_cons_of_mem _ hu), rfl, h2⟩
  · obtain ⟨r1, r2⟩ := r
    obtain ⟨_, h1, rfl⟩ := z
    cases h1
    exact wpAny_pure q
/-- a search that meets tuples of texts alone is not seen -/
theorem unseen {xs : List Str} {b : Addr} {Q : Bool → Shared → Prop} {ys : List Value} (hb : Tt P w s.heap xs b) (hy : ∀ y ∈ ys, ∃ zs c, y = Value.ref c ∧ Tt P w s.heap zs c) (q : Q false s) :
    wpAny (model P w) A (searchCouldBeSeen (.ref b) ys) Q E s := by
  unfold searchCouldBeSeen
  refine wpAny_bind (wpAny_forIn_list _ (fun left r s' => (∀ y ∈ left, ∃ zs c, y = Value.ref c ∧ Tt P w s'.heap zs c) ∧ Tt P w s'.heap xs b ∧ r.1 = none ∧ s' = s) _ (fun v left r s' z => ?_) (fun r s' z => ?_) _ _ ⟨hy, hb, rfl, rfl⟩)
  · obtain ⟨all, hb', h1, h2⟩ := z
    obtain ⟨zs, c, rfl, hc⟩ := all v List.mem_cons_self
    have keep : (∀ y ∈ left, ∃ zs c, y = Value.ref c ∧ Tt P w s'.heap zs c) ∧ Tt P w s'.heap xs b ∧ r.1 = none ∧ s' = s := ⟨fun u hu => all u (List.mem_cons_of_mem _ hu), hb', h1, h2⟩
    dsimp only
    cases q0 : (b == c || (carriedByValue (.ref b) && carriedByValue (.ref c))) with
    | true => exact wp_if_pos rfl (wpAny_pure ⟨keep.1, keep.2.1, rfl, keep.2.2.2⟩)
    | false =>
      refine wp_if_neg (by decide) ?_
      refine wpAny_bind (wpAny_eqIsQuiet_tuple hb' ?_)
      refine wp_if_neg (by decide) (wpAny_bind (wpAny_eqIsQuiet_tuple hc ?_))
      refine wp_if_neg (by decide) (wpAny_bind (ownClass_no hb' ?_))
      refine wp_if_neg (by decide) (wpAny_bind (ownClass_no hc ?_))
      exact wp_if_neg (by decide) (wpAny_pure ⟨keep.1, keep.2.1, rfl, keep.2.2.2⟩)
  · obtain ⟨r1, r2⟩ := r
    obtain ⟨_, _, h1, rfl⟩ := z
    cases h1
    exact wpAny_pure q
/-! ### the set -/
def rows (w : World) (L : List (Addr × List Str)) : List (Int × Value) := L.map fun q => (hT w q.2, Value.ref q.1)
/-- at a stands the set with the tuples L, in the order in which they lie there -/
structure At (w : World) (h : Heap) (a : Addr) (L : List (Addr × List Str)) (es : Array (Int × Value)) (ep : Nat) (t : SetTable) : Prop where
  obj : ∃ o, h.get? a = some o ∧ o.ExactSet ∧ o.data = .set es ep t
  lies : es.toList = rows w L
  tab : TabOk t (L.map fun q => hT w q.2)
  once : (L.map (·.2)).Nodup
  room : L.length * 5 < t.mask * 3
variable {a : Addr} {L : List (Addr × List Str)} {es : Array (Int × Value)} {ep : Nat} {t : SetTable}
theorem rows_len {l : List (Int × Value)} (h : l = rows w L) : l.length = L.length := by rw [h]; exact List.length_map ..
theorem At.many (T : At w s.heap a L es ep t) : es.size = L.length := (Array.length_toList).symm.trans (rows_len T.lies)
theorem fits_by {n : Nat} (h1 : t.place.size = n) (h2 : t.dummies = #[]) (h3 : n ≤ t.mask) : t.fits n = true := by
  unfold SetTable.fits SetTable.fill
  rw [h2, h1, Bool.and_eq_true]
  exact ⟨beq_self_eq_true _, decide_eq_true (by show n + 0 ≤ t.mask; omega)⟩
theorem At.fit (T : At w s.heap a L es ep t) : t.fits es.size = true := by
  have h1 := T.tab.sz
  rw [List.length_map] at h1
  have h2 := T.room
  rw [T.many]
  exact fits_by h1 T.tab.dm (by omega)
theorem At.row (T : At w s.heap a L es ep t) {i : Nat} {q : Addr × List Str} (h : L[i]? = some q) : es[i]? = some (hT w q.2, Value.ref q.1) := by
  have e : (rows w L)[i]? = some (hT w q.2, Value.ref q.1) := by
    unfold rows
    rw [List.getElem?_map, h]; rfl
  rw [← T.lies, Array.getElem?_toList] at e
  exact e
abbrev prb (t : SetTable) (h : Int) (c : Nat) : SetTable.Probe := nth t.mask (runAt t.mask (SetTable.bits h % (t.mask + 1)) (SetTable.bits h)) c
theorem prb_dummy (m : Nat) : ∀ (n : Nat) (p : SetTable.Probe), p.dummy = none → (nth m p n).dummy = none
  | 0, _, h => h
  | n + 1, p, h => prb_dummy m n (adv m p) (by
      unfold adv
      split <;> exact h)
/-- the search, from its c-th step on -/
theorem look (add : Bool) (T : At w s.heap a L es ep t) (hL : ∀ q ∈ L, Tt P w s.heap q.2 q.1) {x : Addr} {xs : List Str} (hx : Tt P w s.heap xs x) (hu : A.units < cLine) {K : Nat} (hK1 : K < 10 * SetTable.turns t.mask)
    (hK2 : way t.mask (hT w xs) K ∉ t.place.toList) (hK3 : ∀ c, c < K → way t.mask (hT w xs) c ∈ t.place.toList) {Q : SetFound → Shared → Prop}
    (yes : ∀ i, xs ∈ L.map (·.2) → Q (.there (if add then none else some i)) s) (no : xs ∉ L.map (·.2) → Q (.free (way t.mask (hT w xs) K) false) s) :
    ∀ (f c : Nat) (st : Option SetTable.Probe), st.getD (t.probeStart (hT w xs)) = prb t (hT w xs) c → c ≤ K → K < f + c →
      (∀ (i : Nat) q, L[i]? = some q → q.2 = xs → ∃ c', c ≤ c' ∧ c' < K ∧ t.place.toList[i]? = some (way t.mask (hT w xs) c')) →
      wpAny (model P w) A (setSearchFrom a (.ref x) (hT w xs) add f st) Q E s := by
  intro f
  induction f with
  | zero => intro c st _ h1 h2 _; omega
  | succ f ih =>
    intro c st hst hcK hf ahead
    obtain ⟨o, ho, hex, hd⟩ := T.obj
    rw [setSearchFrom_succ]
    refine wpAny_bind (wpAny_setState_of ho hd T.fit (wp_if_neg ?_ ?_))
    · unfold SetTable.gaveWay
      rw [mask_odd T.tab.mok]; decide
    have step : ∀ k, nth t.mask (prb t (hT w xs) c) k = prb t (hT w xs) (c + k) := fun k => (nth_add t.mask c _ k).symm
    have stepj : ∀ k, (nth t.mask (prb t (hT w xs) c) k).j = way t.mask (hT w xs) (c + k) := fun k => congrArg SetTable.Probe.j (step k)
    have atRow : ∀ (i : Nat) q, L[i]? = some q → (es[i]?.map (·.1)).getD 0 = hT w q.2 := fun i q hq => by rw [T.row hq]; rfl
    rcases go_spec t T.tab.ris T.tab.dm (fun i => (es[i]?.map (·.1)).getD 0) (hT w xs) (10 * SetTable.turns t.mask) (K - c) (prb t (hT w xs) c) (prb_dummy _ _ _ rfl) (by omega)
      (fun k hk => by rw [stepj]; exact hK3 _ (by omega)) (by rw [stepj, show c + (K - c) = K by omega]; exact hK2) with ⟨k, i, hk, hi, hh, hbefore, hgo⟩ | ⟨hnone, hgo⟩
    · have found : t.probe (fun i => (es[i]?.map (·.1)).getD 0) (hT w xs) (st.getD (t.probeStart (hT w xs))) = some (.candidate (way t.mask (hT w xs) (c + k)) i (prb t (hT w xs) (c + (k + 1)))) := by
        rw [hst, ← stepj, ← step]; exact hgo
      rw [found]
      rw [stepj] at hi
      have iL : i < L.length := by
        have h1 := (List.getElem?_eq_some_iff.mp hi).1
        have h2 := T.tab.sz
        rw [List.length_map] at h2
        rw [Array.length_toList, h2] at h1; exact h1
      obtain ⟨q, hq⟩ : ∃ q, L[i]? = some q := ⟨_, List.getElem?_eq_getElem iL⟩
      have qL : q ∈ L := List.mem_of_getElem? hq
      have hsl : t.slot (way t.mask (hT w xs) (c + k)) = .live i := slot_live T.tab.ris hi
      have behind : wpAny (model P w) A (searchRest a (.ref x) (hT w xs) add f es t (way t.mask (hT w xs) (c + k)) i (prb t (hT w xs) (c + (k + 1)))) Q E s := by
        unfold searchRest
        rw [T.row hq]
        refine wpAny_bind (wpAny_holding (wpAny_eqBool_tuple hu (hL q qL) hx (wpAny_bind (wpAny_setState_of ho hd T.fit ?_))))
        by_cases same : q.2 = xs
        · have mem : xs ∈ L.map (·.2) := List.mem_map.mpr ⟨q, qL, same⟩
          rw [decide_eq_true same]
          cases add with
          | true => exact wp_if_pos rfl (wpAny_pure (yes i mem))
          | false =>
            refine wp_if_neg (by decide) ?_
            rw [sameMem]
            dsimp only
            simp only [if_true, hsl, T.row hq]
            exact wpAny_bind (wpAny_isSame_ref_self (wpAny_bind (wpAny_pure (wpAny_pure (yes i mem)))))
        · rw [decide_eq_false same]
          refine wp_if_neg (by cases add <;> decide) ?_
          rw [sameMem]
          dsimp only
          simp only [if_true, hsl, T.row hq]
          refine wpAny_bind (wpAny_isSame_ref_self (wpAny_bind (wpAny_pure (wp_if_neg (by decide) ?_))))
          refine ih (c + (k + 1)) _ rfl (by omega) (by omega) fun i0 q0 h0 e0 => ?_
          obtain ⟨c', h1, h2, h3⟩ := ahead i0 q0 h0 e0
          refine ⟨c', ?_, h2, h3⟩
          have n1 : ¬ c' < c + k := fun z => hbefore (c' - c) i0 (by omega) (by rw [stepj, show c + (c' - c) = c' by omega]; exact h3) ((atRow i0 q0 h0).trans (by rw [e0]))
          have n2 : c' ≠ c + k := fun z => by
            rw [z] at h3
            have s2 := slot_live T.tab.ris h3
            rw [hsl] at s2
            injection s2 with s2
            rw [← s2, hq] at h0
            exact same (by rw [Option.some.inj h0]; exact e0)
          omega
      by_cases led : t.led = true
      · exact wp_if_neg (by rw [led]; decide) behind
      · refine wp_if_pos (by rw [eq_false_of_ne_true led]; decide) (wpAny_bind (unseen hx (fun y hy => ?_) (wp_if_neg (by decide) behind)))
        obtain ⟨r, hr, rfl⟩ := List.mem_map.mp hy
        have hr' : r ∈ es.toList := by
          have z : r ∈ es ∧ r.1 = hT w xs := by simpa using hr
          simpa using z.1
        rw [T.lies] at hr'
        obtain ⟨q', hq', rfl⟩ := List.mem_map.mp hr'
        exact ⟨q'.2, q'.1, rfl, hL q' hq'⟩
    · have found : t.probe (fun i => (es[i]?.map (·.1)).getD 0) (hT w xs) (st.getD (t.probeStart (hT w xs))) = some (.empty (way t.mask (hT w xs) K) none) := by
        have e : way t.mask (hT w xs) K = (nth t.mask (prb t (hT w xs) c) (K - c)).j := by rw [stepj, show c + (K - c) = K by omega]
        rw [hst, e]; exact hgo
      rw [found]
      refine wpAny_pure (no fun mem => ?_)
      obtain ⟨q, qL, e⟩ := List.mem_map.mp mem
      obtain ⟨i, hi, e2⟩ := List.getElem_of_mem qL
      have hq : L[i]? = some q := by rw [List.getElem?_eq_getElem hi, e2]
      obtain ⟨c', h1, h2, h3⟩ := ahead i q hq e
      exact hnone (c' - c) i (by omega) (by rw [stepj, show c + (c' - c) = c' by omega]; exact h3) ((atRow i q hq).trans (by rw [e]))
end
end PS

set_option Elab.async false
set_option linter.all false
set_option maxRecDepth 100000
/-! TX: sets of texts that can be walked; the orders of texts and of pairs of texts -/
namespace TX
open PySem PySem.Spec PyProof.Rows L2 PySem.Froz
/-- at a stands a set with just the texts xs -/
def Tset (w : World) (h : Heap) (a : Addr) (xs : List Str) : Prop :=
  ∃ D : SD, h.get? a = some (sObj "set" D) ∧ (∀ P, TxOk P w D xs) ∧ xs.Nodup ∧ Ris D.2.2.place.toList ∧ (w.params.followText "set-order" = true ∨ D.2.2.led = true)
theorem Tset.keep {w : World} {h h' : Heap} {a : Addr} {xs : List Str} (R : Tset w h a xs) (k : ∀ o, h.get? a = some o → h'.get? a = some o) : Tset w h' a xs := by
  obtain ⟨D, e, r⟩ := R
  exact ⟨D, k _ e, r⟩
section
variable {P : Program} {w : World} {A : Around} {E : Value → Shared → Prop} {s : Shared} {a : Addr} {xs : List Str}
end
end TX

set_option Elab.async false
set_option linter.all false
set_option maxRecDepth 100000
/-! TO: the orders of texts and of pairs of texts, what sorting by them gives -/
namespace TO
open PySem PySem.Spec PyProof.Rows L2
/-! ### total orders -/
structure Lin {α : Type} (lt : α → α → Bool) : Prop where
  irr : ∀ x, lt x x = false
  tr : ∀ x y z, lt x y = true → lt y z = true → lt x z = true
  tri : ∀ x y, lt x y = false → lt y x = false → x = y
section
variable {α : Type} {lt : α → α → Bool}
theorem Lin.asym (L : Lin lt) {x y : α} (h : lt x y = true) : lt y x = false := by
  cases q : lt y x with
  | false => rfl
  | true => rw [← L.irr x, L.tr x y x h q]
end
/-! ### texts, pairs of texts -/
def lessS (a b : Str) : Bool := decide (a.cps.toList < b.cps.toList)
theorem linS : Lin lessS := by
  refine ⟨fun x => ?_, fun x y z h1 h2 => ?_, fun x y h1 h2 => ?_⟩
  · exact decide_eq_false (List.lt_irrefl _)
  · exact decide_eq_true (List.lt_trans (of_decide_eq_true h1) (of_decide_eq_true h2))
  · have e := List.le_antisymm (List.not_lt.mp (of_decide_eq_false h2)) (List.not_lt.mp (of_decide_eq_false h1))
    cases x; cases y
    exact congrArg Str.mk (Array.toList_inj.mp e)
section
variable {P : Program} {w : World} {A : Around} {E : Value → Shared → Prop} {s : Shared}
/-- v is the tuple of two texts -/
def Pr (h : Heap) (v : Value) (p : Str × Str) : Prop := ∃ a o t u n, v = .ref a ∧ h.get? a = some o ∧ o.cls = .type "tuple" ∧ o.data = .seq #[.str p.1 t, .str p.2 u] n
theorem Pr.keep {h h' : Heap} {v : Value} {p : Str × Str} (q : Pr h v p) (k : ∀ b o, h.get? b = some o → o.cls = .type "tuple" → h'.get? b = some o) : Pr h' v p := by
  obtain ⟨a, o, t, u, n, e1, e2, e3, e4⟩ := q
  exact ⟨a, o, t, u, n, e1, k _ _ e2 e3, e3, e4⟩
end
end TO

set_option Elab.async false
set_option linter.all false
set_option maxRecDepth 100000
/-! EL14: a def's own sets of texts and of tuples of texts; sorted(..) of texts and of pairs of texts -/
namespace DL
open PySem PySem.Spec PyProof.Rows L2 TL TX TO
/-! ### the sets as tracked things -/
section
variable {X : Cx} {pins : List (Addr × Obj)} {σ : L2.St} {H : Hp} {s : Shared} {a : Addr} {xs : List Str} {L : List (Addr × List Str)}
/-! ### set() -/
/-! ### x.add(e) -/
/-! ### e in x, e not in x, x a set of tuples of texts -/
/-! ### sorted(x), x a set of texts -/
end
end DL

set_option Elab.async false
set_option linter.all false
set_option maxRecDepth 100000
set_option maxHeartbeats 3200000
/-! SF: set(xs) of a list or a tuple, by what stands behind each item -/
namespace SF
open PySem PySem.Spec PyProof.Rows L2
/-- a new set -/
abbrev ns0 (w : World) : Obj := { cls := .type "set", dict := none, data := .set #[] 0 (.fresh 0 0 (!w.params.followText "set-order")) }
section
variable {P : Program} {w : World} {A : Around} {E : Value → Shared → Prop}
/-- what is asked of the states behind each item: S the set's place, h0 the heap ahead of all -/
structure Grows (P : Program) (w : World) (A : Around) (E : Value → Shared → Prop) (h0 : Heap) (S : Addr) (items : Array Value) (R : Nat → Heap → Prop) : Prop where
  keep : ∀ i h h', R i h → (∀ o, h.get? S = some o → h'.get? S = some o) → R i h'
  step : ∀ (i : Nat) (v : Value) (s' : Shared) (Q : Bool → Shared → Prop), items[i]? = some v → (∀ b o, h0.get? b = some o → s'.heap.get? b = some o) → R i s'.heap →
    (∀ b h' tk, Heap.SameBut S s'.heap h' → s'.toks ≤ tk → R (i + 1) h' → Q b { s' with heap := h', toks := tk }) → wpAny (model P w) A (setAdd S v) Q E s'
variable {h0 : Heap} {S I : Addr} {items : Array Value} {R : Nat → Heap → Prop} {fp wr : List Addr} {G : Array GenState → Array GenState → Prop} {St : Nat → Shared → Prop} {Z : Result → Shared → Prop}
theorem loop_by (W : WalksS P w A.in1 I fp wr G items.size (fun i v => items[i]? = some v) St) (g : Grows P w A.in1 (fun _ _ => False) h0 S items R) (out : S ∉ fp) (low : ∀ b o, h0.get? b = some o → b ≠ S ∧ b ∉ wr) (fine : ∀ e s', False → Z (.error e) s') :
    ∀ (left i : Nat) (s : Shared), i + left = items.size → St i s → (∀ b o, h0.get? b = some o → s.heap.get? b = some o) → R i s.heap →
      (∀ s', Moved (S :: wr) G s s' → R items.size s'.heap → Z (.ok (.ret .none)) s') → codeAny (model P w) A (.builtin "set.update.loop" ⟨[.ref S, .ref I], []⟩) Z s
  | left, i, s, hi, hst, old, hR, fin => by
    have Sw : S ∉ wr := fun z => out (W.sub _ z)
    have sub : ∀ b ∈ wr, b ∈ S :: wr := fun b hb => List.mem_cons_of_mem _ hb
    refine codeAny_builtin PyProof.Rows.F.entry_set_update_loop ?_
    rw [Around.under_plainId PyProof.Rows.F.plain_set_update_loop _]
    match left, hi with
    | 0, hi =>
      have e : i = items.size := hi
      subst e
      refine wpAny_bind (W.done s _ _ hst fun s' hm => ?_)
      exact wpAny_pure (fin s' (hm.mono sub) (g.keep _ _ _ hR fun o e => hm.heap S o Sw e))
    | left + 1, hi =>
      refine wpAny_bind (W.item i s _ _ (by omega) hst fun v s' hv hst' hm => ?_)
      have hR' := g.keep _ _ _ hR fun o e => hm.heap S o Sw e
      have old' : ∀ b o, h0.get? b = some o → s'.heap.get? b = some o := fun b o e => hm.heap b o (low b o e).2 (old b o e)
      refine wpAny_bind (wpAny_holding (wpAny_mono (g.step i v s' (fun b s2 => ∃ h' tk, s2 = { s' with heap := h', toks := tk } ∧ Heap.SameBut S s'.heap h' ∧ s'.toks ≤ tk ∧ R (i + 1) h') hv old' hR' fun b h' tk sb ht r => ⟨h', tk, rfl, sb, ht, r⟩) (fun b s2 z => ?_) fun e s2 z => fine e s2 z))
      obtain ⟨h', tk, rfl, sb, ht, r⟩ := z
      refine wpAny_pure ⟨plainId_quiet PyProof.Rows.F.plain_set_update_loop _, loop_by W g out low fine left (i + 1) _ (by omega) (W.frame _ s' _ _ hst' ht fun b hb o e => ?_) (fun b o e => ?_) r fun s'' hm'' r'' => ?_⟩
      · rw [sb.2 b fun z => out (z ▸ hb)]; exact e
      · show h'.get? b = some o
        rw [sb.2 b (low b o e).1]; exact old' b o e
      · refine fin s'' (Moved.trans W.gtrans ((hm.mono sub).then_heap ht fun b o hb e => ?_) hm'') r''
        rw [sb.2 b fun z => hb (z ▸ List.mem_cons_self)]; exact e
/-- set(l): the set stands at a new place -/
theorem made {s : Shared} {l : Addr} {tn : String} (htn : tn = "list" ∨ tn = "tuple") (hh : A.handled = none) (hl : ∃ o n, s.heap.get? l = some o ∧ o.cls = .type tn ∧ o.data = .seq items n) (g : Grows P w A.in1.in1.in1 (fun _ _ => False) s.heap s.heap.objs.size items R)
    (r0 : ∀ h : Heap, h.get? s.heap.objs.size = some (ns0 w) → R 0 h) {Q : Value → Shared → Prop}
    (q : ∀ h' tk, R items.size h' → (∀ b o, s.heap.get? b = some o → h'.get? b = some o) → Q (.ref s.heap.objs.size) { s with heap := h', toks := tk }) : wpAny (model P w) A (call (.type "set") [.ref l]) Q E s := by
  obtain ⟨c, tl, hmro⟩ := PySem.F.called_set.mro
  have f1 := PySem.F.called_set.made
  have f2 := PySem.F.called_set.sub
  refine wpAny_call (codeAny_of_tree ?_)
  show wpAny _ _ (callAny (.type "set") _) _ _ _
  refine wpAny_pure ⟨Code.quiet_builtin _ (by decide +kernel), codeAny_builtin PySem.F.entry_type_call ?_⟩
  rw [Around.under_plain (weight_type_call_type "set" [.ref l] []) rfl]
  have f3 := PySem.F.called_set.notType
  have f4 := PySem.F.called_set.canCreate
  have f5 := PySem.F.typeCall_set_1 (.ref l)
  repeat (any_goals (first | assumption | wp_step))
  refine codeAny_mono (code_set_led1 (.ref l) (E := E) (Q₁ := fun obj s₁ => obj = .ref s.heap.objs.size ∧ s₁ = { s with heap := s.heap.push (ns0 w) }) ⟨rfl, rfl⟩) fun r s₁ hr => ?_
  rcases r with e | (_ | _ | _ | obj)
  · exact hr
  · exact hr.elim
  · exact hr.elim
  · exact hr.elim
  · obtain ⟨rfl, rfl⟩ := hr
    have atS : (s.heap.push (ns0 w)).get? s.heap.objs.size = some (ns0 w) := Heap.get?_push_size _ rfl
    have tyS : Shared.TypeIs { s with heap := s.heap.push (ns0 w) } (.ref s.heap.objs.size) "set" := ⟨_, atS, rfl⟩
    have f6 := PySem.F.called_set.init.lookup
    have f7 := PySem.F.called_set.init.bind (.ref s.heap.objs.size)
    repeat (any_goals (first | assumption | wp_step))
    refine codeAny_mono (codeAny_call_builtin (R := wants (fun r s₂ => r = .none ∧ ∃ h' tk, s₂ = { s with heap := h', toks := tk } ∧ R items.size h' ∧ (∀ b o, s.heap.get? b = some o → h'.get? b = some o)) E) PySem.F.called_set.init.plain PySem.F.entry_set_init (check_set_init_1 tyS ?_)) fun r₂ s₂ hr₂ => ?_
    · obtain ⟨ol, nl, hol, hcl, hdl⟩ := hl
      have lS : l < s.heap.objs.size := Heap.lt_size hol
      obtain ⟨ocls, odict, odata, oslots⟩ := ol
      dsimp only at hcl hdl
      subst hcl
      subst hdl
      have hol2 : (s.heap.push (ns0 w)).get? l = some { cls := .type tn, dict := odict, data := .seq items nl, slots := oslots } := Heap.get?_push_of_some _ hol
      have sz : (s.heap.push (ns0 w)).objs.size = s.heap.objs.size + 1 := Heap.size_push ..
      have neI : l ≠ (s.heap.push (ns0 w)).objs.size := by rw [sz]; exact Nat.ne_of_lt (Nat.lt_succ_of_lt lS)
      have out : s.heap.objs.size ∉ [(s.heap.push (ns0 w)).objs.size, l] := by
        rw [sz]
        intro z
        rcases List.mem_cons.mp z with z | z
        · exact absurd z (Nat.ne_of_lt (Nat.lt_succ_self _))
        · exact absurd (List.mem_singleton.mp z) (Nat.ne_of_gt lS)
      have h3 : A.in1.in1.in1.handled = none := by simp [hh]
      have low : ∀ b o, s.heap.get? b = some o → b ≠ s.heap.objs.size ∧ b ∉ [(s.heap.push (ns0 w)).objs.size] := fun b o e => by
        have lb := Heap.lt_size e
        rw [sz]
        exact ⟨Nat.ne_of_lt lb, fun z => absurd (List.mem_singleton.mp z) (Nat.ne_of_lt (Nat.lt_succ_of_lt lb))⟩
      have fin : ∀ (itn : Obj) (s' : Shared), Moved [s.heap.objs.size, (s.heap.push (ns0 w)).objs.size] Eq { s with heap := (s.heap.push (ns0 w)).push itn } s' → R items.size s'.heap →
          ∃ h' tk, s' = { s with heap := h', toks := tk } ∧ R items.size h' ∧ (∀ b o, s.heap.get? b = some o → h'.get? b = some o) := fun itn s' hm r => by
        obtain ⟨h', g2, d', tk', os'⟩ := s'
        have e1 : s.gens = g2 := hm.gens
        have e2 : d' = s.drawn := hm.drawn
        have e3 : os' = s.os := hm.os
        subst e1; subst e2; subst e3
        refine ⟨h', tk', rfl, r, fun b o e => hm.heap b o ?_ (Heap.get?_push_of_some _ (Heap.get?_push_of_some _ e))⟩
        have lb := Heap.lt_size e
        rw [sz]
        intro z
        rcases List.mem_cons.mp z with z | z
        · exact absurd z (Nat.ne_of_lt lb)
        · exact absurd (List.mem_singleton.mp z) (Nat.ne_of_lt (Nat.lt_succ_of_lt lb))
      have g' : Grows P w A.in1.in1.in1 (fun _ _ => False) s.heap s.heap.objs.size items R := g
      have sub1 : isSubtype (.type tn) (.type "set") = pure false := by
        rcases htn with rfl | rfl
        · exact PySem.F.sub_list_set
        · exact PySem.F.sub_tuple_set
      have sub2 : isSubtype (.type tn) (.type "frozenset") = pure false := by
        rcases htn with rfl | rfl
        · exact PySem.F.sub_list_frozenset
        · exact PySem.F.sub_tuple_frozenset
      have ne1 : (Value.type tn == Value.type "dict") = false := by rcases htn with rfl | rfl <;> decide
      unfold Builtin.«set.__init__» noKeywords Builtin.Frozenset.updateFrom
      generalize hPI : pyIter = PI
      wp_walk
      subst hPI
      rcases htn with rfl | rfl
      · have hl1 : (s.heap.push (ns0 w)).IsList l items := ⟨_, hol2, rfl, nl, rfl⟩
        refine wpAny_pyIter_list hl1 (wpAny_bind (wpAny_runValue ?_))
        refine loop_by ((Walks.list h3 _ l neI items).toS) g' out low (fun e s' z => z.elim) items.size 0 _ (by omega) ⟨⟨_, Heap.get?_push_size _ rfl, rfl, rfl⟩, (hl1.push _)⟩ (fun b o e => Heap.get?_push_of_some _ (Heap.get?_push_of_some _ e)) (r0 _ (Heap.get?_push_of_some _ atS)) fun s' hm r => ?_
        obtain ⟨h', tk', rfl, r', old⟩ := fin _ s' ⟨hm.heap, hm.gens.symm, hm.drawn, hm.os, hm.toks⟩ r
        exact wpAny_pure (wpAny_pure ⟨rfl, h', tk', rfl, r', old⟩)
      · have hl1 : (s.heap.push (ns0 w)).IsTuple l items := ⟨_, hol2, rfl, nl, rfl⟩
        refine wpAny_pyIter_tuple hl1 (wpAny_bind (wpAny_runValue ?_))
        refine loop_by ((Walks.tuple h3 _ l neI items).toS) g' out low (fun e s' z => z.elim) items.size 0 _ (by omega) ⟨⟨_, Heap.get?_push_size _ rfl, rfl, rfl⟩, (hl1.push _)⟩ (fun b o e => Heap.get?_push_of_some _ (Heap.get?_push_of_some _ e)) (r0 _ (Heap.get?_push_of_some _ atS)) fun s' hm r => ?_
        obtain ⟨h', tk', rfl, r', old⟩ := fin _ s' ⟨hm.heap, hm.gens.symm, hm.drawn, hm.os, hm.toks⟩ r
        exact wpAny_pure (wpAny_pure ⟨rfl, h', tk', rfl, r', old⟩)
    · rcases r₂ with e | (_ | _ | _ | r)
      · exact hr₂
      · exact hr₂.elim
      · exact hr₂.elim
      · exact hr₂.elim
      · obtain ⟨rfl, h', tk, rfl, r, old⟩ := hr₂
        repeat (any_goals (first | assumption | wp_step))
        exact q _ _ r old
end
end SF

set_option Elab.async false
set_option linter.all false
set_option maxRecDepth 100000
/-! EL15: sorted(..) of lists and tuples of texts and of pairs of texts; the rules for own sets, over data -/
namespace DL
open PySem PySem.Spec PyProof.Rows L2 TL TX TO
section
variable {X : Cx} {pins : List (Addr × Obj)} {σ : L2.St} {H : Hp} {s : Shared}
/-! ### pairs -/
end
/-! ### over data -/
end DL

set_option Elab.async false
set_option linter.all false
set_option maxRecDepth 100000
/-! EL16: the rules for a def's own sets of texts and of tuples of texts, over data -/
namespace DL
open PySem PySem.Spec PyProof.Rows L2 TL TX TO
section
variable {X : Cx} {m : Mem} {E : Ent m} {e : Expr} {te : DT m} {pos : Pos}
end
end DL

set_option Elab.async false
set_option linter.all false
set_option maxRecDepth 100000
/-! EL17: what is asked of an own class by one Bool over K; isinstance of it; its properties by facts -/
namespace DL
open PySem PySem.Spec PyProof.Rows L2 TL
def allTg : List Tg := [.non, .bl, .int, .str, .lst, .tup, .dic]
theorem allTg_mem (t : Tg) : t ∈ allTg := by cases t <;> simp [allTg]
structure OwnC (K : PySem.W.Frag) (C : Addr) : Prop where
  nf : NoFirst K C
  kt : ∀ t, PySem.W.kitOne K (.type (tgS t)) (.ref C) = some false
  ks : PySem.W.kitOne K (.ref C) (.ref C) = some true
  sf : PySem.W.selfFirst K C = true
def ownB (K : PySem.W.Frag) (C : Addr) : Bool := (allTg.all fun t => PySem.W.notFirst K C (.type (tgS t)) && (PySem.W.kitOne K (.type (tgS t)) (.ref C) == some false)) && (PySem.W.kitOne K (.ref C) (.ref C) == some true) && PySem.W.selfFirst K C
theorem ownC_of {K : PySem.W.Frag} {C : Addr} (h : ownB K C = true) : OwnC K C := by
  unfold ownB at h
  rw [Bool.and_eq_true, Bool.and_eq_true, List.all_eq_true] at h
  obtain ⟨⟨h1, h2⟩, h3⟩ := h
  refine ⟨fun t => ?_, fun t => ?_, eq_of_beq h2, h3⟩
  · have z := h1 t (allTg_mem t)
    rw [Bool.and_eq_true] at z; exact z.1
  · have z := h1 t (allTg_mem t)
    rw [Bool.and_eq_true] at z; exact eq_of_beq z.2
theorem propOf_mk {K : PySem.W.Frag} {C p g : Addr} {f : Str} {rest : List Value} (h1 : PySem.W.findIn K (.ref C) f = some (some (.ref p))) (h2 : PySem.W.specialIn K (.ref p) "__get__" = some (some (.builtin "property.__get__")))
    (h3 : PySem.W.takesIn K (.ref p) = some true) (h4 : PySem.W.recIn K p "property" = some (.ref g :: rest)) : PropOf K C f p g := ⟨h1, h2, h3, rest, h4⟩
end DL

set_option Elab.async false
set_option linter.all false
set_option maxRecDepth 100000
/-! EL18: sorted(set(xs)), xs a list or a tuple of texts -/
namespace DL
open PySem PySem.Spec PyProof.Rows L2 TL TX TO
section
variable {α : Type} [DecidableEq α]
end
section
variable {P : Program} {w : World} {A : Around} {E : Value → Shared → Prop} {s : Shared} {a : Addr} {xs : List Str}
end
section
variable {X : Cx}
variable {m : Mem} {e : Expr} {te : DT m} {pos p p2 cp : Pos}
end
end DL

set_option Elab.async false
set_option linter.all false
set_option maxRecDepth 100000
/-! EL19: o.m(e, ..), o an instance, m a def of its class -/
namespace DL
open PySem PySem.Spec PyProof.Rows L2 TL
section
variable {X : Cx} {m : Mem} {o e : Expr} {es : List Expr} {to : DT m} {u : DTA m} {pos apos : Pos} {C f : Addr} {k n : Nat} {fd : FuncData} {ps : List Str} {mn : Str}
end
end DL

set_option Elab.async false
set_option linter.all false
set_option maxRecDepth 100000
/-! EL20: a, b, .. = a list of that length, over data -/
namespace DL
open PySem PySem.Spec PyProof.Rows L2 TL
section
variable {X : Cx} {m : Mem} {pos : Pos}
end
end DL

set_option Elab.async false
set_option linter.all false
set_option maxRecDepth 100000
/-! EL21: len(set(xs)), xs a list or a tuple of texts -/
namespace DL
open PySem PySem.Spec PyProof.Rows L2 TL TX TO
section
variable {X : Cx}
variable {m : Mem} {e : Expr} {te : DT m} {pos p p2 cp : Pos}
end
end DL

set_option Elab.async false
set_option linter.all false
set_option maxRecDepth 100000
/-! EL22: x, y = f(..), y a list that the def will change: f is asked with nothing known but its arguments, so what it gives is new -/
namespace DL
open PySem PySem.Spec PyProof.Rows L2 TL TX TO
/-- data that says nothing of any place -/
def bare : D → Bool
  | .non => true
  | .bl _ => true
  | .int _ => true
  | .str _ => true
  | .any _ => true
  | _ => false
section
variable {m : Mem} {K : PySem.W.Frag} {F1 F2 F3 H1 H2 : Hp} {σ : L2.St} {ρ1 : List Sl} {s1 s' : m.S}
end
section
variable {X : Cx} {m : Mem} {e : Expr} {es : List Expr} {u : DTA m} {E : Ent m}
end
end DL

set_option Elab.async false
set_option linter.all false
set_option maxRecDepth 100000
/-! EL23: behind a value that is a tuple of texts, too, the own lists are the slots' own again -/
namespace DL
open PySem PySem.Spec PyProof.Rows L2 TL TX TO
section
variable {K : PySem.W.Frag} {m : Mem} {F H F' H' : Hp} {σ : L2.St} {ρ ρ' : List Sl} {s s' : m.S}
end
section
variable {X : Cx} {m : Mem} {e : Expr} {te : DT m}
end
end DL

set_option Elab.async false
set_option linter.all false
set_option maxRecDepth 100000
/-! EL24: a def's own dict written; a dict of lists that are changed where they lie (next_table) -/
namespace DL
open PySem PySem.Spec PyProof.Rows L2 TL
section
variable {K : PySem.W.Frag} {m : Mem} {F H : Hp} {σ : L2.St} {ρ : List Sl} {s : m.S} {L L' A B : List (Addr × List Str)} {q : Addr} {xs ys : List Str} {E : Ent (Mem.hot m)}
end
section
variable {X : Cx} {m : Mem} {pos : Pos} {e b : Expr}
variable {te tb : DT (Mem.hot m)} {E : Ent (Mem.hot m)}
end
section
variable {X : Cx} {pos : Pos}
end
section
variable {P : Program} {w : World} {K : PySem.W.Frag} {mg : Str → Option Value} {base : Heap} {m : Mem}
end
end DL

set_option Elab.async false
set_option linter.all false
set_option maxRecDepth 100000
/-! EL25: defs with a default: made, bound with all arguments or without the last, called without it -/
namespace DL
open PySem PySem.Spec PyProof.Rows L2 TL
/-- a def as it stands behind the top, whatever its defaults -/
structure FunE (K : PySem.W.Frag) (x qual : Str) (st : Stmt) (f : Addr) (fd : FuncData) : Prop where
  ex : ∃ (oc : Value) (od : Option Addr) (dV kV doc pm : Value) (an : Option Addr) (cdv ct : Value) (osl : Array (Option Value)),
    fd = PySem.W.fnOf x qual (defArgs st) (defBody st) (defScope st) dV kV doc pm an cdv ct ∧ K.lookup f = some ⟨oc, od, .func fd, osl⟩ ∧ PySem.W.codeIn K cdv qual = true
  kp : PySem.W.keepIn K (.ref f) = true
section
variable {P : Program} {w : World} {K : PySem.W.Frag} {mg : Str → Option Value} {base : Heap} {m : Mem}
theorem FunE.okG {CX : CXT} {x qual : Str} {st : Stmt} {f : Addr} {fd : FuncData} {N ps : List Str} {k : Nat} {sp : Sp} (F : FunE K x qual st f fd) (S : FnScope N ps (defScope st)) (len : ∀ vs H Q E, sp vs H Q E → vs.length = ps.length)
    (body : ∀ (cdv : Value) (A : Around) (outer : List Env) (s : Shared) (H : Hp) (vs : List V) (Q : VK) (E : XK), RoomG k (A.deeper (envOfC qual (defScope st) s.heap.objs.size f cdv)) → sp vs H Q E →
      ∃ t, PSs (cxOf CX P w K mg base N qual (defScope st) f cdv A outer s H E) (defBody st) t ∧ t { nx := fun _ H' => Q .non H', rt := Q } (start N vs) H) : FnG P w K mg base CX (k + 1) f fd ps sp := by
  obtain ⟨oc, od, dV, kV, doc, pm, an, cdv, ct, osl, rfl, lk, code⟩ := F.ex
  refine ⟨len, fun A outer s H args us vs Q E hr e0 hb rv hsp => ?_⟩
  have Kin : K.In s.heap := e0.mod.kin.keeps fun b o z => (e0.bs b o z).1
  have nl : s.heap.NoLimit := e0.mod.nolimit.keeps fun b o z => (e0.bs b o z).1
  have places : ∀ y ∈ ps.zip us, (defScope st).names.lookup y.1 = some .local ∨ ((defScope st).names.lookup y.1 = some .cell ∧ ((cellsFrom (s.heap.objs.size + 1) (defScope st).names []).lookup y.1).isSome = true) := fun y hy =>
    (S.par y.1 (List.of_mem_zip (show (y.1, y.2) ∈ ps.zip us from hy)).1).elim .inl fun q => .inr ⟨q, PySem.W.cellsFrom_some _ _ _ (.inl q)⟩
  refine codeAny_call_function hr.r.depth (Kin _ _ lk) rfl S.co S.gen rfl (PySem.W.codeRec_of Kin code) (hb _ _ _ _ (wpAny_newFunctionEnv_cells S.kind places fun env he s1 new => ?_))
  subst he
  obtain ⟨t, ht, hq⟩ := body cdv A outer s H vs Q E (hr.deeper _) hsp
  have J : Inv (cxOf CX P w K mg base N qual (defScope st) f cdv A outer s H E) [] (start N vs) H s1 := inv_start S hr.r.hd e0 (len _ _ _ _ hsp) rv new
  refine ⟨nl.keeps new.toInCall.keep, codeAny_func (wpAny_mono (ht.run [] s1 (start N vs) H _ J hq) (fun fl s' z => ?_) fun _ _ z => z)⟩
  rcases fl with _ | _ | _ | u
  · obtain ⟨σ', H', J', q⟩ := z
    exact ⟨V.non, H', J'.os, J'.bare, J'.base, J'.hok, rfl, q⟩
  · obtain ⟨_, _, _, q⟩ := z
    exact q.elim
  · obtain ⟨_, _, _, q⟩ := z
    exact q.elim
  · obtain ⟨v, σ', H', J', r', q⟩ := z
    exact ⟨v, H', J'.os, J'.bare, J'.base, J'.hok, r', q⟩
end
section
variable {K : PySem.W.Frag} {x qual : Str} {st : Stmt} {f : Addr} {oc : Value} {od an : Option Addr} {osl : Array (Option Value)} {kV doc pm cdv ct : Value} {T : Addr} {oT : Obj} {n : Nat} {ps : List Str} {b : Bool}
end
section
variable {X : Cx} {m : Mem} {u : DTA m} {x : Str} {p pos : Pos} {e : Expr} {es : List Expr}
end
section
variable {X : Cx} {m : Mem} {te td : DT m} {pos : Pos} {e o : Expr}
end
end DL

set_option Elab.async false
set_option linter.all false
set_option maxRecDepth 100000
/-! EL26: a dict handed out that is new: its place is in the state beside, so that it may be locked and walked -/
namespace DL
open PySem PySem.Spec PyProof.Rows L2 TL
/-- beside the state of m: new dicts, told by their keys -/
def Mem.dk (m : Mem) : Mem where
  S := m.S × List (Addr × List Key)
  M := fun s H => m.M s.1 H ∧ (s.2.map Prod.fst).Nodup ∧ ∀ p ∈ s.2, (∃ kvs : List (Key × V), H p.1 = some (.dK kvs) ∧ kvs.map (·.1) = p.2 ∧ kvs.length ≤ sizeLine) ∧ ¬ m.R s.1 p.1
  R := fun s a => m.R s.1 a ∨ ∃ p ∈ s.2, p.1 = a
  loc := fun s H H' h k => ⟨m.loc s.1 H H' h.1 fun a ha => k a (.inl ha), h.2.1, fun p hp => by
    obtain ⟨⟨kvs, h1, h2⟩, h3⟩ := h.2.2 p hp
    exact ⟨⟨kvs, (k p.1 (.inr ⟨p, hp, rfl⟩)).trans h1, h2⟩, h3⟩⟩
  there := fun s H a h ha => by
    rcases ha with ha | ⟨p, hp, rfl⟩
    · exact m.there s.1 H a h.1 ha
    · obtain ⟨⟨kvs, h1, _⟩, _⟩ := h.2.2 p hp
      rw [h1]; simp
section
variable {X : Cx} {tg e : Expr} {td : TE}
end
section
variable {X : Cx} {m : Mem} {te : DT (Mem.dk m)} {tg e : Expr} {pos : Pos} {E : Ent (Mem.dk m)}
end
end DL

set_option Elab.async false
set_option linter.all false
set_option maxRecDepth 100000
/-! EL27: a call with one keyword, the last parameter (keyword-only or not) -/
namespace DL
open PySem PySem.Spec PyProof.Rows L2 TL
section
variable {X : Cx} {CX : CXT} {k n : Nat} {f : Addr} {fd : FuncData} {ps : List Str} {sp : Sp} {E : XK} {x kw : Str} {p pos kpos : Pos} {e c : Expr} {es : List Expr} {t : TA} {tc : TE}
end
section
variable {X : Cx} {m : Mem} {u : DTA m} {tc : DT m} {x kw : Str} {p pos kpos : Pos} {e c : Expr} {es : List Expr}
end
section
variable {K : PySem.W.Frag} {x qual kw : Str} {st : Stmt} {f : Addr} {oc : Value} {od an : Option Addr} {osl : Array (Option Value)} {doc pm cdv ct : Value} {D : Addr} {ps : List Str} {b : Bool}
end
end DL

set_option Elab.async false
set_option linter.all false
set_option maxRecDepth 100000
/-! EL28: x, y = [], [e for ..], both own -/
namespace DL
open PySem PySem.Spec PyProof.Rows L2 TL
section
variable {X : Cx} {m : Mem} {E : Ent m}
end
end DL

set_option Elab.async false
set_option linter.all false
set_option maxRecDepth 100000
/-! EM1: {**x, k: v} -/
namespace DL
open PySem PySem.Spec PyProof.Rows L2 TL
section
variable {prog : Program} {w : World} {J : Type} [DecidableEq J] {κ : PySem.KeyKind prog w J} {A : Around} {E : Value → Shared → Prop} {s : Shared}
end
section
variable {X : Cx} {em ek ev : Expr} {pos : Pos} {tm tk tv : TE}
end
end DL

set_option Elab.async false
set_option linter.all false
set_option maxRecDepth 100000
/-! EM2: {**x, k: v} over data: x, k, v names, k a key of x -/
namespace DL
open PySem PySem.Spec PyProof.Rows L2 TL
section
variable {K : PySem.W.Frag} {F : Hp}
end
section
variable {X : Cx} {m : Mem} {pos : Pos}
end
end DL

set_option Elab.async false
set_option linter.all false
set_option maxRecDepth 100000
/-! EM3: for k, v in f(x, y).items(): f is asked knowing x alone, so that what it gives is seen to be new, and may be locked -/
namespace DL
open PySem PySem.Spec PyProof.Rows L2 TL TX TO
section
variable {X : Cx} {e : Expr} {td : TE}
end
section
variable {m : Mem} {K : PySem.W.Frag} {F0 F1 F2 F3 H1 H2 : Hp} {σ : L2.St} {ρ1 : List Sl} {s1 s' : m.S}
end
section
variable {X : Cx} {m : Mem} {e : Expr} {es : List Expr} {u : DTA m}
end
end DL

set_option Elab.async false
set_option linter.all false
set_option maxRecDepth 100000
/-! EM4: min(x) of a list of data that are alike; x[k] = e, k a key of x or not -/
namespace DL
open PySem PySem.Spec PyProof.Rows L2 TL TX TO
section
variable {X : Cx} {pins : List (Addr × Obj)} {σ : L2.St} {H : Hp} {s : Shared}
end
/-! ### x[k] = e -/
section
variable {X : Cx} {m : Mem} {pos : Pos} {e b : Expr}
end
/-! ### x is True -/
end DL

set_option Elab.async false
set_option linter.all false
set_option maxRecDepth 100000
set_option maxHeartbeats 1000000
/-! EM5: {e for x in a for y in b}, each e a text: at the model -/
namespace SC2
open PySem PySem.Spec PyProof.Rows L2 TL DL TX TO
abbrev two (elt t0 i0 t1 i1 : Expr) (sc : Scope) (pos : Pos) : Expr := .SetComp elt [⟨t0, i0, [], 0⟩, ⟨t1, i1, [], 0⟩] sc pos
section
variable {prog : Program} {w : World} {A : Around} {R : Result → Shared → Prop} {s : Shared} {elt t0 i0 t1 i1 : Expr} {sc : Scope} {pos : Pos} {it acc : Value} {env : Env}
end
section
variable {X : Cx}
end
end SC2

set_option Elab.async false
set_option linter.all false
set_option maxRecDepth 100000
set_option maxHeartbeats 1000000
/-! EM6: sorted({e for x in a for y in b}), each e a text: over data -/
namespace DL
open PySem PySem.Spec PyProof.Rows L2 TL TX TO
section
variable {X : Cx} {m : Mem}
end
end DL

set_option Elab.async false
set_option linter.all false
set_option maxRecDepth 100000
set_option maxHeartbeats 1000000
/-! EM7: max(x, key=len, default=None), x a list of texts -/
namespace DL
open PySem PySem.Spec PyProof.Rows L2 TL TX TO
section
variable {X : Cx} {m : Mem} {e : Expr} {p p2 p3 p4 p5 pos : Pos} {k : Nat}
end
end DL

set_option Elab.async false
set_option linter.all false
set_option maxRecDepth 100000
set_option maxHeartbeats 1000000
/-! EM8: list(x), x a list, a tuple or a text -/
namespace DL
open PySem PySem.Spec PyProof.Rows L2 TL TX TO
section
variable {X : Cx}
end
section
variable {X : Cx} {m : Mem} {E : Ent m} {a b : Expr} {ta tb : DT m} {pos pos' bp : Pos}
end
end DL

set_option Elab.async false
set_option linter.all false
set_option maxRecDepth 100000
namespace DL
open PySem PySem.Spec PyProof.Rows L2 TL
/-! ### parent, last_name, overlap -/
end DL

set_option Elab.async false
set_option linter.all false
set_option maxRecDepth 100000
set_option maxHeartbeats 1000000
namespace RP
open PySem PySem.Spec PyProof.Rows L2 TL DL TX TO
theorem line_of2 {n : Nat} (h : n ≤ 1000000) : n ≤ sizeLine := Nat.le_trans h (by rw [sizeLine_eq]; decide)
theorem lz {n : Nat} (h : Nat.ble n 1000000 = true) : n ≤ sizeLine := line_of2 (Nat.le_of_ble_eq_true h)
theorem len_add (a b : Str) : (a ++ b).length = a.length + b.length := by rw [len_tl, tl_append, List.length_append, ← len_tl, ← len_tl]
/-- data that is like itself in all parts -/
def smD : Nat → D → Prop
  | _, .non => True
  | _, .bl _ => True
  | _, .int _ => True
  | _, .str _ => True
  | 0, .lst _ => False
  | n + 1, .lst xs => xs.length ≤ 1000 ∧ ∀ x ∈ xs, smD n x
  | 0, .tup _ => False
  | n + 1, .tup xs => xs.length ≤ 1000 ∧ ∀ x ∈ xs, smD n x
  | _, .dic ks xs => repOk (.dic ks xs) = true
  | _, _ => False
theorem pairs_self {xs : List D} {pre post : List D} {x : D} (h : pairsD xs xs = pre ++ x :: post) : ∃ y ∈ xs, x = .tup [y, y] := by
  have e : (pairsD xs xs)[pre.length]? = some x := by rw [h]; simp
  obtain ⟨y, z, h1, h2, rfl⟩ := pairs_get e
  rw [h1] at h2
  cases h2
  exact ⟨y, List.mem_of_getElem? h1, rfl⟩
end RP

set_option Elab.async false
set_option linter.all false
set_option maxRecDepth 100000
set_option maxHeartbeats 1000000
/-! LP1: paths, modules, uses, programs: what is said of them over data -/
namespace RP
open PySem PySem.Spec PyProof.Rows L2 TL DL TX TO
/-! ### equality of texts and pairs -/
theorem sm_strs (n : Nat) (xs : List Str) : ∀ d ∈ xs.map D.str, smD n d := fun d hd => by
  obtain ⟨x, _, rfl⟩ := List.mem_map.mp hd
  cases n <;> exact trivial
theorem sm_tup (n : Nat) {xs : List Str} (h : xs.length ≤ 1000) : smD (n + 1) (.tup (xs.map .str)) := ⟨by rw [List.length_map]; exact h, sm_strs n xs⟩
/-! ### paths -/
def ovS (p o : Str) : Bool := coversS p o || coversS o p
theorem cov_self (p : Str) : coversS p p = true := by
  unfold coversS
  rw [beq_self_eq_true, Bool.true_or]
theorem ovS_self (p : Str) : ovS p p = true := by unfold ovS; rw [cov_self, Bool.true_or]
theorem okName_of {x : Str} (h : NameOk x) : okName x = true := by
  unfold okName okLen
  rw [Bool.and_eq_true, Bool.and_eq_true, List.all_eq_true]
  refine ⟨⟨decide_eq_true h.1, decide_eq_true h.2.1⟩, fun c hc => ?_⟩
  unfold okc
  rw [Bool.and_eq_true]
  have := h.2.2 c hc
  exact ⟨decide_eq_true this.1, decide_eq_true this.2⟩
theorem okName_free {x : Str} (h : okName x = true) : 46 ∉ tl x := fun hm => by
  unfold okName at h
  rw [Bool.and_eq_true, List.all_eq_true] at h
  have z := h.2 46 hm
  unfold okc at z
  exact absurd z (by decide)
/-- a path, of a length that is known -/
def PathS (x : Str) : Prop := isPathS x = true ∧ x.length ≤ 100
theorem PathS.names {x : Str} (h : PathS x) : (splS 46 x).length ≤ 6 ∧ ∀ n ∈ splS 46 x, okName n = true := by
  have z := h.1
  unfold isPathS at z
  rw [Bool.and_eq_true, List.all_eq_true] at z
  exact ⟨of_decide_eq_true z.1, z.2⟩
theorem spl_names {ns : List Str} (h0 : ns ≠ []) (h : ∀ n ∈ ns, okName n = true) : splS 46 (joinS dot ns) = ns := splS_join h0 fun x hx => okName_free (h x hx)
theorem pathS_names {ns : List Str} (h0 : ns ≠ []) (h6 : ns.length ≤ 6) (h : ∀ n ∈ ns, okName n = true) : PathS (joinS dot ns) := by
  refine ⟨?_, ?_⟩
  · unfold isPathS
    rw [spl_names h0 h, decide_eq_true h6, Bool.true_and, List.all_eq_true]
    exact h
  · have q1 := joinS_len (z := dot) (ns := ns)
    have q2 := sum_le8 (ns := ns) fun y hy => by
      have z := h y hy
      unfold okName okLen at z
      rw [Bool.and_eq_true, Bool.and_eq_true] at z
      exact of_decide_eq_true z.1.2
    rw [show dot.length = 1 from rfl] at q1
    omega
theorem PathS.ok {x : Str} (h : PathS x) : sOk x = true := by
  refine sOk_of (Nat.le_trans h.2 (by decide)) fun c hc => ?_
  have e := join_splS 46 x
  have hm : c ∈ tl (joinS dot (splS 46 x)) := by rw [show joinS dot (splS 46 x) = x from e]; exact hc
  have hm : c ∈ joinL [46] ((splS 46 x).map tl) := by
    have e2 : tl (joinS dot (splS 46 x)) = joinL [46] ((splS 46 x).map tl) := tl_join _ _
    rw [e2] at hm; exact hm
  have key : ∀ (ls : List (List Nat)), (∀ l ∈ ls, ∀ c ∈ l, c ≤ 122) → ∀ c ∈ joinL [46] ls, c ≤ 122 := by
    intro ls
    induction ls with
    | nil => intro _ c hc; cases hc
    | cons l ls ih =>
      intro h c hc
      cases ls with
      | nil => exact h l List.mem_cons_self c hc
      | cons l2 r =>
        rw [joinL_cons _ _ (by simp)] at hc
        rcases List.mem_append.mp hc with z | z
        · exact h l List.mem_cons_self c z
        · rcases List.mem_append.mp z with z | z
          · rw [List.mem_singleton.mp z]; decide
          · exact ih (fun l hl => h l (List.mem_cons_of_mem _ hl)) c z
  have := key _ (fun l hl c hc => by
    obtain ⟨n, hn, rfl⟩ := List.mem_map.mp hl
    have z := h.names.2 n hn
    unfold okName at z
    rw [Bool.and_eq_true, List.all_eq_true] at z
    have y := z.2 c hc
    unfold okc at y
    rw [Bool.and_eq_true] at y
    exact of_decide_eq_true y.2) c hm
  omega
/-! ### the beginnings of a path -/
/-! ### programs -/
structure Mods (ms : List Str) : Prop where
  path : ∀ x ∈ ms, PathS x
  alone : ms.Pairwise fun x y => ovS x y = false
theorem Mods.nd {ms : List Str} (h : Mods ms) : ms.Nodup := h.alone.imp fun {x y} z e => by rw [e, ovS_self] at z; cases z
structure Uses (ms : List Str) (us : List (Str × Str)) : Prop where
  nd : us.Nodup
  ok : ∀ u ∈ us, u.1 ∈ ms ∧ u.2 ∈ ms ∧ u.1 ≠ u.2
/-! ### promises -/
/-! ### walks -/
theorem mid_map {α : Type} {f : α → D} {xs : List α} {pre post : List D} {y : D} (e : xs.map f = pre ++ y :: post) : ∃ x, xs[pre.length]? = some x ∧ y = f x ∧ pre = (xs.take pre.length).map f := by
  have h : (xs.map f)[pre.length]? = some y := by rw [e]; simp
  rw [List.getElem?_map] at h
  obtain ⟨x, h1, h2⟩ := Option.map_eq_some_iff.mp h
  refine ⟨x, h1, h2.symm, ?_⟩
  rw [List.map_take, e, List.take_left]
theorem Mods.ov {ms : List Str} (h : Mods ms) {i j : Nat} {x y : Str} (hij : i < j) (hx : ms[i]? = some x) (hy : ms[j]? = some y) : ovS x y = false := by
  obtain ⟨hi, rfl⟩ := List.getElem?_eq_some_iff.mp hx
  obtain ⟨hj, rfl⟩ := List.getElem?_eq_some_iff.mp hy
  exact List.pairwise_iff_getElem.mp h.alone i j hi hj hij
theorem Uses.sub {ms : List Str} {us vs : List (Str × Str)} (h : Uses ms us) (s : vs.Sublist us) : Uses ms vs := ⟨h.nd.sublist s, fun u hu => h.ok u (s.subset hu)⟩
theorem Mods.sub {ms ns : List Str} (h : Mods ms) (s : ns.Sublist ms) : Mods ns := ⟨fun x hx => h.path x (s.subset hx), h.alone.sublist s⟩
theorem Uses.none {ms : List Str} : Uses ms [] := ⟨List.nodup_nil, fun _ z => absurd z List.not_mem_nil⟩
end RP

set_option Elab.async false
set_option linter.all false
set_option maxRecDepth 100000
set_option maxHeartbeats 1000000
/-! LP2: walks that keep or drop; programs and'ed, without others' uses -/
namespace RP
open PySem PySem.Spec PyProof.Rows L2 TL DL TX TO
theorem zl2 {n : Nat} (h : n ≤ 2000) : n ≤ sizeLine := line_of (by omega)
/-- [e for x in xs if p x], nothing drawn -/
theorem lcF {α : Type} {m : Mem} {f h : α → D} {p : α → Bool} {g : DG} {tt : DTT m} {te : DT m} {vs : List Nat} {ρ1 : List Sl} {s1 : m.S} {Q : DK m} (xs : List α) (hl : xs.length ≤ 2000)
    (turn : ∀ x ∈ xs, ∀ (T : D → m.S → Prop) (U : m.S → Prop), (p x = true → T (h x) s1) → (p x = false → U s1) → g (f x) (wipeD ρ1 vs) fun ρ2 => tt ρ2 s1 fun b ρ3 s3 => ρ3 = ρ2 ∧ ifB b (te ρ2 s3 fun y ρ4 s4 => ρ4 = ρ2 ∧ T y s4) (U s3))
    (fin : Q (.lst ((xs.filter p).map h)) ρ1 s1) : lcK g tt te vs Q (xs.map f) ρ1 s1 := by
  refine ⟨by rw [List.length_map]; exact zl2 hl, fun pre acc s => s = s1 ∧ acc = ((xs.take pre.length).filter p).map h, ⟨rfl, rfl⟩, ?_, ?_⟩
  · rintro pre y post acc s e - ⟨rfl, rfl⟩
    obtain ⟨x, hx, rfl, -⟩ := mid_map e
    have ht : xs.take (pre.length + 1) = xs.take pre.length ++ [x] := by
      rw [List.take_add_one, hx]; rfl
    refine turn x (List.mem_of_getElem? hx) _ _ (fun hp => ?_) fun hp => ?_
    · refine ⟨rfl, ?_⟩
      rw [List.length_append, List.length_singleton, ht, List.filter_append, List.map_append, List.filter_cons, hp]; rfl
    · refine ⟨rfl, ?_⟩
      rw [List.length_append, List.length_singleton, ht, List.filter_append, List.map_append, List.filter_cons, hp]; simp
  · rintro acc s - ⟨rfl, rfl⟩
    rw [List.length_map, List.take_length]
    exact fin
theorem Uses.keep {ms ns : List Str} {us vs : List (Str × Str)} (h : Uses ms us) (k : Uses ns vs) : Uses (ms.filter fun x => decide (x ∈ ns)) (us.filter fun u => decide (u ∈ vs)) := ⟨h.nd.sublist List.filter_sublist, fun u hu => by
  obtain ⟨h1, h2⟩ := List.mem_filter.mp hu
  have h2 := of_decide_eq_true h2
  have a := h.ok u h1
  have b := k.ok u h2
  exact ⟨List.mem_filter.mpr ⟨a.1, decide_eq_true b.1⟩, List.mem_filter.mpr ⟨a.2.1, decide_eq_true b.2.1⟩, a.2.2⟩⟩
/-! ### promises -/
end RP

set_option Elab.async false
set_option linter.all false
set_option maxRecDepth 100000
set_option maxHeartbeats 1000000
/-! GD: values that may be asked about and shown: few signs and items, not deep, of little weight -/
namespace RG
open PySem PySem.Spec PyProof.Rows L2 TL DL
theorem shown_int40 {i : Int} (h : i.natAbs < 10 ^ 40) : (PyData.shown (.int i)).length ≤ 41 := by
  have e := int_text_length_le10 (k := 40) (by decide) h
  show (Str.ofString (toString i)).length ≤ 41
  rw [PySem.ofString_length]; exact e
/-! ### values that may be shown: their leaves, their depth, their weight -/
mutual
def gl : D → Bool
  | .non => true
  | .bl _ => true
  | .int i => decide (i.natAbs < 10 ^ 40)
  | .str x => (tl x).all fun c => decide (c < 1114112)
  | .lst xs => gls xs
  | .tup xs => gls xs
  | .dic ks xs => glk ks xs
  | _ => false
def gls : List D → Bool
  | [] => true
  | d :: ds => gl d && gls ds
def glk : List Key → List D → Bool
  | [], [] => true
  | .inr x :: ks, d :: ds => ((tl x).all fun c => decide (c < 1114112)) && (gl d && glk ks ds)
  | _, _ => false
end
theorem str_leaf {B : Nat} {x : Str} (h : ((tl x).all fun c => decide (c < 1114112)) = true) : (PyData.str x).leavesShort B = true := by
  show (x.cps.toList.all fun c => decide (c < 16 ^ 8)) = true
  rw [List.all_eq_true] at h ⊢
  intro c hc
  have := of_decide_eq_true (h c hc)
  exact decide_eq_true (by omega)
mutual
theorem gl_leaves : ∀ d : D, gl d = true → (pyR d).leavesShort 41 = true ∧ (pyR d).showable = true
  | .non, _ => ⟨rfl, rfl⟩
  | .bl _, _ => ⟨rfl, rfl⟩
  | .int i, h => by
    have h : decide (i.natAbs < 10 ^ 40) = true := h
    have h := of_decide_eq_true h
    refine ⟨decide_eq_true (shown_int40 h), decide_eq_true ?_⟩
    have : i.natAbs.log2 < 1920 := by
      by_cases hz : i.natAbs = 0
      · rw [hz]; decide
      · have : i.natAbs.log2 < 200 := (Nat.log2_lt hz).mpr (Nat.lt_of_lt_of_le h (by decide))
        omega
    exact this
  | .str x, h => ⟨str_leaf h, rfl⟩
  | .lst xs, h => gls_leaves xs h
  | .tup xs, h => gls_leaves xs h
  | .dic ks xs, h => glk_leaves ks xs h
  | .ins _ _ _, h => by cases h
  | .any _, h => by cases h
  | .fz _, h => by cases h
  | .exc _ _ _, h => by cases h
theorem gls_leaves : ∀ ds : List D, gls ds = true → PyData.leavesShortAll 41 (pyRs ds) = true ∧ PyData.showableAll (pyRs ds) = true
  | [], _ => ⟨rfl, rfl⟩
  | d :: ds, h => by
    have h : (gl d && gls ds) = true := h
    rw [Bool.and_eq_true] at h
    obtain ⟨a1, a2⟩ := gl_leaves d h.1
    obtain ⟨b1, b2⟩ := gls_leaves ds h.2
    constructor
    · show (_ && _) = true; rw [a1, b1]; rfl
    · show (_ && _) = true; rw [a2, b2]; rfl
theorem glk_leaves : ∀ (ks : List Key) (ds : List D), glk ks ds = true → PyData.leavesShortKv 41 (pyRk ks ds) = true ∧ PyData.showableKv (pyRk ks ds) = true
  | [], [], _ => ⟨rfl, rfl⟩
  | .inl i :: ks, [], h => by cases h
  | .inl i :: ks, d :: ds, h => by cases h
  | .inr x :: ks, d :: ds, h => by
    have h : (((tl x).all fun c => decide (c < 1114112)) && (gl d && glk ks ds)) = true := h
    rw [Bool.and_eq_true, Bool.and_eq_true] at h
    obtain ⟨a1, a2⟩ := gl_leaves d h.2.1
    obtain ⟨b1, b2⟩ := glk_leaves ks ds h.2.2
    have c1 := str_leaf (B := 41) h.1
    constructor
    · show ((PyData.leavesShort 41 (.str x) && _) && _) = true
      rw [c1, a1, b1]; rfl
    · show ((PyData.showable (.str x) && _) && _) = true
      rw [a2, b2]; rfl
  | [], _ :: _, h => by cases h
  | .inr _ :: _, [], h => by cases h
end
theorem repOk_of {d : D} (h1 : repD 60 d = true) (h2 : gl d = true) (h3 : (pyR d).weight ≤ 100000) : repOk d = true := by
  obtain ⟨a1, a2⟩ := gl_leaves d h2
  have h := PyData.shown_le 41 (by decide) (pyR d) a1
  unfold repOk
  rw [h1, a2, Bool.true_and, Bool.true_and]
  refine decide_eq_true (Nat.le_trans h ?_)
  have : (4400000 : Nat) ≤ sizeLine := by rw [sizeLine_eq]; decide
  omega
mutual
/-- texts and tuples of few signs and items -/
def sm (N : Nat) : D → Bool
  | .non => true
  | .bl _ => true
  | .int _ => true
  | .lst _ => true
  | .dic _ _ => true
  | .str x => decide (x.length ≤ N)
  | .tup xs => decide (xs.length ≤ N) && sms N xs
  | _ => false
def sms (N : Nat) : List D → Bool
  | [] => true
  | d :: ds => sm N d && sms N ds
end
theorem sms_iff {N : Nat} : ∀ {xs : List D}, sms N xs = true ↔ ∀ x ∈ xs, sm N x = true
  | [] => ⟨fun _ _ h => (by cases h), fun _ => rfl⟩
  | d :: ds => by
    show (sm N d && sms N ds) = true ↔ _
    rw [Bool.and_eq_true, sms_iff, List.forall_mem_cons]
theorem gls_iff : ∀ {xs : List D}, gls xs = true ↔ ∀ x ∈ xs, gl x = true
  | [] => ⟨fun _ _ h => (by cases h), fun _ => rfl⟩
  | d :: ds => by
    show (gl d && gls ds) = true ↔ _
    rw [Bool.and_eq_true, gls_iff, List.forall_mem_cons]
theorem repDs_iff {n : Nat} : ∀ {xs : List D}, repDs n xs = true ↔ ∀ x ∈ xs, repD n x = true
  | [] => ⟨fun _ _ h => by (cases h), fun _ => by simp [repDs]⟩
  | d :: ds => by
    simp only [repDs]
    rw [Bool.and_eq_true, repDs_iff, List.forall_mem_cons]
theorem rep_tup {n : Nat} {xs : List D} : repD (n + 1) (.tup xs) = repDs n xs := by simp only [repD]
theorem rep_lst {n : Nat} {xs : List D} : repD (n + 1) (.lst xs) = repDs n xs := by simp only [repD]
mutual
theorem rep_mono : ∀ (n : Nat) (d : D), repD n d = true → repD (n + 1) d = true
  | n, .non, _ => by simp [repD]
  | n, .bl _, _ => by simp [repD]
  | n, .int _, _ => by simp [repD]
  | n, .str _, _ => by simp [repD]
  | 0, .lst _, h => by simp [repD] at h
  | n + 1, .lst xs, h => by
    simp only [repD] at h ⊢
    exact reps_mono n xs h
  | 0, .tup _, h => by simp [repD] at h
  | n + 1, .tup xs, h => by
    simp only [repD] at h ⊢
    exact reps_mono n xs h
  | 0, .dic _ _, h => by simp [repD] at h
  | n + 1, .dic _ xs, h => by
    simp only [repD] at h ⊢
    exact reps_mono n xs h
  | n, .ins _ _ _, h => by simp [repD] at h
  | n, .any _, h => by simp [repD] at h
  | n, .fz _, h => by simp [repD] at h
  | n, .exc _ _ _, h => by simp [repD] at h
theorem reps_mono : ∀ (n : Nat) (ds : List D), repDs n ds = true → repDs (n + 1) ds = true
  | n, [], _ => by simp [repDs]
  | n, d :: ds, h => by
    simp only [repDs] at h ⊢
    rw [Bool.and_eq_true] at h ⊢
    exact ⟨rep_mono n d h.1, reps_mono n ds h.2⟩
end
theorem rep_le {d : D} {n : Nat} (h : repD n d = true) : ∀ m, n ≤ m → repD m d = true
  | 0, hm => by
    have e : n = 0 := by omega
    rw [e] at h; exact h
  | m + 1, hm => by
    by_cases e : n = m + 1
    · rw [← e]; exact h
    · exact rep_mono m d (rep_le h m (by omega))
theorem sm_tup {N : Nat} {xs : List D} (h : sm N (.tup xs) = true) : xs.length ≤ N ∧ ∀ x ∈ xs, sm N x = true := by
  have h : (decide (xs.length ≤ N) && sms N xs) = true := h
  rw [Bool.and_eq_true] at h
  exact ⟨of_decide_eq_true h.1, sms_iff.mp h.2⟩
theorem tup_sm {N : Nat} {xs : List D} (h1 : xs.length ≤ N) (h2 : ∀ x ∈ xs, sm N x = true) : sm N (.tup xs) = true := by
  show (decide (xs.length ≤ N) && sms N xs) = true
  rw [decide_eq_true h1, sms_iff.mpr h2]; rfl
mutual
theorem sm_mono {N M : Nat} (hN : N ≤ M) : ∀ d : D, sm N d = true → sm M d = true
  | .non, _ => rfl
  | .bl _, _ => rfl
  | .int _, _ => rfl
  | .lst _, _ => rfl
  | .dic _ _, _ => rfl
  | .str _, h => decide_eq_true (Nat.le_trans (of_decide_eq_true h) hN)
  | .tup xs, h => by
    have h : (decide (xs.length ≤ N) && sms N xs) = true := h
    rw [Bool.and_eq_true] at h
    show (decide (xs.length ≤ M) && sms M xs) = true
    rw [decide_eq_true (Nat.le_trans (of_decide_eq_true h.1) hN), sms_mono hN xs h.2]; rfl
  | .ins _ _ _, h => by cases h
  | .any _, h => by cases h
  | .fz _, h => by cases h
  | .exc _ _ _, h => by cases h
theorem sms_mono {N M : Nat} (hN : N ≤ M) : ∀ ds : List D, sms N ds = true → sms M ds = true
  | [], _ => rfl
  | d :: ds, h => by
    have h : (sm N d && sms N ds) = true := h
    rw [Bool.and_eq_true] at h
    show (sm M d && sms M ds) = true
    rw [sm_mono hN d h.1, sms_mono hN ds h.2]; rfl
end
def wt (d : D) : Nat := (pyR d).weight
def wl (xs : List D) : Nat := PyData.weightAll (pyRs xs)
theorem wl_cons (d : D) (ds : List D) : wl (d :: ds) = wt d + 1 + wl ds := by
  show PyData.weightAll (pyR d :: pyRs ds) = _
  simp only [PyData.weightAll]; rfl
theorem wl_nil : wl [] = 0 := by show PyData.weightAll [] = 0; simp only [PyData.weightAll]
theorem wt_tup (xs : List D) : wt (.tup xs) = wl xs := by
  show (PyData.tuple (pyRs xs)).weight = _
  simp only [PyData.weight]; rfl
theorem wt_lst (xs : List D) : wt (.lst xs) = wl xs := by
  show (PyData.list (pyRs xs)).weight = _
  simp only [PyData.weight]; rfl
theorem wt_str (x : Str) : wt (.str x) = x.length := by
  show (PyData.str x).weight = _
  simp only [PyData.weight]; rfl
theorem wl_app (xs ys : List D) : wl (xs ++ ys) = wl xs + wl ys := by
  induction xs with
  | nil => rw [List.nil_append, wl_nil]; omega
  | cons d ds ih => rw [List.cons_append, wl_cons, wl_cons, ih]; omega
theorem wl_take (n : Nat) (xs : List D) : wl (xs.take n) ≤ wl xs := by
  have h := wl_app (xs.take n) (xs.drop n)
  rw [List.take_append_drop] at h
  omega
theorem wl_drop (n : Nat) (xs : List D) : wl (xs.drop n) ≤ wl xs := by
  have h := wl_app (xs.take n) (xs.drop n)
  rw [List.take_append_drop] at h
  omega
theorem wl_mem {x : D} {xs : List D} (h : x ∈ xs) : wt x + 1 ≤ wl xs := by
  induction xs with
  | nil => cases h
  | cons d ds ih =>
    rw [wl_cons]
    rcases List.mem_cons.mp h with rfl | h
    · omega
    · have := ih h; omega
/-- what the drawing defs give: asked about and shown -/
structure Gd (N W n : Nat) (d : D) : Prop where
  s : sm N d = true
  r : repD n d = true
  g : gl d = true
  w : wt d ≤ W
structure Gs (N W n : Nat) (xs : List D) : Prop where
  s : ∀ x ∈ xs, sm N x = true
  r : ∀ x ∈ xs, repD n x = true
  g : ∀ x ∈ xs, gl x = true
  w : wl xs ≤ W
theorem Gd.mono {N W n N' W' n' : Nat} {d : D} (h : Gd N W n d) (h1 : N ≤ N') (h2 : W ≤ W') (h3 : n ≤ n') : Gd N' W' n' d := ⟨sm_mono h1 d h.s, rep_le h.r _ h3, h.g, Nat.le_trans h.w h2⟩
theorem Gs.mono {N W n N' W' n' : Nat} {d : List D} (h : Gs N W n d) (h1 : N ≤ N') (h2 : W ≤ W') (h3 : n ≤ n') : Gs N' W' n' d := ⟨fun x hx => sm_mono h1 x (h.s x hx), fun x hx => rep_le (h.r x hx) _ h3, h.g, Nat.le_trans h.w h2⟩
theorem Gd.items {N W n : Nat} {xs : List D} (h : Gd N W (n + 1) (.tup xs)) : Gs N W n xs ∧ xs.length ≤ N := by
  obtain ⟨h1, h2⟩ := sm_tup h.s
  have hr := h.r
  rw [rep_tup] at hr
  have hw := h.w
  rw [wt_tup] at hw
  exact ⟨⟨h2, repDs_iff.mp hr, gls_iff.mp h.g, hw⟩, h1⟩
theorem Gs.tup {N W n : Nat} {xs : List D} (h : Gs N W n xs) (hl : xs.length ≤ N) : Gd N W (n + 1) (.tup xs) :=
  ⟨tup_sm hl h.s, by rw [rep_tup]; exact repDs_iff.mpr h.r, gls_iff.mpr h.g, by rw [wt_tup]; exact h.w⟩
theorem Gs.lst {N W n : Nat} {xs : List D} (h : Gs N W n xs) : Gd N W (n + 1) (.lst xs) :=
  ⟨rfl, by rw [rep_lst]; exact repDs_iff.mpr h.r, gls_iff.mpr h.g, by rw [wt_lst]; exact h.w⟩
theorem Gs.app {N W W' n : Nat} {xs ys : List D} (h : Gs N W n xs) (h' : Gs N W' n ys) : Gs N (W + W') n (xs ++ ys) :=
  ⟨fun x hx => (List.mem_append.mp hx).elim (h.s x) (h'.s x), fun x hx => (List.mem_append.mp hx).elim (h.r x) (h'.r x), fun x hx => (List.mem_append.mp hx).elim (h.g x) (h'.g x), by rw [wl_app]; have := h.w; have := h'.w; omega⟩
theorem Gs.one {N W n : Nat} {x : D} (h : Gd N W n x) : Gs N (W + 1) n [x] :=
  ⟨fun y hy => by rw [List.mem_singleton.mp hy]; exact h.s, fun y hy => by rw [List.mem_singleton.mp hy]; exact h.r, fun y hy => by rw [List.mem_singleton.mp hy]; exact h.g, by rw [wl_cons, wl_nil]; have := h.w; omega⟩
theorem Gs.cut {N W n : Nat} {xs : List D} (h : Gs N W n xs) (lo hi : Option Int) : Gs N W n (DL.cutD xs lo hi) := by
  have sub : ∀ x ∈ DL.cutD xs lo hi, x ∈ xs := fun x hx => List.mem_of_mem_drop (List.mem_of_mem_take hx)
  exact ⟨fun x hx => h.s x (sub x hx), fun x hx => h.r x (sub x hx), fun x hx => h.g x (sub x hx), Nat.le_trans (wl_take _ _) (Nat.le_trans (wl_drop _ _) h.w)⟩
theorem Gs.mem {N W n : Nat} {xs : List D} (h : Gs N W n xs) {x : D} (hx : x ∈ xs) : Gd N W n x := ⟨h.s x hx, h.r x hx, h.g x hx, by have := wl_mem hx; have := h.w; omega⟩
theorem cutD_len (xs : List D) (lo hi : Option Int) : (DL.cutD xs lo hi).length ≤ xs.length := by
  unfold DL.cutD
  rw [List.length_take, List.length_drop]
  omega
def gdB (N W n : Nat) (d : D) : Bool := sm N d && (repD n d && (gl d && decide (wt d ≤ W)))
theorem gd_of {N W n : Nat} {d : D} (h : gdB N W n d = true) : Gd N W n d := by
  unfold gdB at h
  rw [Bool.and_eq_true, Bool.and_eq_true, Bool.and_eq_true] at h
  exact ⟨h.1, h.2.1, h.2.2.1, of_decide_eq_true h.2.2.2⟩
theorem gd_str {x : Str} {N : Nat} (h : x.length ≤ N) (hc : ∀ c ∈ tl x, c < 1114112) (n : Nat) : Gd N N n (.str x) :=
  ⟨decide_eq_true h, by simp [repD], List.all_eq_true.mpr fun c hx => decide_eq_true (hc c hx), by rw [wt_str]; exact h⟩
theorem Gd.ok {N W n : Nat} {d : D} (h : Gd N W n d) (h2 : W ≤ 100000) (h3 : n ≤ 60) : repOk d = true := repOk_of (rep_le h.r _ h3) h.g (Nat.le_trans h.w h2)
theorem sm_ty {N : Nat} {d : D} (h : sm N d = true) : (tyT d).isSome = true := by
  cases d with
  | ins _ _ _ => cases h
  | any _ => cases h
  | fz _ => cases h
  | exc _ _ _ => cases h
  | cau _ _ _ _ => cases h
  | exk _ _ _ => cases h
  | _ => rfl
theorem Gd.ty {N W n : Nat} {d : D} (h : Gd N W n d) : ∃ t, tyT d = some t := Option.isSome_iff_exists.mp (sm_ty h.s)
end RG

set_option Elab.async false
set_option linter.all false
set_option maxRecDepth 100000
set_option maxHeartbeats 1000000
/-! ZN: zip of two tuples, its pairs under one name: whether the zip finds its last pair alive or not, a new pair is handed out -/
namespace ZN
open PySem PySem.Spec PyProof.Rows L2 RZ
open PySem.Sem (wp)
abbrev IsZ (h : Heap) (z TI TO : Addr) (f0 f1 : Value) : Prop :=
  h.get? z = some { cls := .type "zip", dict := none, data := .fields #[f0, f1, .bool false, .ref TI, .ref TO], slots := #[] }
/-- what the zip remembers of its last pair -/
def Mark (v : Value) : Prop := v = .none ∨ ∃ r : Nat, v = rawInt r
section
variable {prog : Program} {w : World} {A : Around} {E : Value → Shared → Prop} {s : Shared}
theorem look {a : Addr} {Q : Option Obj → Shared → Prop} (h : Q (s.heap.get? a) s) : wpAny (model prog w) A (loadIfAlive a) Q E s := fun Γ p hΓ => by
  unfold loadIfAlive
  rw [Sem.wp_loadIfAlive]
  exact h
theorem free {z TI TO : Addr} {f0 f1 : Value} {Q : Bool → Shared → Prop} (hz : IsZ s.heap z TI TO f0 f1) (hf : Mark f0)
    (q : ∀ b g1 h', IsZ h' z TI TO f0 g1 → Heap.SameBut z s.heap h' → Q b { s with heap := h' }) : wpAny (model prog w) A (Builtin.SmallTypes.ownedTupleIsFree (.ref z)) Q E s := by
  unfold Builtin.SmallTypes.ownedTupleIsFree
  refine wpAny_bind (wpAny_field hz rfl (x := f0) rfl ?_)
  rcases hf with rfl | ⟨r, rfl⟩
  · exact wpAny_pure (q true f1 s.heap hz (Heap.SameBut.refl ..))
  · show wpAny _ _ (loadIfAlive (Int.toNat r) >>= _) _ _ _
    refine wpAny_bind (look ?_)
    cases s.heap.get? (Int.toNat r) with
    | none => exact wpAny_pure (q true f1 s.heap hz (Heap.SameBut.refl ..))
    | some o =>
      show wpAny _ _ (field (.ref z) 1 >>= _) _ _ _
      refine wpAny_bind (wpAny_field hz rfl (x := f1) rfl ?_)
      by_cases c : (f1 != .bool true) = true
      · simp only [c, if_true]
        refine wpAny_bind (wpAny_setField_rec hz (by simp) fun h' hz' sb => wpAny_pure ?_)
        exact q false (.bool true) h' hz' sb
      · simp only [c, if_false]
        exact wpAny_pure (q false f1 s.heap hz (Heap.SameBut.refl ..))

end
section
variable {prog : Program} {w : World} {A : Around} {E : Value → Shared → Prop} {s : Shared}
end
end ZN
namespace DL
open PySem PySem.Spec PyProof.Rows L2 TL
section
variable {X : Cx} {m : Mem} {ta : DTA m} {p pos : Pos}
end
end DL

set_option Elab.async false
set_option linter.all false
set_option maxRecDepth 100000
set_option maxHeartbeats 1000000
/-! LP3: rows of modules: chains or not -/
namespace RP
open PySem PySem.Spec PyProof.Rows L2 TL DL TX TO RG
/-- [e for x in xs if p x], nothing drawn, the items as they are -/
theorem lcA {m : Mem} {h : D → D} {p : D → Bool} {g : DG} {tt : DTT m} {te : DT m} {vs : List Nat} {ρ1 : List Sl} {s1 : m.S} {Q : DK m} (xs : List D) (hl : xs.length ≤ 2000)
    (turn : ∀ x ∈ xs, ∀ (T : D → m.S → Prop) (U : m.S → Prop), (p x = true → T (h x) s1) → (p x = false → U s1) → g x (wipeD ρ1 vs) fun ρ2 => tt ρ2 s1 fun b ρ3 s3 => ρ3 = ρ2 ∧ ifB b (te ρ2 s3 fun y ρ4 s4 => ρ4 = ρ2 ∧ T y s4) (U s3))
    (fin : Q (.lst ((xs.filter p).map h)) ρ1 s1) : lcK g tt te vs Q xs ρ1 s1 := by
  have z := lcF (f := fun x : D => x) (h := h) (p := p) (g := g) (tt := tt) (te := te) (vs := vs) (ρ1 := ρ1) (s1 := s1) (Q := Q) xs hl turn fin
  rwa [List.map_id''] at z
  intro x; rfl
/-! ### rows -/
/-! ### promises -/
end RP

set_option Elab.async false
set_option linter.all false
set_option maxRecDepth 100000
set_option maxHeartbeats 1000000
/-! LP4: what is used by what: next_table -/
namespace RP
open PySem PySem.Spec PyProof.Rows L2 TL DL TX TO
/-- user and used, or the other way round -/
def fl (b : Bool) (u : Str × Str) : Str × Str := if b then (u.2, u.1) else u
/-! ### chains from one on, in the order in which they are found -/
theorem nd_len {α : Type} [DecidableEq α] : ∀ {l ks : List α}, l.Nodup → (∀ x ∈ l, x ∈ ks) → l.length ≤ ks.length
  | [], _, _, _ => Nat.zero_le _
  | x :: l, ks, nd, h => by
    obtain ⟨n1, n2⟩ := List.nodup_cons.mp nd
    have hx := h x List.mem_cons_self
    have ih := nd_len (ks := ks.filter fun y => decide (y ≠ x)) n2 fun y hy => List.mem_filter.mpr ⟨h y (List.mem_cons_of_mem _ hy), decide_eq_true fun e => n1 (e ▸ hy)⟩
    have lt : (ks.filter fun y => decide (y ≠ x)).length < ks.length := by
      refine List.length_filter_lt_length_iff_exists.mpr ⟨x, hx, by simp⟩
    rw [List.length_cons]
    omega
structure InvW (ks : List Str) (start : Str) (W : List (Str × List Str)) : Prop where
  nd : (W.map (·.1)).Nodup
  no : start ∉ W.map (·.1)
  ok : ∀ p ∈ W, p.1 ∈ ks ∧ p.2 ≠ [] ∧ p.2.getLastD Str.empty = p.1 ∧ p.2.length ≤ W.length + 1
theorem InvW.nil {ks : List Str} {start : Str} : InvW ks start [] := ⟨List.nodup_nil, by simp, fun p hp => by cases hp⟩
theorem InvW.len {ks : List Str} {start : Str} {W : List (Str × List Str)} (h : InvW ks start W) (hs : start ∈ ks) : W.length + 1 ≤ ks.length := by
  have nd : (start :: W.map (·.1)).Nodup := List.nodup_cons.mpr ⟨h.no, h.nd⟩
  have sub : (start :: W.map (·.1)) ⊆ ks := fun x hx => by
    rcases List.mem_cons.mp hx with rfl | hx
    · exact hs
    · obtain ⟨p, hp, rfl⟩ := List.mem_map.mp hx
      exact (h.ok p hp).1
  have := nd_len nd fun x hx => sub hx
  rw [List.length_cons, List.length_map] at this
  exact this
end RP

set_option Elab.async false
set_option linter.all false
set_option maxRecDepth 100000
set_option maxHeartbeats 1000000
/-! LP5: what is reached, by chains_from and by the law's own rows -/
namespace RP
open PySem PySem.Spec PyProof.Rows L2 TL DL TX TO RG
/-- a way of these uses leads from s to .. -/
inductive Rc (us : List (Str × Str)) (s : Str) : Str → Prop
  | here : Rc us s s
  | on {x y : Str} : Rc us s x → (x, y) ∈ us → Rc us s y
theorem Rc.mono {us vs : List (Str × Str)} (h : ∀ u ∈ us, u ∈ vs) {s x : Str} (r : Rc us s x) : Rc vs s x := by
  induction r with
  | here => exact .here
  | on _ hu ih => exact .on ih (h _ hu)
theorem Rc.trans {us : List (Str × Str)} {s x y : Str} (r : Rc us s x) (q : Rc us x y) : Rc us s y := by
  induction q with
  | here => exact r
  | on _ hu ih => exact .on ih hu
/-! ### chains_from -/
/-! ### the law's rows -/
/-! ### reached -/
end RP
namespace RP
open PySem PySem.Spec PyProof.Rows L2 TL DL TX TO RG
end RP

set_option Elab.async false
set_option linter.all false
set_option maxRecDepth 100000
set_option maxHeartbeats 1000000
/-! LP6: the law's widest programs -/
namespace RP
open PySem PySem.Spec PyProof.Rows L2 TL DL TX TO RG
theorem of_tl {x y : Str} (h : tl x = tl y) : x = y := by
  cases x with
  | mk a =>
    cases y with
    | mk b =>
      have h : a.toList = b.toList := h
      rw [Array.toList_inj.mp h]
def stemO (o : Option Str) (n : Str) : Str := match o with
  | none => Str.ofString "" ++ n
  | some m => (m ++ Str.ofString ".") ++ n
def wideS (o : Option Str) (n : Str) (c : Nat) : Str := stemO o n ++ one c
theorem wide_join {o : Option Str} {n : Str} {c : Nat} : wideS o n c = joinS dot (o.toList ++ [n ++ one c]) := by
  refine of_tl ?_
  have hd : tl (Str.ofString ".") = [46] := by decide +kernel
  have he : tl (Str.ofString "") = [] := by decide +kernel
  cases o with
  | none =>
    show tl ((Str.ofString "" ++ n) ++ one c) = tl (joinS dot [n ++ one c])
    rw [tl_append, tl_append, he, show tl (joinS dot [n ++ one c]) = tl (n ++ one c) from tl_join _ _, tl_append]
    rfl
  | some m =>
    show tl (((m ++ Str.ofString ".") ++ n) ++ one c) = tl (joinS dot [m, n ++ one c])
    rw [tl_append, tl_append, tl_append, hd, show tl (joinS dot [m, n ++ one c]) = tl m ++ ([46] ++ tl (n ++ one c)) from tl_join _ _, tl_append, List.append_assoc, List.append_assoc]
structure StemOk (o : Option Str) (n : Str) : Prop where
  o : ∀ m, o = some m → NameOk m
  len : n.length ≤ 7
  n : ∀ c ∈ tl n, 97 ≤ c ∧ c ≤ 122
theorem StemOk.one {o : Option Str} {n : Str} (h : StemOk o n) {c : Nat} (h1 : 97 ≤ c) (h2 : c ≤ 122) : NameOk (n ++ one c) := by
  refine ⟨by rw [len_add]; exact Nat.le_add_left 1 _, by rw [len_add]; exact Nat.succ_le_succ h.len, fun d hd => ?_⟩
  rw [tl_append] at hd
  rcases List.mem_append.mp hd with z | z
  · exact h.n d z
  · rw [List.mem_singleton.mp z]; exact ⟨h1, h2⟩
theorem StemOk.ok {o : Option Str} {n : Str} (h : StemOk o n) {c : Nat} (h1 : 97 ≤ c) (h2 : c ≤ 122) : ∀ y ∈ o.toList ++ [n ++ DL.one c], okName y = true := fun y hy => by
  rcases List.mem_append.mp hy with z | z
  · cases o with
    | none => cases z
    | some m => rw [List.mem_singleton.mp z]; exact okName_of (h.o m rfl)
  · rw [List.mem_singleton.mp z]; exact okName_of (h.one h1 h2)
theorem StemOk.path {o : Option Str} {n : Str} (h : StemOk o n) {c : Nat} (h1 : 97 ≤ c) (h2 : c ≤ 122) : PathS (wideS o n c) := by
  rw [wide_join]
  refine pathS_names (by simp) ?_ (h.ok h1 h2)
  rw [List.length_append]
  cases o <;> exact Nat.le_of_ble_eq_true rfl
/-! ### along all -/
theorem Uses.more {ms : List Str} {us vs : List (Str × Str)} (h : Uses ms us) (k : Uses ms vs) : Uses ms (us ++ vs.filter fun u => !decide (u ∈ us)) := by
  refine ⟨List.nodup_append.mpr ⟨h.nd, k.nd.sublist List.filter_sublist, fun u hu v hv e => ?_⟩, fun u hu => ?_⟩
  · obtain ⟨_, z⟩ := List.mem_filter.mp hv
    rw [Bool.not_eq_true'] at z
    exact of_decide_eq_false z (e ▸ hu)
  · rcases List.mem_append.mp hu with z | z
    · exact h.ok u z
    · exact k.ok u (List.mem_filter.mp z).1
end RP

set_option Elab.async false
set_option linter.all false
set_option maxRecDepth 100000
set_option maxHeartbeats 1000000
/-! LP7: the chains that chains_from finds are the first ones: by how many they have, then in order -/
namespace RP
open PySem PySem.Spec PyProof.Rows L2 TL DL TX TO RG
/-! ### rows in order -/
def lexL {α : Type} [DecidableEq α] (lt : α → α → Bool) : List α → List α → Bool
  | [], [] => false
  | [], _ :: _ => true
  | _ :: _, [] => false
  | x :: xs, y :: ys => if x = y then lexL lt xs ys else lt x y
theorem Lin.lexL {α : Type} [DecidableEq α] {lt : α → α → Bool} (L : Lin lt) : Lin (RP.lexL lt) := by
  refine ⟨fun x => ?_, fun x => ?_, fun x => ?_⟩
  · induction x with
    | nil => rfl
    | cons a x ih => show (if a = a then _ else _) = _; rw [if_pos rfl]; exact ih
  · induction x with
    | nil =>
      intro y z h1 h2
      cases z with
      | nil => cases y with
        | nil => cases h1
        | cons _ _ => cases h2
      | cons c z => rfl
    | cons a x ih =>
      intro y z h1 h2
      cases y with
      | nil => cases h1
      | cons b y =>
        cases z with
        | nil => cases h2
        | cons c z =>
          have h1 : (if a = b then RP.lexL lt x y else lt a b) = true := h1
          have h2 : (if b = c then RP.lexL lt y z else lt b c) = true := h2
          show (if a = c then RP.lexL lt x z else lt a c) = true
          by_cases e1 : a = b
          · subst e1
            rw [if_pos rfl] at h1
            by_cases e2 : a = c
            · rw [if_pos e2] at h2 ⊢; exact ih y z h1 h2
            · rw [if_neg e2] at h2 ⊢; exact h2
          · rw [if_neg e1] at h1
            by_cases e2 : b = c
            · subst e2
              rw [if_neg e1]; exact h1
            · rw [if_neg e2] at h2
              have z1 := L.tr _ _ _ h1 h2
              rw [if_neg fun e => by rw [e, L.irr] at z1; cases z1]; exact z1
  · induction x with
    | nil => intro y h1 h2; cases y with
      | nil => rfl
      | cons _ _ => cases h1
    | cons a x ih =>
      intro y h1 h2
      cases y with
      | nil => cases h2
      | cons b y =>
        have h1 : (if a = b then RP.lexL lt x y else lt a b) = false := h1
        have h2 : (if b = a then RP.lexL lt y x else lt b a) = false := h2
        by_cases e : a = b
        · subst e
          rw [if_pos rfl] at h1 h2
          rw [ih y h1 h2]
        · rw [if_neg e] at h1
          rw [if_neg (Ne.symm e)] at h2
          exact absurd (L.tri _ _ h1 h2) e
/-- fewer first, then in order -/
def wlt (a b : List Str) : Bool := if a.length = b.length then lexL lessS a b else decide (a.length < b.length)
theorem wlt_eq {a b : List Str} (h : a.length = b.length) : wlt a b = lexL lessS a b := if_pos h
theorem wlt_less {a b : List Str} (h : a.length < b.length) : wlt a b = true := by
  unfold wlt
  rw [if_neg (by omega)]
  exact decide_eq_true h
theorem wlt_len {a b : List Str} (h : wlt a b = true) : a.length ≤ b.length := by
  unfold wlt at h
  by_cases c : a.length = b.length
  · omega
  · rw [if_neg c] at h
    have := of_decide_eq_true h
    omega
theorem linL : Lin (lexL lessS) := Lin.lexL linS
theorem linW : Lin wlt := by
  refine ⟨fun x => ?_, fun x y z h1 h2 => ?_, fun x y h1 h2 => ?_⟩
  · rw [wlt_eq rfl]; exact linL.irr x
  · have l1 := wlt_len h1
    have l2 := wlt_len h2
    by_cases e : x.length = z.length
    · rw [wlt_eq e]
      rw [wlt_eq (by omega)] at h1 h2
      exact linL.tr _ _ _ h1 h2
    · exact wlt_less (by omega)
  · by_cases e : x.length = y.length
    · rw [wlt_eq e] at h1
      rw [wlt_eq e.symm] at h2
      exact linL.tri _ _ h1 h2
    · rcases Nat.lt_or_ge x.length y.length with z | z
      · rw [wlt_less z] at h1; cases h1
      · rw [wlt_less (by omega)] at h2; cases h2
/-- not after -/
def wle (a b : List Str) : Prop := wlt b a = false
theorem wle_refl (a : List Str) : wle a a := linW.irr a
theorem wle_of {a b : List Str} (h : wlt a b = true) : wle a b := linW.asym h
/-! ### ways -/
inductive Wy (nx : Str → List Str) (s : Str) : List Str → Str → Prop
  | one : Wy nx s [s] s
  | on {w : List Str} {x y : Str} : Wy nx s w x → y ∈ nx x → Wy nx s (w ++ [y]) y
theorem Wy.last {nx : Str → List Str} {s x : Str} {w : List Str} (h : Wy nx s w x) : w.getLastD Str.empty = x := by
  cases h with
  | one => rfl
  | on _ _ => rw [List.getLastD_concat]
theorem Wy.pos {nx : Str → List Str} {s x : Str} {w : List Str} (h : Wy nx s w x) : 1 ≤ w.length := by
  cases h with
  | one => exact Nat.le_refl _
  | on _ _ => rw [List.length_append]; exact Nat.le_add_left 1 _
theorem Wy.first {nx : Str → List Str} {s x : Str} {w : List Str} (h : Wy nx s w x) : wle [s] w := by
  induction h with
  | one => exact wle_refl _
  | on h _ _ =>
    refine wle_of (wlt_less ?_)
    have := h.pos
    rw [List.length_append]
    show 1 < _ + 1
    omega
end RP

set_option Elab.async false
set_option linter.all false
set_option maxRecDepth 100000
set_option maxHeartbeats 1000000
/-! LP8: the first ring; how near modules are; the way that goes nearer at each step -/
namespace RP
open PySem PySem.Spec PyProof.Rows L2 TL DL TX TO RG
/-! ### rings -/
theorem find_first {W : List (Str × List Str)} {q : Str × List Str → Bool} (h : (W.map (·.2)).Pairwise fun a b => wlt a b = true) {p : Str × List Str} (e : W.find? q = some p) : ∀ r ∈ W, q r = true → wle p.2 r.2 := by
  induction W with
  | nil => cases e
  | cons a W ih =>
    intro r hr hq
    obtain ⟨h1, h2⟩ := List.pairwise_cons.mp h
    rw [List.find?_cons] at e
    cases c : q a with
    | true =>
      rw [c] at e
      obtain rfl := Option.some.inj e
      rcases List.mem_cons.mp hr with rfl | hr
      · exact wle_refl _
      · exact wle_of (h1 _ (List.mem_map_of_mem (f := (·.2)) hr))
    | false =>
      rw [c] at e
      rcases List.mem_cons.mp hr with rfl | hr
      · rw [c] at hq; cases hq
      · exact ih h2 e r hr hq
/-! ### how near: by uses gone over again and again -/
inductive Pt (us : List (Str × Str)) (G : List Str) : Nat → Str → Prop
  | z {x : Str} : x ∈ G → Pt us G 0 x
  | s {x y : Str} {n : Nat} : (x, y) ∈ us → Pt us G n y → Pt us G (n + 1) x
def LeL (L' L : Str → Option Nat) : Prop := ∀ x d, L x = some d → ∃ e, L' x = some e ∧ e ≤ d
theorem LeL.refl (L : Str → Option Nat) : LeL L L := fun x d h => ⟨d, h, Nat.le_refl _⟩
theorem LeL.trans {A B C : Str → Option Nat} (h1 : LeL A B) (h2 : LeL B C) : LeL A C := fun x d h => by
  obtain ⟨e, h3, h4⟩ := h2 x d h
  obtain ⟨f, h5, h6⟩ := h1 x e h3
  exact ⟨f, h5, by omega⟩
/-! ### ways from the front -/
inductive Ch (nx : Str → List Str) : Str → List Str → Str → Prop
  | nil {x : Str} : Ch nx x [] x
  | cons {x y z : Str} {r : List Str} : y ∈ nx x → Ch nx y r z → Ch nx x (y :: r) z
theorem Wy.app {nx : Str → List Str} {s x z : Str} {r : List Str} (h : Ch nx x r z) : ∀ {w : List Str}, Wy nx s w x → Wy nx s (w ++ r) z := by
  induction h with
  | nil => intro w hw; rw [List.append_nil]; exact hw
  | cons hy _ ih =>
    intro w hw
    have := ih (.on hw hy)
    rwa [List.append_assoc] at this
theorem Ch.snoc {nx : Str → List Str} {x y z : Str} {r : List Str} (h : Ch nx x r y) (hz : z ∈ nx y) : Ch nx x (r ++ [z]) z := by
  induction h with
  | nil => exact .cons hz .nil
  | cons hy _ ih => exact .cons hy (ih hz)
theorem Wy.ch {nx : Str → List Str} {s x : Str} {v : List Str} (h : Wy nx s v x) : ∃ r, v = s :: r ∧ Ch nx s r x := by
  induction h with
  | one => exact ⟨[], rfl, .nil⟩
  | on _ hy ih =>
    obtain ⟨r, rfl, h1⟩ := ih
    exact ⟨r ++ [_], rfl, h1.snoc hy⟩
theorem Ch.pt {us : List (Str × Str)} {nx : Str → List Str} {G : List Str} (hnx : ∀ x y, y ∈ nx x → (x, y) ∈ us) {x z : Str} {r : List Str} (h : Ch nx x r z) {n : Nat} (hz : Pt us G n z) : Pt us G (r.length + n) x := by
  induction h with
  | nil => rw [show ([] : List Str).length + n = n from Nat.zero_add n]; exact hz
  | cons hy _ ih =>
    rw [List.length_cons, Nat.add_right_comm]
    exact .s (hnx _ _ hy) (ih hz)
theorem Pt.ch {us : List (Str × Str)} {nx : Str → List Str} {G : List Str} (hnx : ∀ x y, (x, y) ∈ us → y ∈ nx x) {n : Nat} {x : Str} (h : Pt us G n x) : ∃ r g, Ch nx x r g ∧ g ∈ G ∧ r.length = n := by
  induction h with
  | z hx => exact ⟨[], _, .nil, hx, rfl⟩
  | s hu _ ih =>
    obtain ⟨r, g, h1, h2, h3⟩ := ih
    exact ⟨_ :: r, g, .cons (hnx _ _ hu) h1, h2, by rw [List.length_cons, h3]⟩
/-! ### nearer at each step -/
section
variable {us : List (Str × Str)} {ms G : List Str} {L : Str → Option Nat}
end
/-! ### the law's ring -/
end RP

set_option Elab.async false
set_option linter.all false
set_option maxRecDepth 100000
set_option maxHeartbeats 1000000
/-! LP9: rings and how near, as data -/
namespace RP
open PySem PySem.Spec PyProof.Rows L2 TL DL TX TO RG
/-! ### the ways have no module twice -/
/-! ### min of texts, of ways with their lengths -/
/-! ### promises -/
end RP
namespace RP
open PySem PySem.Spec PyProof.Rows L2 TL DL TX TO RG
end RP
namespace RP
open PySem PySem.Spec PyProof.Rows L2 TL DL TX TO RG
end RP

set_option Elab.async false
set_option linter.all false
set_option maxRecDepth 100000
set_option maxHeartbeats 1000000
namespace R46
open PySem PySem.Spec PyProof.Rows L2 TL DL TX TO R29 R43
open RP (lcF)
/-! ### the paths of a rule, of rules -/
def bookD (C : Addr) (rs : List D) : D := .ins C [Str.ofString "_rules"] [.tup rs]
def spGetR {m : Mem} (C : Addr) : DSp m := fun ds s Q => ∃ rs, ds = [bookD C rs] ∧ Q (.tup rs) s
/-! ### the longest of those that cover a path is the last -/
/-! ### as the law takes a rule apart -/
def T_getr46 (a : Nat → Addr) {m : Mem} : DTS m :=
  (dRet (dFld (a 63) (Str.ofString "_rules") (dVar 0)))
theorem read_getr46 {a : Nat → Addr} {m : Mem} : ∀ ds s Qd, (spGetR (a 63) : DSp m) ds s Qd → (T_getr46 a : DTS m) (endsOf Qd) (startD ["self"] ds) s := by
  intro ds s Qd h
  obtain ⟨rs, rfl, hQ⟩ := h
  exact ⟨_, _, _, rfl, rfl, hQ⟩
end R46

set_option Elab.async false
set_option linter.all false
set_option maxRecDepth 100000
set_option maxHeartbeats 1000000
/-! EM9: a class's method of the class itself with *rest, over data; cls(e, ..), cls a parameter -/
namespace DL
open PySem PySem.Spec PyProof.Rows L2 TL TX TO
/-- a def keeps its promise wherever it is called with plain arguments -/
structure FnS (P : Program) (w : World) (K : PySem.W.Frag) (mg : Str → Option Value) (base : Heap) (k : Nat) (f : Addr) (sp : Sp) : Prop where
  run : ∀ (A : Around) (outer : List Env) (s : Shared) (H : Hp) (us : List Value) (vs : List V) (Q : VK) (E : XK), RoomG k A → Env0 P w K mg base A outer s H → Vals vs us → sp vs H Q E → codeAny (model P w) A (.call (.ref f) ⟨us, []⟩) (CR CX0 outer P w H s Q E) s
section
variable {P : Program} {w : World} {K : PySem.W.Frag} {mg : Str → Option Value} {base : Heap} {k : Nat} {f : Addr} {sp : Sp} {m : Mem}
theorem FnS.mono {j : Nat} (F : FnS P w K mg base j f sp) (h : j ≤ k) : FnS P w K mg base k f sp := ⟨fun A o s H us vs Q E hr => F.run A o s H us vs Q E (hr.mono h)⟩
theorem FnS.imp {sp' : Sp} (F : FnS P w K mg base k f sp) (h : ∀ vs H Q E, sp' vs H Q E → sp vs H Q E) : FnS P w K mg base k f sp' := ⟨fun A o s H us vs Q E hr e r q => F.run A o s H us vs Q E hr e r (h vs H Q E q)⟩
end
/-! ### C.m(e, ..) -/
section
variable {X : Cx} {m : Mem} {C p g f : Addr} {mc : Value} {k : Nat} {o e : Expr} {es : List Expr} {mn x : Str} {pos apos px : Pos} {ta : TE} {t : TA} {pl : Sem Bool} {to : DT m} {u : DTA m} {fd : FuncData} {ps : List Str}
/-! ### cls(e, ..), cls a local that holds the class -/
end
end DL

set_option Elab.async false
set_option linter.all false
set_option maxRecDepth 100000
/-! EX1: exceptions over data: promises with two ways out, raise C(e), calls that may let one out, try .. except C as e -/
namespace DL
open PySem PySem.Spec PyProof.Rows L2 TL
/-- a promise with two ways out: a value; or an exception of a class, its fields' names, their data -/
abbrev DSpX (m : Mem) := List D → m.S → (D → m.S → Prop) → (Addr → List Str → List D → m.S → Prop) → Prop
section
variable {P : Program} {w : World} {K : PySem.W.Frag} {mg : Str → Option Value} {base : Heap} {m : Mem}
end
/-! ### calls that may let an exception out -/
section
variable {X : Cx} {CX : CXT} {k : Nat} {f : Addr} {fd : FuncData} {ps : List Str} {sp : Sp} {E' : L2.St → XK} {x : Str} {p pos : Pos} {e : Expr} {es : List Expr} {t : TA}
end
section
variable {K : PySem.W.Frag} {m : Mem} {F H F' H' : Hp} {σ : L2.St} {ρ : List Sl} {s s' : m.S}
theorem owns_there (r : Rel K m F H σ ρ s) {i : Nat} {p : Addr} (h : Owns σ ρ i p) : H p ≠ none := by
  obtain ⟨⟨o, e⟩, q⟩ := h
  obtain ⟨p', ho, h1, h2, _⟩ := r.own_at e
  rw [q] at h1; cases h1
  rw [h2]; exact fun z => nomatch z
theorem Rel.drop (r : Rel K m F H σ ρ s) (i : Nat) : Rel K m F H (σ.set i none) (ρ.set i .no) s := by
  have cut : ∀ j q, Owns (σ.set i none) (ρ.set i .no) j q → Owns σ ρ j q := fun j q ⟨⟨o, h1⟩, h2⟩ => by
    by_cases hj : i = j
    · subst hj
      by_cases hi : i < ρ.length
      · rw [List.getElem?_set_self hi] at h1; cases h1
      · rw [List.getElem?_eq_none (by simpa using hi)] at h1; cases h1
    · rw [List.getElem?_set_ne hj] at h1 h2; exact ⟨⟨o, h1⟩, h2⟩
  refine ⟨r.sub, r.mem, r.reg, by rw [List.length_set, List.length_set]; exact r.len, fun j d e => ?_, fun j o e => ?_, fun j q h => r.owF j q (cut j q h), fun j k q a b => r.uq j k q (cut j q a) (cut k q b)⟩
  · by_cases hj : i = j
    · subst hj
      by_cases hi : i < ρ.length
      · rw [List.getElem?_set_self hi] at e; cases e
      · rw [List.getElem?_eq_none (by simpa using hi)] at e; cases e
    · rw [List.getElem?_set_ne hj] at e ⊢; exact r.sh j d e
  · by_cases hj : i = j
    · subst hj
      by_cases hi : i < ρ.length
      · rw [List.getElem?_set_self hi] at e; cases e
      · rw [List.getElem?_eq_none (by simpa using hi)] at e; cases e
    · rw [List.getElem?_set_ne hj] at e ⊢; exact r.ow j o e
theorem Own.drop {E E2 : Ent m} (o : Own m E F H σ ρ s) (i : Nat) (h1 : E2.F = E.F) (h2 : E2.H = E.H) (h3 : E2.s = E.s) : Own m E2 F H (σ.set i none) (ρ.set i .no) s :=
  ⟨by rw [h1]; exact o.ext, by rw [h2, h3]; exact o.keep, by rw [h2]; exact o.alive, by rw [h1, h2]; exact o.fresh, by rw [h2, h3]; exact o.regf, fun j q ⟨⟨u, e1⟩, e2⟩ => by
    rw [h2]
    by_cases hj : i = j
    · subst hj
      by_cases hi : i < ρ.length
      · rw [List.getElem?_set_self hi] at e1; cases e1
      · rw [List.getElem?_eq_none (by simpa using hi)] at e1; cases e1
    · rw [List.getElem?_set_ne hj] at e1 e2; exact o.own j q ⟨⟨u, e1⟩, e2⟩⟩
theorem Own.re {E E2 : Ent m} (o : Own m E F H σ ρ s) (h1 : E2.F = E.F) (h2 : E2.H = E.H) (h3 : E2.s = E.s) : Own m E2 F H σ ρ s :=
  ⟨by rw [h1]; exact o.ext, by rw [h2, h3]; exact o.keep, by rw [h2]; exact o.alive, by rw [h1, h2]; exact o.fresh, by rw [h2, h3]; exact o.regf, by rw [h2]; exact o.own⟩
end
section
variable {X : Cx} {m : Mem} {E : Ent m} {k n : Nat} {f : Addr} {fd : FuncData} {ps : List Str} {sp : DSpX m} {x : Str} {p pos : Pos} {e : Expr} {es : List Expr} {u : DTA m}
end
/-! ### raise C(e) -/
def tMkXP (C : Addr) (sp : Sp) (ta : TA) : L2.St → Hp → XK → Prop := fun σ H Q => ta σ H fun vs H1 => vs.length ≤ 1000 ∧ ∀ a, H1 a = none → sp (.ref a :: vs) (upd H1 a (exo a C none))
  (fun v H2 => v = .non ∧ ∃ (d : Addr) (fs : List (Str × V)), H2 a = some (exo a C (some d)) ∧ H2 d = some (exd d fs) ∧ H1 d = none ∧ Q (.ref C) (some d) (upd (del H2 a) d (.xd fs))) E0
section
variable {X : Cx} {k : Nat} {fI C : Addr} {fd : FuncData} {ps : List Str} {sp : Sp} {x : Str} {e : Expr} {es : List Expr} {ta : TA} {p pos : Pos}
theorem pmk_mkx (T : XC X.K C) (ty : PySem.W.typeIn X.K (.ref C) = some (.type "type")) (iC : PySem.W.findIn X.K (.ref C) "__init__" = some (some (.ref fI))) (tI : PySem.W.typeIn X.K (.ref fI) = some (.type "function"))
    (G : FnG X.prog X.w X.K X.mg X.base CX0 k fI fd ps sp) (hr : RoomG (k + 1) X.A) (hb : Binds X.K fd ps []) (hg : Gl X x) (hm : X.mg x = some (.ref C)) (ha : PA X (e :: es) ta)
    (hdb : (x == ("__debug__" : Str)) = false := by decide) (he : starEach (e :: es) X.env = (false, eval e X.env) :: starEach es X.env := by rfl) (hpl : (backTo pos (starEach es X.env)).any (·.1) = false := by rfl) :
    PMk X (.Call (.Name x p) (e :: es) [] pos) (tMkXP C sp ta) := by
  obtain ⟨B, newId, initId, bmB, FB, SF, ci, ov⟩ := T.base
  intro pins s σ H Q I h
  refine wpAny_Call_Name_kw (ld_glob I hg hm (PySem.W.callWith_K (h₀ := X.base) I.ok.mod.kin T.kC (thn (ha.run pos pins s σ H _ I h) fun us s1 ⟨vs, H1, I1, rv, hz, q⟩ => ⟨I1.kIn, ?_⟩) he hpl) hdb)
  have K1 := I1.kIn
  obtain ⟨nm, N', qn, bs, bm, hdct, sn, sub, ab, col, dd, k0, k1, k2, k3, k5, hC, hT⟩ := PySem.W.excInit_of K1 ci
  obtain ⟨hp, g, dr, tk, os⟩ := s1
  have big : hp.objs.size ≤ hp.objs.size + 1 := Nat.le_succ _
  have hq := q (hp.objs.size + 1) (I1.hok.fresh big)
  have keeps : ∀ b o, hp.get? b = some o → ((hp.push (PySem.W.kdv_tup us)).push (PySem.HandSPX.excO C hp.objs.size)).get? b = some o := fun b o z => Heap.get?_push_of_some _ (Heap.get?_push_of_some _ z)
  have there : ((hp.push (PySem.W.kdv_tup us)).push (PySem.HandSPX.excO C hp.objs.size)).get? (hp.objs.size + 1) = some (PySem.HandSPX.excO C hp.objs.size) := by heap_get
  have J : Inv X pins σ (upd H1 (hp.objs.size + 1) (exo (hp.objs.size + 1) C none)) ⟨(hp.push (PySem.W.kdv_tup us)).push (PySem.HandSPX.excO C hp.objs.size), g, dr, tk, os⟩ :=
    I1.laid (t' := tk) keeps big (exo_ok there)
  have rr : Vals (V.ref (hp.objs.size + 1) :: vs) (Value.ref (hp.objs.size + 1) :: us) := .cons rfl rv
  have many : ((Value.ref (hp.objs.size + 1) :: us) ++ []).length = ps.length := by
    rw [List.append_nil, ← rr.length]
    exact G.len _ _ _ _ hq
  have few : us.length ≤ sizeLine := by
    rw [← rv.length]
    exact Nat.le_trans hz (by rw [sizeLine_eq]; decide)
  have bd := hb _ (Value.ref (hp.objs.size + 1) :: us) J.kIn many
  rw [List.append_nil] at bd
  refine wpAny_call (PySem.HandSPX.call_own FB hT hC (PySem.W.looks_findIn K1 iC) (fun self => PySem.W.bind_fn K1 self tI) few
    (codeAny_mono (G.run _ X.stack _ _ ⟨Value.ref (hp.objs.size + 1) :: us, []⟩ (Value.ref (hp.objs.size + 1) :: us) _ _ E0 (hr.make C us []) (J.env0.make C us []) bd rr hq) fun r s' z => ?_))
  rcases r with er | (_ | _ | _ | u)
  · exact z.elim
  · exact z.elim
  · exact z.elim
  · exact z.elim
  · obtain ⟨v, H', os', bare, un, ok', rv', ev, d, fs, ea, ed, nd, q2⟩ := z
    subst ev
    cases rv'
    obtain ⟨h2, g2, d2, t2, o2⟩ := s'
    obtain ⟨t0, G2, J2, k2', ga, hoe, na⟩ := mk_end0 (t2 := t2) (d2 := d2) I1 big keeps un ok' os' bare ea ed nd
    exact ⟨rfl, _, _, _, ⟨G2, g2, d2, t2, o2⟩, _, .ref C, some d, rfl, J2, k2', ga, hoe, ⟨rfl, rfl⟩, rfl, rfl, na, rfl, bare, raises_own T.sb ty, q2⟩
end
section
variable {X : Cx} {m : Mem} {E : Ent m} {k : Nat} {fI C : Addr} {fd : FuncData} {ps : List Str} {x f : Str} {e : Expr} {te : DT m} {p pos : Pos}
def dRaise {m : Mem} (C : Addr) (f : Str) (te : DT m) : DTS m := fun dd ρ s => te ρ s fun d ρ1 s1 => dd.ex C [f] [d] ρ1 s1
theorem ds_raise {pos2 : Pos} (hc : X.calm = true) (tk : Takes X E.W) (T : XC X.K C) (ty : PySem.W.typeIn X.K (.ref C) = some (.type "type")) (iC : PySem.W.findIn X.K (.ref C) "__init__" = some (some (.ref fI))) (tI : PySem.W.typeIn X.K (.ref fI) = some (.type "function"))
    (G : FnG X.prog X.w X.K X.mg X.base CX0 k fI fd ps (spIn1 C f)) (hr : RoomG (k + 1) X.A) (hb : Binds X.K fd ps []) (hg : Gl X x) (hm : X.mg x = some (.ref C)) (ha : PE X e (up X.K m te))
    (hdb : (x == ("__debug__" : Str)) = false := by decide) (he : starEach [e] X.env = [(false, eval e X.env)] := by rfl) (hpl : (backTo pos (starEach [] X.env)).any (·.1) = false := by rfl) :
    PS X (.Raise (some (.Call (.Name x p) [e] [] pos)) none pos2) (upS X.K m E (dRaise C f te)) :=
  PS.imp (ps_raise hc tk (pmk_mkx (es := []) (pos := pos) T ty iC tI G hr hb hg hm (da_cons ha da_nil (by rw [he]; rfl)) hdb (by rw [he]; rfl) hpl)) fun DD σ H h => by
    obtain ⟨F, ρ, s, dd, r, o, ht, ff⟩ := h
    refine ⟨F, ρ, s, fun ds ρ1 s1 => ∃ d, ds = [d] ∧ dd.ex C [f] [d] ρ1 s1, r, ?_, fun ds ρ1 s1 vs F1 H1 ⟨d, ed, q1⟩ r1 st1 rs => ?_⟩
    · show te ρ s _
      have e2 : (fun (d : D) (ρ2 : List Sl) (s2 : m.S) => ∃ d', [d] = [d'] ∧ dd.ex C [f] [d'] ρ2 s2) = fun d ρ1 s1 => dd.ex C [f] [d] ρ1 s1 := by
        funext d ρ1 s1
        exact propext ⟨fun ⟨d', z, h⟩ => by cases z; exact h, fun h => ⟨d, rfl, h⟩⟩
      show te ρ s (fun (d : D) (ρ2 : List Sl) (s2 : m.S) => ∃ d', [d] = [d'] ∧ dd.ex C [f] [d'] ρ2 s2)
      rw [e2]; exact ht
    subst ed
    obtain ⟨v, vr, rfl, rv, rn⟩ := rs
    cases rn
    refine ⟨(by show 1 ≤ 1000; omega), fun a na => ⟨a, v, rfl, upd_same, fun dx ndx ne => ⟨rfl, dx, [(f, v)], upd_same, by rw [upd_ne ne, upd_same], ?_, ?_⟩⟩⟩
    · rw [upd_ne ne] at ndx; exact ndx
    · rw [upd_ne ne] at ndx
      have eH : upd (del (upd (upd (upd H1 a (exo a C none)) dx (exd dx [(f, v)])) a (exo a C (some dx))) a) dx (.xd [(f, v)]) = upd H1 dx (.xd [(f, v)]) := by
        funext b
        by_cases h1 : b = dx
        · rw [h1, upd_same, upd_same]
        · rw [upd_ne h1, upd_ne h1]
          by_cases h2 : b = a
          · rw [h2, del_same, na]
          · rw [del_ne h2, upd_ne h2, upd_ne h1, upd_ne h2]
      rw [eH]
      have nF : F1 dx = none := r1.sub.free ndx
      have g : Grow F1 H1 F1 (upd H1 dx (.xd [(f, v)])) := ⟨Same.refl _, same_upd ndx, fun b o z => by rw [upd_ne (ne_of_none (r1.sub b o z) ndx)]; exact r1.sub b o z, fun b o z => .inl z⟩
      have o1 := o.stp st1
      refine ff.ex F1 _ σ ρ1 s1 C [f] [d] dx [(f, v)] st1.ext (r1.grow g) (o1.stp g.stp) upd_same ?_ nF (fun z => m.there s1 H1 dx r1.mem z ndx) (fun i z => owns_there r1 z ndx) rfl (.one rv) q1
      cases q : E.H dx with
      | none => rfl
      | some v => exact absurd ndx (o1.alive dx (by rw [q]; exact fun z => nomatch z))
end
/-! ### try: .. except C as e: .. -/
section
variable {X : Cx} {m : Mem} {E : Ent m} {x n : Str} {c : Value} {i : Nat} {body suite : List Stmt} {b₀ : Stmt} {np pos pos' : Pos} {tb : DTS m} {ts : Addr → Value → Option Addr → DTS m} {tbl : List Addr}
/-- the entry of a def, with another wish for what is raised -/
abbrev Ent.at {m : Mem} (E : Ent m) (W : WX) : Ent m := ⟨E.F, E.H, E.s, W⟩
end
end DL

set_option Elab.async false
set_option linter.all false
set_option maxRecDepth 100000
/-! EX3: own operators that may raise; isinstance of the exception that a suite holds -/
namespace DL
open PySem PySem.Spec PyProof.Rows L2 TL
section
variable {X : Cx} {CX : CXT} {k : Nat} {C f : Addr} {fd : FuncData} {ps : List Str} {sp : Sp} {E' : L2.St → XK} {op : Operator} {a b : Expr} {ta tb : TE} {pos : Pos}
end
section
variable {X : Cx} {m : Mem} {E : Ent m} {k : Nat} {C f : Addr} {fd : FuncData} {ps : List Str} {sp : DSpX m} {op : Operator} {a b : Expr} {ta tb : DT m} {pos : Pos}
end
/-! ### isinstance(e, c), e the exception that the suite holds -/
end DL

set_option Elab.async false
set_option linter.all false
set_option maxRecDepth 100000
set_option maxHeartbeats 1000000
namespace R4x
open PySem PySem.Spec PyProof.Rows L2 TL DL TX TO R29 R43 R46
open RP (lcF lcA)
theorem rules_plain {rs : List D} (h : ∀ r ∈ rs, RuleOk r) {n : Nat} (hn : 3 ≤ n) : plainDs n rs = true := plains_of fun d hd => plain_mono 3 n d hn (ts_plain 3 d (h d hd).t (h d hd).g.r)
theorem cut_sub (xs : List D) (lo hi : Option Int) : (cutD xs lo hi).Sublist xs := (List.take_sublist _ _).trans (List.drop_sublist _ _)
def T_names43 : DTS Mem.deck :=
  (dSeq (dSet 2 (dC (D.str (Str.ofString "abcdefghijklmnopqrstuvwxyz"))))
      (dSeq (dPar 4 5 (daCons (dOp addD (dC (D.int 1)) (dCall spNext (daCons (dVar 0) (daCons (dC (D.int 8)) daNil)))) (daCons (dCm eqC (dCall spNext (daCons (dVar 0) (daCons (dC (D.int 2)) daNil))) (dC (D.int 0))) daNil)))
      (dSeq (dPar 6 7 (daCons (dCall spNext (daCons (dVar 0) (daCons (dVar 4) daNil))) (daCons (dCall spNext (daCons (dVar 0) (daCons (dC (D.int 26)) daNil))) daNil)))
      (dSeq (dParO 8 9 (dLc (diR1 (daCons (dVar 4) daNil)) (gN 11) dYes (dCall spPick (daCons (dVar 0) (daCons (dVar 2) daNil))) [11]))
      (dSeq (dFor (diR1 (daCons (dVar 1) daNil)) (gN 3)
        (dSeq (dSetListO 10 (daCons (dVar 8) daNil))
        (dSeq (dIf (dNotT (dTr (dVar 5))) (dSetLcO 10 (diR1 (daCons (dVar 4) daNil)) (gN 11) dYes (dCall spPick (daCons (dVar 0) (daCons (dVar 2) daNil))) [11]) dNext)
        (dSeq (dStO 10 (dOp ixD (dVar 2) (dOp modD (dB intD (daCons (dOp addD (dVar 7) (dVar 3)) daNil)) (dC (D.int 26)))) (dVar 6))
        (dApp 9 (dMt "str" joinD (dC (D.str (Str.ofString ""))) (daCons (dVar 10) daNil)))))))
      (dRet (dVar 9)))))))
theorem read_names43 : ∀ ds s Qd, (spNames43 : DSp Mem.deck) ds s Qd → (T_names43 : DTS Mem.deck) (endsOf Qd) (startD ["_law_reel_here", "_law_many", "_law_letters", "_law_turn", "_law_size", "_law_same_here", "_law_place", "_law_first", "_law_base", "_law_found", "_law_row", "_law_k"] ds) s := by
  intro ds s Qd h
  obtain ⟨a, b, c, hs, rfl, hn, hQ⟩ := h
  refine ⟨a, b, c, 8, hs, rfl, by decide, by decide, by omega, fun r1 k1 h0 h1 hk1 => ?_⟩
  refine ⟨a, b, c, 2, hs, rfl, by decide, by decide, (by show k1 < _; omega), fun r2 k2 g0 g1 hk2 => ?_⟩
  have hk2 : k2 = k1 + 1 := hk2
  refine ⟨rfl, rfl, _, _, rfl, ?_⟩
  refine ⟨a, b, c, 1 + r1, hs, rfl, by omega, by omega, (by show k2 < _; omega), fun p0 k3 p1 p2 hk3 => ?_⟩
  have hk3 : k3 = k2 + 1 := hk3
  refine ⟨a, b, c, 26, hs, rfl, by decide, by decide, (by show k3 < _; omega), fun f0 k4 f1 f2 hk4 => ?_⟩
  have hk4 : k4 = k3 + 1 := hk4
  refine ⟨_, _, rfl, ?_⟩
  obtain ⟨z, rfl⟩ : ∃ z : Nat, r1 = (z : Int) := ⟨r1.toNat, by omega⟩
  obtain ⟨pl, rfl⟩ : ∃ z : Nat, p0 = (z : Int) := ⟨p0.toNat, by omega⟩
  have hz8 : z + 1 ≤ 8 := by omega
  have hpl : pl < z + 1 := by omega
  obtain ⟨sz, hsz⟩ : ∃ sz : Int, sz = 1 + (z : Int) := ⟨_, rfl⟩
  have hszn : sz.toNat = z + 1 := by omega
  obtain ⟨sm, hsm⟩ : ∃ sm : Bool, sm = eqD (.int r2) (.int 0) := ⟨_, rfl⟩
  show dSeq (m := Mem.deck) _ _ _ [.sh (.any (.ref a)), .sh (.int 5), .sh alfa, .no, .sh (.int (1 + (z : Int))), .sh (.bl (eqD (.int r2) (.int 0))), .sh (.int (pl : Int)), .sh (.int f0), .no, .no, .no, .no] ⟨s.adr, k4⟩
  rw [← hsz, ← hsm]
  refine ⟨sz, rfl, by omega, by omega, (by rw [rngD_length]; exact line_of (by omega)), fun pre acc s' => s'.adr = s.adr ∧ s'.n = k4 + pre.length ∧ ∃ ls : List Nat, acc = (ls.map one).map D.str ∧ ls.length = pre.length ∧ ∀ c ∈ ls, 97 ≤ c ∧ c ≤ 122, ⟨rfl, rfl, [], rfl, rfl, by simp⟩, ?_, ?_⟩
  · rintro pre x post acc s' e - ⟨e1, e2, ls, rfl, hl, hc⟩
    obtain ⟨hp, rfl⟩ := rng_pre e
    refine ⟨rfl, a, b, c, _, e1.trans hs, rfl, (by decide +kernel), (by decide +kernel), by omega, fun d k' hd hk' => ?_⟩
    obtain ⟨ch, rfl, c1, c2⟩ := letter_of hd
    refine ⟨rfl, e1, (by show k' = _; rw [List.length_append, List.length_singleton]; omega), ls ++ [ch], by rw [List.map_append, List.map_append]; rfl, by rw [List.length_append, List.length_append, hl]; rfl, fun c' hc' => ?_⟩
    rcases List.mem_append.mp hc' with z | z
    · exact hc c' z
    · rw [List.mem_singleton.mp z]; exact ⟨c1, c2⟩
  · rintro acc s1 - ⟨e1, e2, ls, rfl, hl, hc⟩
    rw [rngD_length, hszn] at e2 hl
    have hn1 : s1.n ≤ s.n + 12 := by omega
    clear e2 hsm g0 g1 hk1 hk2 hk3 hk4
    refine ⟨5, rfl, by decide, by decide, fun pre ρ s' => s'.adr = s.adr ∧ s'.n ≤ s1.n + 8 * pre.length ∧ ∃ c3 c10 c11, ∃ xs : List Str, ρ = [.sh (.any (.ref a)), .sh (.int 5), .sh alfa, c3, .sh (.int sz), .sh (.bl sm), .sh (.int (pl : Int)), .sh (.int f0), .sh (.lst ((ls.map one).map D.str)), .ow (.lst (xs.map .str)), c10, c11] ∧
      xs.length = pre.length ∧ (∀ x ∈ xs, NameOk x) ∧ Wheel f0 pl xs, ⟨e1, Nat.le_refl _, _, _, _, [], rfl, rfl, by simp, fun i x h => by simp at h⟩, ?_, ?_⟩
    · rintro pre y post ρ s' e ⟨e1', e2', c3, c10, c11, xs, rfl, hl', hx, hw⟩
      obtain ⟨hp, rfl⟩ := rng_pre e
      have hp : pre.length < 5 := hp
      refine ⟨_, _, rfl, rfl, ?_⟩
      simp only [List.set_cons_zero, List.set_cons_succ]
      have fin : ∀ (s3 : Mem.deck.S) (y : Str) (c10 c11 : Sl), s3.adr = s.adr → s3.n ≤ s1.n + 8 * (pre.length + 1) → NameOk y → (tl y)[pl]? = some (97 + ((f0 + (pre.length : Int)) % 26).toNat) →
          (s3.adr = s.adr ∧ s3.n ≤ s1.n + 8 * (pre ++ [D.int (0 + (pre.length : Int))]).length ∧ ∃ c3 c10' c11', ∃ xs' : List Str, [Sl.sh (.any (.ref a)), .sh (.int 5), .sh alfa, .sh (.int (0 + (pre.length : Int))), .sh (.int sz), .sh (.bl sm), .sh (.int (pl : Int)), .sh (.int f0), .sh (.lst ((ls.map one).map D.str)), .ow (.lst ((xs ++ [y]).map .str)), c10, c11] = [.sh (.any (.ref a)), .sh (.int 5), .sh alfa, c3, .sh (.int sz), .sh (.bl sm), .sh (.int (pl : Int)), .sh (.int f0), .sh (.lst ((ls.map one).map D.str)), .ow (.lst (xs'.map .str)), c10', c11'] ∧
      xs'.length = (pre ++ [D.int (0 + (pre.length : Int))]).length ∧ (∀ x ∈ xs', NameOk x) ∧ Wheel f0 pl xs') := fun s3 y c10 c11 ea en hy hy2 => by
        refine ⟨ea, (by rw [List.length_append, List.length_singleton]; exact en), _, _, _, xs ++ [y], rfl, (by rw [List.length_append, List.length_append, hl']; rfl), fun x hx' => ?_, wheel_app hw (by rw [hl']; exact hy2)⟩
        rcases List.mem_append.mp hx' with h | h
        · exact hx x h
        · rw [List.mem_singleton.mp h]; exact hy
      refine ⟨_, rfl, ifB2 (fun q => ?_) fun q => ?_⟩
      · refine ⟨sz, rfl, by omega, by omega, (by rw [rngD_length]; exact line_of (by omega)), fun pre2 acc s3 => s3.adr = s.adr ∧ s3.n = s'.n + pre2.length ∧ ∃ ls : List Nat, acc = (ls.map one).map D.str ∧ ls.length = pre2.length ∧ ∀ c ∈ ls, 97 ≤ c ∧ c ≤ 122, ⟨e1', rfl, [], rfl, rfl, by simp⟩, ?_, ?_⟩
        · rintro pre2 x post acc s3 e - ⟨e1, e2, ls, rfl, hl, hc⟩
          obtain ⟨hp2, rfl⟩ := rng_pre e
          rw [hszn] at hp2
          refine ⟨rfl, a, b, c, _, e1.trans hs, rfl, (by decide +kernel), (by decide +kernel), by omega, fun d k' hd hk' => ?_⟩
          obtain ⟨ch, rfl, c1, c2⟩ := letter_of hd
          refine ⟨rfl, e1, (by show k' = _; rw [List.length_append, List.length_singleton]; omega), ls ++ [ch], by rw [List.map_append, List.map_append]; rfl, by rw [List.length_append, List.length_append, hl]; rfl, fun c' hc' => ?_⟩
          rcases List.mem_append.mp hc' with z | z
          · exact hc c' z
          · rw [List.mem_singleton.mp z]; exact ⟨c1, c2⟩
        · rintro acc s3 - ⟨e1, e2, ls2, rfl, hl2, hc2⟩
          rw [rngD_length, hszn] at e2 hl2
          refine ⟨_, rfl, ?_⟩
          exact names_tail (by omega) hl2 hz8 hpl hc2 fun y c10 hy hy2 => fin s3 y c10 _ e1 (by omega) hy hy2
      · exact names_tail (by omega) hl hz8 hpl hc fun y c10 hy hy2 => fin s' y c10 _ e1' (by omega) hy hy2
    · rintro ρ s' ⟨e1', e2', c3, c10, c11, xs, rfl, hl', hx, hw⟩
      rw [rngD_length] at e2' hl'
      have e2' : s'.n ≤ s1.n + 8 * 5 := e2'
      have hl' : xs.length = 5 := hl'
      have := hQ xs s'.n hl' hx (wheel_nodup f1 f2 (by omega) hw) (by omega)
      rw [← e1'] at this
      exact this
def T_spots43 : DTS Mem.deck :=
  (dSeq (dSetL 2 (daCons (dOp ixD (dVar 1) (dC (D.int 0))) (daCons (dOp ixD (dVar 1) (dC (D.int 1))) daNil)))
      (dSeq (dFor (diR1 (daCons (dOp addD (dC (D.int 2)) (dCall spNext (daCons (dVar 0) (daCons (dC (D.int 7)) daNil)))) daNil)) (gN 3)
        (dSeq (dSet 4 (dBack (dOp addD (dOp addD (dCall spPick (daCons (dVar 0) (daCons (dVar 2) daNil))) (dC (D.str (Str.ofString ".")))) (dCall spPick (daCons (dVar 0) (daCons (dSl slD (dVar 1) doNone (doSome (dC (D.int 4)))) daNil))))))
        (dSeq (dIf (dCmT eqC (dCall spNext (daCons (dVar 0) (daCons (dC (D.int 6)) daNil))) (dC (D.int 0))) (dSet 4 (dOp ixD (dVar 1) (dC (D.int 2)))) dNext)
        (dIf (dBackT (dAndT (dCmT notInD (dVar 4) (dVar 2)) (dCmT ltD (dMt "str" countD (dVar 4) (daCons (dC (D.str (Str.ofString "."))) daNil)) (dC (D.int 4))))) (dApp 2 (dVar 4)) dNext))))
      (dRet (dVar 2))))
theorem read_spots43 : ∀ ds s Qd, (spSpots : DSp Mem.deck) ds s Qd → (T_spots43 : DTS Mem.deck) (endsOf Qd) (startD ["_law_reel_here", "_law_names_here", "_law_found", "_law_turn", "_law_path"] ds) s := by
  intro ds s Qd h
  obtain ⟨a, b, c, ns, had, rfl, hl, hns, hnd, hn, hQ⟩ := h
  have zl : ∀ n, n ≤ 2000 → n ≤ sizeLine := fun n h => line_of (by omega)
  have hlim : drawLim = 1152921504606846976 := rfl
  have hslim : strLim = 1000000 := rfl
  have hd' : (Str.ofString ".") = (⟨#[46]⟩ : Str) := by decide +kernel
  obtain ⟨n0, n1, n2, n3, n4, rfl⟩ : ∃ n0 n1 n2 n3 n4, ns = [n0, n1, n2, n3, n4] := by
    match ns, hl with
    | [n0, n1, n2, n3, n4], _ => exact ⟨_, _, _, _, _, rfl⟩
  have m0 : NameOk n0 := hns _ (by simp)
  have m1 : NameOk n1 := hns _ (by simp)
  have m2 : NameOk n2 := hns _ (by simp)
  have hne : n0 ≠ n1 := fun z => by rw [z] at hnd; simp at hnd
  have one : ∀ {x : Str}, NameOk x → rp (.str x) = true ∧ ∀ y ∈ splS 46 x, okName y = true := fun {x} h => by
    have e := spl_name h
    have k : ∀ y ∈ splS 46 x, okName y = true := fun y hy => by
      rw [e] at hy
      rw [List.mem_singleton.mp hy]; exact nm_ok h
    exact ⟨rp_of (by rw [e]; show 1 ≤ 4; decide) k, k⟩
  refine ⟨.str n0, atI_nat (j := 0) rfl, .str n1, atI_nat (j := 1) rfl, zl _ (Nat.le_of_ble_eq_true rfl), ?_⟩
  refine ⟨a, b, c, 7, had, rfl, by decide, by decide, (by omega), fun r0 k0 r1 r2 hk0 => ?_⟩
  have hk0 : k0 = s.n + 1 := hk0
  refine ⟨2 + r0, rfl, by omega, by omega, fun pre ρ s' => s'.adr = s.adr ∧ s'.n ≤ s.n + 1 + 3 * pre.length ∧ ∃ c3 c4 xs, ρ = [.sh (.any (.ref a)), .sh (.lst ([n0, n1, n2, n3, n4].map .str)), .ow (.lst ((xs : List Str).map .str)), c3, c4] ∧ (∀ x ∈ xs, rp (.str x) = true) ∧ xs.Nodup ∧ n0 ∈ xs ∧ n1 ∈ xs ∧ xs.length ≤ 2 + pre.length,
    ⟨rfl, (by show k0 ≤ _; omega), _, _, [n0, n1], rfl, ?_, ?_, by simp, by simp, Nat.le_refl _⟩, ?_, ?_⟩
  · intro x hx
    rcases List.mem_cons.mp hx with rfl | hx
    · exact (one m0).1
    · rw [List.mem_singleton.mp hx]; exact (one m1).1
  · simpa using hne
  · rintro pre y post ρ s' e ⟨e1, e2, c3, c4, xs, rfl, h1, h2, h3, h4, h5⟩
    obtain ⟨hp, rfl⟩ := rng_pre e
    have hp : pre.length ≤ 7 := by omega
    have hxp : 0 < xs.length := List.length_pos_of_mem h3
    have hxn : itemsOf (.lst (xs.map D.str)) ≠ [] := fun z => by
      have z : xs.map D.str = [] := z
      rw [List.map_eq_nil_iff] at z
      rw [z] at hxp; simp at hxp
    refine ⟨a, b, c, _, e1.trans had, rfl, hxn, (by show (xs.map D.str).length ≤ 1000; rw [List.length_map]; omega), (by omega), fun d k1 hd hk1 => ?_⟩
    obtain ⟨o, ho, rfl⟩ : ∃ o ∈ xs, D.str o = d := List.mem_map.mp hd
    have hol := rp_all (h1 o ho)
    refine ⟨by rw [hslim, hd']; show o.length + 1 ≤ _; omega, ?_⟩
    have hk1 : k1 = s'.n + 1 := hk1
    refine ⟨4, rfl, a, b, c, _, e1.trans had, rfl, (by intro z; cases z), (by show 4 ≤ 1000; decide), (by show k1 < _; omega), fun d k2 hd hk2 => ?_⟩
    have hk2 : k2 = k1 + 1 := hk2
    obtain ⟨n, hn4, rfl⟩ : ∃ n ∈ [n0, n1, n2, n3], D.str n = d := List.mem_map.mp hd
    have hnk : NameOk n := hns n (List.mem_of_mem_take (i := 4) hn4)
    have hlen : (o ++ Str.ofString ".").length = o.length + 1 := by rw [hd', len_tl, tl_append, List.length_append, ← len_tl, ← len_tl]; rfl
    refine ⟨by rw [hslim, hlen]; have := hnk.2.1; omega, rfl, ?_⟩
    have hz : ∀ y ∈ splS 46 (o ++ Str.ofString "." ++ n), okName y = true := fun y hy => by
      rw [hd', splS_app] at hy
      rcases List.mem_append.mp hy with z | z
      · exact hol.2.2.2 y z
      · exact (one hnk).2 y z
    refine ⟨a, b, c, 6, e1.trans had, rfl, by decide, by decide, (by show k2 < _; omega), fun r k3 q0 q1 hk3 => ?_⟩
    have hk3 : k3 = k2 + 1 := hk3
    refine ⟨rfl, rfl, ?_⟩
    rw [eqi]
    have hk : k3 ≤ s.n + 1 + 3 * (pre.length + 1) := by omega
    have stay : ∀ z c3, s'.adr = s.adr ∧ k3 ≤ s.n + 1 + 3 * (pre ++ [D.int (0 + (pre.length : Nat))]).length ∧ ∃ d3 d4 ys, ([.sh (.any (.ref a)), .sh (.lst ([n0, n1, n2, n3, n4].map .str)), .ow (.lst (xs.map .str)), c3, .sh (.str z)] : List Sl) = [.sh (.any (.ref a)), .sh (.lst ([n0, n1, n2, n3, n4].map .str)), .ow (.lst ((ys : List Str).map .str)), d3, d4] ∧ (∀ x ∈ ys, rp (.str x) = true) ∧ ys.Nodup ∧ n0 ∈ ys ∧ n1 ∈ ys ∧ ys.length ≤ 2 + (pre ++ [D.int (0 + (pre.length : Nat))]).length := fun z c3 =>
      ⟨e1, by rw [List.length_append, List.length_singleton]; exact hk, _, _, xs, rfl, h1, h2, h3, h4, by rw [List.length_append]; omega⟩
    have more : ∀ z c3, z ∉ xs → rp (.str z) = true → s'.adr = s.adr ∧ k3 ≤ s.n + 1 + 3 * (pre ++ [D.int (0 + (pre.length : Nat))]).length ∧ ∃ d3 d4 ys, ([.sh (.any (.ref a)), .sh (.lst ([n0, n1, n2, n3, n4].map .str)), .ow (.lst ((xs ++ [z]).map .str)), c3, .sh (.str z)] : List Sl) = [.sh (.any (.ref a)), .sh (.lst ([n0, n1, n2, n3, n4].map .str)), .ow (.lst ((ys : List Str).map .str)), d3, d4] ∧ (∀ x ∈ ys, rp (.str x) = true) ∧ ys.Nodup ∧ n0 ∈ ys ∧ n1 ∈ ys ∧ ys.length ≤ 2 + (pre ++ [D.int (0 + (pre.length : Nat))]).length := fun z c3 hz hr =>
      ⟨e1, by rw [List.length_append, List.length_singleton]; exact hk, _, _, xs ++ [z], rfl, fun x hx => (List.mem_append.mp hx).elim (h1 x) fun w => by rw [List.mem_singleton.mp w]; exact hr, List.nodup_append.mpr ⟨h2, by simp, fun u hu v hv => by rw [List.mem_singleton.mp hv]; rintro rfl; exact hz hu⟩, List.mem_append_left _ h3, List.mem_append_left _ h4, by rw [List.length_append, List.length_append]; simp; omega⟩
    refine ifBd (fun _ => ?_) fun _ => ?_
    · refine ⟨.str n2, atI_nat (j := 2) rfl, ?_⟩
      exact spot43 (by omega) (one m2).2 (fun u v => more n2 _ u v) (stay n2 _)
    · exact spot43 (by omega) hz (fun u v => more _ _ u v) (stay _ _)
  · rintro ρ s' ⟨e1, e2, c3, c4, xs, rfl, h1, h2, h3, h4, h5⟩
    rw [rngD_length] at e2 h5
    have := hQ xs s'.n ⟨h1, h2, by omega, n0, n1, h3, h4, spl_name m0, spl_name m1, hne⟩ (by omega)
    rw [← e1] at this
    exact this
end R4x

set_option Elab.async false
set_option linter.all false
set_option maxRecDepth 100000
set_option maxHeartbeats 1000000
namespace R30
open PySem PySem.Spec PyProof.Rows L2 TL DL R29
theorem gd_right {N W n : Nat} {d : D} (h : Gd N W n d) (h1 : N ≤ 10000) (h2 : W ≤ 380000) (h3 : n ≤ 60) : V3 d ∧ repOk d = true := by
  refine ⟨sm_v3 h.s h1, ?_⟩
  obtain ⟨a1, a2⟩ := gl_leaves d h.g
  have hh := PyData.shown_le 41 (by decide) (pyR d) a1
  have hw : (pyR d).weight ≤ 380000 := Nat.le_trans h.w h2
  unfold repOk
  rw [rep_le h.r 60 h3, a2, Bool.true_and, Bool.true_and]
  refine decide_eq_true (Nat.le_trans hh ?_)
  have : (16500000 : Nat) ≤ sizeLine := by rw [sizeLine_eq]; decide
  omega
end R30

set_option Elab.async false
set_option linter.all false
set_option maxRecDepth 100000
set_option maxHeartbeats 2000000
/-! EX4: try .. except C as e, the exception kept as a value: it may be stored, asked for its class, its fields read, also behind the try -/
namespace DL
open PySem PySem.Spec PyProof.Rows L2 TL
theorem exr_ok {P : Program} {w : World} {H : Hp} {h : Heap} {a C : Addr} {d : Option Addr} {oe : Obj} {vs : Array Value} (e : h.get? a = some oe) (c : oe.cls = .ref C) (q : oe.dict = d) (v : oe.data = .fields vs) : ObjOk P w H h a (exr a C d) :=
  ⟨⟨oe, vs, e, c, q, v⟩, ⟨oe, e⟩, fun _ _ z k => by
    obtain ⟨o, vs, z1, z2⟩ := z
    exact ⟨o, vs, k _ z1, z2⟩⟩
theorem exr_at {P : Program} {w : World} {H : Hp} {h : Heap} {a C : Addr} {d : Option Addr} (hok : HOk P w H h) (e : H a = some (exr a C d)) : ∃ (oe : Obj) (vs : Array Value), h.get? a = some oe ∧ oe.cls = .ref C ∧ oe.dict = d ∧ oe.data = .fields vs := by
  have z : ObjOk P w H h a (.ext fun h => ∃ (oe : Obj) (vs : Array Value), h.get? a = some oe ∧ oe.cls = .ref C ∧ oe.dict = d ∧ oe.data = .fields vs) := hok a _ e
  exact z.1
section
variable {X : Cx} {pins : List (Addr × Obj)} {σ : L2.St} {H : Hp} {s : Shared}
/-- an object that is new since the entry, and of no one, is tracked from now on -/
theorem track_inv {a C : Addr} {d : Option Addr} {oe : Obj} {vs : Array Value} (I : Inv X pins σ H s) (e : s.heap.get? a = some oe) (c : oe.cls = .ref C) (q : oe.dict = d) (v : oe.data = .fields vs) (na : H a = none) (n0 : X.s_0.heap.get? a = none) (nL : a ≠ X.env.locals) (nP : ∀ p ∈ X.pn ++ pins, p.1 ≠ a) :
    Inv X pins σ (upd H a (exr a C d)) s := by
  have other : ∀ b, H b ≠ none → b ≠ a := fun b hb z => hb (z ▸ na)
  refine ⟨I.ok, I.os, I.bare, ⟨I.base.keep, I.base.slot, fun b o z n hx => ?_, I.base.there, fun b xs z => ?_, fun b o xs z => ?_, fun b ps z => ?_⟩, I.loc, I.cell, ?_, fun x cc z => ?_, fun p hp => ?_, fun b o z => ?_, I.len⟩
  · rw [upd_ne (fun y => by rw [y, n0] at z; cases z)]; exact I.base.free b o z n hx
  · have t := I.base.tups b xs z
    rw [upd_ne (other b (by rw [t]; exact fun w => nomatch w))]; exact t
  · have t := I.base.frzs b o xs z
    rw [upd_ne (other b (by rw [t]; exact fun w => nomatch w))]; exact t
  · obtain ⟨m0, t⟩ := I.base.tbls b ps z
    exact ⟨m0, by rw [upd_ne (other b (by rw [t]; exact fun w => nomatch w))]; exact t⟩
  · rw [upd_ne (Ne.symm nL)]; exact I.free
  · have hc := I.freeC x cc z
    obtain ⟨wv, oc, h1, h2⟩ := I.cell x cc z
    rw [upd_ne (fun y => by rw [y, e] at h1; cases h1; rw [v] at h2; cases h2)]
    exact hc
  · obtain ⟨h1, h2, h3, h4, h5⟩ := I.pin p hp
    exact ⟨h1, by rw [upd_ne (nP p hp)]; exact h2, h3, h4, h5⟩
  · by_cases hb : b = a
    · subst hb
      rw [upd_same] at z
      cases z
      exact exr_ok e c q v
    · rw [upd_ne hb] at z
      exact (I.hok b o z).stay (fun _ _ _ k => k) (fun c k => by rw [upd_ne (other c (by rw [k]; exact fun w => nomatch w))]; exact k) fun c xs k => by rw [upd_ne (other c (by rw [k]; exact fun w => nomatch w))]; exact k
theorem in_suite (I : Inv X pins σ H s) (a : Addr) : Inv (X.suite a (X.pn ++ pins)) [] σ H s :=
  ⟨I.ok.suite _ _, I.os, I.bare, I.base, I.loc, I.cell, I.free, I.freeC, fun p hp => I.pin p (by rw [List.append_nil] at hp; exact hp), I.hok, I.len⟩
theorem off_suite {a : Addr} {pn' : List (Addr × Obj)} (I : Inv (X.suite a (X.pn ++ pins)) pn' σ H s) (ok : X.Ok) : Inv X pins σ H s :=
  ⟨ok, I.os, I.bare, I.base, I.loc, I.cell, I.free, I.freeC, fun p hp => I.pin p (List.mem_append_left _ hp), I.hok, I.len⟩
end
/-- what the clause 'except x as n' wishes, the exception kept -/
def wKeep (K : PySem.W.Frag) (c : Value) (i : Nat) (ts : TS) (D : Ends) : WX := fun cls d σ H => ∃ C : Addr, cls = .ref C ∧ PySem.W.exmOne K cls c = some true ∧ ∀ a, H a = none →
  ts { nx := fun σ' H' => D.nx (σ'.set i none) H', rt := D.rt, bk := fun σ' H' => D.bk (σ'.set i none) H', ct := fun σ' H' => D.ct (σ'.set i none) H' } (σ.set i (some (.ref a))) (upd H a (exr a C d))
section
variable {X : Cx} {x n : Str} {c : Value} {i : Nat} {body suite : List Stmt} {b₀ : Stmt} {np pos pos' : Pos} {tb : WX → TS} {ts : TS}
theorem ps_try_keep (hs : X.stack = X.env :: X.outer) (hf : X.env.frame = some X.env.locals) (hN : X.N.Nodup) (hi : X.N[i]? = some n) (hln : X.env.kindOf n = some .local) (hc : Names X x c) (hex : X.ex = [])
    (hb : ∀ (W : WX) (pn : List (Addr × Obj)) (xe : Value → Shared → Prop), Takes (X.tr pn xe) W → PassesOwn (model X.prog X.w) X.A X.env xe → PSs (X.tr pn xe) body (tb W))
    (hsu : ∀ (a : Addr) (pn : List (Addr × Obj)), PSs (X.suite a pn) (b₀ :: suite) ts) :
    PS X (.Try body [.ExceptHandler (some (.Name x np)) (some n) (b₀ :: suite) pos'] [] [] pos) (fun D σ H => tb (wKeep X.K c i ts D) D σ H) := by
  refine ⟨fun pins s σ H D I h => ?_⟩
  have okX := I.ok
  have fr0 : X.A.frames = some (X.env :: X.outer) := by rw [okX.frames, hs]
  have run0 := fun xe tk pa => (hb (wKeep X.K c i ts D) (X.pn ++ pins) xe tk pa).run [] s σ H D (I.toTry _) h
  refine wpAny_Try_except (wpAny_mono (run0 (fun e s₁ => wpAny (model X.prog X.w) X.A (noteFrame e X.env) (fun _ s₂ => wpAny (model X.prog X.w) X.A (setFlight e none) (fun _ s₃ => wpAny (model X.prog X.w) X.A (handleBy e X.env [.ExceptHandler (some (.Name x np)) (some n) (b₀ :: suite) pos']) (SP X pins D) X.xe s₃) X.xe s₂) X.xe s₁)
    (fun u s' air => ?_) PassesOwn.looking) (fun fl s1 back => ?_) fun e s1 he => he)
  · obtain ⟨a, B, sI, ps1, σ1, H1, cls, d, rfl, J0, nb, up0, sky, na, os0, ag, C, rfl, em, go⟩ := air
    have J : Inv X pins σ1 H1 sI := J0.ofTry okX
    have newA : B.get? a = none := by
      rcases sky with z | z | z
      · exact z.2.1
      · exact z.2.1
      · exact z.2.1
    rw [show (X.tr (X.pn ++ pins) _).stack = X.env :: X.outer from hs] at sky
    show wpAny (model X.prog X.w) X.A (noteFrame (.ref a) X.env) _ _ _
    refine Sky.land Zc.steady fr0 hf sky fun hA flA upA' => ?_
    have JA : Inv X pins σ1 H1 { s' with heap := hA } := J.landed nb flA.1 (up0.trans upA') os0 ag
    obtain ⟨oA, vA, eA, zA, dA⟩ := flA.there
    have offFr : a ∉ frs (X.env :: X.outer) := fun hm => by
      obtain ⟨_, o2, e2, nf⟩ := flA.2.2.1.mem hm
      rw [eA] at e2; cases e2
      exact nf _ dA
    have offL : a ≠ X.env.locals := fun z => offFr (List.mem_filterMap.mpr ⟨X.env, List.mem_cons_self, by rw [hf, z]⟩)
    have inB : ∀ b o, sI.heap.get? b = some o → b ∉ frs X.stack → b ≠ a := fun b o z nf y => by
      have := nb b o z nf
      rw [y, newA] at this; cases this
    have new0 : X.s_0.heap.get? a = none := by
      cases z : X.s_0.heap.get? a with
      | none => rfl
      | some o =>
        obtain ⟨o2, z2⟩ := J.base.there a o z (by rw [hex]; exact fun y => nomatch y)
        exact absurd rfl (inB a o2 z2 (by rw [hs]; exact offFr))
    have newP : ∀ p ∈ X.pn ++ pins, p.1 ≠ a := fun p hp => by
      obtain ⟨h1, _, h3, h4, _⟩ := J.pin p hp
      refine inB p.1 _ h1 fun hm => ?_
      rcases List.mem_cons.mp (J.stkSub p.1 hm) with z | z
      · exact h3 z
      · exact h4 z
    refine wpAny_handleBy_cons (codeAny_handlers_test ?_) (by intro q; cases q)
    have look : PySem.W.Looks (model X.prog X.w) hA (typeOf (.ref a)) (.ref C) := fun A Q E s k q => wpAny_typeOf_ref (k _ _ eA) (by rw [zA.1]; exact q)
    have fits := PySem.W.exm_one (M := model X.prog X.w) JA.kIn look em
    have SA := in_suite JA a
    have named : ∀ {Q : Value → Shared → Prop} {E : Value → Shared → Prop}, Q c { s' with heap := hA } → wpAny (model X.prog X.w) (X.A.mark (some (.ref a))) (eval (.Name x np) X.env) Q E { s' with heap := hA } := fun {Q E} q => by
      obtain ⟨g, db, m1 | ⟨m1, v1, n1⟩⟩ := hc
      · exact ld_glob (X := X.suite a (X.pn ++ pins)) SA g m1 q db
      · exact ld_blt (X := X.suite a (X.pn ++ pins)) SA g m1 v1 q n1 db
    refine named (fits.here (codeAny_handlers_suite_as (HandSPX.lands_againZ flA fun hB flB upB => ?_)))
    have JB : Inv X pins σ1 H1 { s' with heap := hB } := J.landed nb flB.1 ((up0.trans upA').trans upB) os0 ag
    obtain ⟨oB, vB, eB, zB, dB⟩ := flB.there
    have SB := in_suite (track_inv JB eB zB.1 zB.2 dB na new0 offL newP) a
    refine store_ok (X := X.suite a (X.pn ++ pins)) (v := .ref a) SB hN hi (.inl hln) rfl (fun s5 S5 => ?_) (.inr hln)
    have off : ∀ {σ6 : L2.St} {H6 : Hp} {s6 : Shared} {Q : Shared → Prop}, Inv (X.suite a (X.pn ++ pins)) [] σ6 H6 s6 → (∀ s7, Inv X pins (σ6.set i none) H6 s7 → Q s7) → wpAny (model X.prog X.w) X.A (do bindName X.env n .none; unbindBehindTheSuite X.env n pos') (fun _ s7 => Q s7) X.xe s6 :=
      fun {σ6 H6 s6 Q} S6 hq => gone_ok (off_suite S6 okX) hN hi hln hq
    refine wpAny_mono ((hsu a (X.pn ++ pins)).run [] s5 _ _ _ S5 (go a na)) (fun fl s6 res => ?_) fun _ _ z => z.elim
    rcases fl with _ | _ | _ | u
    · obtain ⟨σ6, H6, S6, q6⟩ := res
      exact off S6 fun s7 J7 => ⟨_, _, J7, q6⟩
    · obtain ⟨σ6, H6, S6, q6⟩ := res
      exact off S6 fun s7 J7 => ⟨_, _, J7, q6⟩
    · obtain ⟨σ6, H6, S6, q6⟩ := res
      exact off S6 fun s7 J7 => ⟨_, _, J7, q6⟩
    · obtain ⟨v6, σ6, H6, S6, r6, q6⟩ := res
      exact off S6 fun s7 J7 => ⟨_, _, _, J7, r6, q6⟩
  · rcases fl with _ | _ | _ | u
    · obtain ⟨σ2, H2, J2, q2⟩ := back
      exact wpAny_execs_nil ⟨σ2, H2, J2.ofTry okX, q2⟩
    · obtain ⟨σ2, H2, J2, q2⟩ := back
      exact ⟨σ2, H2, J2.ofTry okX, q2⟩
    · obtain ⟨σ2, H2, J2, q2⟩ := back
      exact ⟨σ2, H2, J2.ofTry okX, q2⟩
    · obtain ⟨v2, σ2, H2, J2, r2, q2⟩ := back
      exact ⟨v2, σ2, H2, J2.ofTry okX, r2, q2⟩
end
end DL
namespace DL
open PySem PySem.Spec PyProof.Rows L2 TL
section
variable {X : Cx} {m : Mem} {E : Ent m} {x n : Str} {c : Value} {i : Nat} {body suite : List Stmt} {b₀ : Stmt} {np pos pos' : Pos} {tb ts : DTS m}
/-- try: .. except C as e: .., the exception data in e's place -/
def dTryK {m : Mem} (tbl : List Addr) (i : Nat) (tb ts : DTS m) : DTS m := fun dd ρ s => tb { dd with ex := fun C ns es ρ1 s1 => C ∈ tbl ∧ ts { nx := fun ρ2 s2 => dd.nx (ρ2.set i .no) s2, rt := dd.rt, bk := fun ρ2 s2 => dd.bk (ρ2.set i .no) s2, ct := fun ρ2 s2 => dd.ct (ρ2.set i .no) s2 } (ρ1.set i (.sh (.exk C ns es))) s1 } ρ s
theorem ds_tryK (tbl : List Addr) (hs : X.stack = X.env :: X.outer) (hf : X.env.frame = some X.env.locals) (hN : X.N.Nodup) (hi : X.N[i]? = some n) (hln : X.env.kindOf n = some .local) (hc : Names X x c) (hex : X.ex = []) (ht : ∀ C ∈ tbl, PySem.W.exmOne X.K (.ref C) c = some true)
    (hb : ∀ (W : WX) (pn : List (Addr × Obj)) (xe : Value → Shared → Prop), Takes (X.tr pn xe) W → PassesOwn (model X.prog X.w) X.A X.env xe → PSs (X.tr pn xe) body (upS X.K m (E.at W) tb))
    (hsu : ∀ (a : Addr) (pn : List (Addr × Obj)), PSs (X.suite a pn) (b₀ :: suite) (upS X.K m (E.at fun _ _ _ _ => False) ts)) :
    PS X (.Try body [.ExceptHandler (some (.Name x np)) (some n) (b₀ :: suite) pos'] [] [] pos) (upS X.K m E (dTryK tbl i tb ts)) :=
  PS.imp (ps_try_keep (tb := fun W => upS X.K m (E.at W) tb) (ts := upS X.K m (E.at fun _ _ _ _ => False) ts) hs hf hN hi hln hc hex hb hsu) fun DD σ H h => by
    obtain ⟨F, ρ, s, dd, r, o, hq, f⟩ := h
    refine ⟨F, ρ, s, _, r, o.re rfl rfl rfl, hq, fun F H σ ρ s sm r o => f.nx F H σ ρ s sm r (o.re rfl rfl rfl), fun F H σ ρ s d v sm r o => f.rt F H σ ρ s d v sm r (o.re rfl rfl rfl), fun F H σ ρ s sm r o => f.bk F H σ ρ s sm r (o.re rfl rfl rfl), fun F H σ ρ s sm r o => f.ct F H σ ρ s sm r (o.re rfl rfl rfl), ?_⟩
    intro F1 H1 σ1 ρ1 s1 C ns es dx fs sm r1 o1 hx nE nF nR nO e1 e2 ⟨hC, q⟩
    refine ⟨C, rfl, ht C hC, fun a na => ?_⟩
    have r2 := r1.adopt hx nF nR nO
    have sF : Same F1 (upd F1 dx (.xd fs)) := same_upd nF
    have o1' : Own m E F1 H1 σ1 ρ1 s1 := o1.re rfl rfl rfl
    have o2 : Own m E (upd F1 dx (.xd fs)) H1 σ1 ρ1 s1 := ⟨o1'.ext.trans sF, o1'.keep, o1'.alive, fun b u z => by
      by_cases hb : b = dx
      · exact .inr (by rw [hb]; exact nE)
      · rw [upd_ne hb] at z; exact o1'.fresh b u z, o1'.regf, o1'.own⟩
    have g : Grow (upd F1 dx (.xd fs)) H1 (upd (upd F1 dx (.xd fs)) a (exr a C (some dx))) (upd H1 a (exr a C (some dx))) := Grow.new r2.sub na
    have ne : dx ≠ a := fun z => by rw [z, na] at hx; cases hx
    have rp : Rep X.K (upd (upd F1 dx (.xd fs)) a (exr a C (some dx))) (.exk C ns es) (.ref a) := ⟨a, dx, fs, rfl, upd_same, by rw [upd_ne ne, upd_same], e1, Reps.mono (sF.trans g.fF) _ _ e2⟩
    have f2 := f.mono ((sm.trans sF).trans g.fF)
    exact ⟨_, _, s1, _, (r2.grow g).put rp, (((o2.stp g.stp).put (K := X.K)).re rfl rfl rfl), q, fun F H σ ρ s sm r o q => f2.nx F H _ _ s sm (r.drop i) (o.drop i rfl rfl rfl) q, fun F H σ ρ s d v sm r o => f2.rt F H σ ρ s d v sm r (o.re rfl rfl rfl),
      fun F H σ ρ s sm r o q => f2.bk F H _ _ s sm (r.drop i) (o.drop i rfl rfl rfl) q, fun F H σ ρ s sm r o q => f2.ct F H _ _ s sm (r.drop i) (o.drop i rfl rfl rfl) q, fun _ _ _ _ _ _ _ _ _ _ _ _ _ _ _ _ _ _ _ _ q => q.elim⟩
end
/-! ### e.f -/
def tKfl (K : PySem.W.Frag) (C : Addr) (f : Str) (te : TE) : TE := fun σ H Q => te σ H fun x H1 => ∃ (a d : Addr) (fs : List (Str × V)) (v : V), x = .ref a ∧ H1 a = some (exr a C (some d)) ∧ H1 d = some (.xd fs) ∧ fs.lookup f = some v ∧ Q v H1
theorem exk_inst {X : Cx} {pins : List (Addr × Obj)} {σ : L2.St} {H : Hp} {s : Shared} {a C d : Addr} {fs : List (Str × V)} (I : Inv X pins σ H s) (ea : H a = some (exr a C (some d))) (ed : H d = some (.xd fs)) :
    ∃ oe od, PySem.W.InstAt s.heap a oe C (some od) ∧ ∃ mA : Str → Option Value, (∀ f, PySem.W.lookIn f od = some (mA f)) ∧ ∀ f, RelO (fs.lookup f) (mA f) := by
  obtain ⟨oe, vs, h1, h2, h3, h4⟩ := exr_at I.hok ea
  have hob : ObjOk X.prog X.w H s.heap d (.xd fs) := I.hok d _ ed
  obtain ⟨mA, hns, rel⟩ := hob
  obtain ⟨od, ho, hl⟩ := lookIn_ns hns
  exact ⟨oe, od, ⟨h1, h2, by unfold PySem.W.notCls; rw [h4] <;> rfl, by rw [h3]; exact ho⟩, mA, hl, rel⟩
section
variable {X : Cx} {m : Mem} {e : Expr} {te : DT m} {pos p : Pos} {C : Addr} {f : Str}
theorem pe_kfl {te : TE} (T : XC X.K C) (no : PySem.W.findIn X.K (.ref C) f = some none) (he : PE X e te) (hb : attributeBase e f X.env (eval e X.env) = eval e X.env := by rfl) : PE X (.Attribute e f pos) (tKfl X.K C f te) :=
  ⟨fun pins s σ H Q I h => attr_of hb (thn (he.run pins s σ H _ I h) fun u s1 ⟨x, H1, I1, rx, a, d, fs, v, ex, ea, ed, l, q⟩ => by
    subst ex
    have eu : u = Value.ref a := rx
    subst eu
    obtain ⟨oe, od, J, mA, hl, rel⟩ := exk_inst I1 ea ed
    obtain ⟨w, hw, rw'⟩ := RelO.some_of (v := v) (o := mA f) (by rw [← l]; exact rel f)
    exact PySem.HandSPX.exc_get I1.kIn J T.ga T.gg T.sb (PySem.W.findObj_own T.hd no rfl (by rw [hl, hw])) (handed_of rw') ⟨v, H1, I1.tok _, rw', q⟩)⟩
def dKf {m : Mem} (C : Addr) (f : Str) (te : DT m) : DT m := fun ρ s Q => te ρ s fun z ρ1 s1 => ∃ ns es v, z = .exk C ns es ∧ (ns.zip es).lookup f = some v ∧ Q v ρ1 s1
theorem de_kf (T : XC X.K C) (no : PySem.W.findIn X.K (.ref C) f = some none) (he : PE X e (up X.K m te)) (hb : attributeBase e f X.env (eval e X.env) = eval e X.env := by rfl) : PE X (.Attribute e f pos) (up X.K m (dKf C f te)) :=
  PE.imp (pe_kfl T no he hb) fun σ H Q h => by
    obtain ⟨F, ρ, s, Qd, r, ht, hQ⟩ := h
    refine ⟨F, ρ, s, _, r, ht, fun z ρ1 s1 v F1 H1 ⟨ns, es, w, ez, el, q1⟩ r1 st1 rv => ?_⟩
    subst ez
    obtain ⟨a, d, fs, rfl, h1, h2, h3, h4⟩ := rv
    subst h3
    obtain ⟨u, hl, ru⟩ := fld_rep h4 el
    exact ⟨a, d, fs, u, rfl, r1.sub _ _ h1, r1.sub _ _ h2, hl, hQ w ρ1 s1 u F1 H1 q1 r1 st1 ru⟩
/-! ### isinstance(e, c), isinstance(e, (c, ..)) -/
def ExkAt (K : PySem.W.Frag) (H : Hp) (a C : Addr) : Prop := XC K C ∧ ∃ d fs, H a = some (exr a C (some d)) ∧ H d = some (.xd fs)
theorem exk_look {pins : List (Addr × Obj)} {σ : L2.St} {H : Hp} {s : Shared} {a C : Addr} (I : Inv X pins σ H s) (A : ExkAt X.K H a C) : ∃ ox od, PySem.W.InstAt s.heap a ox C od ∧ PySem.W.KitX X.K (.ref a) (.ref C) (fun h => PySem.W.InstAt h a ox C od) := by
  obtain ⟨T, d, fs, ea, ed⟩ := A
  obtain ⟨oe, od, J, _⟩ := exk_inst I ea ed
  obtain ⟨cd, hc, _⟩ := PySem.W.any_some T.hd
  exact ⟨oe, some od, J, PySem.W.kitx_exc (by rw [hc]; rfl) T.ga T.gg T.sb T.cl T.gn T.gt T.mr⟩
def rIsK (K : PySem.W.Frag) : List V → Hp → VK → Prop := fun xs H Q => ∃ (a C : Addr) (c : V) (u : Value) (b : Bool), xs = [.ref a, c] ∧ ExkAt K H a C ∧ ClsV c u ∧ PySem.W.kitOne K (.ref C) u = some b ∧ Q (.bl b) H
def rIsKT (K : PySem.W.Frag) : List V → Hp → VK → Prop := fun xs H Q => ∃ (a C tp : Addr) (cs : List V) (us : List Value) (b : Bool), xs = [.ref a, .ref tp] ∧ ExkAt K H a C ∧ H tp = some (.tup cs) ∧ Paired ClsV cs us ∧ PySem.W.kitAny K (.ref C) us = some b ∧ Q (.bl b) H
theorem call_isK : CallR X (.builtin "isinstance") (rIsK X.K) := by
  rintro pins s σ H xs us Q I r ⟨a, C, c, w, b, rfl, A, k, e, q⟩
  obtain ⟨u1, u2, rfl, r1, r2⟩ := vals2 r
  have e1 : u1 = Value.ref a := r1
  subst e1
  have e2 := k.eq r2
  subst e2
  obtain ⟨ox, od, J, Z⟩ := exk_look I A
  exact PySem.W.kia_one Z I.kIn J e (fun z => nomatch z) fun tk => ⟨.bl b, H, I.tok tk, rfl, q⟩
theorem call_isKT : CallR X (.builtin "isinstance") (rIsKT X.K) := by
  rintro pins s σ H xs us Q I r ⟨a, C, tp, cs, ws, b, rfl, A, hT, k, e, q⟩
  obtain ⟨u1, u2, rfl, r1, r2⟩ := vals2 r
  have e1 : u1 = Value.ref a := r1
  have e2 : u2 = Value.ref tp := r2
  subst e1 e2
  obtain ⟨ox, od, J, Z⟩ := exk_look I A
  have ot : ObjOk X.prog X.w H s.heap tp (.tup cs) := I.hok tp _ hT
  obtain ⟨_, its, rv, o, h1, h2, n, h3⟩ := ot
  have e3 := ClsV.all k rv
  subst e3
  obtain ⟨oc, odd, dt, sl⟩ := o
  dsimp only at h2 h3
  subst h2 h3
  exact PySem.W.kia_tup Z I.kIn J h1 e (fun z => nomatch z) fun tk => ⟨.bl b, H, I.tok tk, rfl, q⟩
def dIsK {m : Mem} (tb : List (Addr × Bool)) (te : DT m) : DT m := fun ρ s Q => te ρ s fun z ρ1 s1 => ∃ C ns es b, z = .exk C ns es ∧ (C, b) ∈ tb ∧ Q (.bl b) ρ1 s1
theorem de_isK (tb : List (Addr × Bool)) {c : Expr} {cv : V} {u : Value} (hT : ∀ q ∈ tb, XC X.K q.1 ∧ PySem.W.kitOne X.K (.ref q.1) u = some q.2) (k : ClsV cv u) (hg : Gl X "isinstance") (hm : X.mg "isinstance" = none) (he : PE X e (up X.K m te)) (hc : PE X c (up X.K m (dC (.any cv))))
    (hs : starEach [e, c] X.env = (false, eval e X.env) :: starEach [c] X.env := by rfl) (hs2 : starEach [c] X.env = [(false, eval c X.env)] := by rfl) :
    PE X (.Call (.Name "isinstance" p) [e, c] [] pos) (up X.K m (dIsK tb te)) :=
  PE.imp (pe_callB call_isK hg hm (by decide +kernel) (pa_cons he (pa_cons hc pa_nil (by rw [hs2]; rfl)) hs) (by decide) (by decide) hs (by rw [hs2]; rfl)) fun σ H Q h => by
    obtain ⟨F, ρ, s, Qd, r, ht, hQ⟩ := h
    refine ⟨F, ρ, s, _, r, ht, fun z ρ1 s1 v F1 H1 q1 r1 st1 rv => ⟨F1, ρ1, s1, fun d ρ2 s2 => d = .any cv ∧ ρ2 = ρ1 ∧ s2 = s1, r1, ⟨rfl, rfl, rfl⟩, fun d ρ2 s2 w F2 H2 ⟨ed, eρ, es2⟩ r2 st2 rw' => ?_⟩⟩
    subst ed eρ es2
    obtain ⟨C, ns, es, b, ez, hm', q1⟩ := q1
    subst ez
    have ew : w = cv := rw'
    subst ew
    obtain ⟨a, d, fs, rfl, h1, h2, _⟩ := rv
    obtain ⟨T, kk⟩ := hT _ hm'
    exact ⟨a, C, w, u, b, rfl, ⟨T, d, fs, r2.sub _ _ (st2.ext _ _ h1), r2.sub _ _ (st2.ext _ _ h2)⟩, k, kk, hQ _ _ _ _ F2 H2 q1 r2 (st1.trans st2) rfl⟩
def daCls {m : Mem} (ws : List V) : DTA m := fun ρ s Q => Q (ws.map D.any) ρ s
def dIsKT {m : Mem} (tb : List (Addr × Bool)) (te : DT m) : DT m := fun ρ s Q => te ρ s fun z ρ1 s1 => ∃ C ns es b, z = .exk C ns es ∧ (C, b) ∈ tb ∧ Q (.bl b) ρ1 s1
theorem de_isKT (tb : List (Addr × Bool)) {es : List Expr} {ws : List V} {us : List Value} {kk : Nat} {pt : Pos} (hT : ∀ q ∈ tb, XC X.K q.1 ∧ PySem.W.kitAny X.K (.ref q.1) us = some q.2) (eu : ws.map clsU = us.map some) (hl : ws.length ≤ 1000) (hg : Gl X "isinstance") (hm : X.mg "isinstance" = none)
    (he : PE X e (up X.K m te)) (ha : PA X es (upA X.K m (daCls ws)))
    (hs : starEach [e, .Tuple es kk pt] X.env = [(false, eval e X.env), (false, eval (.Tuple es kk pt) X.env)] := by rfl) (hs4 : starEach [.Tuple es kk pt] X.env = [(false, eval (.Tuple es kk pt) X.env)] := by rfl) :
    PE X (.Call (.Name "isinstance" p) [e, .Tuple es kk pt] [] pos) (up X.K m (dIsKT tb te)) :=
  PE.imp (pe_callB call_isKT hg hm (by decide +kernel) (pa_cons he (pa_cons (pe_tup ha) pa_nil (by rw [hs4]; rfl)) (by rw [hs, hs4])) (by decide) (by decide) (by rw [hs, hs4]) (by rw [hs4]; rfl)) fun σ H Q h => by
    obtain ⟨F, ρ, s, Qd, r, ht, hQ⟩ := h
    refine ⟨F, ρ, s, _, r, ht, fun z ρ1 s1 v F1 H1 q1 r1 st1 rv => ⟨F1, ρ1, s1, fun ds ρ2 s2 => ds = ws.map D.any ∧ ρ2 = ρ1 ∧ s2 = s1, r1, ⟨rfl, rfl, rfl⟩, fun cs ρ2 s2 vs F2 H2 ⟨ec, eρ, es2⟩ r2 st2 rs => ?_⟩⟩
    subst ec eρ es2
    refine ⟨by rw [rs.length, List.length_map]; exact Nat.le_trans hl (by rw [sizeLine_eq]; decide), fun q nq => ?_⟩
    obtain ⟨ev, pr⟩ := cls_all eu rs
    subst ev
    obtain ⟨C, ns, es, b, ez, hm', q1⟩ := q1
    subst ez
    obtain ⟨a, d, fs, rfl, h1, h2, _⟩ := rv
    obtain ⟨T, kt⟩ := hT _ hm'
    have g : Grow F2 H2 (upd F2 q (.tup vs)) (upd H2 q (.tup vs)) := Grow.new r2.sub nq
    exact ⟨a, C, q, vs, us, b, rfl, ⟨T, d, fs, g.fH _ _ (g.fF _ _ (st2.ext _ _ h1)), g.fH _ _ (g.fF _ _ (st2.ext _ _ h2))⟩, upd_same, pr, kt, hQ _ _ _ _ _ _ q1 (r2.grow g) ((st1.trans st2).trans g.stp) rfl⟩
end
end DL

set_option Elab.async false
set_option linter.all false
set_option maxRecDepth 100000
/-! EX5: an __init__ that may raise; instances made by it -/
namespace DL
open PySem PySem.Spec PyProof.Rows L2 TL
abbrev ISpX (m : Mem) := List D → m.S → (List Str → List D → m.S → Prop) → (Addr → List Str → List D → m.S → Prop) → Prop
def liftIX (K : PySem.W.Frag) (m : Mem) (C : Addr) (n : Nat) (sp : ISpX m) : Sp := fun vs H Q E => vs.length = n + 1 ∧ ∃ (x dx : Addr) (ws : List V) (F : Hp) (ds : List D) (s : m.S) (Qd : List Str → List D → m.S → Prop) (Qx : Addr → List Str → List D → m.S → Prop), vs = .ref x :: ws ∧ H x = some (.ins C dx []) ∧ Same F (hid H x) ∧ m.M s H ∧ (∀ a, m.R s a → F a = none) ∧ ¬ m.R s x ∧ Reps K F ds ws ∧ sp ds s Qd Qx ∧
  (∀ ns es s' (fs : List (Str × V)) F' H', Qd ns es s' → CStp m F (hid H x) s F' H' s' → H' x = some (.ins C dx fs) → fs.map (·.1) = ns → Reps K F' es (fs.map (·.2)) → F' x = none → ¬ m.R s' x → Q .non H') ∧
  (∀ B ns es s' d fs F' H', Qx B ns es s' → CStp m F (hid H x) s F' H' s' → H' d = some (.xd fs) → hid H x d = none → F' d = none → ¬ m.R s' d → fs.map (·.1) = ns → Reps K F' es (fs.map (·.2)) → E (.ref B) (some d) H')
/-- what the body of an __init__ that may raise is to reach -/
abbrev endsIX {m : Mem} (x dx C : Addr) (Qd : List Str → List D → m.S → Prop) (Qx : Addr → List Str → List D → m.S → Prop) : DEnds m := { nx := fun ρ' s' => ∃ ns es, ρ'[0]? = some (.ow (.ins x dx C ns es)) ∧ Qd ns es s', rt := fun _ _ => False, ex := fun B ns es _ s' => Qx B ns es s' }
section
variable {P : Program} {w : World} {K : PySem.W.Frag} {mg : Str → Option Value} {base : Heap} {m : Mem}
theorem dfnIX {qual : Str} {st : Stmt} {f C : Addr} {fd : FuncData} {N ps : List Str} {k n : Nat} {sp : ISpX m} {nm : Str} (Fn : Fun K nm qual st f fd) (S : FnScope N ps (defScope st)) (hn : n + 1 = ps.length)
    (hb : ∀ (cdv : Value) (A : Around) (outer : List Env) (s : Shared) (H : Hp) (E : XK) (F0 H0 : Hp) (s0 : m.S), RoomG k (A.deeper (envOfC qual (defScope st) s.heap.objs.size f cdv)) →
      ∃ t, PSs (cxOf (L2.CX P w) P w K mg base N qual (defScope st) f cdv A outer s H E) (defBody st) (upS K m ⟨F0, H0, s0, fun cls d _ H' => E cls d H'⟩ t) ∧ ∀ ds s Qd Qx (x dx : Addr), sp ds s Qd Qx → t (endsIX x dx C Qd Qx) ((startD N (.any (.ref x) :: ds)).set 0 (.ow (.ins x dx C [] []))) s) :
    FnG P w K mg base (L2.CX P w) (k + 1) f fd ps (liftIX K m C n sp) := by
  refine Fun.okG Fn S (fun vs H Q E h => h.1.trans hn) (fun cdv A outer s H vs Q E hr h => ?_)
  obtain ⟨hl, x, dx, ws, F0, ds, s0, Qd, Qx, rfl, hx, sub, hm, hreg, nR, rs, hsp, hQ, hX⟩ := h
  obtain ⟨t, ht, hq⟩ := hb cdv A outer s H E F0 (hid H x) s0 hr
  have sub' : Same F0 H := fun b o e => (hid_some (sub b o e)).2
  have nF : F0 x = none := by
    cases q : F0 x with
    | none => rfl
    | some o => exact absurd rfl (hid_some (sub x o q)).1
  have r0 : Rel K m F0 H (L2.start N (.ref x :: ws)) (startD N (.any (.ref x) :: ds)) s0 := rel_start sub' hm hreg (.cons rfl rs)
  have no : ∀ (i : Nat) o, (startD N (.any (.ref x) :: ds))[i]? ≠ some (Sl.ow o) := fun i o e => by
    unfold startD at e
    by_cases hi : i < (D.any (.ref x) :: ds).length
    · rw [List.getElem?_append_left (by simpa using hi), List.getElem?_map, List.getElem?_eq_getElem hi] at e; cases e
    · rw [List.getElem?_append_right (by simpa using hi), List.getElem?_replicate] at e
      split at e <;> cases e
  have o0 : Own m ⟨F0, hid H x, s0, fun cls d _ H' => E cls d H'⟩ F0 H (L2.start N (.ref x :: ws)) (startD N (.any (.ref x) :: ds)) s0 := ⟨Same.refl _, fun a o e _ => (hid_some e).2, fun a e => by
    by_cases z : a = x
    · rw [z, hx]; simp
    · have e : hid H x a ≠ none := e
      rw [hid_ne z] at e; exact e, fun _ _ h => .inl h, fun _ h => .inl h, fun i p ⟨⟨o, e⟩, _⟩ => absurd e (no i o)⟩
  obtain ⟨r1, o1⟩ := put_hid r0 o0 0 (ob := .ins x dx C [] []) hx nF nR (fun i ⟨⟨o, e⟩, _⟩ => absurd e (no i o)) hid_self ⟨rfl, [], rfl, rfl, .nil⟩
  have same : (L2.start N (.ref x :: ws)).set 0 (some (.ref x)) = L2.start N (.ref x :: ws) := by
    unfold L2.start
    rw [List.map_cons]; rfl
  rw [same] at r1 o1
  refine ⟨_, ht, F0, _, s0, _, r1, o1, hq ds s0 Qd Qx x dx hsp, ?_⟩
  refine ⟨fun F' H' σ ρ s _ r o q => ?_, fun _ _ _ _ _ _ _ _ _ _ _ q => q.elim, fun _ _ _ _ _ _ _ _ q => q.elim, fun _ _ _ _ _ _ _ _ q => q.elim, fun F' H' σ ρ s B ns es d fs _ r o h1 h2 h3 h4 _ h6 h7 q => ?_⟩
  · obtain ⟨ns, es, e0, q⟩ := q
    obtain ⟨p, ho, h1, h2, ⟨rfl, fs, rfl, h3, h4⟩, h5, h6⟩ := r.own_at e0
    exact hQ ns es s fs F' H' q ⟨o.ext, o.keep, o.alive, o.fresh, o.regf, r.sub, r.mem, r.reg⟩ h2 h3 h4 h5 h6
  · exact hX B ns es s d fs F' H' q ⟨o.ext, o.keep, o.alive, o.fresh, o.regf, r.sub, r.mem, r.reg⟩ h1 h2 h3 h4 h6 h7
end
/-! ### C(e, ..), its __init__ may raise -/
def tMakeS (C : Addr) (sp : Sp) (E' : L2.St → XK) (t : TA) : TE := fun σ H Q => tMake C sp [] (E' σ) t σ H Q
section
variable {X : Cx} {e : Expr} {es : List Expr} {t : TA} {x : Str} {p pos : Pos} {C f : Addr} {k : Nat} {fd : FuncData} {ps : List Str} {sp : Sp} {CX : CXT} {E' : L2.St → XK}
theorem pe_instS (M : Mk X.K C f) (G : FnG X.prog X.w X.K X.mg X.base CX k f fd ps sp) (hr : RoomG (k + 1) X.A) (hg : Gl X x) (hm : X.mg x = some (.ref C)) (hb : Binds X.K fd ps []) (hx : ∀ σ, PassesAt CX X σ (E' σ)) (ha : PA X (e :: es) t)
    (hdb : (x == ("__debug__" : Str)) = false := by decide) (he : starEach (e :: es) X.env = (false, eval e X.env) :: starEach es X.env := by rfl) (hpl : (backTo pos (starEach es X.env)).any (·.1) = false := by rfl) :
    PE X (.Call (.Name x p) (e :: es) [] pos) (tMakeS C sp E' t) := by
  refine ⟨fun pins s σ H Q I h => wpAny_Call_Name_kw (ld_glob I hg hm (PySem.W.callWith_K (h₀ := X.base) I.ok.mod.kin M.kp (thn (ha.run pos pins s σ H _ I h) fun us s1 ⟨vs, H1, I1, rv, q⟩ => ⟨I1.kIn, ?_⟩) he hpl) hdb)⟩
  have hq := q (s1.heap.objs.size + 1) s1.heap.objs.size (I1.hok.fresh (Nat.le_succ _)) (I1.hok.fresh (Nat.le_refl _)) (Nat.ne_of_lt (Nat.lt_succ_self _))
  rw [List.append_nil] at hq
  have J := Inv.made (C := C) I1
  have rr : Vals (V.ref (s1.heap.objs.size + 1) :: vs) (Value.ref (s1.heap.objs.size + 1) :: us) := .cons rfl rv
  have many : ((Value.ref (s1.heap.objs.size + 1) :: us) ++ []).length = ps.length := by
    rw [List.append_nil, ← rr.length]
    exact G.len _ _ _ _ hq
  have bd := hb _ (Value.ref (s1.heap.objs.size + 1) :: us) J.kIn many
  rw [List.append_nil] at bd
  have go := G.run _ X.stack _ _ ⟨Value.ref (s1.heap.objs.size + 1) :: us, []⟩ _ _ _ (E' σ) (hr.make C us []) (J.env0.make C us []) bd rr hq
  refine wpAny_call (make_map (f := f) I1.kIn M.makes M.init (beq_iff_eq.mp M.fn) (codeAny_mono go fun r s' z => ?_))
  rcases r with er | (_ | _ | _ | u)
  · exact hx σ pins _ _ er s' J z
  · exact z.elim
  · exact z.elim
  · exact z.elim
  · obtain ⟨v, H', J', r', ev, q2⟩ := J.after z
    subst ev
    exact ⟨r', ⟨.ref (s1.heap.objs.size + 1), H', J', rfl, q2⟩⟩
end
section
variable {X : Cx} {m : Mem} {E : Ent m} {C : Addr} {n : Nat} {sp : ISpX m} {u : DTA m}
theorem makeX_core {σ : L2.St} {H F : Hp} {ρ : List Sl} {s : m.S} {dd : DEnds m} {DD : Ends} {Q : VK} (hn : ∀ ds s Qd Qx, sp ds s Qd Qx → ds.length = n) (r : Rel X.K m F H σ ρ s) (o : Own m E F H σ ρ s) (f : Fits X.K m E F dd DD) {Qd : D → List Sl → m.S → Prop}
    (ht : u ρ s fun ds ρ1 s1 => sp ds s1 (fun ns es s' => Qd (.ins C ns es) ρ1 s') (fun B ns es s' => dd.ex B ns es ρ1 s'))
    (hq : ∀ d ρ1 s' v F' H', Qd d ρ1 s' → Rel X.K m F' H' σ ρ1 s' → Own m E F' H' σ ρ1 s' → Same F F' → Rep X.K F' d v → Q v H') : tMakeS C (liftIX X.K m C n sp) (WE E.W) (upA X.K m u) σ H Q := by
  refine ⟨F, ρ, s, _, r, ht, fun ds ρ1 s1 vs F1 H1 q1 r1 st1 rs x dx nx ndx ne => ?_⟩
  rw [List.append_nil]
  obtain ⟨H2, e2⟩ : ∃ H2, H2 = upd (upd H1 dx (.own x)) x (.ins C dx []) := ⟨_, rfl⟩
  rw [← e2]
  have at_x : H2 x = some (.ins C dx []) := by rw [e2, upd_same]
  have at_d : x ≠ dx → H2 dx = some (.own x) := fun z => by rw [e2, upd_ne (Ne.symm z), upd_same]
  have at_o : ∀ a, a ≠ x → a ≠ dx → H2 a = H1 a := fun a h1 h2 => by rw [e2, upd_ne h1, upd_ne h2]
  have old : ∀ a o, H1 a = some o → a ≠ x ∧ a ≠ dx := fun a o e => ⟨fun z => by (rw [z, nx] at e; cases e), fun z => by (rw [z, ndx] at e; cases e)⟩
  have nR : ¬ m.R s1 x := fun z => m.there s1 H1 x r1.mem z nx
  have subh : Same F1 (hid H2 x) := fun b o e => by
    obtain ⟨z1, z2⟩ := old b o (r1.sub b o e)
    rw [hid_ne z1, at_o b z1 z2]; exact r1.sub b o e
  have mem2 : m.M s1 H2 := m.loc s1 H1 H2 r1.mem fun a ha => by
    have q := m.there s1 H1 a r1.mem ha
    cases e : H1 a with
    | none => exact absurd e q
    | some o =>
      obtain ⟨z1, z2⟩ := old a o e
      rw [at_o a z1 z2, e]
  have back : ∀ {F' H' : Hp} {s' : m.S}, CStp m F1 (hid H2 x) s1 F' H' s' → CStp m F1 H1 s1 F' H' s' := fun {F' H' s'} c => ⟨c.ext, fun a o e nr => by
      obtain ⟨z1, z2⟩ := old a o e
      exact c.keep a o (by rw [hid_ne z1, at_o a z1 z2]; exact e) nr, fun a h => by
      cases e : H1 a with
      | none => exact absurd e h
      | some o =>
        obtain ⟨z1, z2⟩ := old a o e
        exact c.alive a (by rw [hid_ne z1, at_o a z1 z2, e]; simp), fun a o e => by
      rcases c.fresh a o e with z | z
      · exact .inl z
      · refine .inr ?_
        by_cases z1 : a = x
        · rw [z1]; exact nx
        · rw [hid_ne z1] at z
          by_cases z2 : a = dx
          · rw [z2]; exact ndx
          · rw [at_o a z1 z2] at z; exact z, fun a h => by
      rcases c.regf a h with z | z
      · exact .inl z
      · refine .inr ?_
        by_cases z1 : a = x
        · rw [z1]; exact nx
        · rw [hid_ne z1] at z
          by_cases z2 : a = dx
          · rw [z2]; exact ndx
          · rw [at_o a z1 z2] at z; exact z, c.sub, c.mem, c.reg⟩
  have o1 := o.stp st1
  refine ⟨by rw [List.length_cons, rs.length, hn _ _ _ _ q1], x, dx, vs, F1, ds, s1, _, _, rfl, at_x, subh, mem2, r1.reg, nR, rs, q1, fun ns es s' fs F' H' q2 c hx' hns hes nF' nR' => ⟨rfl, ?_⟩, fun B ns es s' d fs F' H' q2 c hx n1 n2 nR' h6 h7 => ?_⟩
  · have c1 := back c
    have r2 := r1.call c1
    have nO : ∀ i, ¬ Owns σ ρ1 i x := fun i z => owns_there r1 z nx
    have sm : Same F' (upd F' x (.ins C dx fs)) := same_upd nF'
    have o2 := o1.stp (c1.stp (σ := σ) (ρ := ρ1))
    refine hq _ ρ1 s' _ (upd F' x (.ins C dx fs)) H' q2 (r2.adopt hx' nF' nR' nO) ⟨o2.ext.trans sm, o2.keep, o2.alive, fun b v z => ?_, o2.regf, o2.own⟩ ((st1.ext.trans c1.ext).trans sm) ⟨x, dx, fs, rfl, upd_same, hns, Reps.mono sm _ _ hes⟩
    by_cases hb : b = x
    · refine .inr ?_
      rw [hb]
      cases q : E.H x with
      | none => rfl
      | some v => exact absurd nx (o1.alive x (by rw [q]; exact fun z => nomatch z))
    · rw [upd_ne hb] at z; exact o2.fresh b v z
  · have c1 := back c
    have nd : H1 d = none := by
      by_cases z1 : d = x
      · rw [z1]; exact nx
      · rw [hid_ne z1] at n1
        by_cases z2 : d = dx
        · rw [z2]; exact ndx
        · rw [at_o d z1 z2] at n1; exact n1
    refine f.ex F' H' σ ρ1 s' B ns es d fs (st1.ext.trans c1.ext) (r1.call c1) (o1.stp c1.stp) hx ?_ n2 nR' (fun i z => owns_there r1 z nd) h6 h7 q2
    cases q : E.H d with
    | none => rfl
    | some v => exact absurd nd (o1.alive d (by rw [q]; exact fun z => nomatch z))
end
section
variable {X : Cx} {m : Mem} {E : Ent m} {C f : Addr} {k n : Nat} {fd : FuncData} {ps : List Str} {sp : ISpX m} {u : DTA m} {x : Str} {e : Expr} {es : List Expr} {p pos : Pos}
/-- y = ['c', C(e, ..).p] -/
def dSetLPMX {m : Mem} (i : Nat) (c : Str) (C : Addr) (sp : ISpX m) (spg : DSp m) (u : DTA m) : DTS m := fun dd ρ s => u ρ s fun ds ρ1 s1 => sp ds s1 (fun ns es s' => spg [.ins C ns es] s' fun e s'' => dd.nx (ρ1.set i (.sh (.lst [.str c, e]))) s'') (fun B ns es s' => dd.ex B ns es ρ1 s')
theorem ds_setLPMX (i : Nat) {y c pf : Str} {j k2 : Nat} {p1 p2 p3 pos' pos2 : Pos} {pg gg : Addr} {fdg : FuncData} {psg : List Str} {spg : DSp m} (hN : X.N.Nodup) (tk : Takes X E.W) (M : Mk X.K C f) (G : FnG X.prog X.w X.K X.mg X.base (L2.CX X.prog X.w) k f fd ps (liftIX X.K m C n sp)) (hn : ∀ ds s Qd Qx, sp ds s Qd Qx → ds.length = n)
    (hr : RoomG (k + 1) X.A) (hg : Gl X x) (hm : X.mg x = some (.ref C)) (hb : Binds X.K fd ps []) (cl : Cls X.K C) (hp : PropOf X.K C pf pg gg) (Gg : FnG X.prog X.w X.K X.mg X.base CX0 k2 gg fdg psg (lift X.K m 1 spg)) (hrg : RoomG (k2 + 1) X.A) (hbg : Binds X.K fdg psg [])
    (hck : sOk c = true) (ha : PA X (e :: es) (upA X.K m u)) (hi : X.N[i]? = some y := by rfl) (hx : Loc X.env.scope y := by first | exact Or.inl rfl | exact Or.inr rfl) (hdb : (x == ("__debug__" : Str)) = false := by decide) (he : starEach (e :: es) X.env = (false, eval e X.env) :: starEach es X.env := by rfl) (hpl : (backTo pos (starEach es X.env)).any (·.1) = false := by rfl)
    (hab : attributeBase (.Call (.Name x p) (e :: es) [] pos) pf X.env (eval (.Call (.Name x p) (e :: es) [] pos) X.env) = eval (.Call (.Name x p) (e :: es) [] pos) X.env := by rfl)
    (hsw : swapsWith (.List [.Constant (.str c) j p1, .Attribute (.Call (.Name x p) (e :: es) [] pos) pf p2] p3) (some (.Name y pos')) pos2.line X.env = pure false := by rfl) (hf : X.fn y = true ∨ X.env.scope.names.lookup y = some .local := by first | exact .inl rfl | exact .inr rfl)
    (hst : starEach [.Constant (.str c) j p1, .Attribute (.Call (.Name x p) (e :: es) [] pos) pf p2] X.env = (false, eval (.Constant (.str c) j p1) X.env) :: starEach [.Attribute (.Call (.Name x p) (e :: es) [] pos) pf p2] X.env := by rfl)
    (hst2 : starEach [.Attribute (.Call (.Name x p) (e :: es) [] pos) pf p2] X.env = (false, eval (.Attribute (.Call (.Name x p) (e :: es) [] pos) pf p2) X.env) :: starEach [] X.env := by rfl) :
    PS X (.Assign [.Name y pos'] (.List [.Constant (.str c) j p1, .Attribute (.Call (.Name x p) (e :: es) [] pos) pf p2] p3) pos2) (upS X.K m E (dSetLPMX i c C sp spg u)) :=
  by
    have P0 := pe_instS (p := p) (pos := pos) M G hr hg hm hb (fun σ => passAt tk σ) ha hdb he hpl
    obtain ⟨tM, eM⟩ : ∃ tM, tM = tMakeS C (liftIX X.K m C n sp) (WE E.W) (upA X.K m u) := ⟨_, rfl⟩
    rw [← eM] at P0
    refine PS.imp (ps_set hN hi hx (pe_lst (pa_cons pe_str (pa_cons (pe_propG P0 cl hp Gg hrg hbg hab) pa_nil hst2) hst)) hsw hf) fun DD σ H h => ?_
    obtain ⟨F, ρ, s, dd, r, o, ht, f⟩ := h
    show tM σ H _
    rw [eM]
    refine makeX_core (Qd := fun d ρ2 s' => (∃ ns ds, d = .ins C ns ds) ∧ spg [d] s' fun e s'' => dd.nx (ρ2.set i (.sh (.lst [.str c, e]))) s'') hn r o f ?_ fun d ρ1 s' v F' H' ⟨⟨ns, ds, ed⟩, q⟩ r' o' sm rv => ?_
    · have e2 : (fun ds ρ1 s1 => sp ds s1 (fun ns es s' => (∃ ns' ds', D.ins C ns es = .ins C ns' ds') ∧ spg [.ins C ns es] s' fun e s'' => dd.nx (ρ1.set i (.sh (.lst [.str c, e]))) s'') (fun B ns es s' => dd.ex B ns es ρ1 s')) = fun ds ρ1 s1 => sp ds s1 (fun ns es s' => spg [.ins C ns es] s' fun e s'' => dd.nx (ρ1.set i (.sh (.lst [.str c, e]))) s'') (fun B ns es s' => dd.ex B ns es ρ1 s') := by
        funext ds ρ1 s1
        congr 1
        funext ns es s'
        exact propext ⟨fun z => z.2, fun z => ⟨⟨_, _, rfl⟩, z⟩⟩
      show u ρ s (fun ds ρ1 s1 => sp ds s1 (fun ns es s' => (∃ ns' ds', D.ins C ns es = .ins C ns' ds') ∧ spg [.ins C ns es] s' fun e s'' => dd.nx (ρ1.set i (.sh (.lst [.str c, e]))) s'') (fun B ns es s' => dd.ex B ns es ρ1 s'))
      rw [e2]; exact ht
    · subst ed
      have rv' := rv
      obtain ⟨z, dx, fs, rfl, h1, h2, h3⟩ := rv
      refine ⟨z, dx, fs, rfl, r'.sub _ _ h1, rfl, F', [.ins C ns ds], s', _, r'.sub, r'.mem, r'.reg, .one rv', q, fun e s2 w F2 H2 q2 c2 rw' => ?_⟩
      refine ⟨by show 2 ≤ sizeLine; decide, fun p np => ?_⟩
      have r2 := r'.call c2
      have g : Grow F2 H2 (upd F2 p (.lst [.str c, w])) (upd H2 p (.lst [.str c, w])) := Grow.new r2.sub np
      have o2 := (o'.stp c2.stp).stp g.stp
      have rl : Rep X.K (upd F2 p (.lst [.str c, w])) (.lst [.str c, e]) (.ref p) := ⟨p, _, rfl, upd_same, by show 2 ≤ sizeLine; decide, .cons ⟨rfl, hck⟩ (.one (Rep.mono g.fF _ _ rw'))⟩
      exact f.nx _ _ _ _ s2 ((sm.trans c2.ext).trans g.fF) ((r2.grow g).put rl) (o2.put (K := X.K)) q2
end
end DL

set_option Elab.async false
set_option linter.all false
set_option maxRecDepth 100000
set_option maxHeartbeats 1000000
namespace R42
open PySem PySem.Spec PyProof.Rows L2 TL DL TX TO R29 R43 R46 R4x
open RP (lcF lcA)
/-! ### right rules are plain -/
structure PF (n : Nat) (d : D) : Prop where
  p : plainD n d = true
  f : few d = true
theorem pf_str (n : Nat) (x : Str) : PF n (.str x) := ⟨by cases n <;> rfl, rfl⟩
theorem pf_tup {n : Nat} {xs : List D} (h : ∀ x ∈ xs, PF n x) (l : xs.length ≤ 1000) : PF (n + 1) (.tup xs) := by
  refine ⟨plains_of fun x hx => (h x hx).p, ?_⟩
  show (decide (xs.length ≤ 1000) && fews xs) = true
  rw [decide_eq_true l, Bool.true_and]
  exact fews_iff.mpr fun x hx => (h x hx).f
theorem rp_pf {d : D} (h : rp d = true) (n : Nat) : PF n d := by
  obtain ⟨x, rfl⟩ := rp_str h
  exact pf_str n x
theorem rps_pf {l : Int} {u : Nat} {d : D} (hu : u ≤ 1000) (h : rps l (u : Int) d = true) (n : Nat) : PF (n + 1) d := by
  cases d with
  | tup xs =>
    have h : (decide _ && (decide (((xs.length : Nat) : Int) ≤ (u : Int)) && xs.all rp)) = true := h
    rw [Bool.and_eq_true, Bool.and_eq_true] at h
    have h6 := of_decide_eq_true h.2.1
    exact pf_tup (fun x hx => rp_pf (List.all_eq_true.mp h.2.2 x hx) n) (by omega)
  | _ => cases h
theorem fit_pf {nm : Str} {it first : D} (hn : okNm nm) (h : fit nm it first = true) : PF 2 it := by
  unfold fit at h
  by_cases c1 : nm = sHow
  · rw [if_pos c1] at h
    cases it with
    | str x => exact pf_str 2 x
    | _ => cases h
  rw [if_neg c1] at h
  by_cases c2 : nm = sRows
  · rw [if_pos c2] at h
    cases it with
    | tup rs =>
      have h : (decide _ && (decide (((rs.length : Nat) : Int) ≤ 5) && rs.all (rps 1 4))) = true := h
      rw [Bool.and_eq_true, Bool.and_eq_true] at h
      have h5 := of_decide_eq_true h.2.1
      exact pf_tup (fun r hr => rps_pf (u := 4) (by decide) (List.all_eq_true.mp h.2.2 r hr) 0) (by omega)
    | _ => cases h
  rw [if_neg c2] at h
  by_cases c3 : nm = sPath
  · rw [if_pos c3] at h
    exact rp_pf h 2
  rw [if_neg c3] at h
  have hm : nm ∈ los.map (·.1) := by
    rcases hn with z | z | z | z
    · exact absurd z c1
    · exact absurd z c2
    · exact absurd z c3
    · exact z
  obtain ⟨_, _, _, l, e1, _⟩ := los_sizes hm
  rw [e1] at h
  have h : (rps l 6 it && _) = true := h
  rw [Bool.and_eq_true] at h
  exact rps_pf (u := 6) (by decide) h.1 1
theorem all_zip {names : List Str} : ∀ {items : List D} {P : D → Prop}, items.length = names.length → (∀ p ∈ names.zip items, P p.2) → ∀ x ∈ items, P x := by
  induction names with
  | nil => intro items P hl _ x hx; rw [List.eq_nil_of_length_eq_zero hl] at hx; cases hx
  | cons n ns ih =>
    intro items P hl h x hx
    cases items with
    | nil => cases hx
    | cons i is =>
      rcases List.mem_cons.mp hx with rfl | hx
      · exact h (n, x) (by simp)
      · exact ih (by simpa using hl) (fun p hp => h p (by rw [List.zip_cons_cons]; exact List.mem_cons_of_mem _ hp)) x hx
theorem right_pf {d : D} (h : wordD d = .non) : PF 3 d := by
  unfold wordD at h
  split at h
  · rename_i k items
    split at h
    · cases h
    · rename_i names ef
      split at h
      · rename_i hl
        obtain ⟨h3, _, hok, _⟩ := form_facts ef
        unfold wordIn at h
        split at h
        · cases h
        · rename_i hf
          have hall : ∀ p ∈ names.zip items, fit p.1 p.2 (items.headD .non) = true := fun p hp => by
            have := List.find?_eq_none.mp hf p hp
            simpa using this
          have hi : ∀ x ∈ items, PF 2 x := all_zip hl fun p hp => fit_pf (hok _ (zip_fst hp)) (hall p hp)
          refine pf_tup (fun x hx => ?_) (by rw [List.length_cons]; omega)
          rcases List.mem_cons.mp hx with rfl | hx
          · exact pf_str 2 k
          · exact hi x hx
      · cases h
  · cases h
/-! ### why a value makes no book -/
abbrev wRules : D := .tup [.non, .str (Str.ofString "rules")]
def errAt (rs : List D) (i : Nat) (r : D) : D := match wordD r with
  | .non => if (rs.take i).any (fun y => eqD y r) = true then .tup [.int (i : Nat), .str (Str.ofString "again")] else .non
  | w => .tup [.int (i : Nat), w]
def scanW (rs : List D) : Nat → List D → D
  | _, [] => .non
  | i, r :: rest => match errAt rs i r with
    | .non => scanW rs (i + 1) rest
    | w => w
def bookW : D → D
  | .tup rs => if 8 < rs.length then wRules else scanW rs 0 rs
  | _ => wRules
/-- what the answer looks like -/
def ErrOk (w : D) : Prop := w = .non ∨ ∃ i x, w = .tup [i, .str x] ∧ (i = .non ∨ ∃ k, i = .int k)
theorem err_at (rs : List D) (i : Nat) (r : D) : ErrOk (errAt rs i r) ∧ (errAt rs i r = .non → wordD r = .non) := by
  unfold errAt
  rcases word_kind r with h | ⟨x, h⟩
  · rw [h]
    refine ⟨?_, fun _ => rfl⟩
    show ErrOk (if _ then _ else _)
    split
    · exact .inr ⟨_, _, rfl, .inr ⟨_, rfl⟩⟩
    · exact .inl rfl
  · rw [h]
    exact ⟨.inr ⟨_, _, rfl, .inr ⟨_, rfl⟩⟩, fun z => by cases z⟩
theorem scan_ok (rs : List D) : ∀ (l : List D) (i : Nat), ErrOk (scanW rs i l) ∧ (scanW rs i l = .non → ∀ r ∈ l, wordD r = .non)
  | [], _ => ⟨.inl rfl, fun _ _ h => by cases h⟩
  | r :: l, i => by
    obtain ⟨h1, h2⟩ := err_at rs i r
    obtain ⟨g1, g2⟩ := scan_ok rs l (i + 1)
    rcases h1 with h | ⟨a, x, h, ha⟩
    · have e : scanW rs i (r :: l) = scanW rs (i + 1) l := by
        show (match errAt rs i r with | .non => scanW rs (i + 1) l | w => w) = _
        rw [h]
      rw [e]
      exact ⟨g1, fun z y hy => (List.mem_cons.mp hy).elim (fun q => by rw [q]; exact h2 h) (g2 z y)⟩
    · have e : scanW rs i (r :: l) = .tup [a, .str x] := by
        show (match errAt rs i r with | .non => scanW rs (i + 1) l | w => w) = _
        rw [h]
      rw [e]
      exact ⟨.inr ⟨a, x, rfl, ha⟩, fun z => by cases z⟩
theorem scan_next {rs rest : List D} {i : Nat} {r : D} (h : wordD r = .non) (g : (rs.take i).any (fun y => eqD y r) = false) : scanW rs i (r :: rest) = scanW rs (i + 1) rest := by
  show (match errAt rs i r with | .non => scanW rs (i + 1) rest | w => w) = _
  have : errAt rs i r = .non := by unfold errAt; rw [h, g]; rfl
  rw [this]
theorem scan_again {rs rest : List D} {i : Nat} {r : D} (h : wordD r = .non) (g : (rs.take i).any (fun y => eqD y r) = true) : scanW rs i (r :: rest) = .tup [.int (i : Nat), .str (Str.ofString "again")] := by
  show (match errAt rs i r with | .non => scanW rs (i + 1) rest | w => w) = _
  have : errAt rs i r = .tup [.int (i : Nat), .str (Str.ofString "again")] := by unfold errAt; rw [h, g]; rfl
  rw [this]
theorem scan_word {rs rest : List D} {i : Nat} {r : D} {x : Str} (h : wordD r = .str x) : scanW rs i (r :: rest) = .tup [.int (i : Nat), .str x] := by
  show (match errAt rs i r with | .non => scanW rs (i + 1) rest | w => w) = _
  have : errAt rs i r = .tup [.int (i : Nat), .str x] := by unfold errAt; rw [h]
  rw [this]
theorem book_ok (d : D) : ErrOk (bookW d) ∧ (bookW d = .non → PF 4 d) := by
  cases d with
  | tup rs =>
    show ErrOk (if 8 < rs.length then wRules else scanW rs 0 rs) ∧ ((if 8 < rs.length then wRules else scanW rs 0 rs) = .non → _)
    by_cases h : 8 < rs.length
    · rw [if_pos h]
      exact ⟨.inr ⟨_, _, rfl, .inl rfl⟩, fun z => by cases z⟩
    · rw [if_neg h]
      obtain ⟨g1, g2⟩ := scan_ok rs rs 0
      exact ⟨g1, fun z => pf_tup (fun r hr => right_pf (g2 z r hr)) (by omega)⟩
  | _ => exact ⟨.inr ⟨_, _, rfl, .inl rfl⟩, fun z => by cases z⟩
/-! ### the promises -/
def Vb (d : D) : Prop := Val d ∧ ∀ rs, d = .tup rs → ∀ r ∈ rs, V3 r
def spBE42 {m : Mem} : DSp m := fun ds s Q => ∃ d, ds = [d] ∧ Vb d ∧ Q (bookW d) s
theorem spBE42_len {m : Mem} : ∀ ds s Qd, (spBE42 : DSp m) ds s Qd → ds.length = 1 := fun ds s Qd ⟨_, e, _⟩ => by rw [e]; rfl
def spBI42 {m : Mem} (B : Addr) : ISpX m := fun ds s Q Qx => ∃ d, ds = [d] ∧ Vb d ∧ (bookW d = .non → Q [Str.ofString "_rules"] [d] s) ∧ (bookW d ≠ .non → Qx B [Str.ofString "error"] [bookW d] s)
theorem spBI42_len {m : Mem} {B : Addr} : ∀ ds s Qd Qx, (spBI42 B : ISpX m) ds s Qd Qx → ds.length = 1 := fun ds s Qd Qx ⟨_, e, _⟩ => by rw [e]; rfl
def toldD (d : D) : D := match bookW d with
  | .non => .lst [.str (Str.ofString "book"), d]
  | w => .lst [.str (Str.ofString "bad"), w, .bl true, .bl true, .bl false]
theorem told_non {d : D} (h : bookW d = .non) : toldD d = .lst [.str (Str.ofString "book"), d] := by unfold toldD; rw [h]
theorem told_bad {d : D} {i : D} {x : Str} (h : bookW d = .tup [i, .str x]) : toldD d = .lst [.str (Str.ofString "bad"), .tup [i, .str x], .bl true, .bl true, .bl false] := by unfold toldD; rw [h]
def spTold42 {m : Mem} : DSp m := fun ds s Q => ∃ d, ds = [d] ∧ Vb d ∧ Q (toldD d) s
theorem spTold42_len {m : Mem} : ∀ ds s Qd, (spTold42 : DSp m) ds s Qd → ds.length = 1 := fun ds s Qd ⟨_, e, _⟩ => by rw [e]; rfl
def spRight42 {m : Mem} : DSp m := fun ds s Q => ∃ d, ds = [d] ∧ Vb d ∧ repOk d = true ∧ Q (.bl true) s
theorem spRight42_len {m : Mem} : ∀ ds s Qd, (spRight42 : DSp m) ds s Qd → ds.length = 1 := fun ds s Qd ⟨_, e, _⟩ => by rw [e]; rfl
def spCh42 : DSp Mem.deck := fun ds s Q => ∃ a b c rs, s.adr = some (a, b, c) ∧ ds = [.any (.ref a), .tup rs] ∧ (∀ r ∈ rs, RuleOk r) ∧ rs.length ≤ 8 ∧ s.n + 200 < drawLim ∧ ∀ d k, Vb d → repOk d = true → k ≤ s.n + 200 → Q d ⟨s.adr, k⟩
theorem spCh42_len : ∀ ds s Qd, spCh42 ds s Qd → ds.length = 2 := fun ds s Qd ⟨_, _, _, _, _, e, _⟩ => by rw [e]; rfl
theorem gd_vb {N W n : Nat} {d : D} (h : Gd N W n d) (h1 : N ≤ 10000) (h2 : W ≤ 380000) (h3 : n ≤ 60) : Vb d ∧ repOk d = true := by
  refine ⟨⟨sm_val h.s h1, fun rs e r hr => ?_⟩, (R30.gd_right h h1 h2 h3).2⟩
  subst e
  exact sm_v3 ((sm_tup h.s).2 r hr) h1
theorem told_pf (d : D) : plainD 5 (toldD d) = true ∧ few (toldD d) = true := by
  obtain ⟨h1, h2⟩ := book_ok d
  rcases h1 with h | ⟨i, x, h, hi⟩
  · obtain ⟨p, f⟩ := h2 h
    rw [told_non h]
    refine ⟨?_, ?_⟩
    · show (true && (plainD 4 d && true)) = true
      rw [p]; rfl
    · show (true && (true && (few d && true))) = true
      rw [f]; rfl
  · rw [told_bad h]
    rcases hi with rfl | ⟨k, rfl⟩ <;> exact ⟨rfl, rfl⟩
theorem rules_gs : ∀ {rs : List D}, (∀ r ∈ rs, RuleOk r) → Gs 36 (801 * rs.length) 3 rs
  | [], _ => ⟨fun _ h => (by cases h), fun _ h => (by cases h), fun _ h => (by cases h), by rw [wl_nil]; exact Nat.zero_le _⟩
  | r :: rs, h => by
    have h1 := (h r (by simp)).g
    have h2 := rules_gs (rs := rs) fun x hx => h x (List.mem_cons_of_mem _ hx)
    have := (Gs.one h1).app h2
    exact this.mono (Nat.le_refl _) (by rw [List.length_cons]; omega) (Nat.le_refl _)
theorem book_tup {d : D} (h : bookW d = .non) : ∃ rs, d = .tup rs := by
  cases d with
  | tup rs => exact ⟨rs, rfl⟩
  | _ => cases h

def T_same42 (n : Nat) {m : Mem} : DTS m :=
  (dSeq (dIf (dTr (dIsT (dVar 1) Tg.tup Tg.lst)) (dSeq (dIf (dOrT (dCmT neC (dB isiD (daCons (dVar 0) (daCons (dC (D.any (V.ty "tuple"))) daNil))) (dB isiD (daCons (dVar 1) (daCons (dC (D.any (V.ty "tuple"))) daNil)))) (dCmT neC (dB isiD (daCons (dVar 0) (daCons (dC (D.any (V.ty "list"))) daNil))) (dB isiD (daCons (dVar 1) (daCons (dC (D.any (V.ty "list"))) daNil))))) (dRet (dC (D.bl false))) dNext)
        (dRet (dAndV (dCm eqC (dB lenD (daCons (dVar 0) daNil)) (dB lenD (daCons (dVar 1) daNil))) (dCm (eqE false) (dLc (diZip (daCons (dVar 0) (daCons (dVar 1) daNil))) (gTup' 2 (gCons' (gN 2) (gCons' (gN 3) gNil'))) (dNotT (dTr (dCall (spSame43 n) (daCons (dVar 2) (daCons (dVar 3) daNil))))) (dC (D.int 1)) [2, 3]) (dLst daNil))))) dNext)
      (dSeq (dIf (dCmT isD' (dVar 1) (dC D.non)) (dRet (dCm isD' (dVar 0) (dC D.non))) dNext)
      (dSeq (dIf (dTr (dB isiD (daCons (dVar 1) (daCons (dC (D.any (V.ty "str"))) daNil)))) (dRet (dAndV (dB isiD (daCons (dVar 0) (daCons (dC (D.any (V.ty "str"))) daNil))) (dCm eqC (dVar 0) (dVar 1)))) dNext)
      (dRet (dAndV (dB isiD (daCons (dVar 0) (daCons (dC (D.any (V.ty "int"))) daNil))) (dAndV (dCm eqC (dB isiD (daCons (dVar 0) (daCons (dC (D.any (V.ty "bool"))) daNil))) (dB isiD (daCons (dVar 1) (daCons (dC (D.any (V.ty "bool"))) daNil)))) (dCm eqC (dVar 0) (dVar 1))))))))
theorem read_same42 (n : Nat) {m : Mem} : ∀ ds s Qd, (spSame43 (n + 1) : DSp m) ds s Qd → (T_same42 n : DTS m) (endsOf Qd) (startD ["_law_found", "_law_due", "_law_a", "_law_b"] ds) s := by
  intro ds s Qd h
  obtain ⟨d, rfl, hp, hf, hQ⟩ := h
  have zl : ∀ n, n ≤ 2000 → n ≤ sizeLine := fun n h => line_of (by omega)
  cases d with
  | non => exact ⟨_, rfl, _, rfl, (fun _ => by intro z; cases z), (fun _ => by intro z; cases z), hQ⟩
  | str x =>
    refine ⟨_, rfl, _, rfl, (fun _ => by intro z; cases z), _, .str, _, rfl, rfl, (by intro z; cases z), _, rfl, ?_⟩
    refine ⟨_, .str, _, rfl, rfl, (by intro z; cases z), _, rfl, rfl, rfl, ?_⟩
    rw [show eqD (.str x) (.str x) = true from by simp [eqD]]
    exact hQ
  | tup xs =>
    have hp' : ∃ k, n = k + 1 ∧ plainDs k xs = true := by
      cases n with
      | zero => exact absurd hp (by show ¬ (false = true); decide)
      | succ k => exact ⟨k, rfl, hp⟩
    obtain ⟨k, rfl, hps⟩ := hp'
    have hf : (decide (xs.length ≤ 1000) && fews xs) = true := hf
    rw [Bool.and_eq_true] at hf
    have hl := of_decide_eq_true hf.1
    refine ⟨.tup, rfl, _, rfl, ?_⟩
    refine ⟨_, .tup, .tup, rfl, rfl, (by intro z; cases z), _, .tup, .tup, rfl, rfl, (by intro z; cases z), rfl, rfl, ?_⟩
    refine ⟨_, .lst, .tup, rfl, rfl, (by intro z; cases z), _, .lst, .tup, rfl, rfl, (by intro z; cases z), rfl, rfl, ?_⟩
    refine ⟨_, xs.length, rfl, rfl, _, xs.length, rfl, rfl, rfl, rfl, _, rfl, ?_⟩
    rw [eqi, decide_eq_true rfl]
    refine ⟨_, _, xs, xs, rfl, rfl, zl _ (by rw [pairs_self, List.length_map]; omega), fun pre acc s' => s' = s ∧ acc = [], ⟨rfl, rfl⟩, ?_, ?_⟩
    · rintro pre x post acc s' e - ⟨rfl, rfl⟩
      rw [pairs_self] at e
      obtain ⟨y, hy, rfl⟩ : ∃ y ∈ xs, D.tup [y, y] = x := List.mem_map.mp (show x ∈ xs.map fun x => D.tup [x, x] by rw [e]; simp)
      refine ⟨_, rfl, rfl, _, _, rfl, _, _, rfl, rfl, y, rfl, plains_iff hps y hy, fews_iff.mp hf.2 y hy, _, rfl, rfl, rfl, rfl⟩
    · rintro acc s' - ⟨rfl, rfl⟩
      exact ⟨by show 0 ≤ sizeLine; exact Nat.zero_le _, _, rfl, rfl, hQ⟩
  | lst xs =>
    have hp' : ∃ k, n = k + 1 ∧ plainDs k xs = true := by
      cases n with
      | zero => exact absurd hp (by show ¬ (false = true); decide)
      | succ k => exact ⟨k, rfl, hp⟩
    obtain ⟨k, rfl, hps⟩ := hp'
    have hf : (decide (xs.length ≤ 1000) && fews xs) = true := hf
    rw [Bool.and_eq_true] at hf
    have hl := of_decide_eq_true hf.1
    refine ⟨.lst, rfl, _, rfl, ?_⟩
    refine ⟨_, .tup, .lst, rfl, rfl, (by intro z; cases z), _, .tup, .lst, rfl, rfl, (by intro z; cases z), rfl, rfl, ?_⟩
    refine ⟨_, .lst, .lst, rfl, rfl, (by intro z; cases z), _, .lst, .lst, rfl, rfl, (by intro z; cases z), rfl, rfl, ?_⟩
    refine ⟨_, xs.length, rfl, rfl, _, xs.length, rfl, rfl, rfl, rfl, _, rfl, ?_⟩
    rw [eqi, decide_eq_true rfl]
    refine ⟨_, _, xs, xs, rfl, rfl, zl _ (by rw [pairs_self, List.length_map]; omega), fun pre acc s' => s' = s ∧ acc = [], ⟨rfl, rfl⟩, ?_, ?_⟩
    · rintro pre x post acc s' e - ⟨rfl, rfl⟩
      rw [pairs_self] at e
      obtain ⟨y, hy, rfl⟩ : ∃ y ∈ xs, D.tup [y, y] = x := List.mem_map.mp (show x ∈ xs.map fun x => D.tup [x, x] by rw [e]; simp)
      refine ⟨_, rfl, rfl, _, _, rfl, _, _, rfl, rfl, y, rfl, plains_iff hps y hy, fews_iff.mp hf.2 y hy, _, rfl, rfl, rfl, rfl⟩
    · rintro acc s' - ⟨rfl, rfl⟩
      exact ⟨by show 0 ≤ sizeLine; exact Nat.zero_le _, _, rfl, rfl, hQ⟩
  | int i =>
    refine ⟨_, rfl, _, rfl, (fun _ => by intro z; cases z), _, .str, _, rfl, rfl, (by intro z; cases z), _, rfl, ?_⟩
    refine ⟨_, .int, _, rfl, rfl, (by intro z; cases z), _, rfl, ?_⟩
    refine ⟨_, .bl, _, rfl, rfl, (by intro z; cases z), _, .bl, _, rfl, rfl, (by intro z; cases z), rfl, rfl, _, rfl, ?_⟩
    refine ⟨rfl, rfl, ?_⟩
    rw [show eqD (.int i) (.int i) = true from by simp [eqD]]
    exact hQ
  | bl b =>
    refine ⟨_, rfl, _, rfl, (fun _ => by intro z; cases z), _, .str, _, rfl, rfl, (by intro z; cases z), _, rfl, ?_⟩
    refine ⟨_, .int, _, rfl, rfl, (by intro z; cases z), _, rfl, ?_⟩
    refine ⟨_, .bl, _, rfl, rfl, (by intro z; cases z), _, .bl, _, rfl, rfl, (by intro z; cases z), rfl, rfl, _, rfl, ?_⟩
    refine ⟨rfl, rfl, ?_⟩
    rw [show eqD (.bl b) (.bl b) = true from by simp [eqD]]
    exact hQ
  | _ => cases hp
def T_against42 {m : Mem} : DTS m :=
  (dSeq (dIf (dOrT (dNotT (dTr (dB isiD (daCons (dVar 0) (daCons (dC (D.any (V.ty "tuple"))) daNil))))) (dCmT gtD (dB lenD (daCons (dVar 0) daNil)) (dC (D.int 8)))) (dRet (dTup (daCons (dC D.non) (daCons (dC (D.str (Str.ofString "rules"))) daNil)))) dNext)
      (dSeq (dFor (diR1 (daCons (dB lenD (daCons (dVar 0) daNil)) daNil)) (gN 1)
        (dSeq (dSet 2 (dCall spWord (daCons (dOp ixD (dVar 0) (dVar 1)) daNil)))
        (dSeq (dIf (dCmT isntD' (dVar 2) (dC D.non)) (dRet (dTup (daCons (dVar 1) (daCons (dVar 2) daNil)))) dNext)
        (dIf (dCmT (inTD false) (dOp ixD (dVar 0) (dVar 1)) (dSl slD (dVar 0) doNone (doSome (dVar 1)))) (dRet (dTup (daCons (dVar 1) (daCons (dC (D.str (Str.ofString "again"))) daNil)))) dNext))))
      (dRet (dC D.non))))
theorem read_against42 {m : Mem} : ∀ ds s Qd, (spBE42 : DSp m) ds s Qd → (T_against42 : DTS m) (endsOf Qd) (startD ["_law_value", "_law_at", "_law_word_here"] ds) s := by
  intro ds s Qd h
  obtain ⟨d, rfl, ⟨⟨⟨t, ht⟩, hx⟩, hv⟩, hQ⟩ := h
  refine ⟨d, .tup, t, rfl, ht, (by intro z; cases z), _, rfl, ?_⟩
  cases d with
  | tup rs =>
    cases ht
    have hv := hv rs rfl
    refine ⟨.tup rs, rs.length, rfl, rfl, ?_⟩
    have hQ : Qd (if 8 < rs.length then wRules else scanW rs 0 rs) s := hQ
    refine ifBd (fun g => ?_) fun g => ?_
    · rw [if_pos (by omega)] at hQ
      exact ⟨by show 2 ≤ sizeLine; decide, hQ⟩
    rw [if_neg (by omega)] at hQ
    refine ⟨.tup rs, rs.length, rfl, rfl, _, rfl, (by omega), (by omega), fun pre ρ s' => s' = s ∧ ∃ c1 c2, ρ = [.sh (.tup rs), c1, c2] ∧ (∀ r ∈ rs.take pre.length, wordD r = .non) ∧ Qd (scanW rs pre.length (rs.drop pre.length)) s,
      ⟨rfl, .no, .no, rfl, (fun _ h => by cases h), hQ⟩, ?_, ?_⟩
    · rintro pre x post ρ s' e ⟨rfl, c1, c2, rfl, hw, hq⟩
      obtain ⟨hp, rfl⟩ := rng_pre e
      have hp : pre.length < rs.length := by simpa using hp
      rw [show (0 : Int) + ((pre.length : Nat) : Int) = ((pre.length : Nat) : Int) from Int.zero_add _]
      have hy : rs[pre.length]? = some rs[pre.length] := List.getElem?_eq_getElem hp
      have hd : rs.drop pre.length = rs[pre.length] :: rs.drop (pre.length + 1) := List.drop_eq_getElem_cons hp
      have hm : rs[pre.length] ∈ rs := List.getElem_mem hp
      have ht : rs.take (pre.length + 1) = rs.take pre.length ++ [rs[pre.length]] := List.take_append_getElem hp |>.symm
      generalize rs[pre.length] = y at hy hd hm ht
      rw [hd] at hq
      refine ⟨y, atI_nat hy, y, rfl, hv y hm, ?_⟩
      rcases word_kind y with h | ⟨w, h⟩
      · rw [h]
        have ec : DL.cutD rs none (some ((pre.length : Nat) : Int)) = rs.take pre.length := R29.cut_take (by omega)
        refine ⟨(by intro w z; cases z), ?_⟩
        refine ⟨y, atI_nat hy, ((pre.length : Nat) : Int), rfl, _, rfl, plain_mono 3 58 y (by decide) (right_pf h).p, ?_, ?_⟩
        · rw [ec]
          exact plains_of fun z hz => plain_mono 3 58 z (by decide) (right_pf (hw z hz)).p
        rw [ec]
        cases ha : (rs.take pre.length).any fun z => eqD z y with
        | true =>
          rw [scan_again h ha] at hq
          exact ⟨by show 2 ≤ sizeLine; decide, hq⟩
        | false =>
          rw [scan_next h ha] at hq
          refine ⟨rfl, _, _, rfl, ?_, ?_⟩
          · rw [List.length_append, List.length_singleton, ht]
            intro r hr
            rcases List.mem_append.mp hr with q | q
            · exact hw r q
            · rw [List.mem_singleton.mp q]; exact h
          · rw [List.length_append, List.length_singleton]
            exact hq
      · rw [h]
        rw [scan_word h] at hq
        refine ⟨(by intro w z; cases z), ?_⟩
        exact ⟨by show 2 ≤ sizeLine; decide, hq⟩
    · rintro ρ s' ⟨rfl, c1, c2, rfl, hw, hq⟩
      rw [rngD_length, Int.toNat_natCast, List.drop_length] at hq
      exact hq
  | any _ => cases ht
  | fz _ => cases ht
  | ins _ _ _ => cases ht
  | exc _ _ _ => cases ht
  | cau _ _ _ _ => cases ht
  | exk _ _ _ => cases ht
  | _ => cases ht; exact ⟨by show 2 ≤ sizeLine; decide, hQ⟩
def T_fits42 (a : Nat → Addr) {m : Mem} : DTS m :=
  (dSeq (dIf (dCmT eqC (dVar 0) (dC (D.str (Str.ofString "how")))) (dRet (dCm inTxD (dVar 1) (dTup (daCons (dC (D.str (Str.ofString "direct"))) (daCons (dC (D.str (Str.ofString "chain"))) daNil))))) dNext)
      (dSeq (dIf (dCmT eqC (dVar 0) (dC (D.str (Str.ofString "rows")))) (dRet (dCall spRows (daCons (dVar 1) daNil))) dNext)
      (dSeq (dIf (dCmT eqC (dVar 0) (dC (D.str (Str.ofString "path")))) (dRet (dCall spRp (daCons (dVar 1) daNil))) dNext)
      (dSeq (dAsg (dOp (kixD (a 52) tab_SIZES) (dC (D.any (V.ref (a 52)))) (dVar 0)) (gTup' 2 (gCons' (gN 3) (gCons' (gN 4) gNil'))))
      (dSeq (dIf (dNotT (dTr (dCall spRps (daCons (dVar 1) (daCons (dVar 3) (daCons (dVar 4) daNil)))))) (dRet (dC (D.bl false))) dNext)
      (dRet (dOrV (dCm neC (dVar 0) (dC (D.str (Str.ofString "exposed")))) (dB allD (daCons (dLc (diSeq (dVar 1)) (gN 5) dYes (dAndV (dCm neC (dVar 5) (dVar 2)) (dCall spCovers (daCons (dVar 2) (daCons (dVar 5) daNil)))) [5]) daNil)))))))))
theorem read_fits42 {a : Nat → Addr} {m : Mem} : ∀ ds s Qd, (spFit : DSp m) ds s Qd → (T_fits42 a : DTS m) (endsOf Qd) (startD ["name", "item", "first", "least", "most", "path"] ds) s := by
  intro ds s Qd h
  obtain ⟨nm, item, first, rfl, hn, hv, hf, hQ⟩ := h
  unfold fit at hQ
  refine ⟨rfl, rfl, ?_⟩
  rw [eqs]
  refine ifBd (fun c1 => ?_) fun c1 => ?_
  · rw [if_pos c1] at hQ
    exact ⟨by show 2 ≤ sizeLine; decide, sDC, ty_some hv.1, rfl, hQ⟩
  rw [if_neg c1] at hQ
  refine ⟨rfl, rfl, ?_⟩
  rw [eqs]
  refine ifBd (fun c2 => ?_) fun c2 => ?_
  · rw [if_pos c2] at hQ
    exact ⟨item, rfl, hv, hQ⟩
  rw [if_neg c2] at hQ
  refine ⟨rfl, rfl, ?_⟩
  rw [eqs]
  refine ifBd (fun c3 => ?_) fun c3 => ?_
  · rw [if_pos c3] at hQ
    exact ⟨item, rfl, hv.1, hQ⟩
  rw [if_neg c3] at hQ
  have hm : nm ∈ los.map (·.1) := by
    rcases hn with h | h | h | h
    · exact absurd h c1
    · exact absurd h c2
    · exact absurd h c3
    · exact h
  obtain ⟨_, _, _, l, e1, e2⟩ := los_sizes hm
  rw [e1] at hQ
  refine ⟨nm, _, rfl, rfl, e2, ?_⟩
  refine ⟨_, rfl, rfl, _, _, rfl, _, _, rfl, rfl, ?_⟩
  have hv1 := hv.v1
  have hQ : Qd (.bl (rps l 6 item && if nm = sExp then expo first item else true)) s := hQ
  refine ⟨item, l, 6, rfl, hv1, _, rfl, ifB2 (fun g => ?_) fun g => ?_⟩
  · have g' : rps l 6 item = false := by simpa using g
    rw [g', Bool.false_and] at hQ
    exact hQ
  have g' : rps l 6 item = true := by simpa using g
  rw [g', Bool.true_and] at hQ
  refine ⟨rfl, rfl, _, rfl, ?_⟩
  show ifB (!eqD (.str nm) (.str sExp)) _ _
  rw [eqs]
  by_cases c4 : nm = sExp
  · rw [if_pos c4] at hQ
    obtain ⟨p, rfl, hp⟩ := hf c4
    obtain ⟨xs, rfl, hx⟩ := rps_tup g'
    obtain ⟨hz, _⟩ := hv1.2 xs rfl
    rw [decide_eq_true c4]
    refine ⟨xs, rfl, line_of (by omega), fun pre acc s' => s' = s ∧ acc = (pre.map fun q => !eqD q (.str p) && cov (.str p) q).map D.bl, ⟨rfl, rfl⟩, ?_, ?_⟩
    · rintro pre y post acc s' e - ⟨rfl, rfl⟩
      obtain ⟨z, rfl⟩ := rp_str (hx y (by rw [e]; simp))
      refine ⟨rfl, rfl, rfl, _, rfl, ifB2 (fun q => ?_) fun q => ?_⟩
      · refine ⟨p, z, rfl, hp, rfl, rfl, ?_⟩
        have ek : coversS p z = (!eqD (.str z) (.str p) && cov (.str p) (.str z)) := by rw [q, Bool.true_and]; rfl
        rw [ek]
        exact bl_app2 (fun q => !eqD q (.str p) && cov (.str p) q) pre (.str z)
      · refine ⟨rfl, rfl, ?_⟩
        have ek : (!eqD (.str z) (.str p)) = (!eqD (.str z) (.str p) && cov (.str p) (.str z)) := by rw [q, Bool.false_and]
        rw [ek]
        exact bl_app2 (fun q => !eqD q (.str p) && cov (.str p) q) pre (.str z)
    · rintro acc s' - ⟨rfl, rfl⟩
      refine ⟨_, rfl, ?_⟩
      have ek : expo (.str p) (.tup xs) = (xs.map fun q => !eqD q (.str p) && cov (.str p) q).all id := by
        rw [List.all_map]; rfl
      rw [ek] at hQ
      exact hQ
  · rw [if_neg c4] at hQ
    rw [decide_eq_false c4]
    exact hQ
def T_rule_paths42 (a : Nat → Addr) {m : Mem} : DTS m :=
  (dSeq (dSetL 1 daNil)
      (dSeq (dFor (diZip (daCons (dOp (kixD (a 51) tab_FORMS) (dC (D.any (V.ref (a 51)))) (dOp ixD (dVar 0) (dC (D.int 0)))) (daCons (dSl slD (dVar 0) (doSome (dC (D.int 1))) doNone) daNil))) (gTup' 2 (gCons' (gN 2) (gCons' (gN 3) gNil')))
        (dIf (dCmT eqC (dVar 2) (dC (D.str (Str.ofString "rows")))) (dExt 1 (dLc2 (diSeq (dVar 3)) (gN 4) (diSeq (dVar 4)) (gN 5) (dVar 5) [4, 5] [5])) (dIf (dCmT eqC (dVar 2) (dC (D.str (Str.ofString "path")))) (dApp 1 (dVar 3)) (dIf (dCmT neC (dVar 2) (dC (D.str (Str.ofString "how")))) (dExt 1 (dB listD (daCons (dVar 3) daNil))) dNext))))
      (dRet (dVar 1))))
theorem read_rule_paths42 {a : Nat → Addr} {m : Mem} : ∀ ds s Qd, (spPaths : DSp m) ds s Qd → (T_rule_paths42 a : DTS m) (endsOf Qd) (startD ["rule", "found", "name", "item", "row", "path"] ds) s := by
  intro ds s Qd h
  obtain ⟨k, names, items, rfl, hk, hn, hs, hQ⟩ := h
  refine ⟨by show 0 ≤ sizeLine; exact Nat.zero_le _, ?_⟩
  have ez : pairsD (names.map D.str) (DL.cutD (D.str k :: items) (some 1) none) = (names.zip items).map R29.prD := by
    rw [cut_tail, pairs_zip]; rfl
  have big : (1000000 : Nat) ≤ sizeLine := line_of (Nat.le_refl _)
  refine ⟨.str k, atI_nat (j := 0) rfl, k, _, rfl, rfl, hk, 1, rfl, _, _, _, _, rfl, rfl, fun pre ρ s' => s' = s ∧ ∃ c2 c3 c4 c5 ps, pre = (ps : List (Str × D)).map R29.prD ∧ ρ = [.sh (.tup (.str k :: items)), .ow (.lst (pthsOf ps)), c2, c3, c4, c5], ⟨rfl, _, _, _, _, [], rfl, rfl⟩, ?_, ?_⟩
  · rintro pre y post ρ s' e ⟨rfl, c2, c3, c4, c5, ps, rfl, rfl⟩
    rw [ez] at e
    obtain ⟨⟨nm, it⟩, rest, e1, rfl⟩ := pr_split e
    have hsh : Shp nm it := hs (nm, it) (by rw [e1]; simp)
    have hps : ∀ p ∈ ps, Shp p.1 p.2 := fun p hp => hs p (by rw [e1]; simp [hp])
    have hlen : ps.length ≤ 3 := by
      have := congrArg List.length e1
      rw [List.length_zip, List.length_append] at this
      omega
    have hfew := pths_few hps
    have hone := hsh.few
    refine ⟨_, rfl, rfl, _, _, rfl, _, _, rfl, rfl, rfl, rfl, ?_⟩
    rw [eqs]
    have fin : ∀ c2 c3 c4 c5 : Sl, ∀ es, es = itemPaths nm it → (s' = s' ∧ ∃ d2 d3 d4 d5 qs, ps.map R29.prD ++ [R29.prD (nm, it)] = (qs : List (Str × D)).map R29.prD ∧ ([.sh (.tup (.str k :: items)), .ow (.lst (pthsOf ps ++ es)), c2, c3, c4, c5] : List Sl) = [.sh (.tup (.str k :: items)), .ow (.lst (pthsOf qs)), d2, d3, d4, d5]) := fun c2 c3 c4 c5 es h => by
      refine ⟨rfl, c2, c3, c4, c5, ps ++ [(nm, it)], by rw [List.map_append]; rfl, ?_⟩
      rw [pths_app, h]
    refine ifBd (fun d1 => ?_) fun d1 => ?_
    · obtain ⟨rs, rfl, hz, hr⟩ := hsh.1 d1
      have ei : itemPaths nm (.tup rs) = rs.flatMap tupOf := by unfold itemPaths; rw [if_pos d1]; rfl
      refine ⟨⟨_, rfl⟩, rs, rfl, fun pre acc s2 => s2 = s' ∧ acc = pre.flatMap tupOf ∧ acc.length ≤ 4 * pre.length, ⟨rfl, rfl, Nat.zero_le _⟩, ?_, ?_⟩
      · rintro pre x post acc s2 e2 ⟨rfl, rfl, hl⟩
        have hpl : pre.length < 5 := by
          have := congrArg List.length e2
          rw [List.length_append, List.length_cons] at this
          omega
        obtain ⟨xs, rfl, hx⟩ := hr x (by rw [e2]; simp)
        refine ⟨xs, rfl, rfl, fun pre1 acc1 s3 => s3 = s2 ∧ acc1 = pre.flatMap tupOf ++ pre1, ⟨rfl, by rw [List.append_nil]⟩, ?_, ?_⟩
        · rintro pre1 y1 post1 acc1 s3 e3 ⟨rfl, rfl⟩
          have hp1 : pre1.length < 4 := by
            have := congrArg List.length e3
            rw [List.length_append, List.length_cons] at this
            omega
          refine ⟨?_, rfl, rfl, by rw [List.append_assoc]⟩
          rw [List.length_append]
          omega
        · rintro acc1 s3 ⟨rfl, rfl⟩
          refine ⟨rfl, by rw [List.flatMap_append]; simp [tupOf], ?_⟩
          rw [List.length_append, List.length_append]
          simp only [List.length_cons, List.length_nil]
          omega
      · rintro acc s2 ⟨rfl, rfl, hl⟩
        refine ⟨_, _, rfl, rfl, ?_, fin _ _ _ _ _ ei.symm⟩
        omega
    · refine ⟨rfl, rfl, ?_⟩
      rw [eqs]
      refine ifBd (fun d2 => ?_) fun d2 => ?_
      · have ei : itemPaths nm it = [it] := by unfold itemPaths; rw [if_neg d1, if_pos d2]
        refine ⟨⟨_, rfl⟩, _, rfl, ?_, fin _ _ _ _ _ ei.symm⟩
        omega
      · refine ⟨rfl, rfl, ?_⟩
        rw [eqs]
        refine ifB2 (fun g => ?_) fun g => ?_
        · have d3 : ¬ nm = sHow := by simpa using g
          obtain ⟨xs, rfl, hx⟩ := hsh.2 d1 d2 d3
          have ei : itemPaths nm (.tup xs) = xs := by unfold itemPaths; rw [if_neg d1, if_neg d2, if_neg d3]; rfl
          refine ⟨⟨_, rfl⟩, _, _, rfl, rfl, _, _, rfl, rfl, ?_, fin _ _ _ _ _ ei.symm⟩
          omega
        · have d3 : nm = sHow := by simpa using g
          have ei : itemPaths nm it = [] := by unfold itemPaths; rw [if_neg d1, if_neg d2, if_pos d3]
          refine ⟨rfl, .sh (.str nm), .sh it, c4, c5, ps ++ [(nm, it)], by rw [List.map_append]; rfl, ?_⟩
          rw [pths_app, ei, List.append_nil]
          rfl
  · rintro ρ s' ⟨rfl, c2, c3, c4, c5, ps, e, rfl⟩
    rw [ez] at e
    have := pr_inj e
    subst this
    exact hQ
def T_rule_error42 (a : Nat → Addr) {m : Mem} : DTS m :=
  (dSeq (dIf (dOrT (dNotT (dTr (dB isiD (daCons (dVar 0) (daCons (dC (D.any (V.ty "tuple"))) daNil))))) (dOrT (dCmT eqC (dB lenD (daCons (dVar 0) daNil)) (dC (D.int 0))) (dNotT (dTr (dB isiD (daCons (dOp ixD (dVar 0) (dC (D.int 0))) (daCons (dC (D.any (V.ty "str"))) daNil))))))) (dRet (dC (D.str (Str.ofString "rule")))) dNext)
      (dSeq (dIf (dOrT (dCmT (kinD (a 51) tab_FORMS true) (dOp ixD (dVar 0) (dC (D.int 0))) (dC (D.any (V.ref (a 51))))) (dCmT neC (dB lenD (daCons (dVar 0) daNil)) (dOp addD (dC (D.int 1)) (dB lenD (daCons (dOp (kixD (a 51) tab_FORMS) (dC (D.any (V.ref (a 51)))) (dOp ixD (dVar 0) (dC (D.int 0)))) daNil))))) (dRet (dC (D.str (Str.ofString "rule")))) dNext)
      (dSeq (dFor (diZip (daCons (dOp (kixD (a 51) tab_FORMS) (dC (D.any (V.ref (a 51)))) (dOp ixD (dVar 0) (dC (D.int 0)))) (daCons (dSl slD (dVar 0) (doSome (dC (D.int 1))) doNone) daNil))) (gTup' 2 (gCons' (gN 1) (gCons' (gN 2) gNil')))
        (dIf (dNotT (dTr (dCall spFit (daCons (dVar 1) (daCons (dVar 2) (daCons (dOp ixD (dVar 0) (dC (D.int 1))) daNil)))))) (dRet (dVar 1)) dNext))
      (dSeq (dIf (dTr (dCall spAny (daCons (dIfE (dCmT eqC (dOp ixD (dVar 0) (dC (D.int 0))) (dC (D.str (Str.ofString "face")))) (dOp ixD (dVar 0) (dC (D.int 2))) (dCall spPaths (daCons (dVar 0) daNil))) daNil))) (dRet (dC (D.str (Str.ofString "overlap")))) dNext)
      (dRet (dC D.non))))))
theorem read_rule_error42 {a : Nat → Addr} {m : Mem} : ∀ ds s Qd, (spWord : DSp m) ds s Qd → (T_rule_error42 a : DTS m) (endsOf Qd) (startD ["value", "name", "item"] ds) s := by
  intro ds s Qd h
  obtain ⟨d, rfl, ⟨⟨⟨t, ht⟩, hx⟩, hv⟩, hQ⟩ := h
  refine ⟨d, .tup, t, rfl, ht, (by intro z; cases z), _, rfl, ?_⟩
  cases d with
  | tup xs =>
    cases ht
    have hv := hv xs rfl
    cases xs with
    | nil => exact ⟨.tup [], 0, rfl, rfl, rfl, rfl, hQ⟩
    | cons x items =>
      have hvx := (hv.2 x (by simp)).1
      obtain ⟨⟨tx, htx⟩, _⟩ := hvx
      refine ⟨.tup (x :: items), _, rfl, rfl, rfl, rfl, ?_⟩
      show ifB (eqD (.int _) (.int 0)) _ _
      rw [eqi, decide_eq_false (by rw [List.length_cons]; omega)]
      refine ⟨x, atI_nat (j := 0) rfl, x, .str, tx, rfl, htx, (by intro z; cases z), _, rfl, ?_⟩
      cases x with
      | str k =>
        cases htx
        refine ⟨.str k, atI_nat (j := 0) rfl, k, rfl, rfl, ?_⟩
        show ifB (true ^^ (tab_FORMS.lookup k).isSome) _ _
        rw [tab_forms]
        have hQ : Qd (match forms.lookup k with | none => wRule | some names => if items.length = names.length then wordIn k names items else wRule) s := hQ
        cases ef : forms.lookup k with
        | none => rw [ef] at hQ; exact hQ
        | some names =>
          rw [ef] at hQ
          have hQ : Qd (if items.length = names.length then wordIn k names items else wRule) s := hQ
          have hlk : tab_FORMS.lookup k = some (.tup (names.map .str)) := by rw [tab_forms, ef]; rfl
          obtain ⟨hn3, hne, hok, hex, hface⟩ := form_facts ef
          refine ⟨.tup (.str k :: items), _, rfl, rfl, .str k, atI_nat (j := 0) rfl, k, _, rfl, rfl, hlk, _, names.length, rfl, (by show some _ = _; rw [List.length_map]), rfl, rfl, ?_⟩
          show ifB (!eqD (.int _) (.int _)) _ _
          rw [eqi]
          refine ifB2 (fun g => ?_) fun g => ?_
          · have c : ¬ items.length = names.length := fun z => by
              rw [decide_eq_true (by rw [List.length_cons, z]; omega)] at g
              cases g
            rw [if_neg c] at hQ
            exact hQ
          · have c : items.length = names.length := by
              have g' : (((D.str k :: items).length : Nat) : Int) = 1 + ((names.length : Nat) : Int) := by simpa using g
              rw [List.length_cons] at g'
              omega
            rw [if_pos c] at hQ
            have ez : pairsD (names.map D.str) (DL.cutD (D.str k :: items) (some 1) none) = (names.zip items).map R29.prD := by
              rw [cut_tail, pairs_zip]; rfl
            refine ⟨.str k, atI_nat (j := 0) rfl, k, _, rfl, rfl, hlk, 1, rfl, _, _, _, _, rfl, rfl, fun pre ρ s' => s' = s ∧ ∃ c1 c2 ps, pre = (ps : List (Str × D)).map R29.prD ∧ ρ = [.sh (.tup (.str k :: items)), c1, c2] ∧ ∀ p ∈ ps, fit p.1 p.2 (items.headD .non) = true, ⟨rfl, _, _, [], rfl, rfl, fun p hp => nomatch hp⟩, ?_, ?_⟩
            · rintro pre y post ρ s' e ⟨rfl, c1, c2, ps, rfl, rfl, hps⟩
              rw [ez] at e
              obtain ⟨⟨nm, it⟩, rest, e1, rfl⟩ := pr_split e
              have hin : (nm, it) ∈ names.zip items := by rw [e1]; simp
              have hzn : names = ps.map (·.1) ++ nm :: rest.map (·.1) := by
                have := List.map_fst_zip (l₁ := names) (l₂ := items) (by omega)
                rw [e1, List.map_append, List.map_cons] at this
                exact this.symm
              have hzi : items = ps.map (·.2) ++ it :: rest.map (·.2) := by
                have := List.map_snd_zip (l₁ := names) (l₂ := items) (by omega)
                rw [e1, List.map_append, List.map_cons] at this
                exact this.symm
              obtain ⟨f, its, rfl⟩ : ∃ f its, items = f :: its := by
                cases items with
                | nil => simp at hzi
                | cons f its => exact ⟨f, its, rfl⟩
              have hps : ∀ p ∈ ps, fit p.1 p.2 f = true := hps
              have hexp : nm = sExp → ∃ p : Str, f = .str p ∧ p.length ≤ 1000 := fun z => by
                subst z
                have h1 := hex _ _ hzn
                cases ps with
                | nil => simp at h1
                | cons q qs =>
                  obtain ⟨q1, q2⟩ := q
                  rw [List.map_cons] at h1
                  injection h1 with h2 h3
                  have h2 : q1 = sPath := h2
                  rw [List.map_cons, List.cons_append] at hzi
                  injection hzi with h4 h5
                  have h4 : f = q2 := h4
                  have hf := hps (q1, q2) (by simp)
                  have hf : fit q1 q2 f = true := hf
                  rw [h2, ← h4] at hf
                  have n1 : sPath ≠ sHow := by decide +kernel
                  have n2 : sPath ≠ sRows := by decide +kernel
                  unfold fit at hf
                  rw [if_neg n1, if_neg n2, if_pos rfl] at hf
                  obtain ⟨w, rfl⟩ := rp_str hf
                  exact ⟨w, rfl, rp_len hf⟩
              have hv2 : V2 it := hv.2 it (List.mem_cons_of_mem _ (zip_snd hin))
              refine ⟨_, rfl, rfl, _, _, rfl, _, _, rfl, rfl, f, atI_nat (j := 1) rfl, nm, it, f, rfl, hok nm (zip_fst hin), hv2, hexp, _, rfl, ifB2 (fun g => ?_) fun g => ?_⟩
              · have g' : fit nm it f = false := by simpa using g
                unfold wordIn at hQ
                rw [e1] at hQ
                have := find_first (f := fun p : Str × D => fit p.1 p.2 f) (rest := rest) hps (x := (nm, it)) g'
                rw [show (List.headD (f :: its) D.non) = f from rfl, this] at hQ
                exact hQ
              · have g' : fit nm it f = true := by simpa using g
                refine ⟨rfl, _, _, ps ++ [(nm, it)], by rw [List.map_append]; rfl, rfl, fun p hp => ?_⟩
                rcases List.mem_append.mp hp with z | z
                · exact hps p z
                · have : p = (nm, it) := by simpa using z
                  rw [this]
                  exact g'
            · rintro ρ s' ⟨rfl, c1, c2, ps, e, rfl, hps⟩
              rw [ez] at e
              have := pr_inj e
              subst this
              unfold wordIn at hQ
              rw [find_all (f := fun p : Str × D => fit p.1 p.2 (items.headD .non)) hps] at hQ
              have hQ : Qd (if ovN (mainPaths k names items) (mainPaths k names items).length = true then wOver else .non) s' := hQ
              have fin : ∀ b : Bool, ovN (mainPaths k names items) (mainPaths k names items).length = b → ifB b (Qd wOver s') (Qd .non s') := fun b hb => by
                cases b with
                | true => rw [if_pos hb] at hQ; exact hQ
                | false => rw [if_neg (by rw [hb]; simp)] at hQ; exact hQ
              refine ⟨.str k, atI_nat (j := 0) rfl, rfl, rfl, ?_⟩
              rw [eqs]
              refine ifBd (fun hk => ?_) fun hk => ?_
              · have hnm := hface hk
                subst hnm
                obtain ⟨i0, i1, rfl⟩ : ∃ i0 i1, items = [i0, i1] := by
                  match items, c with
                  | [i0, i1], _ => exact ⟨i0, i1, rfl⟩
                have hf := hps (sExp, i1) (by simp)
                have hf : fit sExp i1 i0 = true := hf
                have n1 : sExp ≠ sHow := by decide +kernel
                have n2 : sExp ≠ sRows := by decide +kernel
                have n3 : sExp ≠ sPath := by decide +kernel
                obtain ⟨hsh, hoks⟩ := fit_ok (hok sExp (by simp)) hf
                obtain ⟨xs, rfl, hx6⟩ := hsh.2 n2 n3 n1
                have ei : itemPaths sExp (.tup xs) = xs := by unfold itemPaths; rw [if_neg n2, if_neg n3, if_neg n1]; rfl
                rw [ei] at hoks
                have em : mainPaths k [sPath, sExp] [i0, .tup xs] = xs := by unfold mainPaths; rw [if_pos hk]; rfl
                rw [em] at fin
                exact ⟨.tup xs, atI_nat (j := 2) rfl, .tup xs, xs, rfl, .inr rfl, by omega, hoks, _, rfl, fin _ rfl⟩
              · have em : mainPaths k names items = pthsOf (names.zip items) := by unfold mainPaths; rw [if_neg hk]
                rw [em] at fin
                have hall : ∀ p ∈ names.zip items, Shp p.1 p.2 := fun p hp => (fit_ok (hok _ (zip_fst hp)) (hps p hp)).1
                have hfew := pths_few hall
                have hzl : (names.zip items).length ≤ 3 := by rw [List.length_zip]; omega
                refine ⟨k, names, items, rfl, hlk, hn3, hall, .lst _, _, rfl, .inl rfl, by omega, fun x hx => ?_, _, rfl, fin _ rfl⟩
                obtain ⟨p, hp, hx⟩ := List.mem_flatMap.mp hx
                exact (fit_ok (hok _ (zip_fst hp)) (hps p hp)).2 x hx
      | any _ => cases htx
      | fz _ => cases htx
      | ins _ _ _ => cases htx
      | exc _ _ _ => cases htx
      | cau _ _ _ _ => cases htx
      | exk _ _ _ => cases htx
      | _ => cases htx; exact hQ
  | any _ => cases ht
  | fz _ => cases ht
  | ins _ _ _ => cases ht
  | exc _ _ _ => cases ht
  | cau _ _ _ _ => cases ht
  | exk _ _ _ => cases ht
  | _ => cases ht; exact hQ
def T_book_error42 {m : Mem} : DTS m :=
  (dSeq (dIf (dOrT (dNotT (dTr (dB isiD (daCons (dVar 0) (daCons (dC (D.any (V.ty "tuple"))) daNil))))) (dCmT gtD (dB lenD (daCons (dVar 0) daNil)) (dC (D.int 8)))) (dRet (dTup (daCons (dC D.non) (daCons (dC (D.str (Str.ofString "rules"))) daNil)))) dNext)
      (dSeq (dFor (dEnumA (daCons (dVar 0) daNil)) (gTup' 2 (gCons' (gN 1) (gCons' (gN 2) gNil')))
        (dSeq (dSet 3 (dCall spWord (daCons (dVar 2) daNil)))
        (dSeq (dIf (dCmT isntD' (dVar 3) (dC D.non)) (dRet (dTup (daCons (dVar 1) (daCons (dVar 3) daNil)))) dNext)
        (dIf (dCmT (inTD false) (dVar 2) (dSl slD (dVar 0) doNone (doSome (dVar 1)))) (dRet (dTup (daCons (dVar 1) (daCons (dC (D.str (Str.ofString "again"))) daNil)))) dNext))))
      (dRet (dC D.non))))
theorem read_book_error42 {m : Mem} : ∀ ds s Qd, (spBE42 : DSp m) ds s Qd → (T_book_error42 : DTS m) (endsOf Qd) (startD ["rules", "index", "rule", "word"] ds) s := by
  intro ds s Qd h
  obtain ⟨d, rfl, ⟨⟨⟨t, ht⟩, hx⟩, hv⟩, hQ⟩ := h
  refine ⟨d, .tup, t, rfl, ht, (by intro z; cases z), _, rfl, ?_⟩
  cases d with
  | tup rs =>
    cases ht
    have hv := hv rs rfl
    refine ⟨.tup rs, rs.length, rfl, rfl, ?_⟩
    have hQ : Qd (if 8 < rs.length then wRules else scanW rs 0 rs) s := hQ
    refine ifBd (fun g => ?_) fun g => ?_
    · rw [if_pos (by omega)] at hQ
      exact ⟨by show 2 ≤ sizeLine; decide, hQ⟩
    rw [if_neg (by omega)] at hQ
    refine ⟨.tup rs, rs, rfl, .inr rfl, fun pre ρ s' => s' = s ∧ ∃ c1 c2 c3, ρ = [.sh (.tup rs), c1, c2, c3] ∧ (∀ r ∈ rs.take pre.length, wordD r = .non) ∧ Qd (scanW rs pre.length (rs.drop pre.length)) s,
      ⟨rfl, .no, .no, .no, rfl, (fun _ h => by cases h), hQ⟩, ?_, ?_⟩
    · rintro pre x post ρ s' e ⟨rfl, c1, c2, c3, rfl, hw, hq⟩
      obtain ⟨y, hy, rfl⟩ := enum_get (i := pre.length) (d := x) (by rw [e]; simp)
      have hp : pre.length < rs.length := (List.getElem?_eq_some_iff.mp hy).1
      have ey : rs[pre.length] = y := (List.getElem?_eq_some_iff.mp hy).2
      have hd : rs.drop pre.length = y :: rs.drop (pre.length + 1) := by rw [← ey]; exact List.drop_eq_getElem_cons hp
      have hm : y ∈ rs := List.mem_of_getElem? hy
      have ht : rs.take (pre.length + 1) = rs.take pre.length ++ [y] := by rw [← ey]; exact (List.take_append_getElem hp).symm
      rw [hd] at hq
      refine ⟨_, rfl, rfl, _, _, rfl, _, _, rfl, rfl, y, rfl, hv y hm, ?_⟩
      rcases word_kind y with h | ⟨w, h⟩
      · rw [h]
        have ec : DL.cutD rs none (some ((pre.length : Nat) : Int)) = rs.take pre.length := R29.cut_take (by omega)
        refine ⟨(by intro w z; cases z), ?_⟩
        refine ⟨((pre.length : Nat) : Int), rfl, _, rfl, plain_mono 3 58 y (by decide) (right_pf h).p, ?_, ?_⟩
        · rw [ec]
          exact plains_of fun z hz => plain_mono 3 58 z (by decide) (right_pf (hw z hz)).p
        rw [ec]
        cases ha : (rs.take pre.length).any fun z => eqD z y with
        | true =>
          rw [scan_again h ha] at hq
          exact ⟨by show 2 ≤ sizeLine; decide, hq⟩
        | false =>
          rw [scan_next h ha] at hq
          refine ⟨rfl, _, _, _, rfl, ?_, ?_⟩
          · rw [List.length_append, List.length_singleton, ht]
            intro r hr
            rcases List.mem_append.mp hr with q | q
            · exact hw r q
            · rw [List.mem_singleton.mp q]; exact h
          · rw [List.length_append, List.length_singleton]
            exact hq
      · rw [h]
        rw [scan_word h] at hq
        refine ⟨(by intro w z; cases z), ?_⟩
        exact ⟨by show 2 ≤ sizeLine; decide, hq⟩
    · rintro ρ s' ⟨rfl, c1, c2, c3, rfl, hw, hq⟩
      have el : (enumD rs).length = rs.length := by simp [enumD]
      rw [el, List.drop_length] at hq
      exact hq
  | any _ => cases ht
  | fz _ => cases ht
  | ins _ _ _ => cases ht
  | exc _ _ _ => cases ht
  | cau _ _ _ _ => cases ht
  | exk _ _ _ => cases ht
  | _ => cases ht; exact ⟨by show 2 ≤ sizeLine; decide, hQ⟩
def T_book_init42 (a : Nat → Addr) {m : Mem} : DTS m :=
  (dSeq (dSet 2 (dCall spBE42 (daCons (dVar 1) daNil)))
      (dSeq (dIf (dCmT isntD' (dVar 2) (dC D.non)) (dRaise (a 16) (Str.ofString "error") (dVar 2)) dNext)
      (dFst (a 63) 0 (Str.ofString "_rules") (dVar 1))))
theorem read_book_init42 {a : Nat → Addr} {m : Mem} : ∀ ds s Qd Qx (x dx : Addr), (spBI42 (a 16) : ISpX m) ds s Qd Qx → (T_book_init42 a : DTS m) (endsIX x dx (a 63) Qd Qx) ((startD ["self", "rules", "error"] (.any (.ref x) :: ds)).set 0 (.ow (.ins x dx (a 63) [] []))) s := by
  intro ds s Qd Qx x dx h
  obtain ⟨d, rfl, hv, h1, h2⟩ := h
  refine ⟨d, rfl, hv, ?_⟩
  rcases (book_ok d).1 with h | ⟨i, y, h, _⟩
  · have q := h1 h
    rw [h]
    refine ⟨(by intro w z; cases z), ?_⟩
    exact ⟨x, dx, [], [], rfl, (by simp), (by decide), _, _, rfl, q⟩
  · have q := h2 (by rw [h]; intro z; cases z)
    rw [h] at q ⊢
    refine ⟨(by intro w z; cases z), ?_⟩
    exact q
def T_told42 (a : Nat → Addr) {m : Mem} : DTS m :=
  (dSeq (dSet 1 (dLst daNil))
      (dSeq (dTryK [a 16] 2 (dSetLPMX 1 (Str.ofString "book") (a 63) (spBI42 (a 16)) (spGetR (a 63)) (daCons (dVar 0) daNil)) (dSeq (dSet 3 (dIsKT [(a 16, false)] (dVar 2)))
        (dSet 1 (dLst (daCons (dC (D.str (Str.ofString "bad"))) (daCons (dKf (a 16) (Str.ofString "error") (dVar 2)) (daCons (dIsK [(a 16, true)] (dVar 2)) (daCons (dIsK [(a 16, true)] (dVar 2)) (daCons (dVar 3) daNil)))))))))
      (dRet (dVar 1))))
theorem read_told42 {a : Nat → Addr} {m : Mem} : ∀ ds s Qd, (spTold42 : DSp m) ds s Qd → (T_told42 a : DTS m) (endsOf Qd) (startD ["_law_value", "_law_found", "error", "_law_others"] ds) s := by
  intro ds s Qd h
  obtain ⟨d, rfl, hv, hQ⟩ := h
  refine ⟨Nat.zero_le _, d, rfl, hv, fun h => ?_, fun h => ?_⟩
  · rw [told_non h] at hQ
    obtain ⟨rs, rfl⟩ := book_tup h
    exact ⟨rs, rfl, hQ⟩
  · rcases (book_ok d).1 with z | ⟨i, y, z, _⟩
    · exact absurd z h
    rw [told_bad z] at hQ
    rw [z]
    refine ⟨List.mem_singleton.mpr rfl, ?_⟩
    exact ⟨_, _, _, _, rfl, List.mem_singleton.mpr rfl, _, _, _, rfl, rfl, _, _, _, _, rfl, List.mem_singleton.mpr rfl, _, _, _, _, rfl, List.mem_singleton.mpr rfl, by show 5 ≤ sizeLine; decide, hQ⟩
def T_right42_r2 {m : Mem} : DTS m :=
  (dRet (dAndV (dCall (spSame43 6) (daCons (dCall spTold42 (daCons (dVar 0) daNil)) (daCons (dVar 1) daNil))) (dCm eqT (dB reprD (daCons (dVar 0) daNil)) (dVar 2))))
def T_right42 {m : Mem} : DTS m :=
  (dSeq (dPar 2 3 (daCons (dB reprD (daCons (dVar 0) daNil)) (daCons (dCall spBE42 (daCons (dVar 0) daNil)) daNil)))
      (dSeq (dSet 1 (dIfE (dCmT isD' (dVar 3) (dC D.non)) (dLst (daCons (dC (D.str (Str.ofString "book"))) (daCons (dVar 0) daNil))) (dLst (daCons (dC (D.str (Str.ofString "bad"))) (daCons (dVar 3) (daCons (dC (D.bl true)) (daCons (dC (D.bl true)) (daCons (dC (D.bl false)) daNil))))))))
      (dRet (dAndV (dCall (spSame43 6) (daCons (dCall spTold42 (daCons (dVar 0) daNil)) (daCons (dVar 1) daNil))) (dCm eqT (dB reprD (daCons (dVar 0) daNil)) (dVar 2))))))
theorem read_right42 {m : Mem} : ∀ ds s Qd, (spRight42 : DSp m) ds s Qd → (T_right42 : DTS m) (endsOf Qd) (startD ["_law_value", "_law_told_here", "_law_kept", "_law_due"] ds) s := by
  intro ds s Qd h
  obtain ⟨d, rfl, hv, hr, hQ⟩ := h
  refine ⟨d, rfl, hr, d, rfl, hv, _, _, rfl, ?_⟩
  suffices rest : T_right42_r2 (m := m) (endsOf Qd) [.sh d, .sh (toldD d), .sh (.any (.str (pyR d).shown)), .sh (bookW d)] s by
    rcases (book_ok d).1 with z | ⟨i, y, z, _⟩
    · rw [told_non z] at rest
      rw [z] at rest ⊢
      refine ⟨(by intro w z; cases z), ?_⟩
      exact ⟨by show 2 ≤ sizeLine; decide, rest⟩
    · rw [told_bad z] at rest
      rw [z] at rest ⊢
      refine ⟨(by intro w z; cases z), ?_⟩
      exact ⟨by show 5 ≤ sizeLine; decide, rest⟩
  obtain ⟨p1, p2⟩ := told_pf d
  refine ⟨d, rfl, hv, toldD d, rfl, p1, p2, true, rfl, ?_⟩
  refine ⟨d, rfl, hr, _, _, rfl, rfl, ?_⟩
  rw [decide_eq_true rfl]
  exact hQ
def T_closer42 : DTS Mem.deck :=
  (dSeq (dSet 2 (dCall (spTx 5) (daCons (dVar 1) daNil)))
      (dSeq (dPar 3 4 (daCons (dCall spPick (daCons (dVar 0) (daCons (dVar 2) daNil))) (daCons (dCall spPick (daCons (dVar 0) (daCons (dVar 2) daNil))) daNil)))
      (dRet (dCall (spPut 5) (daCons (dVar 1) (daCons (dVar 3) (daCons (dCall spPick (daCons (dVar 0) (daCons (dLst (daCons (dVar 4) (daCons (dOp addD (dVar 4) (dC (D.str (Str.ofString ".a")))) (daCons (dOp ixD (dMt "str" rpartD (dVar 4) (daCons (dC (D.str (Str.ofString "."))) daNil)) (dC (D.int 0))) daNil)))) daNil))) daNil)))))))
theorem read_closer42 : ∀ ds s Qd, (spCl : DSp Mem.deck) ds s Qd → (T_closer42 : DTS Mem.deck) (endsOf Qd) (startD ["_law_reel_here", "_law_rule_here", "_law_texts_here", "_law_old", "_law_new"] ds) s := by
  intro ds s Qd h
  obtain ⟨a, b, c, d, hs, rfl, R, hn, hQ⟩ := h
  have hd' : (Str.ofString ".") = (⟨#[46]⟩ : Str) := by decide +kernel
  have hslim : strLim = 1000000 := rfl
  obtain ⟨l1, l2⟩ := ts_lv d R.t R.g.s
  have hw := R.g.w
  have hdp : dpt 4 d := ts_dpt (by decide) 4 d R.t (rep_le R.g.r 4 (by decide)) R.g.s
  have lne : itemsOf (.lst (lv d)) ≠ [] := fun z => by
    obtain ⟨x, r, e⟩ := R.e
    have z : lv d = [] := z
    rw [e] at z
    cases z
  have hne : ∀ (d : D) (l : List D), itemsOf (.lst (d :: l)) ≠ [] := fun d l z => by cases z
  refine ⟨d, rfl, hdp, by omega, ?_⟩
  refine ⟨a, b, c, _, hs, rfl, lne, (by show (lv d).length ≤ 1000; omega), by omega, fun old k1 ho hk1 => ?_⟩
  have hk1 : k1 = s.n + 1 := hk1
  refine ⟨a, b, c, _, hs, rfl, lne, (by show (lv d).length ≤ 1000; omega), (by show k1 < _; omega), fun nw k2 hnw hk2 => ?_⟩
  have hk2 : k2 = k1 + 1 := hk2
  obtain ⟨zo, rfl, zo1, zo2⟩ := l1 old ho
  obtain ⟨zn, rfl, zn1, zn2⟩ := l1 nw hnw
  refine ⟨_, _, rfl, ?_⟩
  have h2 : (Str.ofString ".a").length = 2 := by decide +kernel
  have hc2 : ∀ c ∈ tl (Str.ofString ".a"), c < 128 := by decide +kernel
  refine ⟨(by rw [h2]; omega), rfl, zn, 46, rfl, (by rw [hd']), (by decide), _, rfl, lz rfl, ?_⟩
  refine ⟨a, b, c, _, hs, rfl, hne _ _, (by show 3 ≤ 1000; decide), (by show k2 < _; omega), fun nd k3 hnd hk3 => ?_⟩
  have hk3 : k3 = k2 + 1 := hk3
  have key : ∀ nd ∈ [D.str zn, .str (zn ++ Str.ofString ".a"), .str (Txt.rpartition zn ⟨#[46]⟩).1], ∃ z : Str, nd = .str z ∧ z.length ≤ 38 ∧ ∀ c ∈ tl z, c < 128 := by
    refine List.forall_mem_cons.mpr ⟨⟨zn, rfl, by omega, zn2⟩, List.forall_mem_cons.mpr ⟨⟨_, rfl, by rw [len_add, h2]; omega, fun c hc => ?_⟩, List.forall_mem_cons.mpr ⟨⟨_, rfl, ?_, ?_⟩, fun _ h => by cases h⟩⟩⟩
    · rw [tl_append] at hc
      rcases List.mem_append.mp hc with q | q
      · exact zn2 c q
      · exact hc2 c q
    · have := (rpart1 zn ⟨#[46]⟩).1; omega
    · exact fun c hc => zn2 c ((rpart1 zn ⟨#[46]⟩).2 c hc)
  obtain ⟨z, rfl, z1, z2⟩ := key nd hnd
  have pl : ∀ x ∈ lv d, plainD 60 x = true := fun x hx => by
    obtain ⟨y, rfl, _⟩ := l1 x hx
    rfl
  refine ⟨d, .str zo, .str z, rfl, hdp, rfl, pl, ?_⟩
  obtain ⟨p1, p2, p3, p4⟩ := pt_gd (N := 36) (M := 38) (n := 3) (old := .str zo) (new := .str z) (fun k => gd_str z1 (fun c hc => by have := z2 c hc; omega) k) (by decide) d R.t R.g.s R.g.r R.g.g
  have : 39 * (wt d + 1) ≤ 39 * 801 := Nat.mul_le_mul_left _ (by omega)
  exact hQ _ k3 ⟨sm_mono (by decide) _ p1, p2, p3, by omega⟩ (by omega)
def T_changed42 : DTS Mem.deck :=
  (dSeq (dIf (dCmT eqC (dVar 1) (dTup daNil)) (dRet (dCall spPick (daCons (dVar 0) (daCons (dLst (daCons (dLst daNil) (daCons (dC D.non) (daCons (dTup (daCons (dTup daNil) daNil)) (daCons (dTup (daCons (dC (D.str (Str.ofString "forbid"))) daNil)) (daCons (dCall R29.spOdd (daCons (dVar 0) daNil)) daNil)))))) daNil)))) dNext)
      (dSeq (dPar 4 5 (daCons (dCall spNext (daCons (dVar 0) (daCons (dB lenD (daCons (dVar 1) daNil)) daNil))) (daCons (dCall spNext (daCons (dVar 0) (daCons (dOp addD (dB lenD (daCons (dVar 1) daNil)) (dC (D.int 1))) daNil))) daNil)))
      (dSeq (dSet 2 (dCall spPick (daCons (dVar 0) (daCons (dLst (daCons (dCall (spBent 4) (daCons (dVar 0) (daCons (dOp ixD (dVar 1) (dVar 4)) (daCons (dC (D.int 3)) daNil)))) (daCons (dCall spCl (daCons (dVar 0) (daCons (dOp ixD (dVar 1) (dVar 4)) daNil))) (daCons (dCall R29.spOdd (daCons (dVar 0) daNil)) daNil)))) daNil))))
      (dSeq (dSet 3 (dLst (daCons (dOp addD (dOp addD (dSl slD (dVar 1) doNone (doSome (dVar 4))) (dTup (daCons (dVar 2) daNil))) (dSl slD (dVar 1) (doSome (dOp addD (dVar 4) (dC (D.int 1)))) doNone)) (daCons (dOp addD (dOp addD (dSl slD (dVar 1) doNone (doSome (dVar 5))) (dTup (daCons (dOp ixD (dVar 1) (dVar 4)) daNil))) (dSl slD (dVar 1) (doSome (dVar 5)) doNone)) (daCons (dB listD (daCons (dVar 1) daNil)) (daCons (dOp addD (dOp addD (dVar 1) (dVar 1)) (dVar 1)) daNil))))))
      (dRet (dCall spPick (daCons (dVar 0) (daCons (dOp addD (dVar 3) (dLst (daCons (dOp addD (dOp addD (dSl slD (dVar 1) doNone (doSome (dVar 5))) (dTup (daCons (dVar 2) daNil))) (dSl slD (dVar 1) (doSome (dVar 5)) doNone)) (daCons (dCall (spBent 4) (daCons (dVar 0) (daCons (dVar 1) (daCons (dC (D.int 1)) daNil)))) daNil)))) daNil))))))))
theorem read_changed42 : ∀ ds s Qd, (spCh42 : DSp Mem.deck) ds s Qd → (T_changed42 : DTS Mem.deck) (endsOf Qd) (startD ["_law_reel_here", "_law_some", "_law_new", "_law_values", "_law_at", "_law_to"] ds) s := by
  intro ds s Qd h
  obtain ⟨a, b, c, rs, hs, rfl, hr, hl, hn, hQ⟩ := h
  have hlim : drawLim = 1152921504606846976 := rfl
  have zl : ∀ n, n ≤ 2000 → n ≤ sizeLine := fun n h => line_of (by omega)
  have hne : ∀ (d : D) (l : List D), itemsOf (.lst (d :: l)) ≠ [] := fun d l z => by cases z
  have hp := rules_plain hr (n := 60) (by decide)
  refine ⟨lz rfl, plain_mono 4 60 (.tup rs) (by decide) (by show plainDs 3 rs = true; exact rules_plain hr (by decide)), rfl, ?_⟩
  have hg := rules_gs hr
  cases rs with
  | nil =>
    refine ⟨lz rfl, lz rfl, lz rfl, lz rfl, a, b, c, hs, rfl, by omega, fun od k1 hod hk1 => ?_⟩
    have hk1 : k1 = s.n + 1 := hk1
    refine ⟨by show 5 ≤ sizeLine; decide, a, b, c, _, hs, rfl, hne _ _, (by show 5 ≤ 1000; decide), (by show k1 < _; omega), fun d k2 hd hk2 => ?_⟩
    have hk2 : k2 = k1 + 1 := hk2
    have key : ∀ d ∈ [D.lst [], .non, .tup [.tup []], .tup [.str (Str.ofString "forbid")], od], Gd 40 1000 10 d := by
      refine List.forall_mem_cons.mpr ⟨gd_of (by decide +kernel), List.forall_mem_cons.mpr ⟨gd_of (by decide +kernel), List.forall_mem_cons.mpr ⟨gd_of (by decide +kernel), List.forall_mem_cons.mpr ⟨gd_of (by decide +kernel), List.forall_mem_cons.mpr ⟨hod.mono (by omega) (by omega) (by omega), fun _ h => by cases h⟩⟩⟩⟩⟩
    obtain ⟨v, r⟩ := gd_vb (key d hd) (by decide) (by decide) (by decide)
    exact hQ d k2 v r (by omega)
  | cons r0 rr =>
    generalize e0 : r0 :: rr = rs at *
    have h1 : 1 ≤ rs.length := by rw [← e0]; simp
    have hcut : ∀ lo hi, (DL.cutD rs lo hi).length ≤ 8 := fun lo hi => Nat.le_trans (cutD_len rs lo hi) hl
    have q0 : eqD (.tup rs) (.tup []) = false := by rw [← e0]; rfl
    rw [q0]
    refine ⟨_, _, rfl, rfl, a, b, c, _, hs, rfl, (by omega), (by omega), (by omega), fun at0 k1 a0 a1 hk1 => ?_⟩
    have hk1 : k1 = s.n + 1 := hk1
    refine ⟨_, _, rfl, rfl, a, b, c, _, hs, rfl, (by omega), (by omega), (by show k1 < _; omega), fun to0 k2 t0 t1 hk2 => ?_⟩
    have hk2 : k2 = k1 + 1 := hk2
    refine ⟨_, _, rfl, ?_⟩
    obtain ⟨j, rfl⟩ : ∃ j : Nat, at0 = (j : Int) := ⟨at0.toNat, by omega⟩
    obtain ⟨i, rfl⟩ : ∃ i : Nat, to0 = (i : Int) := ⟨to0.toNat, by omega⟩
    have hj : j < rs.length := by omega
    have hi : i ≤ rs.length := by omega
    have R := hr _ (List.getElem_mem hj)
    have hy : rs[j]? = some rs[j] := List.getElem?_eq_getElem hj
    generalize rs[j] = y at R hy
    refine ⟨y, atI_nat hy, a, b, c, y, 3, 36, 800, 3, hs, rfl, by decide, R.t, R.g, by decide, by decide, by decide, (by show k2 + _ < _; omega), fun d1 k3 g1 hk3 => ?_⟩
    have hk3 : k3 ≤ k2 + 10 * (3 + 1) := hk3
    refine ⟨y, atI_nat hy, a, b, c, y, hs, rfl, R, (by show k3 + _ < _; omega), fun d2 k4 g2 hk4 => ?_⟩
    have hk4 : k4 ≤ k3 + 10 := hk4
    refine ⟨a, b, c, hs, rfl, (by show k4 < _; omega), fun d3 k5 g3 hk5 => ?_⟩
    have hk5 : k5 = k4 + 1 := hk5
    refine ⟨by show 3 ≤ sizeLine; decide, a, b, c, _, hs, rfl, hne _ _, (by show 3 ≤ 1000; decide), (by show k5 < _; omega), fun nw k6 hnw hk6 => ?_⟩
    have hk6 : k6 = k5 + 1 := hk6
    have gn : Gd 40 100000 8 nw := by
      have key : ∀ d ∈ [d1, d2, d3], Gd 40 100000 8 d := List.forall_mem_cons.mpr ⟨g1.mono (by decide) (by decide) (by decide), List.forall_mem_cons.mpr ⟨g2.mono (by decide) (by decide) (by decide), List.forall_mem_cons.mpr ⟨g3.mono (by decide) (by decide) (by decide), fun _ h => by cases h⟩⟩⟩
      exact key nw hnw
    refine ⟨(j : Int), rfl, lz rfl, ?_⟩
    refine ⟨(by have := hcut none (some (j : Int)); exact zl _ (by rw [List.length_singleton]; omega)), ?_⟩
    refine ⟨(j : Int) + 1, rfl, (by rw [List.length_append]; have := hcut none (some (j : Int)); have := hcut (some ((j : Int) + 1)) none; exact zl _ (by rw [List.length_singleton]; omega)), ?_⟩
    refine ⟨(i : Int), rfl, y, atI_nat hy, lz rfl, ?_⟩
    refine ⟨(by have := hcut none (some (i : Int)); exact zl _ (by rw [List.length_singleton]; omega)), ?_⟩
    refine ⟨(i : Int), rfl, (by rw [List.length_append]; have := hcut none (some (i : Int)); have := hcut (some (i : Int)) none; exact zl _ (by rw [List.length_singleton]; omega)), ?_⟩
    refine ⟨.tup rs, rs, rfl, rfl, ?_⟩
    refine ⟨zl _ (by omega), zl _ (by rw [List.length_append]; omega), lz rfl, ?_⟩
    refine ⟨(i : Int), rfl, lz rfl, ?_⟩
    refine ⟨(by have := hcut none (some (i : Int)); exact zl _ (by rw [List.length_singleton]; omega)), ?_⟩
    refine ⟨(i : Int), rfl, (by rw [List.length_append]; have := hcut none (some (i : Int)); have := hcut (some (i : Int)) none; exact zl _ (by rw [List.length_singleton]; omega)), ?_⟩
    have hg8 : Gs 36 6408 3 rs := hg.mono (Nat.le_refl _) (by omega) (Nat.le_refl _)
    refine ⟨a, b, c, .tup rs, 1, 36, 6408, 4, hs, rfl, by decide, tss_iff.mpr fun x hx => (hr x hx).t, hg8.tup (by omega), by decide, by decide, by decide, (by show k6 + _ < _; omega), fun d4 k7 g4 hk7 => ?_⟩
    have hk7 : k7 ≤ k6 + 10 * (1 + 1) := hk7
    refine ⟨lz rfl, lz rfl, ?_⟩
    refine ⟨a, b, c, _, hs, rfl, hne _ _, (by show 6 ≤ 1000; decide), (by show k7 < _; omega), fun d k8 hd hk8 => ?_⟩
    have hk8 : k8 = k7 + 1 := hk8
    have G : Gs 40 6408 12 rs := hg8.mono (by decide) (by decide) (by decide)
    have mid : ∀ (l h l' h' : Option Int) (w : D), Gd 40 100000 12 w → Gd 40 120000 13 (.tup (DL.cutD rs l h ++ [w] ++ DL.cutD rs l' h')) := fun l h l' h' w gw => by
      have := hcut l h
      have := hcut l' h'
      exact ((((G.cut l h).app (Gs.one gw)).app (G.cut l' h')).mono (Nat.le_refl _) (by decide) (Nat.le_refl _)).tup (by rw [List.length_append, List.length_append]; show _ + 1 + _ ≤ _; omega)
    have key : ∀ d ∈ [D.tup (DL.cutD rs none (some (j : Int)) ++ [nw] ++ DL.cutD rs (some ((j : Int) + 1)) none), .tup (DL.cutD rs none (some (i : Int)) ++ [y] ++ DL.cutD rs (some (i : Int)) none), .lst rs, .tup (rs ++ rs ++ rs), .tup (DL.cutD rs none (some (i : Int)) ++ [nw] ++ DL.cutD rs (some (i : Int)) none), d4], Gd 40 120000 13 d := by
      refine List.forall_mem_cons.mpr ⟨mid _ _ _ _ _ (gn.mono (by decide) (by decide) (by decide)), List.forall_mem_cons.mpr ⟨mid _ _ _ _ _ (R.g.mono (by decide) (by decide) (by decide)), List.forall_mem_cons.mpr ⟨G.lst.mono (by decide) (by decide) (by decide), List.forall_mem_cons.mpr ⟨(((G.app G).app G).tup (by rw [List.length_append, List.length_append]; omega)).mono (by decide) (by decide) (by decide),
        List.forall_mem_cons.mpr ⟨mid _ _ _ _ _ (gn.mono (by decide) (by decide) (by decide)), List.forall_mem_cons.mpr ⟨g4.mono (by decide) (by decide) (by decide), fun _ h => by cases h⟩⟩⟩⟩⟩⟩
    obtain ⟨v, r⟩ := gd_vb (key d hd) (by decide) (by decide) (by decide)
    exact hQ d k8 v r (by omega)
def T_twice42_r1 : DTS Mem.deck :=
  (dSeq (dIf (dCmT eqC (dVar 2) (dTup daNil)) (dRet (dTup (daCons (dCall R29.spOdd (daCons (dVar 0) daNil)) (daCons (dCall R29.spOdd (daCons (dVar 0) daNil)) daNil)))) dNext)
      (dSeq (dPar 6 7 (daCons (dCall spNext (daCons (dVar 0) (daCons (dB lenD (daCons (dVar 2) daNil)) daNil))) (daCons (dCall spNext (daCons (dVar 0) (daCons (dOp addD (dB lenD (daCons (dVar 2) daNil)) (dC (D.int 1))) daNil))) daNil)))
      (dSeq (dSet 3 (dCall spPick (daCons (dVar 0) (daCons (dLst (daCons (dCall (spBent 4) (daCons (dVar 0) (daCons (dOp ixD (dVar 2) (dVar 6)) (daCons (dC (D.int 3)) daNil)))) (daCons (dCall R29.spOdd (daCons (dVar 0) daNil)) (daCons (dTup (daCons (dC (D.str (Str.ofString "noring"))) (daCons (dTup (daCons (dC (D.str (Str.ofString "a"))) daNil)) daNil))) daNil)))) daNil))))
      (dSeq (dSet 4 (dOp addD (dOp addD (dSl slD (dVar 2) doNone (doSome (dVar 7))) (dTup (daCons (dOp ixD (dVar 2) (dVar 6)) daNil))) (dSl slD (dVar 2) (doSome (dVar 7)) doNone)))
      (dSeq (dSet 5 (dCall spNext (daCons (dVar 0) (daCons (dOp addD (dB lenD (daCons (dVar 4) daNil)) (dC (D.int 1))) daNil))))
      (dRet (dOp addD (dOp addD (dSl slD (dVar 4) doNone (doSome (dVar 5))) (dTup (daCons (dVar 3) daNil))) (dSl slD (dVar 4) (doSome (dVar 5)) doNone))))))))
def T_twice42_r5 : DTS Mem.deck :=
  (dSeq (dSet 5 (dCall spNext (daCons (dVar 0) (daCons (dOp addD (dB lenD (daCons (dVar 4) daNil)) (dC (D.int 1))) daNil))))
      (dRet (dOp addD (dOp addD (dSl slD (dVar 4) doNone (doSome (dVar 5))) (dTup (daCons (dVar 3) daNil))) (dSl slD (dVar 4) (doSome (dVar 5)) doNone))))
def T_twice42 : DTS Mem.deck :=
  (dSeq (dSet 2 (dSl slD (dVar 1) doNone (doSome (dC (D.int 6)))))
      (dSeq (dIf (dCmT eqC (dVar 2) (dTup daNil)) (dRet (dTup (daCons (dCall R29.spOdd (daCons (dVar 0) daNil)) (daCons (dCall R29.spOdd (daCons (dVar 0) daNil)) daNil)))) dNext)
      (dSeq (dPar 6 7 (daCons (dCall spNext (daCons (dVar 0) (daCons (dB lenD (daCons (dVar 2) daNil)) daNil))) (daCons (dCall spNext (daCons (dVar 0) (daCons (dOp addD (dB lenD (daCons (dVar 2) daNil)) (dC (D.int 1))) daNil))) daNil)))
      (dSeq (dSet 3 (dCall spPick (daCons (dVar 0) (daCons (dLst (daCons (dCall (spBent 4) (daCons (dVar 0) (daCons (dOp ixD (dVar 2) (dVar 6)) (daCons (dC (D.int 3)) daNil)))) (daCons (dCall R29.spOdd (daCons (dVar 0) daNil)) (daCons (dTup (daCons (dC (D.str (Str.ofString "noring"))) (daCons (dTup (daCons (dC (D.str (Str.ofString "a"))) daNil)) daNil))) daNil)))) daNil))))
      (dSeq (dSet 4 (dOp addD (dOp addD (dSl slD (dVar 2) doNone (doSome (dVar 7))) (dTup (daCons (dOp ixD (dVar 2) (dVar 6)) daNil))) (dSl slD (dVar 2) (doSome (dVar 7)) doNone)))
      (dSeq (dSet 5 (dCall spNext (daCons (dVar 0) (daCons (dOp addD (dB lenD (daCons (dVar 4) daNil)) (dC (D.int 1))) daNil))))
      (dRet (dOp addD (dOp addD (dSl slD (dVar 4) doNone (doSome (dVar 5))) (dTup (daCons (dVar 3) daNil))) (dSl slD (dVar 4) (doSome (dVar 5)) doNone)))))))))
theorem read_twice42 : ∀ ds s Qd, (spCh42 : DSp Mem.deck) ds s Qd → (T_twice42 : DTS Mem.deck) (endsOf Qd) (startD ["_law_reel_here", "_law_some", "_law_few", "_law_new", "_law_value", "_law_place", "_law_at", "_law_to"] ds) s := by
  intro ds s Qd h
  obtain ⟨a, b, c, rs0, hs, rfl, hr0, hl0, hn, hQ⟩ := h
  have hlim : drawLim = 1152921504606846976 := rfl
  have zl : ∀ n, n ≤ 2000 → n ≤ sizeLine := fun n h => line_of (by omega)
  have hne : ∀ (d : D) (l : List D), itemsOf (.lst (d :: l)) ≠ [] := fun d l z => by cases z
  refine ⟨6, rfl, ?_⟩
  suffices rest : ∀ rs, (∀ r ∈ rs, RuleOk r) → rs.length ≤ 8 → T_twice42_r1 (endsOf Qd) [.sh (.any (.ref a)), .sh (.tup rs0), .sh (.tup rs), .no, .no, .no, .no, .no] s by
    exact rest _ (fun r hr => hr0 r ((R4x.cut_sub _ _ _).subset hr)) (Nat.le_trans (cutD_len _ _ _) hl0)
  intro rs hr hl
  refine ⟨lz rfl, plain_mono 4 60 (.tup rs) (by decide) (by show plainDs 3 rs = true; exact rules_plain hr (by decide)), rfl, ?_⟩
  have hg := rules_gs hr
  cases rs with
  | nil =>
    refine ⟨a, b, c, hs, rfl, by omega, fun d1 k1 g1 hk1 => ?_⟩
    have hk1 : k1 = s.n + 1 := hk1
    refine ⟨a, b, c, hs, rfl, (by show k1 < _; omega), fun d2 k2 g2 hk2 => ?_⟩
    have hk2 : k2 = k1 + 1 := hk2
    refine ⟨lz rfl, ?_⟩
    obtain ⟨v, r⟩ := gd_vb (((Gs.one g1).app (Gs.one g2)).tup (by show 2 ≤ 20; decide)) (by decide) (by decide) (by decide)
    exact hQ _ k2 v r (by omega)
  | cons r0 rr =>
    generalize e0 : r0 :: rr = rs at *
    have h1 : 1 ≤ rs.length := by rw [← e0]; simp
    have hcut : ∀ lo hi, (DL.cutD rs lo hi).length ≤ 8 := fun lo hi => Nat.le_trans (cutD_len rs lo hi) hl
    have q0 : eqD (.tup rs) (.tup []) = false := by rw [← e0]; rfl
    rw [q0]
    refine ⟨_, _, rfl, rfl, a, b, c, _, hs, rfl, (by omega), (by omega), (by omega), fun at0 k1 a0 a1 hk1 => ?_⟩
    have hk1 : k1 = s.n + 1 := hk1
    refine ⟨_, _, rfl, rfl, a, b, c, _, hs, rfl, (by omega), (by omega), (by show k1 < _; omega), fun to0 k2 t0 t1 hk2 => ?_⟩
    have hk2 : k2 = k1 + 1 := hk2
    refine ⟨_, _, rfl, ?_⟩
    obtain ⟨j, rfl⟩ : ∃ j : Nat, at0 = (j : Int) := ⟨at0.toNat, by omega⟩
    obtain ⟨i, rfl⟩ : ∃ i : Nat, to0 = (i : Int) := ⟨to0.toNat, by omega⟩
    have hj : j < rs.length := by omega
    have R := hr _ (List.getElem_mem hj)
    have hy : rs[j]? = some rs[j] := List.getElem?_eq_getElem hj
    generalize rs[j] = y at R hy
    refine ⟨y, atI_nat hy, a, b, c, y, 3, 36, 800, 3, hs, rfl, by decide, R.t, R.g, by decide, by decide, by decide, (by show k2 + _ < _; omega), fun d1 k3 g1 hk3 => ?_⟩
    have hk3 : k3 ≤ k2 + 10 * (3 + 1) := hk3
    refine ⟨a, b, c, hs, rfl, (by show k3 < _; omega), fun d3 k5 g3 hk5 => ?_⟩
    have hk5 : k5 = k3 + 1 := hk5
    refine ⟨lz rfl, lz rfl, lz rfl, a, b, c, _, hs, rfl, hne _ _, (by show 3 ≤ 1000; decide), (by show k5 < _; omega), fun nw k6 hnw hk6 => ?_⟩
    have hk6 : k6 = k5 + 1 := hk6
    have gn : Gd 40 100000 8 nw := by
      have key : ∀ d ∈ [d1, d3, .tup [.str (Str.ofString "noring"), .tup [.str (Str.ofString "a")]]], Gd 40 100000 8 d := List.forall_mem_cons.mpr ⟨g1.mono (by decide) (by decide) (by decide), List.forall_mem_cons.mpr ⟨g3.mono (by decide) (by decide) (by decide), List.forall_mem_cons.mpr ⟨gd_of (by decide +kernel), fun _ h => by cases h⟩⟩⟩
      exact key nw hnw
    refine ⟨(i : Int), rfl, y, atI_nat hy, lz rfl, ?_⟩
    refine ⟨(by have := hcut none (some (i : Int)); exact zl _ (by rw [List.length_singleton]; omega)), ?_⟩
    refine ⟨(i : Int), rfl, (by rw [List.length_append]; have := hcut none (some (i : Int)); have := hcut (some (i : Int)) none; exact zl _ (by rw [List.length_singleton]; omega)), ?_⟩
    have hg8 : Gs 36 6408 3 rs := hg.mono (Nat.le_refl _) (by omega) (Nat.le_refl _)
    have G : Gs 40 6408 12 rs := hg8.mono (by decide) (by decide) (by decide)
    have vl : (DL.cutD rs none (some (i : Int)) ++ [y] ++ DL.cutD rs (some (i : Int)) none).length ≤ 17 := by
      have := hcut none (some (i : Int))
      have := hcut (some (i : Int)) none
      rw [List.length_append, List.length_append, List.length_singleton]; omega
    have V : Gs 40 20000 12 (DL.cutD rs none (some (i : Int)) ++ [y] ++ DL.cutD rs (some (i : Int)) none) := (((G.cut _ _).app (Gs.one (R.g.mono (by decide) (Nat.le_refl _) (by decide)))).app (G.cut _ _)).mono (Nat.le_refl _) (by decide) (Nat.le_refl _)
    show T_twice42_r5 (endsOf Qd) [.sh (.any (.ref a)), .sh (.tup rs0), .sh (.tup rs), .sh nw, .sh (.tup (DL.cutD rs none (some (i : Int)) ++ [y] ++ DL.cutD rs (some (i : Int)) none)), .no, .sh (.int j), .sh (.int i)] ⟨s.adr, k6⟩
    generalize DL.cutD rs none (some (i : Int)) ++ [y] ++ DL.cutD rs (some (i : Int)) none = vs at vl V
    have vcut : ∀ lo hi, (DL.cutD vs lo hi).length ≤ 17 := fun lo hi => Nat.le_trans (cutD_len vs lo hi) vl
    refine ⟨_, _, rfl, rfl, a, b, c, _, hs, rfl, (by omega), (by omega), (by show k6 < _; omega), fun p0 k7 p1 p2 hk7 => ?_⟩
    have hk7 : k7 = k6 + 1 := hk7
    refine ⟨p0, rfl, lz rfl, ?_⟩
    refine ⟨(by have := vcut none (some p0); exact zl _ (by rw [List.length_singleton]; omega)), ?_⟩
    refine ⟨p0, rfl, (by rw [List.length_append]; have := vcut none (some p0); have := vcut (some p0) none; exact zl _ (by rw [List.length_singleton]; omega)), ?_⟩
    have := vcut none (some p0)
    have := vcut (some p0) none
    have F := (((V.cut none (some p0)).app (Gs.one (gn.mono (Nat.le_refl 40) (Nat.le_refl _) (by decide : 8 ≤ 12)))).app (V.cut (some p0) none)).tup (by rw [List.length_append, List.length_append, List.length_singleton]; omega)
    obtain ⟨v, r⟩ := gd_vb F (by decide) (by decide) (by decide)
    exact hQ _ k7 v r (by omega)
def T_law42 : DTS Mem.deck :=
  (dSeq (dSet 1 (dCall spDeck (daCons (dVar 0) daNil)))
      (dSeq (dFor (diR1 (daCons (dC (D.int 4)) daNil)) (gN 2)
        (dSeq (dSet 3 (dCall spSpots (daCons (dVar 1) (daCons (dCall spNames43 (daCons (dVar 1) (daCons (dC (D.int 5)) daNil))) daNil))))
        (dSeq (dSet 4 (dCall spSome (daCons (dVar 1) (daCons (dVar 3) (daCons (dC (D.int 8)) daNil)))))
        (dFor (diSeq (dLst (daCons (dVar 4) (daCons (dCall spCh42 (daCons (dVar 1) (daCons (dVar 4) daNil))) (daCons (dCall spCh42 (daCons (dVar 1) (daCons (dVar 4) daNil))) (daCons (dCall spCh42 (daCons (dVar 1) (daCons (dVar 4) daNil))) daNil)))))) (gN 5)
          (dIf (dNotT (dTr (dCall spRight42 (daCons (dVar 5) daNil)))) (dRet (dC (D.bl false))) dNext)))))
      (dRet (dC (D.bl true)))))
theorem read_law42 : ∀ ds s Qd, (spLaw : DSp Mem.deck) ds s Qd → (T_law42 : DTS Mem.deck) (endsOf Qd) (startD ["_law_script", "_law_reel_here", "_law_turn", "_law_spots_here", "_law_some", "_law_value"] ds) s := by
  intro ds s Qd h
  obtain ⟨ns0, rfl, hl, hs, hn, hQ⟩ := h
  have hlim : drawLim = 1152921504606846976 := rfl
  refine ⟨ns0, rfl, hl, hs, fun A B C => ?_⟩
  refine ⟨4, rfl, by decide, by decide, fun pre ρ s' => s'.adr = some (A, B, C) ∧ s'.n ≤ 2000 * pre.length ∧ ∃ c2 c3 c4 c5, ρ = [.sh (.fz (ns0.map .int)), .sh (.any (.ref A)), c2, c3, c4, c5],
    ⟨rfl, (by show s.n ≤ 0; omega), .no, .no, .no, .no, rfl⟩, fun pre0 x post ρ s' heq hI => ?_, fun ρ s' hI => hQ _⟩
  obtain ⟨h1, h2, c2, c3, c4, c5, rfl⟩ := hI
  obtain ⟨hp, rfl⟩ := rng_pre heq
  have hp : pre0.length < 4 := hp
  refine ⟨A, B, C, h1, rfl, (by omega), fun ns k1 n1 n2 n3 hk1 => ?_⟩
  refine ⟨A, B, C, ns, h1, rfl, n1, n2, n3, (by show k1 + _ < _; omega), fun xs k2 S hk2 => ?_⟩
  have hk2 : k2 ≤ k1 + 50 := hk2
  refine ⟨A, B, C, xs, h1, rfl, S, (by show k2 + _ < _; omega), fun rs k3 r1 r2 r3 hk3 => ?_⟩
  have hk3 : k3 ≤ k2 + 500 := hk3
  refine ⟨A, B, C, rs, h1, rfl, r1, r2, (by show k3 + _ < _; omega), fun d1 k4 v1 p1 hk4 => ?_⟩
  have hk4 : k4 ≤ k3 + 200 := hk4
  refine ⟨A, B, C, rs, h1, rfl, r1, r2, (by show k4 + _ < _; omega), fun d2 k5 v2 p2 hk5 => ?_⟩
  have hk5 : k5 ≤ k4 + 200 := hk5
  refine ⟨A, B, C, rs, h1, rfl, r1, r2, (by show k5 + _ < _; omega), fun d3 k6 v3 p3 hk6 => ?_⟩
  have hk6 : k6 ≤ k5 + 200 := hk6
  have hg8 : Gs 36 6408 3 rs := (rules_gs r1).mono (Nat.le_refl _) (by omega) (Nat.le_refl _)
  obtain ⟨v0, p0⟩ := gd_vb (hg8.tup (by omega)) (by decide) (by decide) (by decide)
  have key : ∀ d ∈ [D.tup rs, d1, d2, d3], Vb d ∧ repOk d = true := List.forall_mem_cons.mpr ⟨⟨v0, p0⟩, List.forall_mem_cons.mpr ⟨⟨v1, p1⟩, List.forall_mem_cons.mpr ⟨⟨v2, p2⟩, List.forall_mem_cons.mpr ⟨⟨v3, p3⟩, fun _ h => by cases h⟩⟩⟩⟩
  refine ⟨lz rfl, _, rfl, fun pre ρ s2 => s2 = ⟨s'.adr, k6⟩ ∧ ∃ c5, ρ = [.sh (.fz (ns0.map .int)), .sh (.any (.ref A)), .sh (.int (0 + (pre0.length : Int))), .sh (.lst (xs.map .str)), .sh (.tup rs), c5], ⟨rfl, c5, rfl⟩, ?_, ?_⟩
  · rintro pre x post ρ s2 e ⟨rfl, c5, rfl⟩
    obtain ⟨v, p⟩ := key x (by rw [e]; simp)
    refine ⟨x, rfl, v, p, _, rfl, ?_⟩
    exact ⟨rfl, _, rfl⟩
  · rintro ρ s2 ⟨rfl, c5, rfl⟩
    refine ⟨h1, ?_, _, _, _, _, rfl⟩
    rw [List.length_append, List.length_singleton]
    show k6 ≤ _
    omega
end R42

set_option Elab.async false
set_option linter.all false
set_option maxRecDepth 100000
set_option maxHeartbeats 4000000
namespace K42
open PySem PySem.Spec PyProof.Rows L2 TL DL R29 R43 R46 R4x R42
def topS (i : Nat) : Stmt := PySem.Challenge.pw_mayrest_k42_books_made.main.body.getD i (.Pass ⟨0, 0, 0, 0⟩)
abbrev s__law_reel : Stmt := topS 65
abbrev s__law_pull : Stmt := topS 66
abbrev s__law_pick : Stmt := topS 67
abbrev s__law_names : Stmt := topS 69
abbrev s__law_spots : Stmt := topS 72
abbrev s__law_under : Stmt := topS 70
abbrev s__law_mixed : Stmt := topS 68
abbrev s__law_meet : Stmt := topS 71
abbrev s__law_alone : Stmt := topS 73
abbrev s__law_rows : Stmt := topS 74
abbrev s__law_rule_of : Stmt := topS 75
abbrev s__law_rule : Stmt := topS 76
abbrev s__law_some_rules : Stmt := topS 77
abbrev s__law_same : Stmt := topS 78
abbrev s__law_path : Stmt := topS 81
abbrev s__law_paths : Stmt := topS 82
abbrev s__law_item : Stmt := topS 83
abbrev s__law_word : Stmt := topS 84
abbrev s__law_against : Stmt := topS 88
abbrev s_covers : Stmt := topS 10
abbrev s__is_name : Stmt := topS 8
abbrev s_is_path : Stmt := topS 9
abbrev s__is_rule_path : Stmt := topS 53
abbrev s__are_rule_paths : Stmt := topS 54
abbrev s__are_rows : Stmt := topS 55
abbrev s__fits : Stmt := topS 56
abbrev s_rule_paths : Stmt := topS 57
abbrev s_overlap : Stmt := topS 11
abbrev s__any_overlap : Stmt := topS 58
abbrev s_rule_error : Stmt := topS 59
abbrev s_book_error : Stmt := topS 61
abbrev s_Book___init__ : Stmt := inClass (topS 63) 0
abbrev s_Book_rules : Stmt := inClass (topS 63) 1
abbrev s__law_told : Stmt := topS 89
abbrev s__law_right : Stmt := topS 90
abbrev s__law_odd : Stmt := topS 79
abbrev s__law_bent : Stmt := topS 80
abbrev s__law_texts : Stmt := topS 85
abbrev s__law_put : Stmt := topS 86
abbrev s__law_closer : Stmt := topS 87
abbrev s__law_changed : Stmt := topS 91
abbrev s__law_twice_wrong : Stmt := topS 92
abbrev s_law : Stmt := topS 93
structure Tx (w : World) (K : PySem.W.Frag) (mg : Str → Option Value) (base : Heap) (a : Nat → Addr) (d : Nat → FuncData) (e : Nat → Addr) (ed : Nat → FuncData) : Prop where
  f65 : Fun K "_law_reel" "_law_reel" (topS 65) (a 65) (d 65)
  g65 : mg "_law_reel" = some (.ref (a 65))
  b65 : Binds K (d 65) ["_law_script"] []
  f66 : Fun K "_law_pull" "_law_pull" (topS 66) (a 66) (d 66)
  g66 : mg "_law_pull" = some (.ref (a 66))
  b66 : Binds K (d 66) ["_law_reel_here", "_law_many"] []
  f67 : Fun K "_law_pick" "_law_pick" (topS 67) (a 67) (d 67)
  g67 : mg "_law_pick" = some (.ref (a 67))
  b67 : Binds K (d 67) ["_law_reel_here", "_law_some"] []
  f69 : Fun K "_law_names" "_law_names" (topS 69) (a 69) (d 69)
  g69 : mg "_law_names" = some (.ref (a 69))
  b69 : Binds K (d 69) ["_law_reel_here", "_law_many"] []
  f72 : Fun K "_law_spots" "_law_spots" (topS 72) (a 72) (d 72)
  g72 : mg "_law_spots" = some (.ref (a 72))
  b72 : Binds K (d 72) ["_law_reel_here", "_law_names_here"] []
  f70 : Fun K "_law_under" "_law_under" (topS 70) (a 70) (d 70)
  g70 : mg "_law_under" = some (.ref (a 70))
  b70 : Binds K (d 70) ["_law_path_here", "_law_other"] []
  f68 : Fun K "_law_mixed" "_law_mixed" (topS 68) (a 68) (d 68)
  g68 : mg "_law_mixed" = some (.ref (a 68))
  b68 : Binds K (d 68) ["_law_reel_here", "_law_some"] []
  f71 : Fun K "_law_meet" "_law_meet" (topS 71) (a 71) (d 71)
  g71 : mg "_law_meet" = some (.ref (a 71))
  b71 : Binds K (d 71) ["_law_path_here", "_law_other"] []
  f73 : Fun K "_law_alone" "_law_alone" (topS 73) (a 73) (d 73)
  g73 : mg "_law_alone" = some (.ref (a 73))
  b73 : Binds K (d 73) ["_law_reel_here", "_law_paths_here", "_law_limit"] []
  f74 : Fun K "_law_rows" "_law_rows" (topS 74) (a 74) (d 74)
  g74 : mg "_law_rows" = some (.ref (a 74))
  b74 : Binds K (d 74) ["_law_reel_here", "_law_paths_here"] []
  f75 : Fun K "_law_rule_of" "_law_rule_of" (topS 75) (a 75) (d 75)
  g75 : mg "_law_rule_of" = some (.ref (a 75))
  b75 : Binds K (d 75) ["_law_reel_here", "_law_kind", "_law_spots_here"] []
  f76 : Fun K "_law_rule" "_law_rule" (topS 76) (a 76) (d 76)
  g76 : mg "_law_rule" = some (.ref (a 76))
  b76 : Binds K (d 76) ["_law_reel_here", "_law_spots_here"] []
  f77 : Fun K "_law_some_rules" "_law_some_rules" (topS 77) (a 77) (d 77)
  g77 : mg "_law_some_rules" = some (.ref (a 77))
  b77 : Binds K (d 77) ["_law_reel_here", "_law_spots_here", "_law_limit"] []
  f78 : Fun K "_law_same" "_law_same" (topS 78) (a 78) (d 78)
  g78 : mg "_law_same" = some (.ref (a 78))
  b78 : Binds K (d 78) ["_law_found", "_law_due"] []
  f81 : Fun K "_law_path" "_law_path" (topS 81) (a 81) (d 81)
  g81 : mg "_law_path" = some (.ref (a 81))
  b81 : Binds K (d 81) ["_law_value", "_law_limit"] []
  f82 : Fun K "_law_paths" "_law_paths" (topS 82) (a 82) (d 82)
  g82 : mg "_law_paths" = some (.ref (a 82))
  b82 : Binds K (d 82) ["_law_value", "_law_least", "_law_limit"] []
  f83 : Fun K "_law_item" "_law_item" (topS 83) (a 83) (d 83)
  g83 : mg "_law_item" = some (.ref (a 83))
  b83 : Binds K (d 83) ["_law_name", "_law_item_here", "_law_before"] []
  f84 : Fun K "_law_word" "_law_word" (topS 84) (a 84) (d 84)
  g84 : mg "_law_word" = some (.ref (a 84))
  b84 : Binds K (d 84) ["_law_value"] []
  f88 : Fun K "_law_against" "_law_against" (topS 88) (a 88) (d 88)
  g88 : mg "_law_against" = some (.ref (a 88))
  b88 : Binds K (d 88) ["_law_value"] []
  f10 : Fun K "covers" "covers" (topS 10) (a 10) (d 10)
  g10 : mg "covers" = some (.ref (a 10))
  b10 : Binds K (d 10) ["path", "other"] []
  f8 : Fun K "_is_name" "_is_name" (topS 8) (a 8) (d 8)
  g8 : mg "_is_name" = some (.ref (a 8))
  b8 : Binds K (d 8) ["text"] []
  f9 : Fun K "is_path" "is_path" (topS 9) (a 9) (d 9)
  g9 : mg "is_path" = some (.ref (a 9))
  b9 : Binds K (d 9) ["value"] []
  f53 : Fun K "_is_rule_path" "_is_rule_path" (topS 53) (a 53) (d 53)
  g53 : mg "_is_rule_path" = some (.ref (a 53))
  b53 : Binds K (d 53) ["value"] []
  f54 : Fun K "_are_rule_paths" "_are_rule_paths" (topS 54) (a 54) (d 54)
  g54 : mg "_are_rule_paths" = some (.ref (a 54))
  b54 : Binds K (d 54) ["value", "least", "most"] []
  f55 : Fun K "_are_rows" "_are_rows" (topS 55) (a 55) (d 55)
  g55 : mg "_are_rows" = some (.ref (a 55))
  b55 : Binds K (d 55) ["value"] []
  f56 : Fun K "_fits" "_fits" (topS 56) (a 56) (d 56)
  g56 : mg "_fits" = some (.ref (a 56))
  b56 : Binds K (d 56) ["name", "item", "first"] []
  f57 : Fun K "rule_paths" "rule_paths" (topS 57) (a 57) (d 57)
  g57 : mg "rule_paths" = some (.ref (a 57))
  b57 : Binds K (d 57) ["rule"] []
  f11 : Fun K "overlap" "overlap" (topS 11) (a 11) (d 11)
  g11 : mg "overlap" = some (.ref (a 11))
  b11 : Binds K (d 11) ["path", "other"] []
  f58 : Fun K "_any_overlap" "_any_overlap" (topS 58) (a 58) (d 58)
  g58 : mg "_any_overlap" = some (.ref (a 58))
  b58 : Binds K (d 58) ["paths"] []
  f59 : Fun K "rule_error" "rule_error" (topS 59) (a 59) (d 59)
  g59 : mg "rule_error" = some (.ref (a 59))
  b59 : Binds K (d 59) ["value"] []
  f61 : Fun K "book_error" "book_error" (topS 61) (a 61) (d 61)
  g61 : mg "book_error" = some (.ref (a 61))
  b61 : Binds K (d 61) ["rules"] []
  f4150 : Fun K "__init__" "Book.__init__" s_Book___init__ (a 4150) (d 4150)
  b4150 : Binds K (d 4150) ["self", "rules"] []
  f4151 : Fun K "rules" "Book.rules" s_Book_rules (a 4151) (d 4151)
  b4151 : Binds K (d 4151) ["self"] []
  f89 : Fun K "_law_told" "_law_told" (topS 89) (a 89) (d 89)
  g89 : mg "_law_told" = some (.ref (a 89))
  b89 : Binds K (d 89) ["_law_value"] []
  f90 : Fun K "_law_right" "_law_right" (topS 90) (a 90) (d 90)
  g90 : mg "_law_right" = some (.ref (a 90))
  b90 : Binds K (d 90) ["_law_value"] []
  f79 : Fun K "_law_odd" "_law_odd" (topS 79) (a 79) (d 79)
  g79 : mg "_law_odd" = some (.ref (a 79))
  b79 : Binds K (d 79) ["_law_reel_here"] []
  f80 : Fun K "_law_bent" "_law_bent" (topS 80) (a 80) (d 80)
  g80 : mg "_law_bent" = some (.ref (a 80))
  b80 : Binds K (d 80) ["_law_reel_here", "_law_value", "_law_deep"] []
  f85 : Fun K "_law_texts" "_law_texts" (topS 85) (a 85) (d 85)
  g85 : mg "_law_texts" = some (.ref (a 85))
  b85 : Binds K (d 85) ["_law_value"] []
  f86 : Fun K "_law_put" "_law_put" (topS 86) (a 86) (d 86)
  g86 : mg "_law_put" = some (.ref (a 86))
  b86 : Binds K (d 86) ["_law_value", "_law_old", "_law_new"] []
  f87 : Fun K "_law_closer" "_law_closer" (topS 87) (a 87) (d 87)
  g87 : mg "_law_closer" = some (.ref (a 87))
  b87 : Binds K (d 87) ["_law_reel_here", "_law_rule_here"] []
  f91 : Fun K "_law_changed" "_law_changed" (topS 91) (a 91) (d 91)
  g91 : mg "_law_changed" = some (.ref (a 91))
  b91 : Binds K (d 91) ["_law_reel_here", "_law_some"] []
  f92 : Fun K "_law_twice_wrong" "_law_twice_wrong" (topS 92) (a 92) (d 92)
  g92 : mg "_law_twice_wrong" = some (.ref (a 92))
  b92 : Binds K (d 92) ["_law_reel_here", "_law_some"] []
  f93 : Fun K "law" "law" (topS 93) (a 93) (d 93)
  g93 : mg "law" = some (.ref (a 93))
  b93 : Binds K (d 93) ["_law_script"] []
  g15 : mg "RestError" = some (.ref (a 15))
  g16 : mg "BadBook" = some (.ref (a 16))
  g17 : mg "BadProgram" = some (.ref (a 17))
  g18 : mg "BadRule" = some (.ref (a 18))
  g21 : mg "Taken" = some (.ref (a 21))
  g22 : mg "TooMany" = some (.ref (a 22))
  i16 : PySem.W.findIn K (.ref (a 16)) "__init__" = some (some (.ref (e 16)))
  t16 : PySem.W.typeIn K (.ref (e 16)) = some (.type "function")
  fi16 : Fun K "__init__" "BadBook.__init__" (inClass (topS 16) 0) (e 16) (ed 16)
  bi16 : Binds K (ed 16) ["self", "error"] []
  xc16 : XC K (a 16)
  ty16 : PySem.W.typeIn K (.ref (a 16)) = some (.type "type")
  nf16error : PySem.W.findIn K (.ref (a 16)) "error" = some none
  kt16_17_18_21_22 : PySem.W.kitAny K (.ref (a 16)) [.ref (a 17), .ref (a 18), .ref (a 21), .ref (a 22)] = some false
  ki16_15 : PySem.W.kitOne K (.ref (a 16)) (.ref (a 15)) = some true
  ki16_ValueError : PySem.W.kitOne K (.ref (a 16)) (.type "ValueError") = some true
  em16_16 : PySem.W.exmOne K (.ref (a 16)) (.ref (a 16)) = some true
  g63 : mg "Book" = some (.ref (a 63))
  M63 : Mk K (a 63) (a 4150)
  cl63 : InsK K (a 63)
  ow63 : OwnC K (a 63)
  p4151 : PropOf K (a 63) "rules" (e 4151) (a 4151)
  na63_rules : NoAttr K (a 63) "_rules"
  g51 : mg "FORMS" = some (.ref (a 51))
  k51 : KTab K w (a 51) tab_FORMS
  g52 : mg "SIZES" = some (.ref (a 52))
  k52 : KTab K w (a 52) tab_SIZES
  sys : ∃ o, base.get? sysModules = some o
  z_ValueError : mg "ValueError" = none
  z_abs : mg "abs" = none
  z_all : mg "all" = none
  z_any : mg "any" = none
  z_bool : mg "bool" = none
  z_enumerate : mg "enumerate" = none
  z_int : mg "int" = none
  z_isinstance : mg "isinstance" = none
  z_len : mg "len" = none
  z_list : mg "list" = none
  z_range : mg "range" = none
  z_repr : mg "repr" = none
  z_str : mg "str" = none
  z_tuple : mg "tuple" = none
  z_zip : mg "zip" = none
  c_MAX_NAMES : ∃ t, mg "MAX_NAMES" = some (.int 6 t)
  c_MAX_RULES : ∃ t, mg "MAX_RULES" = some (.int 8 t)
  c_MAX_RULE_NAMES : ∃ t, mg "MAX_RULE_NAMES" = some (.int 4 t)
  c__MAX_LETTERS : ∃ t, mg "_MAX_LETTERS" = some (.int 8 t)
section
variable {P : Program} {w : World} {K : PySem.W.Frag} {mg : Str → Option Value} {base : Heap} {a : Nat → Addr} {d : Nat → FuncData} {e : Nat → Addr} {ed : Nat → FuncData}
abbrev si_BadBook : Stmt := inClass (topS 16) 0
theorem sci_BadBook : FnScope ["self", "error"] ["self", "error"] (defScope si_BadBook) := ⟨rfl, rfl, rfl, by decide +kernel, rfl, by decide +kernel, by decide +kernel⟩
theorem oi_BadBook (T : Tx w K mg base a d e ed) : FnG P w K mg base CX0 1 (e 16) (ed 16) ["self", "error"] (spIn1 (a 16) "error") := by
  refine Fun.okG T.fi16 sci_BadBook (fun vs H Q E h => by obtain ⟨_, _, rfl, _⟩ := h; rfl) (fun cdv A outer s H vs Q E hr h => ?_)
  obtain ⟨x, v, rfl, ea, q⟩ := h
  exact ⟨_, pss_one (ps_xst (pv 0) (pv 1)), _, rfl, _, rfl, x, a 16, rfl, T.xc16, T.nf16error, .inl ⟨ea, fun dx n ne => q dx n ne⟩⟩
abbrev names__law_reel : List Str := ["_law_script", "_law_great", "_law_small", "_law_number"]
theorem sc__law_reel : FnScope names__law_reel ["_law_script"] (defScope s__law_reel) := ⟨rfl, rfl, rfl, by decide +kernel, rfl, by decide +kernel, by decide +kernel⟩
theorem ok0__law_reel (T : Tx w K mg base a d e ed) : FnOk P w K mg base CX0 1 (a 65) (d 65) ["_law_script"] (lift K Mem.deck 1 spDeck) := by
  refine T.f65.ok sc__law_reel (fun vs H Q E h => h.1) (fun cdv A outer s H vs Q E hr h => ?_)
  obtain ⟨hl, F, ds, sd, Qd, sub, hm, hreg, rs, ⟨ns, e2, hns, e0, hQd⟩, hQ⟩ := h
  subst e2
  obtain ⟨v, _, rfl, ⟨sc, vs, rfl, hsc, _, rv⟩, rn⟩ := rs
  cases rn
  have ev := reps_ints rv
  subst ev
  have hS : SqL K H sc (ns.map V.int) := Same.seq sub hsc
  refine ⟨_, pss_cons (ps_setLc (i := 1) (own := [("_law_number", 3)]) (g := gName 3) rfl sc__law_reel.nd rfl rfl (sw_true rfl rfl rfl (by decide +kernel)) (pi_list (pe_slice sl_list (pv 0) po_none (po_some pe_int))) (blkOk_by (N := names__law_reel) (sc := defScope s__law_reel) (by decide +kernel)) (fun _ _ _ _ _ => pg_name (i := 3) sc__law_reel.nd rfl (Or.inl rfl)) (fun _ _ _ _ _ => pts_one (pt_cmpR op_ge (pe_callB call_abs (by rfl) T.z_abs (by decide +kernel) (pa_cons (pv 3) pa_nil)) (pe_op op_pow pe_int pe_int) (nomark _))) (fun _ _ _ _ _ => pe_callB call_abs (by rfl) T.z_abs (by decide +kernel) (pa_cons (pv 3) pa_nil)))
    (pss_cons (ps_setLc (i := 2) (own := [("_law_number", 3)]) (g := gName 3) rfl sc__law_reel.nd rfl rfl (sw_true rfl rfl rfl (by decide +kernel)) (pi_list (pe_slice sl_list (pv 0) po_none (po_some pe_int))) (blkOk_by (N := names__law_reel) (sc := defScope s__law_reel) (by decide +kernel)) (fun _ _ _ _ _ => pg_name (i := 3) sc__law_reel.nd rfl (Or.inl rfl)) (fun _ _ _ _ _ => pts_one (pt_cmpR op_lt (pe_callB call_abs (by rfl) T.z_abs (by decide +kernel) (pa_cons (pv 3) pa_nil)) (pe_op op_pow pe_int pe_int) (nomark _))) (fun _ _ _ _ _ => pe_op op_add (pe_op op_mul pe_int (pe_callB call_abs (by rfl) T.z_abs (by decide +kernel) (pa_cons (pv 3) pa_nil))) (pe_callTy call_int1 (by rfl) T.z_int (by decide +kernel) (pa_cons (pe_cmpR op_lt (pv 3) pe_int (nomark _)) pa_nil))))
    (pss_one (ps_ret (pe_lst (pa_cons (pv 1) (pa_cons (pe_op op_cat (pv 2) (pe_lst (pa_cons (pe_op op_add (pe_callB call_len_seq (by rfl) T.z_len PySem.boot_len (pa_cons (pv 0) pa_nil)) pe_int) pa_nil))) (pa_cons pe_int pa_nil))))))), ?_⟩
  obtain ⟨ns1, hc1, hl1⟩ : ∃ ns1 : List Int, cutV (ns.map V.int) none (some 63) = ns1.map V.int ∧ ns1.length ≤ 63 := by
    refine ⟨(ns.drop (HT.sIx (ns.map V.int).length 0 none)).take (HT.sIx (ns.map V.int).length (ns.map V.int).length (some 63) - HT.sIx (ns.map V.int).length 0 none), ?_, ?_⟩
    · unfold cutV
      rw [List.map_take, List.map_drop]
    · rw [List.length_take, List.length_drop]
      omega
  refine ⟨_, rfl, 63, rfl, sc, _, rfl, hS, fun p1 hp1 => ?_⟩
  rw [hc1]
  have hP : SqL K (upd H p1 (.lst (ns1.map V.int))) p1 (ns1.map V.int) := .inl (.inl upd_same)
  have s1 : Same H (upd H p1 (.lst (ns1.map V.int))) := DL.same_upd hp1
  generalize upd H p1 (.lst (ns1.map V.int)) = H1 at hP s1 ⊢
  refine ⟨p1, rfl, ⟨_, hP⟩, fun B hB => lc_list (K := K) (a := p1) (xs := ns1.map V.int) (fun i H2 => (∃ bg : List Int, bg.length ≤ i ∧ H2 B = some (.lst (bg.map V.int))) ∧ Same H1 H2) ⟨⟨[], Nat.le_refl _, upd_same⟩, DL.same_upd hB⟩ (fun i H2 _ q => Same.seq q.2 hP) (fun i x H2 hx q => ?_) (fun H2 q => ?_)⟩
  · obtain ⟨⟨bg, g1, g2⟩, g3⟩ := q
    obtain ⟨z, hz, rfl⟩ : ∃ z, ns1[i]? = some z ∧ V.int z = x := by
      rw [List.getElem?_map] at hx
      cases e : ns1[i]? with
      | none => rw [e] at hx; cases hx
      | some z => rw [e] at hx; exact ⟨z, rfl, Option.some.inj hx⟩
    have hi : i < ns1.length := (List.getElem?_eq_some_iff.mp hz).1
    refine ⟨rfl, _, rfl, z, rfl, 10, 18, rfl, rfl, ⟨by decide, by decide, by decide⟩, _, _, rfl, rfl, _, rfl, ?_⟩
    refine ite2 (fun _ => ?_) fun _ => ?_
    · refine ⟨_, rfl, z, rfl, _, g2, by rw [List.length_map]; exact small1000 (by omega), ⟨bg ++ [if z < 0 then -z else z], by rw [List.length_append]; simp; omega, by rw [upd_same, List.map_append]; rfl⟩, fun b o e => ?_⟩
      rw [upd_ne (ne_of_none e hB)]; exact g3 _ _ e
    · exact ⟨⟨bg, by omega, g2⟩, g3⟩
  · obtain ⟨⟨gr, gl, g2⟩, g3⟩ := q
    rw [List.length_map] at gl
    refine ⟨_, rfl, ?_⟩
    refine ⟨63, rfl, sc, _, rfl, Same.seq (s1.trans g3) hS, fun p2 hp2 => ?_⟩
    rw [hc1]
    have hP2 : SqL K (upd H2 p2 (.lst (ns1.map V.int))) p2 (ns1.map V.int) := .inl (.inl upd_same)
    have s3 : Same H2 (upd H2 p2 (.lst (ns1.map V.int))) := DL.same_upd hp2
    have gB : (upd H2 p2 (.lst (ns1.map V.int))) B = some (.lst (gr.map V.int)) := s3 _ _ g2
    generalize upd H2 p2 (.lst (ns1.map V.int)) = H3 at hP2 s3 gB ⊢
    refine ⟨p2, rfl, ⟨_, hP2⟩, fun D hD => lc_list (K := K) (a := p2) (xs := ns1.map V.int) (fun i H4 => (∃ bg : List Int, bg.length ≤ i ∧ H4 D = some (.lst (bg.map V.int))) ∧ Same H3 H4) ⟨⟨[], Nat.le_refl _, upd_same⟩, DL.same_upd hD⟩ (fun i H2 _ q => Same.seq q.2 hP2) (fun i x H4 hx q => ?_) (fun H4 q => ?_)⟩
    · obtain ⟨⟨bg, k1, k2⟩, k3⟩ := q
      obtain ⟨z, hz, rfl⟩ : ∃ z, ns1[i]? = some z ∧ V.int z = x := by
        rw [List.getElem?_map] at hx
        cases e : ns1[i]? with
        | none => rw [e] at hx; cases hx
        | some z => rw [e] at hx; exact ⟨z, rfl, Option.some.inj hx⟩
      have hi : i < ns1.length := (List.getElem?_eq_some_iff.mp hz).1
      refine ⟨rfl, _, rfl, z, rfl, 10, 18, rfl, rfl, ⟨by decide, by decide, by decide⟩, _, _, rfl, rfl, _, rfl, ?_⟩
      refine ite2 (fun _ => ?_) fun _ => ?_
      · refine ⟨_, rfl, z, rfl, 2, _, rfl, rfl, .inl ⟨by decide, by decide⟩, _, rfl, z, 0, rfl, rfl, .inr ⟨_, rfl, _, _, rfl, rfl, _, k2, by rw [List.length_map]; exact small1000 (by omega), ⟨bg ++ [2 * (if z < 0 then -z else z) + (if decide (z < 0) = true then 1 else 0)], by rw [List.length_append]; simp; omega, by rw [upd_same, List.map_append]; rfl⟩, fun b o e => ?_⟩⟩
        rw [upd_ne (ne_of_none e hD)]; exact k3 _ _ e
      · exact ⟨⟨bg, by omega, k2⟩, k3⟩
    · obtain ⟨⟨cs, cl, k2⟩, k3⟩ := q
      rw [List.length_map] at cl
      have s4 : Same H H4 := ((s1.trans g3).trans s3).trans k3
      have hB4 : H4 B = some (.lst (gr.map V.int)) := k3 _ _ gB
      refine ⟨_, rfl, _, rfl, _, rfl, sc, ns.map V.int, rfl, .inl (Same.seq s4 hS), _, 37, rfl, rfl, by show 1 ≤ sizeLine; decide, fun U hU => ?_⟩
      have nDU : D ≠ U := ne_of_none k2 hU
      refine ⟨D, U, _, _, rfl, rfl, by rw [upd_ne nDU]; exact k2, upd_same, ?_, fun C hC2 => ⟨by show 3 ≤ sizeLine; decide, fun a0 ha0 => ?_⟩⟩
      · rw [List.length_map]
        exact Nat.le_of_lt (small1000 (by show cs.length + 1 ≤ 1000; omega))
      · have nUC : U ≠ C := fun e => by rw [← e, upd_same] at hC2; cases hC2
        have hC3 : H4 C = none := by rw [upd_ne nUC.symm] at hC2; exact hC2
        have nBC : B ≠ C := ne_of_none hB4 hC3
        have nBU : B ≠ U := ne_of_none hB4 hU
        have na0C : a0 ≠ C := fun e => by rw [e, upd_same] at ha0; cases ha0
        have ha1 : (upd H4 U (.lst [V.int (((ns.map V.int).length : Nat) + 37)])) a0 = none := by rw [upd_ne na0C] at ha0; exact ha0
        have na0U : a0 ≠ U := fun e => by rw [e, upd_same] at ha1; cases ha1
        have ha2 : H4 a0 = none := by rw [upd_ne na0U] at ha1; exact ha1
        have na0B : a0 ≠ B := fun e => by rw [e, hB4] at ha2; cases ha2
        have fin : ∀ x o, H x = some o → (upd (upd (upd H4 U (.lst [V.int (((ns.map V.int).length : Nat) + 37)])) C (.lst (cs.map V.int ++ [V.int (((ns.map V.int).length : Nat) + 37)]))) a0 (.lst [.ref B, .ref C, .int 0])) x = some o := fun x o e => by
          have e2 := s4 _ _ e
          rw [upd_ne (ne_of_none e2 ha2), upd_ne (ne_of_none e2 hC3), upd_ne (ne_of_none e2 hU)]
          exact e2
        have hBn : H B = none := s1.free hB
        refine hQ (.any (.ref a0)) ⟨some (a0, B, C), sd.n⟩ (.ref a0) F _ (hQd a0 B C) ⟨Same.refl F, fun x o e _ => fin x o e, fun x e => ?_, fun x o e => .inl e, fun x ⟨a', b', c', e, hx⟩ => ?_, sub.trans fin, fun a' b' c' e => ?_, fun x ⟨a', b', c', e, hx⟩ => ?_⟩ rfl
        · cases o : H x with
          | none => exact absurd o e
          | some u => rw [fin x u o]; simp
        · have e' : (some (a0, B, C) : Option (Addr × Addr × Addr)) = some (a', b', c') := e
          cases e'
          rcases hx with rfl | rfl | rfl
          · exact .inr (s4.free ha2)
          · exact .inr hBn
          · exact .inr (s4.free hC3)
        · have e' : (some (a0, B, C) : Option (Addr × Addr × Addr)) = some (a', b', c') := e
          cases e'
          refine ⟨na0B, na0C, nBC, gr, cs ++ [(((ns.map V.int).length : Nat) : Int) + 37], 0, upd_same, by rw [upd_ne na0B.symm, upd_ne nBC, upd_ne nBU]; exact hB4, ?_, by simp, ?_, ?_, Int.le_refl _, Int.natCast_nonneg _⟩
          · rw [upd_ne na0C.symm, upd_same, List.map_append]
            rfl
          · rw [List.length_append]; simp; omega
          · omega
        · have e' : (some (a0, B, C) : Option (Addr × Addr × Addr)) = some (a', b', c') := e
          cases e'
          rcases hx with rfl | rfl | rfl
          · exact sub.free (s4.free ha2)
          · exact sub.free hBn
          · exact sub.free (s4.free hC3)
theorem len__law_reel : ∀ ds s Qd, spDeck ds s Qd → ds.length = 1 := spDeck_len
theorem ok__law_reel (T : Tx w K mg base a d e ed) : FnG P w K mg base CX0 1 (a 65) (d 65) ["_law_script"] (lift K Mem.deck 1 spDeck) := fnG_of (ok0__law_reel T)
abbrev names__law_pull : List Str := ["_law_reel_here", "_law_many", "_law_rest", "_law_turn", "_law_mixed_here"]
theorem sc__law_pull : FnScope names__law_pull ["_law_reel_here", "_law_many"] (defScope s__law_pull) := ⟨rfl, rfl, rfl, by decide +kernel, rfl, by decide +kernel, by decide +kernel⟩
theorem ok0__law_pull (T : Tx w K mg base a d e ed) : FnOk P w K mg base CX0 1 (a 66) (d 66) ["_law_reel_here", "_law_many"] (lift K Mem.deck 2 spNext) := by
  refine T.f66.ok sc__law_pull (fun vs H Q E h => h.1) (fun cdv A outer s H vs Q E hr h => ?_)
  obtain ⟨hl, F, ds, sd, Qd, sub, hm, hreg, rs, ⟨p, q, r, n, e1, e2, h0, h1, hlim, hQd⟩, hQ⟩ := h
  subst e2
  obtain ⟨v, _, rfl, rv, v2, _, rfl, rv2, rn⟩ := rs
  cases rn
  cases rv
  cases rv2
  refine ⟨_, pss_cons (ps_while PassesOwn.never (pt_cmpR (op_neD (u64R hr)) (pe_ix ix_list (pv 0) pe_int (fun _ _ => rfl)) (pe_lst pa_nil) (nomark _))
      (pss_cons (ps_set (i := 2) sc__law_pull.nd rfl (.inl rfl) (pe_ix ix_list (pe_ix ix_list (pv 0) pe_int (fun _ _ => rfl)) pe_int (fun _ _ => rfl)))
      (pss_cons (ps_if (pt_cmpR op_gt (pv 2) pe_int (nomark _))
        (pss_cons (ps_asg (pe_op op_fdiv (pv 2) (pv 1)) (pg_sub (pe_ix ix_list (pv 0) pe_int (fun _ _ => rfl)) pe_int set_list))
        (pss_one (ps_ret (pe_op op_mod (pe_callTy call_int1 (by rfl) T.z_int (by decide +kernel) (pa_cons (pv 2) pa_nil)) (pv 1)))))
        pss_nil)
      (pss_one (ps_expr (pe_bm PySem.F.plainAttrs_list PySem.F.slot_list_pop PySem.F.type_list_pop mt_popAt (pe_ix ix_list (pv 0) pe_int (fun _ _ => rfl)) (pa_cons pe_int pa_nil)))))))
    (pss_cons (ps_asg (pe_op op_add (pe_ix ix_list (pv 0) pe_int (fun _ _ => rfl)) pe_int) (pg_sub (pv 0) pe_int set_list))
    (pss_cons (ps_set (i := 3) sc__law_pull.nd rfl (.inl rfl) (pe_ix ix_list (pv 0) pe_int (fun _ _ => rfl)))
    (pss_cons (ps_set (i := 4) sc__law_pull.nd rfl (.inl rfl) (pe_op op_mod (pe_callTy call_int1 (by rfl) T.z_int (by decide +kernel) (pa_cons (pe_ix ix_list (pe_ix ix_list (pv 0) pe_int (fun _ _ => rfl)) (pe_op op_mod (pe_callTy call_int1 (by rfl) T.z_int (by decide +kernel) (pa_cons (pv 3) pa_nil)) (pe_callB call_len_seq (by rfl) T.z_len PySem.boot_len (pa_cons (pe_ix ix_list (pv 0) pe_int (fun _ _ => rfl)) pa_nil))) (fun _ _ => rfl)) pa_nil)) pe_int))
    (pss_cons (ps_set (i := 4) sc__law_pull.nd rfl (.inl rfl) (pe_op op_add (pe_op op_add (pe_op op_mul (pv 4) (pe_op op_add pe_int (pe_op op_mul pe_int (pv 3)))) (pe_op op_mul (pe_op op_mul pe_int (pv 3)) (pv 3))) pe_int))
    (pss_cons (ps_set (i := 4) sc__law_pull.nd rfl (.inl rfl) (pe_op op_add (pe_op op_mod (pe_callTy call_int1 (by rfl) T.z_int (by decide +kernel) (pa_cons (pe_op op_mulW (pv 4) (pv 4)) pa_nil)) pe_int) (pe_op op_mul pe_int (pv 3))))
    (pss_one (ps_ret (pe_op op_mod (pe_op op_fdiv (pe_op op_mod (pe_callTy call_int1 (by rfl) T.z_int (by decide +kernel) (pa_cons (pe_op op_mulW (pv 4) (pv 4)) pa_nil)) pe_int) pe_int) (pv 1))))))))), ?_⟩
  obtain ⟨n1, n2, n3, big, all, t, ha, hb, hc, hall, hl1, hl2, ht0, ht1⟩ := hm p q r e1
  have regs : ∀ x, Mem.deck.R sd x → x = p ∨ x = q ∨ x = r := fun x ⟨a', b', c', e, hx⟩ => by
    rw [e1] at e; cases e; exact hx
  have Fp : F p = none := hreg p ⟨p, q, r, e1, .inl rfl⟩
  have Fq : F q = none := hreg q ⟨p, q, r, e1, .inr (.inl rfl)⟩
  have Fr : F r = none := hreg r ⟨p, q, r, e1, .inr (.inr rfl)⟩
  -- the way out: a number below n, the deck as it is then
  have out : ∀ (z : Int) (H' : Hp) (big' : List Int) (t' : Int), 0 ≤ z → z < n → H' p = some (.lst [.ref q, .ref r, .int t']) → H' q = some (.lst (big'.map V.int)) → H' r = some (.lst (all.map V.int)) → big'.length ≤ 1000 → 0 ≤ t' → t' ≤ (sd.n + 1 : Nat) →
      (∀ x o, H x = some o → x ≠ p → x ≠ q → H' x = some o) → Q (.int z) H' := fun z H' big' t' z0 z1 a1 a2 a3 a4 a5 a6 k => by
    have Hp' : H p ≠ none := by rw [ha]; simp
    refine hQ (.int z) ⟨sd.adr, sd.n + 1⟩ (.int z) F H' (hQd z (sd.n + 1) z0 z1 rfl) ⟨Same.refl F, fun x o h nr => k x o h (fun e => nr ⟨p, q, r, e1, .inl e⟩) (fun e => nr ⟨p, q, r, e1, .inr (.inl e)⟩), fun x h => ?_, fun x o h => .inl h, fun x h => ?_, fun x o h => ?_, fun a' b' c' e => ?_, fun x h => hreg x h⟩ rfl
    · by_cases e : x = p
      · rw [e, a1]; simp
      · by_cases e' : x = q
        · rw [e', a2]; simp
        · cases o : H x with
          | none => exact absurd o h
          | some u => rw [k x u o e e']; simp
    · exact .inl h
    · have h' := sub x o h
      exact k x o h' (fun e => by rw [e, Fp] at h; cases h) (fun e => by rw [e, Fq] at h; cases h)
    · have e' : sd.adr = some (a', b', c') := e
      rw [e1] at e'; cases e'
      exact ⟨n1, n2, n3, big', all, t', a1, a2, a3, hall, hl1, a4, a5, a6⟩
  -- the while
  refine ⟨fun m σ H2 => ∃ (bg : List Int) (y2 : Option V), m = bg.length ∧ bg.length ≤ big.length ∧ σ = [some (.ref p), some (.int n), y2, none, none] ∧ H2 p = some (.lst [.ref q, .ref r, .int t]) ∧ H2 q = some (.lst (bg.map V.int)) ∧ (∀ x o, H x = some o → x ≠ q → H2 x = some o),
    ⟨big.length, big, none, rfl, Nat.le_refl _, rfl, ha, hb, fun _ _ h _ => h⟩, ?_⟩
  rintro m σ H2 ⟨bg, y2, rfl, hbg, rfl, g1, g2, gk⟩
  have dpI : ∀ (l : List Int), DpAll K H2 (l.map V.int) (l.map PyData.int) := fun l => by
    induction l with
    | nil => exact .nil
    | cons x l ih => exact .cons (.int x) ih
  have layI : ∀ (l : List Int), PyData.canLayAll0 (l.map PyData.int) = true ∧ PyData.depthAll (l.map PyData.int) ≤ 0 := fun l => by
    induction l with
    | nil => exact ⟨rfl, Nat.le_refl _⟩
    | cons x l ih =>
      obtain ⟨i1, i2⟩ := ih
      rw [List.map_cons]
      exact ⟨by simp only [PyData.canLayAll0, PyData.canLay0, i1, Bool.and_self], by simp only [PyData.depthAll, PyData.depth]; omega⟩
  refine ⟨_, rfl, p, _, 0, .ref q, rfl, rfl, .inl (.inl g1), rfl, Nat.zero_le _, fun o no => ?_⟩
  have nop : p ≠ o := ne_of_none g1 no
  have noq : q ≠ o := ne_of_none g2 no
  have g1' : (upd H2 o (.lst [])) p = some (.lst [.ref q, .ref r, .int t]) := by rw [upd_ne nop]; exact g1
  have g2' : (upd H2 o (.lst [])) q = some (.lst (bg.map V.int)) := by rw [upd_ne noq]; exact g2
  have sm : Same H2 (upd H2 o (.lst [])) := DL.same_upd no
  have dp1 : Dp K (upd H2 o (.lst [])) (.ref q) (.list (bg.map PyData.int)) := by
    refine .lst (.inl (.inl g2')) ?_
    clear layI dpI g2 g2' hbg
    induction bg with
    | nil => exact .nil
    | cons x l ih => exact .cons (.int x) ih
  have sh1 : SeqAt.shaped (.list (bg.map PyData.int)) = true := by
    obtain ⟨i1, i2⟩ := layI bg
    unfold SeqAt.shaped
    have d1 : (PyData.list (bg.map PyData.int)).depth ≤ 64 := by simp only [PyData.depth]; omega
    rw [decide_eq_true d1, show (PyData.list (bg.map PyData.int)).canLay0 = true by simp only [PyData.canLay0]; exact i1]
    rfl
  refine ⟨_, _, dp1, .lst (.inl (.inl upd_same)) .nil, sh1, by decide, _, rfl, ?_⟩
  cases bg with
  | nil =>
    refine iteF ?_
    -- behind the while
    refine ⟨_, rfl, p, _, 2, .int t, rfl, rfl, .inl (.inl g1'), rfl, t, 1, rfl, rfl, _, rfl, p, _, 2, 2, rfl, rfl, g1', rfl, ?_⟩
    have hr' : H2 r = some (.lst (all.map V.int)) := gk r _ hc n3.symm
    have nrp : r ≠ p := n2.symm
    have nro : r ≠ o := ne_of_none hr' no
    refine ⟨_, rfl, p, _, 2, .int (t + 1), rfl, rfl, .inl (.inl upd_same), rfl, ?_⟩
    have hrr : (upd (upd H2 o (.lst [])) p (.lst ([V.ref q, .ref r, .int t].set 2 (.int (t + 1))))) r = some (.lst (all.map V.int)) := by rw [upd_ne nrp, upd_ne nro]; exact hr'
    have lpos : (0 : Int) < ((all.map V.int).length : Nat) := by
      cases all with
      | nil => exact absurd rfl hall
      | cons x l => rw [List.length_map, List.length_cons]; omega
    obtain ⟨k, hk, hk2⟩ : ∃ k : Nat, (t + 1) % (((all.map V.int).length : Nat) : Int) = (k : Int) ∧ k < all.length := by
      have m0 := Int.emod_nonneg (t + 1) (Int.ne_of_gt lpos)
      have m1 := Int.emod_lt_of_pos (t + 1) lpos
      rw [List.length_map] at m0 m1 lpos ⊢
      exact ⟨((t + 1) % (all.length : Int)).toNat, by omega, by omega⟩
    have hat : atI (all.map V.int) ((t + 1) % (((all.map V.int).length : Nat) : Int)) = some (.int all[k]) := by
      rw [hk]
      exact atI_nat (by rw [List.getElem?_map, List.getElem?_eq_getElem hk2]; rfl)
    refine ⟨_, rfl, p, _, 1, .ref r, rfl, rfl, .inl (.inl upd_same), rfl, _, rfl, .inl ⟨t + 1, rfl, _, rfl, p, _, 1, .ref r, rfl, rfl, .inl (.inl upd_same), rfl, r, _, rfl, .inl (.inl (.inl hrr)), _, _, rfl, rfl, lpos, r, _, _, .int all[k], rfl, rfl, .inl (.inl hrr), hat, .inl ⟨all[k], rfl, all[k], 2147483629, rfl, rfl, (by show (0 : Int) < 2147483629; decide), ?_⟩⟩⟩
    have u1 : t + 1 ≤ 2 ^ 60 := by
      have : sd.n < 2 ^ 60 := hlim
      omega
    have m0 : 0 ≤ all[k] % 2147483629 := Int.emod_nonneg _ (by decide)
    have m1 : all[k] % 2147483629 < 2147483629 := Int.emod_lt_of_pos _ (by decide)
    refine ⟨_, rfl, _, rfl, 69621, t + 1, rfl, rfl, .inl ⟨by decide, by decide⟩, 48271, _, rfl, rfl, all[k] % 2147483629, _, rfl, rfl, .inl ⟨by omega, by omega⟩, _, rfl, 40692, t + 1, rfl, rfl, .inl ⟨by decide, by decide⟩, _, rfl, 40692 * (t + 1), t + 1, rfl, rfl, .inr ⟨by omega, by omega⟩, _, _, rfl, rfl, _, 59, rfl, rfl, ?_⟩
    obtain ⟨M, hM⟩ : ∃ M, M = all[k] % 2147483629 * (48271 + 69621 * (t + 1)) + 40692 * (t + 1) * (t + 1) + 59 := ⟨_, rfl⟩
    have wM : M.natAbs < 2 ^ 140 := by
      have p1 : all[k] % 2147483629 * (48271 + 69621 * (t + 1)) ≤ 2 ^ 31 * 2 ^ 78 := Int.mul_le_mul (by omega) (by omega) (by omega) (by decide)
      have p2 : 40692 * (t + 1) * (t + 1) ≤ 2 ^ 76 * 2 ^ 60 := Int.mul_le_mul (by omega) (by omega) (by omega) (by decide)
      have p3 : 0 ≤ all[k] % 2147483629 * (48271 + 69621 * (t + 1)) := Int.mul_nonneg m0 (by omega)
      have p4 : 0 ≤ 40692 * (t + 1) * (t + 1) := Int.mul_nonneg (by omega) (by omega)
      omega
    refine ⟨_, rfl, _, rfl, M, M, by rw [hM], by rw [hM], wide_mul wM wM (by decide) (by decide) (by decide), .inl ⟨_, rfl, _, 2305843009213693951, rfl, rfl, (by show (0 : Int) < 2305843009213693951; decide), _, rfl, 16807, t + 1, rfl, rfl, .inl ⟨by decide, by decide⟩, _, _, rfl, rfl, ?_⟩⟩
    obtain ⟨N, hN⟩ : ∃ N, N = M * M % 2305843009213693951 + 16807 * (t + 1) := ⟨_, rfl⟩
    have wN : N.natAbs < 2 ^ 80 := by
      have q0 : 0 ≤ M * M % 2305843009213693951 := Int.emod_nonneg _ (by decide)
      have q1 : M * M % 2305843009213693951 < 2305843009213693951 := Int.emod_lt_of_pos _ (by decide)
      omega
    refine ⟨_, rfl, _, rfl, N, N, by rw [hN], by rw [hN], wide_mul wN wN (by decide) (by decide) (by decide), .inl ⟨_, rfl, _, 2305843009213693951, rfl, rfl, (by show (0 : Int) < 2305843009213693951; decide), _, 4099, rfl, rfl, ⟨by decide, by decide⟩, _, rfl, _, n, rfl, rfl, h0, ?_⟩⟩
    refine out _ _ [] (t + 1) (Int.emod_nonneg _ (Int.ne_of_gt h0)) (Int.emod_lt_of_pos _ h0) upd_same (by rw [upd_ne n1.symm]; exact g2') hrr (Nat.zero_le _) (by omega) (by omega) fun x u e n4 n5 => ?_
    rw [upd_ne n4, upd_ne (ne_of_none (gk x u e n5) no)]
    exact gk x u e n5
  | cons x bg =>
    refine iteT ⟨fun σ' H' => ∃ y2 : Option V, σ' = [some (.ref p), some (.int n), y2, none, none] ∧ H' p = some (.lst [.ref q, .ref r, .int t]) ∧ H' q = some (.lst (bg.map V.int)) ∧ (∀ x o, H x = some o → x ≠ q → H' x = some o), fun σ' H' ⟨y, a1, a2, a3, a4⟩ => ⟨bg.length, Nat.lt_succ_self _, bg, y, rfl, by rw [List.length_cons] at hbg; omega, a1, a2, a3, a4⟩, ?_⟩
    refine ⟨_, rfl, p, _, 0, .ref q, rfl, rfl, .inl (.inl g1'), rfl, q, _, 0, .int x, rfl, rfl, .inl (.inl g2'), atI_nat (j := 0) rfl, ?_⟩
    refine ⟨_, rfl, x, 0, rfl, rfl, _, rfl, ?_⟩
    refine ite2 (fun hx => ?_) fun hx => ?_
    · refine ⟨_, rfl, _, rfl, x, n, rfl, rfl, ⟨h0, h1⟩, _, rfl, p, _, 0, .ref q, rfl, rfl, .inl (.inl g1'), rfl, q, _, 0, 0, rfl, rfl, g2', ix0 x bg, ?_⟩
      refine ⟨_, rfl, .inl ⟨x, rfl, _, rfl, x, n, rfl, rfl, h0, ?_⟩⟩
      refine out _ _ (x / n :: bg) t (Int.emod_nonneg _ (Int.ne_of_gt h0)) (Int.emod_lt_of_pos _ h0) (by rw [upd_ne n1]; exact g1') upd_same ?_ (by rw [List.length_cons] at hbg ⊢; omega) ht0 (by omega) fun y u e n4 n5 => ?_
      · have hr' : H2 r = some (.lst (all.map V.int)) := gk r _ hc n3.symm
        rw [upd_ne n3.symm, upd_ne (ne_of_none hr' no)]
        exact hr'
      · rw [upd_ne n5, upd_ne (ne_of_none (gk y u e n5) no)]
        exact gk y u e n5
    · refine ⟨_, rfl, p, _, 0, .ref q, rfl, rfl, .inl (.inl g1'), rfl, .inl ⟨rfl, _, .inl (.inl g2')⟩, q, _, 0, 0, .int x, rfl, rfl, g2', by decide, by decide, ?_, rfl, ?_⟩
      · show seqIndex? 0 (((x :: bg).map V.int).length) = some 0
        rw [List.length_map, List.length_cons]
        exact seqIndex_of (by decide) (by omega)
      · refine ⟨_, rfl, by rw [upd_ne n1]; exact g1', by rw [upd_same]; rfl, fun y u e n5 => ?_⟩
        rw [upd_ne n5, upd_ne (ne_of_none (gk y u e n5) no)]
        exact gk y u e n5
theorem len__law_pull : ∀ ds s Qd, spNext ds s Qd → ds.length = 2 := spNext_len
theorem ok__law_pull (T : Tx w K mg base a d e ed) : FnG P w K mg base CX0 1 (a 66) (d 66) ["_law_reel_here", "_law_many"] (lift K Mem.deck 2 spNext) := fnG_of (ok0__law_pull T)
abbrev names__law_pick : List Str := ["_law_reel_here", "_law_some"]
theorem sc__law_pick : FnScope names__law_pick ["_law_reel_here", "_law_some"] (defScope s__law_pick) := ⟨rfl, rfl, rfl, by decide +kernel, rfl, by decide +kernel, by decide +kernel⟩
theorem len__law_pick : ∀ ds s Qd, (spPick : DSp Mem.deck) ds s Qd → ds.length = 2 := spPick_len
theorem ok__law_pick (T : Tx w K mg base a d e ed) : FnG P w K mg base CX0 2 (a 67) (d 67) ["_law_reel_here", "_law_some"] (lift K Mem.deck 2 spPick) := by
  have G__law_pull := ok__law_pull (P := P) (w := w) (base := base) T
  refine dfn T.f67 sc__law_pick rfl (fun cdv A outer s0 H E En hr => ⟨_, (dss_one (ds_ret (de_ix ix_seq o_ix (dv 1) (de_call G__law_pull len__law_pull (hr.mono (by decide)) (by rfl) T.g66 T.f66.kp T.b66 (da_cons (dv 0) (da_cons (de_callB (DL.CallR.or call_len call_lenD) o_len (by rfl) T.z_len (by decide +kernel) (da_cons (dv 1) da_nil)) da_nil)))))), fun ds s Qd h => ?_⟩)
  exact read_pick29 ds s Qd h
abbrev names__law_names : List Str := ["_law_reel_here", "_law_many", "_law_letters", "_law_turn", "_law_size", "_law_same_here", "_law_place", "_law_first", "_law_base", "_law_found", "_law_row", "_law_k"]
theorem sc__law_names : FnScope names__law_names ["_law_reel_here", "_law_many"] (defScope s__law_names) := ⟨rfl, rfl, rfl, by decide +kernel, rfl, by decide +kernel, by decide +kernel⟩
theorem len__law_names : ∀ ds s Qd, (spNames43 : DSp Mem.deck) ds s Qd → ds.length = 2 := spNames43_len
theorem ok__law_names (T : Tx w K mg base a d e ed) : FnG P w K mg base CX0 3 (a 69) (d 69) ["_law_reel_here", "_law_many"] (lift K Mem.deck 2 spNames43) := by
  have G__law_pull := ok__law_pull (P := P) (w := w) (base := base) T
  have G__law_pick := ok__law_pick (P := P) (w := w) (base := base) T
  refine dfn T.f69 sc__law_names rfl (fun cdv A outer s0 H E En hr => ⟨_, (dss_cons (ds_set 2 sc__law_names.nd de_str)
      (dss_cons (ds_par 4 5 sc__law_names.nd (da_cons (de_op op_addA o_add de_int (de_call G__law_pull len__law_pull (hr.mono (by decide)) (by rfl) T.g66 T.f66.kp T.b66 (da_cons (dv 0) (da_cons de_int da_nil)))) (da_cons (de_cmp (op_eqD (u64 hr)) o_eq (de_call G__law_pull len__law_pull (hr.mono (by decide)) (by rfl) T.g66 T.f66.kp T.b66 (da_cons (dv 0) (da_cons de_int da_nil))) de_int) da_nil)))
      (dss_cons (ds_par 6 7 sc__law_names.nd (da_cons (de_call G__law_pull len__law_pull (hr.mono (by decide)) (by rfl) T.g66 T.f66.kp T.b66 (da_cons (dv 0) (da_cons (dv 4) da_nil))) (da_cons (de_call G__law_pull len__law_pull (hr.mono (by decide)) (by rfl) T.g66 T.f66.kp T.b66 (da_cons (dv 0) (da_cons de_int da_nil))) da_nil)))
      (dss_cons (ds_parO 8 9 sc__law_names.nd (de_lc (own := [("_law_k", 11)]) sc__law_names.nd (di_range1 (by rfl) T.z_range (da_cons (dv 4) da_nil)) (blkOk_by (N := names__law_names) (sc := defScope s__law_names) (by decide +kernel)) (fun _ _ _ _ _ => (dg_name 11 sc__law_names.nd)) (fun _ _ _ _ _ => dts_nil) (fun _ _ _ _ _ => (de_call G__law_pick len__law_pick (hr.mono (by decide)) (by rfl) T.g67 T.f67.kp T.b67 (da_cons (dv 0) (da_cons (dv 2) da_nil))))))
      (dss_cons (ds_for rfl (di_range1 (by rfl) T.z_range (da_cons (dv 1) da_nil)) (dg_name 3 sc__law_names.nd)
        (dss_cons (ds_setListO 10 sc__law_names.nd (by rfl) T.z_list (da_cons (dv 8) da_nil))
        (dss_cons (ds_if (dt_not (dt_truth (dv 5)))
          (dss_one (ds_setLcO 10 (own := [("_law_k", 11)]) sc__law_names.nd (di_range1 (by rfl) T.z_range (da_cons (dv 4) da_nil)) (blkOk_by (N := names__law_names) (sc := defScope s__law_names) (by decide +kernel)) (fun _ _ _ _ _ => (dg_name 11 sc__law_names.nd)) (fun _ _ _ _ _ => dts_nil) (fun _ _ _ _ _ => (de_call G__law_pick len__law_pick (hr.mono (by decide)) (by rfl) T.g67 T.f67.kp T.b67 (da_cons (dv 0) (da_cons (dv 2) da_nil))))))
          dss_nil)
        (dss_cons (ds_stO 10 (de_ix ix_seq o_ix (dv 2) (de_op op_mod o_mod (de_callTy call_int1 o_int (by rfl) T.z_int (by decide +kernel) (da_cons (de_op op_addA o_add (dv 7) (dv 3)) da_nil)) de_int)) (dv 6))
        (dss_one (ds_app 9 (de_m PySem.F.plainAttrs_str PySem.F.slot_str_join PySem.F.type_str_join mt_join o_join de_str (da_cons (dv 10) da_nil))))))))
      (dss_one (ds_ret (dv 9)))))))), fun ds s Qd h => ?_⟩)
  exact read_names43 ds s Qd h
abbrev names__law_spots : List Str := ["_law_reel_here", "_law_names_here", "_law_found", "_law_turn", "_law_path_here"]
theorem sc__law_spots : FnScope names__law_spots ["_law_reel_here", "_law_names_here"] (defScope s__law_spots) := ⟨rfl, rfl, rfl, by decide +kernel, rfl, by decide +kernel, by decide +kernel⟩
theorem len__law_spots : ∀ ds s Qd, (spSpots : DSp Mem.deck) ds s Qd → ds.length = 2 := spSpots_len
theorem ok__law_spots (T : Tx w K mg base a d e ed) : FnG P w K mg base CX0 3 (a 72) (d 72) ["_law_reel_here", "_law_names_here"] (lift K Mem.deck 2 spSpots) := by
  have G__law_pull := ok__law_pull (P := P) (w := w) (base := base) T
  have G__law_pick := ok__law_pick (P := P) (w := w) (base := base) T
  refine dfn T.f72 sc__law_spots rfl (fun cdv A outer s0 H E En hr => ⟨_, (dss_cons (ds_setL 2 sc__law_spots.nd (da_cons (de_ix ix_seq o_ix (dv 1) de_int) (da_cons (de_ix ix_seq o_ix (dv 1) de_int) da_nil)))
      (dss_cons (ds_for rfl (di_range1 (by rfl) T.z_range (da_cons (de_op op_addA o_add de_int (de_call G__law_pull len__law_pull (hr.mono (by decide)) (by rfl) T.g66 T.f66.kp T.b66 (da_cons (dv 0) (da_cons de_int da_nil)))) da_nil)) (dg_name 3 sc__law_spots.nd)
        (dss_cons (ds_set 4 sc__law_spots.nd (de_back (de_op op_addA o_add (de_op op_addA o_add (de_call G__law_pick len__law_pick (hr.mono (by decide)) (by rfl) T.g67 T.f67.kp T.b67 (da_cons (dv 0) (da_cons (dv 2) da_nil))) de_str) (de_call G__law_pick len__law_pick (hr.mono (by decide)) (by rfl) T.g67 T.f67.kp T.b67 (da_cons (dv 0) (da_cons (de_slice sl_all o_sl (dv 1) do_none (do_some de_int)) da_nil))))))
        (dss_cons (ds_if (dt_cmp (op_eqD (u64 hr)) o_eq (de_call G__law_pull len__law_pull (hr.mono (by decide)) (by rfl) T.g66 T.f66.kp T.b66 (da_cons (dv 0) (da_cons de_int da_nil))) de_int)
          (dss_one (ds_set 4 sc__law_spots.nd (de_ix ix_seq o_ix (dv 1) de_int)))
          dss_nil)
        (dss_one (ds_if (dt_back (PW.pt (dw_and (dt_cmp (op_notInA (u65 hr)) o_notIn (dv 4) (dv 2)) (dw_and1 (dt_cmp op_ltA o_lt (de_m PySem.F.plainAttrs_str PySem.F.slot_str_count PySem.F.type_str_count mt_count o_count (dv 4) (da_cons de_str da_nil)) de_int)))))
          (dss_one (ds_app 2 (dv 4)))
          dss_nil)))))
      (dss_one (ds_ret (dv 2))))), fun ds s Qd h => ?_⟩)
  exact read_spots43 ds s Qd h
abbrev names__law_under : List Str := ["_law_path_here", "_law_other"]
theorem sc__law_under : FnScope names__law_under ["_law_path_here", "_law_other"] (defScope s__law_under) := ⟨rfl, rfl, rfl, by decide +kernel, rfl, by decide +kernel, by decide +kernel⟩
theorem len__law_under {m : Mem} : ∀ ds s Qd, (spCovers : DSp m) ds s Qd → ds.length = 2 := spCovers_len
theorem ok__law_under {m : Mem} (T : Tx w K mg base a d e ed) : FnG P w K mg base CX0 1 (a 70) (d 70) ["_law_path_here", "_law_other"] (lift K m 2 spCovers) := by
  refine dfn T.f70 sc__law_under rfl (fun cdv A outer s0 H E En hr => ⟨_, (dss_one (ds_ret (de_or (de_cmp (op_eqD (u64 hr)) o_eq (dv 1) (dv 0)) (de_one (de_m PySem.F.plainAttrs_str PySem.F.slot_str_startswith PySem.F.type_str_startswith mt_startswith o_sw (dv 1) (da_cons (de_op op_addA o_add (dv 0) de_str) da_nil)))))), fun ds s Qd h => ?_⟩)
  exact read_under43 ds s Qd h
abbrev names__law_mixed : List Str := ["_law_reel_here", "_law_some", "_law_turn", "_law_rest", "_law_found"]
theorem sc__law_mixed : FnScope names__law_mixed ["_law_reel_here", "_law_some"] (defScope s__law_mixed) := ⟨rfl, rfl, rfl, by decide +kernel, rfl, by decide +kernel, by decide +kernel⟩
theorem len__law_mixed : ∀ ds s Qd, (spMixed : DSp Mem.deck) ds s Qd → ds.length = 2 := spMixed_len
theorem ok__law_mixed (T : Tx w K mg base a d e ed) : FnG P w K mg base CX0 2 (a 68) (d 68) ["_law_reel_here", "_law_some"] (lift K Mem.deck 2 spMixed) := by
  have G__law_pull := ok__law_pull (P := P) (w := w) (base := base) T
  refine dfn T.f68 sc__law_mixed rfl (fun cdv A outer s0 H E En hr => ⟨_, (dss_cons (ds_parLO 3 4 sc__law_mixed.nd (dv 1) (by rfl) T.z_list)
      (dss_cons (ds_for rfl (di_range1 (by rfl) T.z_range (da_cons (de_callB (DL.CallR.or call_len call_lenD) o_len (by rfl) T.z_len (by decide +kernel) (da_cons (dv 1) da_nil)) da_nil)) (dg_name 2 sc__law_mixed.nd)
        (dss_one (ds_appPop 4 3 (de_call G__law_pull len__law_pull (hr.mono (by decide)) (by rfl) T.g66 T.f66.kp T.b66 (da_cons (dv 0) (da_cons (de_lenO 3 (by rfl) T.z_len) da_nil))))))
      (dss_one (ds_ret (dv 4))))), fun ds s Qd h => ?_⟩)
  exact read_mixed43 ds s Qd h
abbrev names__law_meet : List Str := ["_law_path_here", "_law_other"]
theorem sc__law_meet : FnScope names__law_meet ["_law_path_here", "_law_other"] (defScope s__law_meet) := ⟨rfl, rfl, rfl, by decide +kernel, rfl, by decide +kernel, by decide +kernel⟩
theorem len__law_meet {m : Mem} : ∀ ds s Qd, (spOvl : DSp m) ds s Qd → ds.length = 2 := spOvl_len
theorem ok__law_meet {m : Mem} (T : Tx w K mg base a d e ed) : FnG P w K mg base CX0 2 (a 71) (d 71) ["_law_path_here", "_law_other"] (lift K m 2 spOvl) := by
  have G__law_under := ok__law_under (P := P) (w := w) (base := base) (m := m) T
  refine dfn T.f71 sc__law_meet rfl (fun cdv A outer s0 H E En hr => ⟨_, (dss_one (ds_ret (de_or (de_call G__law_under len__law_under (hr.mono (by decide)) (by rfl) T.g70 T.f70.kp T.b70 (da_cons (dv 0) (da_cons (dv 1) da_nil))) (de_one (de_call G__law_under len__law_under (hr.mono (by decide)) (by rfl) T.g70 T.f70.kp T.b70 (da_cons (dv 1) (da_cons (dv 0) da_nil))))))), fun ds s Qd h => ?_⟩)
  exact read_meet43 ds s Qd h
abbrev names__law_alone : List Str := ["_law_reel_here", "_law_paths_here", "_law_limit", "_law_found", "_law_path_here", "_law_one"]
theorem sc__law_alone : FnScope names__law_alone ["_law_reel_here", "_law_paths_here", "_law_limit"] (defScope s__law_alone) := ⟨rfl, rfl, rfl, by decide +kernel, rfl, by decide +kernel, by decide +kernel⟩
theorem len__law_alone : ∀ ds s Qd, (spAlone : DSp Mem.deck) ds s Qd → ds.length = 3 := spAlone_len
theorem ok__law_alone (T : Tx w K mg base a d e ed) : FnG P w K mg base CX0 3 (a 73) (d 73) ["_law_reel_here", "_law_paths_here", "_law_limit"] (lift K Mem.deck 3 spAlone) := by
  have G__law_mixed := ok__law_mixed (P := P) (w := w) (base := base) T
  have G__law_meet := ok__law_meet (P := P) (w := w) (base := base) (m := Mem.deck) T
  refine dfn T.f73 sc__law_alone rfl (fun cdv A outer s0 H E En hr => ⟨_, (dss_cons (ds_setL 3 sc__law_alone.nd da_nil)
      (dss_cons (ds_for rfl (di_seq (de_call G__law_mixed len__law_mixed (hr.mono (by decide)) (by rfl) T.g68 T.f68.kp T.b68 (da_cons (dv 0) (da_cons (dv 1) da_nil)))) (dg_name 4 sc__law_alone.nd)
        (dss_one (ds_if (dt_back (PW.pt (dw_and (dt_cmp op_ltA o_lt (de_lenO 3 (by rfl) T.z_len) (dv 2)) (dw_and1 (dt_cmp (op_eqE (u1 hr)) o_eqE (de_lc (own := [("_law_one", 5)]) sc__law_alone.nd (di_seq (dv 3)) (blkOk_by (N := names__law_alone) (sc := defScope s__law_alone) (by decide +kernel)) (fun _ _ _ _ _ => (dg_name 5 sc__law_alone.nd)) (fun _ _ _ _ _ => (dts_one (dt_truth (de_call G__law_meet len__law_meet (hr.mono (by decide)) (by rfl) T.g71 T.f71.kp T.b71 (da_cons (dv 5) (da_cons (dv 4) da_nil)))))) (fun _ _ _ _ _ => (dv 5))) (de_lst da_nil))))))
          (dss_one (ds_app 3 (dv 4)))
          dss_nil)))
      (dss_one (ds_ret (dv 3))))), fun ds s Qd h => ?_⟩)
  exact read_alone43 ds s Qd h
abbrev names__law_rows : List Str := ["_law_reel_here", "_law_paths_here", "_law_rows_here", "_law_path_here", "_law_again", "_law_row"]
theorem sc__law_rows : FnScope names__law_rows ["_law_reel_here", "_law_paths_here"] (defScope s__law_rows) := ⟨rfl, rfl, rfl, by decide +kernel, rfl, by decide +kernel, by decide +kernel⟩
theorem len__law_rows : ∀ ds s Qd, (spRows43 : DSp Mem.deck) ds s Qd → ds.length = 2 := spRows43_len
theorem ok__law_rows (T : Tx w K mg base a d e ed) : FnG P w K mg base CX0 2 (a 74) (d 74) ["_law_reel_here", "_law_paths_here"] (lift K Mem.deck 2 spRows43) := by
  have G__law_pull := FnG.imp (ok__law_pull (P := P) (w := w) (base := base) T) fun _ _ _ _ => lift_hot
  have len__law_pull : ∀ ds s Qd, (hotSp (spNext : DSp Mem.deck) : DSp (Mem.hot Mem.deck)) ds s Qd → ds.length = 2 := fun ds s Qd h => len__law_pull ds s.1 _ h
  refine FnG.imp (sp := lift K (Mem.hot Mem.deck) 2 (coldSp spRows43)) ?_ fun _ _ _ _ => lift_coldSp
  refine dfn T.f74 sc__law_rows rfl (fun cdv A outer s0 H E En hr => ⟨_, (dss_cons (ds_hot0 2 sc__law_rows.nd (de_ix ix_seq o_ix (dv 1) de_int))
      (dss_cons (ds_for rfl (di_seq (de_slice sl_all o_sl (dv 1) (do_some de_int) do_none)) (dg_name 3 sc__law_rows.nd)
        (dss_cons (ds_set 4 sc__law_rows.nd (de_or (de_cmp (op_eqD (u64 hr)) o_eq (de_call G__law_pull len__law_pull (hr.mono (by decide)) (by rfl) T.g66 T.f66.kp T.b66 (da_cons (dv 0) (da_cons de_int da_nil))) de_int) (de_or (de_cmp (op_eqD (u64 hr)) o_eq (de_hotLen 2 (by rfl) T.z_len (de_un un_neg o_neg de_int)) de_int) (de_one (de_and (de_cmp (op_eqD (u64 hr)) o_eq (de_lenO 2 (by rfl) T.z_len) de_int) (de_one (de_cmp (op_eqD (u64 hr)) o_eq (dv 3) (de_ix ix_seq o_ix (dv 1) (de_un un_neg o_neg de_int)))))))))
        (dss_one (ds_if (PW.pt (dw_and (dt_truth (dv 4)) (dw_and1 (dt_cmp op_ltA o_lt (de_lenO 2 (by rfl) T.z_len) de_int))))
          (dss_one (ds_hotNew 2 (dv 3)))
          (dss_one (ds_hotApp 2 (de_un un_neg o_neg de_int) (dv 3)))))))
      (dss_one (ds_ret (de_callTy call_tuple_of o_tuple (by rfl) T.z_tuple (by decide +kernel) (da_cons (de_lc (own := [("_law_row", 5)]) sc__law_rows.nd (di_seq (dv 2)) (blkOk_by (N := names__law_rows) (sc := defScope s__law_rows) (by decide +kernel)) (fun _ _ _ _ _ => (dg_name 5 sc__law_rows.nd)) (fun _ _ _ _ _ => dts_nil) (fun _ _ _ _ _ => (de_hotTup 5 (by rfl) T.z_tuple))) da_nil)))))), fun ds s Qd h => ?_⟩)
  exact read_rows43 ds s Qd h
abbrev names__law_rule_of : List Str := ["_law_reel_here", "_law_kind", "_law_spots_here", "_law_cut", "_law_head", "_law_below", "_law_how", "_law_paths_here", "_law_path_here"]
theorem sc__law_rule_of : FnScope names__law_rule_of ["_law_reel_here", "_law_kind", "_law_spots_here"] (defScope s__law_rule_of) := ⟨rfl, rfl, rfl, by decide +kernel, rfl, by decide +kernel, by decide +kernel⟩
theorem len__law_rule_of : ∀ ds s Qd, (spRuleOf : DSp Mem.deck) ds s Qd → ds.length = 3 := spRuleOf_len
theorem ok__law_rule_of (T : Tx w K mg base a d e ed) : FnG P w K mg base CX0 4 (a 75) (d 75) ["_law_reel_here", "_law_kind", "_law_spots_here"] (lift K Mem.deck 3 spRuleOf) := by
  have G__law_pull := ok__law_pull (P := P) (w := w) (base := base) T
  have G__law_pick := ok__law_pick (P := P) (w := w) (base := base) T
  have G__law_under := ok__law_under (P := P) (w := w) (base := base) (m := Mem.deck) T
  have G__law_alone := ok__law_alone (P := P) (w := w) (base := base) T
  have G__law_rows := ok__law_rows (P := P) (w := w) (base := base) T
  refine dfn T.f75 sc__law_rule_of rfl (fun cdv A outer s0 H E En hr => ⟨_, (dss_cons (ds_par 6 7 sc__law_rule_of.nd (da_cons (de_call G__law_pick len__law_pick (hr.mono (by decide)) (by rfl) T.g67 T.f67.kp T.b67 (da_cons (dv 0) (da_cons (de_lst (da_cons de_str (da_cons de_str da_nil))) da_nil))) (da_cons (de_call G__law_alone len__law_alone (hr.mono (by decide)) (by rfl) T.g73 T.f73.kp T.b73 (da_cons (dv 0) (da_cons (dv 2) (da_cons (de_op op_addA o_add de_int (de_call G__law_pull len__law_pull (hr.mono (by decide)) (by rfl) T.g66 T.f66.kp T.b66 (da_cons (dv 0) (da_cons de_int da_nil)))) da_nil)))) da_nil)))
      (dss_cons (ds_set 3 sc__law_rule_of.nd (de_op op_addA o_add de_int (de_call G__law_pull len__law_pull (hr.mono (by decide)) (by rfl) T.g66 T.f66.kp T.b66 (da_cons (dv 0) (da_cons (de_op op_sub o_sub (de_callB (DL.CallR.or call_len call_lenD) o_len (by rfl) T.z_len (by decide +kernel) (da_cons (dv 7) da_nil)) de_int) da_nil)))))
      (dss_cons (ds_if (dt_cmp (op_eqD (u64 hr)) o_eq (dv 1) de_str)
        (dss_one (ds_ret (de_tup (da_cons (dv 1) (da_cons (de_callTy call_tuple_of o_tuple (by rfl) T.z_tuple (by decide +kernel) (da_cons (de_slice sl_all o_sl (dv 7) do_none (do_some (dv 3))) da_nil)) (da_cons (de_callTy call_tuple_of o_tuple (by rfl) T.z_tuple (by decide +kernel) (da_cons (de_slice sl_all o_sl (dv 7) (do_some (dv 3)) do_none) da_nil)) (da_cons (dv 6) da_nil)))))))
        dss_nil)
      (dss_cons (ds_if (dt_cmp (op_eqD (u64 hr)) o_eq (dv 1) de_str)
        (dss_one (ds_ret (de_tup (da_cons (dv 1) (da_cons (de_call G__law_rows len__law_rows (hr.mono (by decide)) (by rfl) T.g74 T.f74.kp T.b74 (da_cons (dv 0) (da_cons (dv 7) da_nil))) (da_cons (dv 6) da_nil))))))
        dss_nil)
      (dss_cons (ds_if (dt_cmp (op_eqD (u64 hr)) o_eq (dv 1) de_str)
        (dss_one (ds_ret (de_tup (da_cons (dv 1) (da_cons (de_call G__law_rows len__law_rows (hr.mono (by decide)) (by rfl) T.g74 T.f74.kp T.b74 (da_cons (dv 0) (da_cons (dv 7) da_nil))) da_nil)))))
        dss_nil)
      (dss_cons (ds_if (dt_cmp (op_eqD (u64 hr)) o_eq (dv 1) de_str)
        (dss_one (ds_ret (de_tup (da_cons (dv 1) (da_cons (de_callTy call_tuple_of o_tuple (by rfl) T.z_tuple (by decide +kernel) (da_cons (dv 7) da_nil)) (da_cons (dv 6) da_nil))))))
        dss_nil)
      (dss_cons (ds_if (dt_cmp (op_eqD (u64 hr)) o_eq (dv 1) de_str)
        (dss_one (ds_ret (de_tup (da_cons (dv 1) (da_cons (de_callTy call_tuple_of o_tuple (by rfl) T.z_tuple (by decide +kernel) (da_cons (de_slice sl_all o_sl (dv 7) do_none (do_some (dv 3))) da_nil)) (da_cons (de_callTy call_tuple_of o_tuple (by rfl) T.z_tuple (by decide +kernel) (da_cons (de_slice sl_all o_sl (dv 7) (do_some (dv 3)) (do_some (de_op op_addA o_add (dv 3) (de_call G__law_pull len__law_pull (hr.mono (by decide)) (by rfl) T.g66 T.f66.kp T.b66 (da_cons (dv 0) (da_cons de_int da_nil)))))) da_nil)) da_nil))))))
        dss_nil)
      (dss_cons (ds_if (dt_cmp (op_eqD (u64 hr)) o_eq (dv 1) de_str)
        (dss_one (ds_ret (de_tup (da_cons (dv 1) (da_cons (de_callTy call_tuple_of o_tuple (by rfl) T.z_tuple (by decide +kernel) (da_cons (dv 7) da_nil)) da_nil)))))
        dss_nil)
      (dss_cons (ds_set 4 sc__law_rule_of.nd (de_call G__law_pick len__law_pick (hr.mono (by decide)) (by rfl) T.g67 T.f67.kp T.b67 (da_cons (dv 0) (da_cons (dv 2) da_nil))))
      (dss_cons (ds_setLc 5 (own := [("_law_path_here", 8)]) sc__law_rule_of.nd (di_seq (dv 2)) (blkOk_by (N := names__law_rule_of) (sc := defScope s__law_rule_of) (by decide +kernel)) (fun _ _ _ _ _ => (dg_name 8 sc__law_rule_of.nd)) (fun _ _ _ _ _ => (dts_one (PW.pt (dw_and (dt_cmp (op_neD (u64 hr)) o_ne (dv 8) (dv 4)) (dw_and1 (dt_truth (de_call G__law_under len__law_under (hr.mono (by decide)) (by rfl) T.g70 T.f70.kp T.b70 (da_cons (dv 4) (da_cons (dv 8) da_nil))))))))) (fun _ _ _ _ _ => (dv 8)))
      (dss_one (ds_ret (de_tup (da_cons de_str (da_cons (dv 4) (da_cons (de_callTy call_tuple_of o_tuple (by rfl) T.z_tuple (by decide +kernel) (da_cons (de_call G__law_alone len__law_alone (hr.mono (by decide)) (by rfl) T.g73 T.f73.kp T.b73 (da_cons (dv 0) (da_cons (dv 5) (da_cons (de_call G__law_pull len__law_pull (hr.mono (by decide)) (by rfl) T.g66 T.f66.kp T.b66 (da_cons (dv 0) (da_cons de_int da_nil))) da_nil)))) da_nil)) da_nil)))))))))))))))), fun ds s Qd h => ?_⟩)
  exact read_rule_of43 ds s Qd h
abbrev names__law_rule : List Str := ["_law_reel_here", "_law_spots_here", "_law_kinds"]
theorem sc__law_rule : FnScope names__law_rule ["_law_reel_here", "_law_spots_here"] (defScope s__law_rule) := ⟨rfl, rfl, rfl, by decide +kernel, rfl, by decide +kernel, by decide +kernel⟩
theorem len__law_rule : ∀ ds s Qd, (spRule43 : DSp Mem.deck) ds s Qd → ds.length = 2 := spRule43_len
theorem ok__law_rule (T : Tx w K mg base a d e ed) : FnG P w K mg base CX0 5 (a 76) (d 76) ["_law_reel_here", "_law_spots_here"] (lift K Mem.deck 2 spRule43) := by
  have G__law_pick := ok__law_pick (P := P) (w := w) (base := base) T
  have G__law_rule_of := ok__law_rule_of (P := P) (w := w) (base := base) T
  refine dfn T.f76 sc__law_rule rfl (fun cdv A outer s0 H E En hr => ⟨_, (dss_cons (ds_set 2 sc__law_rule.nd (de_lst (da_cons de_str (da_cons de_str (da_cons de_str (da_cons de_str (da_cons de_str (da_cons de_str (da_cons de_str da_nil)))))))))
      (dss_one (ds_ret (de_call G__law_rule_of len__law_rule_of (hr.mono (by decide)) (by rfl) T.g75 T.f75.kp T.b75 (da_cons (dv 0) (da_cons (de_call G__law_pick len__law_pick (hr.mono (by decide)) (by rfl) T.g67 T.f67.kp T.b67 (da_cons (dv 0) (da_cons (dv 2) da_nil))) (da_cons (dv 1) da_nil))))))), fun ds s Qd h => ?_⟩)
  exact read_rule43 ds s Qd h
abbrev names__law_some_rules : List Str := ["_law_reel_here", "_law_spots_here", "_law_limit", "_law_found", "_law_turn", "_law_rule_here"]
theorem sc__law_some_rules : FnScope names__law_some_rules ["_law_reel_here", "_law_spots_here", "_law_limit"] (defScope s__law_some_rules) := ⟨rfl, rfl, rfl, by decide +kernel, rfl, by decide +kernel, by decide +kernel⟩
theorem len__law_some_rules : ∀ ds s Qd, (spSome : DSp Mem.deck) ds s Qd → ds.length = 3 := spSome_len
theorem ok__law_some_rules (T : Tx w K mg base a d e ed) : FnG P w K mg base CX0 6 (a 77) (d 77) ["_law_reel_here", "_law_spots_here", "_law_limit"] (lift K Mem.deck 3 spSome) := by
  have G__law_pull := ok__law_pull (P := P) (w := w) (base := base) T
  have G__law_pick := ok__law_pick (P := P) (w := w) (base := base) T
  have G__law_rule := ok__law_rule (P := P) (w := w) (base := base) T
  refine dfn T.f77 sc__law_some_rules rfl (fun cdv A outer s0 H E En hr => ⟨_, (dss_cons (ds_setL 3 sc__law_some_rules.nd da_nil)
      (dss_cons (ds_for rfl (di_range1 (by rfl) T.z_range (da_cons (de_call G__law_pick len__law_pick (hr.mono (by decide)) (by rfl) T.g67 T.f67.kp T.b67 (da_cons (dv 0) (da_cons (de_lst (da_cons (dv 2) (da_cons (de_call G__law_pull len__law_pull (hr.mono (by decide)) (by rfl) T.g66 T.f66.kp T.b66 (da_cons (dv 0) (da_cons (de_op op_addA o_add (dv 2) de_int) da_nil))) da_nil))) da_nil))) da_nil)) (dg_name 4 sc__law_some_rules.nd)
        (dss_cons (ds_set 5 sc__law_some_rules.nd (de_call G__law_rule len__law_rule (hr.mono (by decide)) (by rfl) T.g76 T.f76.kp T.b76 (da_cons (dv 0) (da_cons (dv 1) da_nil))))
        (dss_one (ds_if (dt_back (dt_cmp (op_notInA (u65 hr)) o_notIn (dv 5) (dv 3)))
          (dss_one (ds_app 3 (dv 5)))
          dss_nil))))
      (dss_one (ds_ret (de_callTy call_tuple_of o_tuple (by rfl) T.z_tuple (by decide +kernel) (da_cons (dv 3) da_nil)))))), fun ds s Qd h => ?_⟩)
  exact read_some43 ds s Qd h
abbrev names__law_same : List Str := ["_law_found", "_law_due", "_law_a", "_law_b"]
theorem sc__law_same : FnScope names__law_same ["_law_found", "_law_due"] (defScope s__law_same) := ⟨rfl, rfl, rfl, by decide +kernel, rfl, by decide +kernel, by decide +kernel⟩
theorem len__law_same {m : Mem} (n : Nat) : ∀ ds s Qd, (spSame43 n : DSp m) ds s Qd → ds.length = 2 := spSame43_len n
theorem ok__law_same {m : Mem} (T : Tx w K mg base a d e ed) : ∀ n, FnG P w K mg base CX0 (n) (a 78) (d 78) ["_law_found", "_law_due"] (lift K m 2 (spSame43 n))
  | 0 => fnG_never rfl
  | n + 1 => by
    have G__law_same := ok__law_same (m := m) T n
    have len__law_same := len__law_same (m := m) n
    refine dfn T.f78 sc__law_same rfl (fun cdv A outer s0 H E En hr => ⟨_, (dss_cons (ds_if (dt_truth (de_isT (t1 := Tg.tup) (t2 := Tg.lst) (by rfl) T.z_isinstance (dv 1) (by rfl) T.z_tuple (by decide +kernel) (by rfl) T.z_list (by decide +kernel)))
        (dss_cons (ds_if (PW.pt (dw_or (dt_cmp (op_neD (u64 hr)) o_ne (de_callB call_isi o_isi (by rfl) T.z_isinstance (by decide +kernel) (da_cons (dv 0) (da_cons (de_bltn (v := .ty "tuple") (by rfl) T.z_tuple (by decide +kernel) rfl) da_nil))) (de_callB call_isi o_isi (by rfl) T.z_isinstance (by decide +kernel) (da_cons (dv 1) (da_cons (de_bltn (v := .ty "tuple") (by rfl) T.z_tuple (by decide +kernel) rfl) da_nil)))) (dw_or1 (dt_cmp (op_neD (u64 hr)) o_ne (de_callB call_isi o_isi (by rfl) T.z_isinstance (by decide +kernel) (da_cons (dv 0) (da_cons (de_bltn (v := .ty "list") (by rfl) T.z_list (by decide +kernel) rfl) da_nil))) (de_callB call_isi o_isi (by rfl) T.z_isinstance (by decide +kernel) (da_cons (dv 1) (da_cons (de_bltn (v := .ty "list") (by rfl) T.z_list (by decide +kernel) rfl) da_nil)))))))
          (dss_one (ds_ret de_bl))
          dss_nil)
        (dss_one (ds_ret (de_and (de_cmp (op_eqD (u64 hr)) o_eq (de_callB (DL.CallR.or call_len call_lenD) o_len (by rfl) T.z_len (by decide +kernel) (da_cons (dv 0) da_nil)) (de_callB (DL.CallR.or call_len call_lenD) o_len (by rfl) T.z_len (by decide +kernel) (da_cons (dv 1) da_nil))) (de_one (de_cmp (op_eqE (u1 hr)) o_eqE (de_lc (own := [("_law_a", 2), ("_law_b", 3)]) sc__law_same.nd (di_zip (by rfl) T.z_zip (da_cons (dv 0) (da_cons (dv 1) da_nil))) (blkOk_by (N := names__law_same) (sc := defScope s__law_same) (by decide +kernel)) (fun _ _ _ _ _ => (dg_tup (n := 2) rfl (dgs_cons (dg_name 2 sc__law_same.nd) (dgs_cons (dg_name 3 sc__law_same.nd) dgs_nil)))) (fun _ _ _ _ _ => (dts_one (dt_not (dt_truth (de_call G__law_same len__law_same hr (by rfl) T.g78 T.f78.kp T.b78 (da_cons (dv 2) (da_cons (dv 3) da_nil))))))) (fun _ _ _ _ _ => de_int)) (de_lst da_nil)))))))
        dss_nil)
      (dss_cons (ds_if (dt_cmp op_isN o_isN (dv 1) de_non)
        (dss_one (ds_ret (de_cmp op_isN o_isN (dv 0) de_non)))
        dss_nil)
      (dss_cons (ds_if (dt_truth (de_callB call_isi o_isi (by rfl) T.z_isinstance (by decide +kernel) (da_cons (dv 1) (da_cons (de_bltn (v := .ty "str") (by rfl) T.z_str (by decide +kernel) rfl) da_nil))))
        (dss_one (ds_ret (de_and (de_callB call_isi o_isi (by rfl) T.z_isinstance (by decide +kernel) (da_cons (dv 0) (da_cons (de_bltn (v := .ty "str") (by rfl) T.z_str (by decide +kernel) rfl) da_nil))) (de_one (de_cmp (op_eqD (u64 hr)) o_eq (dv 0) (dv 1))))))
        dss_nil)
      (dss_one (ds_ret (de_and (de_callB call_isi o_isi (by rfl) T.z_isinstance (by decide +kernel) (da_cons (dv 0) (da_cons (de_bltn (v := .ty "int") (by rfl) T.z_int (by decide +kernel) rfl) da_nil))) (de_and (de_cmp (op_eqD (u64 hr)) o_eq (de_callB call_isi o_isi (by rfl) T.z_isinstance (by decide +kernel) (da_cons (dv 0) (da_cons (de_bltn (v := .ty "bool") (by rfl) T.z_bool (by decide +kernel) rfl) da_nil))) (de_callB call_isi o_isi (by rfl) T.z_isinstance (by decide +kernel) (da_cons (dv 1) (da_cons (de_bltn (v := .ty "bool") (by rfl) T.z_bool (by decide +kernel) rfl) da_nil)))) (de_one (de_cmp (op_eqD (u64 hr)) o_eq (dv 0) (dv 1)))))))))), fun ds s Qd h => ?_⟩)
    exact read_same42 n ds s Qd h
abbrev names__law_path : List Str := ["_law_value", "_law_limit", "_law_parts", "_law_bad", "_law_part"]
theorem sc__law_path : FnScope names__law_path ["_law_value", "_law_limit"] (defScope s__law_path) := ⟨rfl, rfl, rfl, by decide +kernel, rfl, by decide +kernel, by decide +kernel⟩
theorem len__law_path {m : Mem} : ∀ ds s Qd, (spLp : DSp m) ds s Qd → ds.length = 2 := spLp_len
theorem ok__law_path {m : Mem} (T : Tx w K mg base a d e ed) : FnG P w K mg base CX0 1 (a 81) (d 81) ["_law_value", "_law_limit"] (lift K m 2 spLp) := by
  refine dfn T.f81 sc__law_path rfl (fun cdv A outer s0 H E En hr => ⟨_, (dss_cons (ds_if (dt_not (dt_truth (de_callB call_isi o_isi (by rfl) T.z_isinstance (by decide +kernel) (da_cons (dv 0) (da_cons (de_bltn (v := .ty "str") (by rfl) T.z_str (by decide +kernel) rfl) da_nil)))))
        (dss_one (ds_ret de_bl))
        dss_nil)
      (dss_cons (ds_set 2 sc__law_path.nd (de_m PySem.F.plainAttrs_str PySem.F.slot_str_split PySem.F.type_str_split mt_split o_split (dv 0) (da_cons de_str da_nil)))
      (dss_cons (ds_setLc 3 (own := [("_law_part", 4)]) sc__law_path.nd (di_seq (dv 2)) (blkOk_by (N := names__law_path) (sc := defScope s__law_path) (by decide +kernel)) (fun _ _ _ _ _ => (dg_name 4 sc__law_path.nd)) (fun _ _ _ _ _ => (dts_one (PW.pt (dw_or (dt_not (dt_chain op_leA op_leA o_le o_le de_int (de_callB (DL.CallR.or call_len call_lenD) o_len (by rfl) T.z_len (by decide +kernel) (da_cons (dv 4) da_nil)) de_int)) (dw_or1 (dt_cmp (op_neD (u64 hr)) o_ne (de_m PySem.F.plainAttrs_str PySem.F.slot_str_strip PySem.F.type_str_strip mt_stripChars o_strip (dv 4) (da_cons de_str da_nil)) de_str)))))) (fun _ _ _ _ _ => (dv 4)))
      (dss_one (ds_ret (de_and (de_cmp op_leA o_le (de_callB (DL.CallR.or call_len call_lenD) o_len (by rfl) T.z_len (by decide +kernel) (da_cons (dv 2) da_nil)) (dv 1)) (de_one (de_cmp (op_eqE (u1 hr)) o_eqE (dv 3) (de_lst da_nil))))))))), fun ds s Qd h => ?_⟩)
  exact read_law_path29 ds s Qd h
abbrev names__law_paths : List Str := ["_law_value", "_law_least", "_law_limit", "_law_path_here"]
theorem sc__law_paths : FnScope names__law_paths ["_law_value", "_law_least", "_law_limit"] (defScope s__law_paths) := ⟨rfl, rfl, rfl, by decide +kernel, rfl, by decide +kernel, by decide +kernel⟩
theorem len__law_paths {m : Mem} : ∀ ds s Qd, (spRps : DSp m) ds s Qd → ds.length = 3 := spRps_len
theorem ok__law_paths {m : Mem} (T : Tx w K mg base a d e ed) : FnG P w K mg base CX0 2 (a 82) (d 82) ["_law_value", "_law_least", "_law_limit"] (lift K m 3 spRps) := by
  have G__law_path := ok__law_path (P := P) (w := w) (base := base) (m := m) T
  refine dfn T.f82 sc__law_paths rfl (fun cdv A outer s0 H E En hr => ⟨_, (dss_cons (ds_if (PW.pt (dw_or (dt_not (dt_truth (de_callB call_isi o_isi (by rfl) T.z_isinstance (by decide +kernel) (da_cons (dv 0) (da_cons (de_bltn (v := .ty "tuple") (by rfl) T.z_tuple (by decide +kernel) rfl) da_nil))))) (dw_or1 (dt_not (dt_chain op_leA op_leA o_le o_le (dv 1) (de_callB (DL.CallR.or call_len call_lenD) o_len (by rfl) T.z_len (by decide +kernel) (da_cons (dv 0) da_nil)) (dv 2))))))
        (dss_one (ds_ret de_bl))
        dss_nil)
      (dss_one (ds_ret (de_cmp (op_eqE (u1 hr)) o_eqE (de_lc (own := [("_law_path_here", 3)]) sc__law_paths.nd (di_seq (dv 0)) (blkOk_by (N := names__law_paths) (sc := defScope s__law_paths) (by decide +kernel)) (fun _ _ _ _ _ => (dg_name 3 sc__law_paths.nd)) (fun _ _ _ _ _ => (dts_one (dt_not (dt_truth (de_call G__law_path len__law_path (hr.mono (by decide)) (by rfl) T.g81 T.f81.kp T.b81 (da_cons (dv 3) (da_cons de_int da_nil))))))) (fun _ _ _ _ _ => (dv 3))) (de_lst da_nil))))), fun ds s Qd h => ?_⟩)
  exact read_law_paths29 ds s Qd h
abbrev names__law_item : List Str := ["_law_name", "_law_item_here", "_law_before", "_law_least", "_law_row", "_law_path_here"]
theorem sc__law_item : FnScope names__law_item ["_law_name", "_law_item_here", "_law_before"] (defScope s__law_item) := ⟨rfl, rfl, rfl, by decide +kernel, rfl, by decide +kernel, by decide +kernel⟩
theorem len__law_item {m : Mem} : ∀ ds s Qd, (spFit : DSp m) ds s Qd → ds.length = 3 := spFit_len
theorem ok__law_item {m : Mem} (T : Tx w K mg base a d e ed) : FnG P w K mg base CX0 3 (a 83) (d 83) ["_law_name", "_law_item_here", "_law_before"] (lift K m 3 spFit) := by
  have G__law_under := ok__law_under (P := P) (w := w) (base := base) (m := m) T
  have G__law_path := ok__law_path (P := P) (w := w) (base := base) (m := m) T
  have G__law_paths := ok__law_paths (P := P) (w := w) (base := base) (m := m) T
  refine dfn T.f83 sc__law_item rfl (fun cdv A outer s0 H E En hr => ⟨_, (dss_cons (ds_if (dt_cmp (op_eqD (u64 hr)) o_eq (dv 0) de_str)
        (dss_one (ds_ret (de_and (de_callB call_isi o_isi (by rfl) T.z_isinstance (by decide +kernel) (da_cons (dv 1) (da_cons (de_bltn (v := .ty "str") (by rfl) T.z_str (by decide +kernel) rfl) da_nil))) (de_one (de_cmp (op_inTx (u1 hr)) o_inTx (dv 1) (de_tup (da_cons de_str (da_cons de_str da_nil))))))))
        dss_nil)
      (dss_cons (ds_if (dt_cmp (op_eqD (u64 hr)) o_eq (dv 0) de_str)
        (dss_cons (ds_if (PW.pt (dw_or (dt_not (dt_truth (de_callB call_isi o_isi (by rfl) T.z_isinstance (by decide +kernel) (da_cons (dv 1) (da_cons (de_bltn (v := .ty "tuple") (by rfl) T.z_tuple (by decide +kernel) rfl) da_nil))))) (dw_or1 (dt_not (dt_chain op_leA op_leA o_le o_le de_int (de_callB (DL.CallR.or call_len call_lenD) o_len (by rfl) T.z_len (by decide +kernel) (da_cons (dv 1) da_nil)) de_int)))))
          (dss_one (ds_ret de_bl))
          dss_nil)
        (dss_one (ds_ret (de_cmp (op_eqE (u1 hr)) o_eqE (de_lc (own := [("_law_row", 4)]) sc__law_item.nd (di_seq (dv 1)) (blkOk_by (N := names__law_item) (sc := defScope s__law_item) (by decide +kernel)) (fun _ _ _ _ _ => (dg_name 4 sc__law_item.nd)) (fun _ _ _ _ _ => (dts_one (dt_not (dt_truth (de_call G__law_paths len__law_paths (hr.mono (by decide)) (by rfl) T.g82 T.f82.kp T.b82 (da_cons (dv 4) (da_cons de_int (da_cons de_int da_nil)))))))) (fun _ _ _ _ _ => (dv 4))) (de_lst da_nil)))))
        dss_nil)
      (dss_cons (ds_if (dt_cmp (op_eqD (u64 hr)) o_eq (dv 0) de_str)
        (dss_one (ds_ret (de_call G__law_path len__law_path (hr.mono (by decide)) (by rfl) T.g81 T.f81.kp T.b81 (da_cons (dv 1) (da_cons de_int da_nil)))))
        dss_nil)
      (dss_cons (ds_if (PW.pt (dw_and (dt_cmp (op_eqD (u64 hr)) o_eq (dv 0) de_str) (dw_and1 (dt_truth (de_call G__law_paths len__law_paths (hr.mono (by decide)) (by rfl) T.g82 T.f82.kp T.b82 (da_cons (dv 1) (da_cons de_int (da_cons de_int da_nil))))))))
        (dss_one (ds_ret (de_cmp (op_eqE (u1 hr)) o_eqE (de_lc (own := [("_law_path_here", 5)]) sc__law_item.nd (di_seq (dv 1)) (blkOk_by (N := names__law_item) (sc := defScope s__law_item) (by decide +kernel)) (fun _ _ _ _ _ => (dg_name 5 sc__law_item.nd)) (fun _ _ _ _ _ => (dts_one (PW.pt (dw_or (dt_cmp (op_eqD (u64 hr)) o_eq (dv 5) (dv 2)) (dw_or1 (dt_not (dt_truth (de_call G__law_under len__law_under (hr.mono (by decide)) (by rfl) T.g70 T.f70.kp T.b70 (da_cons (dv 2) (da_cons (dv 5) da_nil)))))))))) (fun _ _ _ _ _ => (dv 5))) (de_lst da_nil))))
        dss_nil)
      (dss_cons (ds_set 3 sc__law_item.nd (de_dictS (ks := [Str.ofString "sources", Str.ofString "targets", Str.ofString "paths", Str.ofString "users", Str.ofString "exposed"]) (pps_str de_int (pps_str de_int (pps_str de_int (pps_str de_int (pps_str de_int pps_nil')))))))
      (dss_one (ds_ret (de_call G__law_paths len__law_paths (hr.mono (by decide)) (by rfl) T.g82 T.f82.kp T.b82 (da_cons (dv 1) (da_cons (de_get (u1 hr) (dv 3) (dv 0)) (da_cons de_int da_nil))))))))))), fun ds s Qd h => ?_⟩)
  exact read_law_item29 ds s Qd h
abbrev names__law_word : List Str := ["_law_value", "_law_due", "_law_names_here", "_law_paths_here", "_law_at", "_law_row", "_law_path_here"]
theorem sc__law_word : FnScope names__law_word ["_law_value"] (defScope s__law_word) := ⟨rfl, rfl, rfl, by decide +kernel, rfl, by decide +kernel, by decide +kernel⟩
theorem len__law_word {m : Mem} : ∀ ds s Qd, (spWord : DSp m) ds s Qd → ds.length = 1 := spWord_len
theorem ok__law_word {m : Mem} (T : Tx w K mg base a d e ed) : FnG P w K mg base CX0 4 (a 84) (d 84) ["_law_value"] (lift K m 1 spWord) := by
  have G__law_meet := ok__law_meet (P := P) (w := w) (base := base) (m := m) T
  have G__law_item := ok__law_item (P := P) (w := w) (base := base) (m := m) T
  refine dfn T.f84 sc__law_word rfl (fun cdv A outer s0 H E En hr => ⟨_, (dss_cons (ds_setD 1 sc__law_word.nd (ks := [Str.ofString "forbid", Str.ofString "layers", Str.ofString "stairs"]) (pps_str (de_lst (da_cons de_str (da_cons de_str (da_cons de_str da_nil)))) (pps_str (de_lst (da_cons de_str (da_cons de_str da_nil))) (pps_str (de_lst (da_cons de_str da_nil)) pps_nil'))))
      (dss_cons (ds_put2 1 (u1 hr) (da_cons (de_lst (da_cons de_str (da_cons de_str da_nil))) (da_cons (de_lst (da_cons de_str (da_cons de_str da_nil))) da_nil)))
      (dss_cons (ds_put2 1 (u1 hr) (da_cons (de_lst (da_cons de_str (da_cons de_str da_nil))) (da_cons (de_lst (da_cons de_str da_nil)) da_nil)))
      (dss_cons (ds_if (PW.pt (dw_or (dt_not (dt_truth (de_callB call_isi o_isi (by rfl) T.z_isinstance (by decide +kernel) (da_cons (dv 0) (da_cons (de_bltn (v := .ty "tuple") (by rfl) T.z_tuple (by decide +kernel) rfl) da_nil))))) (dw_or (dt_cmp (op_eqD (u64 hr)) o_eq (de_callB (DL.CallR.or call_len call_lenD) o_len (by rfl) T.z_len (by decide +kernel) (da_cons (dv 0) da_nil)) de_int) (dw_or (dt_not (dt_truth (de_callB call_isi o_isi (by rfl) T.z_isinstance (by decide +kernel) (da_cons (de_ix ix_seq o_ix (dv 0) de_int) (da_cons (de_bltn (v := .ty "str") (by rfl) T.z_str (by decide +kernel) rfl) da_nil))))) (dw_or1 (dt_notInO 1 (u1 hr) (de_ix ix_seq o_ix (dv 0) de_int)))))))
        (dss_one (ds_ret de_str))
        dss_nil)
      (dss_cons (ds_set 2 sc__law_word.nd (de_getO 1 (u1 hr) (de_ix ix_seq o_ix (dv 0) de_int)))
      (dss_cons (ds_if (dt_cmp (op_neD (u64 hr)) o_ne (de_callB (DL.CallR.or call_len call_lenD) o_len (by rfl) T.z_len (by decide +kernel) (da_cons (dv 0) da_nil)) (de_op op_addA o_add (de_callB (DL.CallR.or call_len call_lenD) o_len (by rfl) T.z_len (by decide +kernel) (da_cons (dv 2) da_nil)) de_int))
        (dss_one (ds_ret de_str))
        dss_nil)
      (dss_cons (ds_set 3 sc__law_word.nd (de_lst da_nil))
      (dss_cons (ds_for rfl (di_range1 (by rfl) T.z_range (da_cons (de_callB (DL.CallR.or call_len call_lenD) o_len (by rfl) T.z_len (by decide +kernel) (da_cons (dv 2) da_nil)) da_nil)) (dg_name 4 sc__law_word.nd)
        (dss_cons (ds_if (dt_not (dt_truth (de_call G__law_item len__law_item (hr.mono (by decide)) (by rfl) T.g83 T.f83.kp T.b83 (da_cons (de_ix ix_seq o_ix (dv 2) (dv 4)) (da_cons (de_ix ix_seq o_ix (dv 0) (de_op op_addA o_add (dv 4) de_int)) (da_cons (de_ix ix_seq o_ix (dv 0) (dv 4)) da_nil))))))
          (dss_one (ds_ret (de_ix ix_seq o_ix (dv 2) (dv 4))))
          dss_nil)
        (dss_one (ds_if (dt_cmp (op_notInTx (u1 hr)) o_notInTx (de_ix ix_seq o_ix (dv 2) (dv 4)) (de_tup (da_cons de_str (da_cons de_str (da_cons de_str da_nil)))))
          (dss_one (ds_set 3 sc__law_word.nd (de_op op_addA o_add (dv 3) (de_callTy call_list_of o_list (by rfl) T.z_list (by decide +kernel) (da_cons (de_ix ix_seq o_ix (dv 0) (de_op op_addA o_add (dv 4) de_int)) da_nil)))))
          dss_nil))))
      (dss_cons (ds_if (dt_cmp (op_eqD (u64 hr)) o_eq (de_ix ix_seq o_ix (dv 2) de_int) de_str)
        (dss_one (ds_for rfl (di_seq (de_ix ix_seq o_ix (dv 0) de_int)) (dg_name 5 sc__law_word.nd)
          (dss_one (ds_set 3 sc__law_word.nd (de_op op_addA o_add (dv 3) (de_callTy call_list_of o_list (by rfl) T.z_list (by decide +kernel) (da_cons (dv 5) da_nil)))))))
        dss_nil)
      (dss_cons (ds_for rfl (di_range1 (by rfl) T.z_range (da_cons (de_callB (DL.CallR.or call_len call_lenD) o_len (by rfl) T.z_len (by decide +kernel) (da_cons (dv 3) da_nil)) da_nil)) (dg_name 4 sc__law_word.nd)
        (dss_one (ds_if (dt_cmp (op_neE (u1 hr)) o_eqE (de_lc (own := [("_law_path_here", 6)]) sc__law_word.nd (di_seq (de_slice sl_all o_sl (dv 3) do_none (do_some (dv 4)))) (blkOk_by (N := names__law_word) (sc := defScope s__law_word) (by decide +kernel)) (fun _ _ _ _ _ => (dg_name 6 sc__law_word.nd)) (fun _ _ _ _ _ => (dts_one (dt_truth (de_call G__law_meet len__law_meet (hr.mono (by decide)) (by rfl) T.g71 T.f71.kp T.b71 (da_cons (dv 6) (da_cons (de_ix ix_seq o_ix (dv 3) (dv 4)) da_nil)))))) (fun _ _ _ _ _ => (dv 6))) (de_lst da_nil))
          (dss_one (ds_ret de_str))
          dss_nil)))
      (dss_one (ds_ret de_non)))))))))))), fun ds s Qd h => ?_⟩)
  exact read_law_word29 ds s Qd h
abbrev names__law_against : List Str := ["_law_value", "_law_at", "_law_word_here"]
theorem sc__law_against : FnScope names__law_against ["_law_value"] (defScope s__law_against) := ⟨rfl, rfl, rfl, by decide +kernel, rfl, by decide +kernel, by decide +kernel⟩
theorem len__law_against {m : Mem} : ∀ ds s Qd, (spBE42 : DSp m) ds s Qd → ds.length = 1 := spBE42_len
theorem ok__law_against {m : Mem} (T : Tx w K mg base a d e ed) : FnG P w K mg base CX0 5 (a 88) (d 88) ["_law_value"] (lift K m 1 spBE42) := by
  have G__law_word := ok__law_word (P := P) (w := w) (base := base) (m := m) T
  refine dfn T.f88 sc__law_against rfl (fun cdv A outer s0 H E En hr => ⟨_, (dss_cons (ds_if (PW.pt (dw_or (dt_not (dt_truth (de_callB call_isi o_isi (by rfl) T.z_isinstance (by decide +kernel) (da_cons (dv 0) (da_cons (de_bltn (v := .ty "tuple") (by rfl) T.z_tuple (by decide +kernel) rfl) da_nil))))) (dw_or1 (dt_cmp op_gtA o_gt (de_callB (DL.CallR.or call_len call_lenD) o_len (by rfl) T.z_len (by decide +kernel) (da_cons (dv 0) da_nil)) de_int))))
        (dss_one (ds_ret (de_tup (da_cons de_non (da_cons de_str da_nil)))))
        dss_nil)
      (dss_cons (ds_for rfl (di_range1 (by rfl) T.z_range (da_cons (de_callB (DL.CallR.or call_len call_lenD) o_len (by rfl) T.z_len (by decide +kernel) (da_cons (dv 0) da_nil)) da_nil)) (dg_name 1 sc__law_against.nd)
        (dss_cons (ds_set 2 sc__law_against.nd (de_call G__law_word len__law_word (hr.mono (by decide)) (by rfl) T.g84 T.f84.kp T.b84 (da_cons (de_ix ix_seq o_ix (dv 0) (dv 1)) da_nil)))
        (dss_cons (ds_if (dt_cmp op_notN o_notN (dv 2) de_non)
          (dss_one (ds_ret (de_tup (da_cons (dv 1) (da_cons (dv 2) da_nil)))))
          dss_nil)
        (dss_one (ds_if (dt_cmp (op_inTP (u65 hr)) (o_inTP (neg := false)) (de_ix ix_seq o_ix (dv 0) (dv 1)) (de_slice sl_all o_sl (dv 0) do_none (do_some (dv 1))))
          (dss_one (ds_ret (de_tup (da_cons (dv 1) (da_cons de_str da_nil)))))
          dss_nil)))))
      (dss_one (ds_ret de_non)))), fun ds s Qd h => ?_⟩)
  exact read_against42 ds s Qd h
abbrev names_covers : List Str := ["path", "other"]
theorem sc_covers : FnScope names_covers ["path", "other"] (defScope s_covers) := ⟨rfl, rfl, rfl, by decide +kernel, rfl, by decide +kernel, by decide +kernel⟩
theorem len_covers {m : Mem} : ∀ ds s Qd, (spCovers : DSp m) ds s Qd → ds.length = 2 := spCovers_len
theorem ok_covers {m : Mem} (T : Tx w K mg base a d e ed) : FnG P w K mg base CX0 1 (a 10) (d 10) ["path", "other"] (lift K m 2 spCovers) := by
  refine dfn T.f10 sc_covers rfl (fun cdv A outer s0 H E En hr => ⟨_, (dss_one (ds_ret (de_or (de_cmp (op_eqD (u64 hr)) o_eq (dv 1) (dv 0)) (de_one (de_m PySem.F.plainAttrs_str PySem.F.slot_str_startswith PySem.F.type_str_startswith mt_startswith o_sw (dv 1) (da_cons (de_op op_addA o_add (dv 0) de_str) da_nil)))))), fun ds s Qd h => ?_⟩)
  exact read_covers29 ds s Qd h
abbrev names__is_name : List Str := ["text", "letter"]
theorem sc__is_name : FnScope names__is_name ["text"] (defScope s__is_name) := ⟨rfl, rfl, rfl, by decide +kernel, rfl, by decide +kernel, by decide +kernel⟩
theorem len__is_name {m : Mem} : ∀ ds s Qd, (spIsName : DSp m) ds s Qd → ds.length = 1 := spIsName_len
theorem ok__is_name {m : Mem} (T : Tx w K mg base a d e ed) : FnG P w K mg base CX0 1 (a 8) (d 8) ["text"] (lift K m 1 spIsName) := by
  refine dfn T.f8 sc__is_name rfl (fun cdv A outer s0 H E En hr => ⟨_, (dss_one (ds_ret (de_and (de_chain op_leA op_leA o_le o_le de_int (de_callB (DL.CallR.or call_len call_lenD) o_len (by rfl) T.z_len (by decide +kernel) (da_cons (dv 0) da_nil)) (de_globI (by rfl) T.c__MAX_LETTERS)) (de_one (de_callB (cr_all rfl) o_all (by rfl) T.z_all (by decide +kernel) (da_cons (de_lc (own := [("letter", 1)]) sc__is_name.nd (di_str (dv 0)) (blkOk_by (N := names__is_name) (sc := defScope s__is_name) (by decide +kernel)) (fun _ _ _ _ _ => (dg_name 1 sc__is_name.nd)) (fun _ _ _ _ _ => dts_nil) (fun _ _ _ _ _ => (de_chain op_leA op_leA o_le o_le de_str (dv 1) de_str))) da_nil)))))), fun ds s Qd h => ?_⟩)
  exact read_is_name29 ds s Qd h
abbrev names_is_path : List Str := ["value", "names", "name"]
theorem sc_is_path : FnScope names_is_path ["value"] (defScope s_is_path) := ⟨rfl, rfl, rfl, by decide +kernel, rfl, by decide +kernel, by decide +kernel⟩
theorem len_is_path {m : Mem} : ∀ ds s Qd, (spIsPath : DSp m) ds s Qd → ds.length = 1 := spIsPath_len
theorem ok_is_path {m : Mem} (T : Tx w K mg base a d e ed) : FnG P w K mg base CX0 2 (a 9) (d 9) ["value"] (lift K m 1 spIsPath) := by
  have G__is_name := ok__is_name (P := P) (w := w) (base := base) (m := m) T
  refine dfn T.f9 sc_is_path rfl (fun cdv A outer s0 H E En hr => ⟨_, (dss_cons (ds_if (dt_not (dt_truth (de_callB call_isi o_isi (by rfl) T.z_isinstance (by decide +kernel) (da_cons (dv 0) (da_cons (de_bltn (v := .ty "str") (by rfl) T.z_str (by decide +kernel) rfl) da_nil)))))
        (dss_one (ds_ret de_bl))
        dss_nil)
      (dss_cons (ds_set 1 sc_is_path.nd (de_m PySem.F.plainAttrs_str PySem.F.slot_str_split PySem.F.type_str_split mt_split o_split (dv 0) (da_cons de_str da_nil)))
      (dss_one (ds_ret (de_and (de_cmp op_leA o_le (de_callB (DL.CallR.or call_len call_lenD) o_len (by rfl) T.z_len (by decide +kernel) (da_cons (dv 1) da_nil)) (de_globI (by rfl) T.c_MAX_NAMES)) (de_one (de_callB (cr_all rfl) o_all (by rfl) T.z_all (by decide +kernel) (da_cons (de_lc (own := [("name", 2)]) sc_is_path.nd (di_seq (dv 1)) (blkOk_by (N := names_is_path) (sc := defScope s_is_path) (by decide +kernel)) (fun _ _ _ _ _ => (dg_name 2 sc_is_path.nd)) (fun _ _ _ _ _ => dts_nil) (fun _ _ _ _ _ => (de_call G__is_name len__is_name (hr.mono (by decide)) (by rfl) T.g8 T.f8.kp T.b8 (da_cons (dv 2) da_nil)))) da_nil)))))))), fun ds s Qd h => ?_⟩)
  exact read_is_path29 ds s Qd h
abbrev names__is_rule_path : List Str := ["value"]
theorem sc__is_rule_path : FnScope names__is_rule_path ["value"] (defScope s__is_rule_path) := ⟨rfl, rfl, rfl, by decide +kernel, rfl, by decide +kernel, by decide +kernel⟩
theorem len__is_rule_path {m : Mem} : ∀ ds s Qd, (spRp : DSp m) ds s Qd → ds.length = 1 := spRp_len
theorem ok__is_rule_path {m : Mem} (T : Tx w K mg base a d e ed) : FnG P w K mg base CX0 3 (a 53) (d 53) ["value"] (lift K m 1 spRp) := by
  have G_is_path := ok_is_path (P := P) (w := w) (base := base) (m := m) T
  refine dfn T.f53 sc__is_rule_path rfl (fun cdv A outer s0 H E En hr => ⟨_, (dss_one (ds_ret (de_and (de_call G_is_path len_is_path (hr.mono (by decide)) (by rfl) T.g9 T.f9.kp T.b9 (da_cons (dv 0) da_nil)) (de_one (de_cmp op_leA o_le (de_callB (DL.CallR.or call_len call_lenD) o_len (by rfl) T.z_len (by decide +kernel) (da_cons (de_m PySem.F.plainAttrs_str PySem.F.slot_str_split PySem.F.type_str_split mt_split o_split (dv 0) (da_cons de_str da_nil)) da_nil)) (de_globI (by rfl) T.c_MAX_RULE_NAMES)))))), fun ds s Qd h => ?_⟩)
  exact read_is_rule_path29 ds s Qd h
abbrev names__are_rule_paths : List Str := ["value", "least", "most", "path"]
theorem sc__are_rule_paths : FnScope names__are_rule_paths ["value", "least", "most"] (defScope s__are_rule_paths) := ⟨rfl, rfl, rfl, by decide +kernel, rfl, by decide +kernel, by decide +kernel⟩
theorem len__are_rule_paths {m : Mem} : ∀ ds s Qd, (spRps : DSp m) ds s Qd → ds.length = 3 := spRps_len
theorem ok__are_rule_paths {m : Mem} (T : Tx w K mg base a d e ed) : FnG P w K mg base CX0 4 (a 54) (d 54) ["value", "least", "most"] (lift K m 3 spRps) := by
  have G__is_rule_path := ok__is_rule_path (P := P) (w := w) (base := base) (m := m) T
  refine dfn T.f54 sc__are_rule_paths rfl (fun cdv A outer s0 H E En hr => ⟨_, (dss_one (ds_ret (de_and (de_callB call_isi o_isi (by rfl) T.z_isinstance (by decide +kernel) (da_cons (dv 0) (da_cons (de_bltn (v := .ty "tuple") (by rfl) T.z_tuple (by decide +kernel) rfl) da_nil))) (de_and (de_chain op_leA op_leA o_le o_le (dv 1) (de_callB (DL.CallR.or call_len call_lenD) o_len (by rfl) T.z_len (by decide +kernel) (da_cons (dv 0) da_nil)) (dv 2)) (de_one (de_callB (cr_all rfl) o_all (by rfl) T.z_all (by decide +kernel) (da_cons (de_lc (own := [("path", 3)]) sc__are_rule_paths.nd (di_seq (dv 0)) (blkOk_by (N := names__are_rule_paths) (sc := defScope s__are_rule_paths) (by decide +kernel)) (fun _ _ _ _ _ => (dg_name 3 sc__are_rule_paths.nd)) (fun _ _ _ _ _ => dts_nil) (fun _ _ _ _ _ => (de_call G__is_rule_path len__is_rule_path (hr.mono (by decide)) (by rfl) T.g53 T.f53.kp T.b53 (da_cons (dv 3) da_nil)))) da_nil))))))), fun ds s Qd h => ?_⟩)
  exact read_are_rule_paths29 ds s Qd h
abbrev names__are_rows : List Str := ["value", "row"]
theorem sc__are_rows : FnScope names__are_rows ["value"] (defScope s__are_rows) := ⟨rfl, rfl, rfl, by decide +kernel, rfl, by decide +kernel, by decide +kernel⟩
theorem len__are_rows {m : Mem} : ∀ ds s Qd, (spRows : DSp m) ds s Qd → ds.length = 1 := spRows_len
theorem ok__are_rows {m : Mem} (T : Tx w K mg base a d e ed) : FnG P w K mg base CX0 5 (a 55) (d 55) ["value"] (lift K m 1 spRows) := by
  have G__are_rule_paths := ok__are_rule_paths (P := P) (w := w) (base := base) (m := m) T
  refine dfn T.f55 sc__are_rows rfl (fun cdv A outer s0 H E En hr => ⟨_, (dss_one (ds_ret (de_and (de_callB call_isi o_isi (by rfl) T.z_isinstance (by decide +kernel) (da_cons (dv 0) (da_cons (de_bltn (v := .ty "tuple") (by rfl) T.z_tuple (by decide +kernel) rfl) da_nil))) (de_and (de_chain op_leA op_leA o_le o_le de_int (de_callB (DL.CallR.or call_len call_lenD) o_len (by rfl) T.z_len (by decide +kernel) (da_cons (dv 0) da_nil)) de_int) (de_one (de_callB (cr_all rfl) o_all (by rfl) T.z_all (by decide +kernel) (da_cons (de_lc (own := [("row", 1)]) sc__are_rows.nd (di_seq (dv 0)) (blkOk_by (N := names__are_rows) (sc := defScope s__are_rows) (by decide +kernel)) (fun _ _ _ _ _ => (dg_name 1 sc__are_rows.nd)) (fun _ _ _ _ _ => dts_nil) (fun _ _ _ _ _ => (de_call G__are_rule_paths len__are_rule_paths (hr.mono (by decide)) (by rfl) T.g54 T.f54.kp T.b54 (da_cons (dv 1) (da_cons de_int (da_cons de_int da_nil)))))) da_nil))))))), fun ds s Qd h => ?_⟩)
  exact read_are_rows29 ds s Qd h
abbrev names__fits : List Str := ["name", "item", "first", "least", "most", "path"]
theorem sc__fits : FnScope names__fits ["name", "item", "first"] (defScope s__fits) := ⟨rfl, rfl, rfl, by decide +kernel, rfl, by decide +kernel, by decide +kernel⟩
theorem len__fits {m : Mem} : ∀ ds s Qd, (spFit : DSp m) ds s Qd → ds.length = 3 := spFit_len
theorem ok__fits {m : Mem} (T : Tx w K mg base a d e ed) : FnG P w K mg base CX0 6 (a 56) (d 56) ["name", "item", "first"] (lift K m 3 spFit) := by
  have G_covers := ok_covers (P := P) (w := w) (base := base) (m := m) T
  have G__is_rule_path := ok__is_rule_path (P := P) (w := w) (base := base) (m := m) T
  have G__are_rule_paths := ok__are_rule_paths (P := P) (w := w) (base := base) (m := m) T
  have G__are_rows := ok__are_rows (P := P) (w := w) (base := base) (m := m) T
  refine dfn T.f56 sc__fits rfl (fun cdv A outer s0 H E En hr => ⟨_, (dss_cons (ds_if (dt_cmp (op_eqD (u64 hr)) o_eq (dv 0) de_str)
        (dss_one (ds_ret (de_cmp (op_inTx (u1 hr)) o_inTx (dv 1) (de_tup (da_cons de_str (da_cons de_str da_nil))))))
        dss_nil)
      (dss_cons (ds_if (dt_cmp (op_eqD (u64 hr)) o_eq (dv 0) de_str)
        (dss_one (ds_ret (de_call G__are_rows len__are_rows (hr.mono (by decide)) (by rfl) T.g55 T.f55.kp T.b55 (da_cons (dv 1) da_nil))))
        dss_nil)
      (dss_cons (ds_if (dt_cmp (op_eqD (u64 hr)) o_eq (dv 0) de_str)
        (dss_one (ds_ret (de_call G__is_rule_path len__is_rule_path (hr.mono (by decide)) (by rfl) T.g53 T.f53.kp T.b53 (da_cons (dv 1) da_nil))))
        dss_nil)
      (dss_cons (ds_asg (de_ix ix_kdict (o_kix T.k52) (de_glob (d := .any (.ref (a 52))) (v := .ref (a 52)) (by rfl) T.g52 rfl (fun _ => rfl)) (dv 0)) (dg_tup (n := 2) rfl (dgs_cons (dg_name 3 sc__fits.nd) (dgs_cons (dg_name 4 sc__fits.nd) dgs_nil))))
      (dss_cons (ds_if (dt_not (dt_truth (de_call G__are_rule_paths len__are_rule_paths (hr.mono (by decide)) (by rfl) T.g54 T.f54.kp T.b54 (da_cons (dv 1) (da_cons (dv 3) (da_cons (dv 4) da_nil))))))
        (dss_one (ds_ret de_bl))
        dss_nil)
      (dss_one (ds_ret (de_or (de_cmp (op_neD (u64 hr)) o_ne (dv 0) de_str) (de_one (de_callB (cr_all rfl) o_all (by rfl) T.z_all (by decide +kernel) (da_cons (de_lc (own := [("path", 5)]) sc__fits.nd (di_seq (dv 1)) (blkOk_by (N := names__fits) (sc := defScope s__fits) (by decide +kernel)) (fun _ _ _ _ _ => (dg_name 5 sc__fits.nd)) (fun _ _ _ _ _ => dts_nil) (fun _ _ _ _ _ => (de_and (de_cmp (op_neD (u64 hr)) o_ne (dv 5) (dv 2)) (de_one (de_call G_covers len_covers (hr.mono (by decide)) (by rfl) T.g10 T.f10.kp T.b10 (da_cons (dv 2) (da_cons (dv 5) da_nil))))))) da_nil))))))))))), fun ds s Qd h => ?_⟩)
  exact read_fits42 ds s Qd h
abbrev names_rule_paths : List Str := ["rule", "found", "name", "item", "row", "path"]
theorem sc_rule_paths : FnScope names_rule_paths ["rule"] (defScope s_rule_paths) := ⟨rfl, rfl, rfl, by decide +kernel, rfl, by decide +kernel, by decide +kernel⟩
theorem len_rule_paths {m : Mem} : ∀ ds s Qd, (spPaths : DSp m) ds s Qd → ds.length = 1 := spPaths_len
theorem ok_rule_paths {m : Mem} (T : Tx w K mg base a d e ed) : FnG P w K mg base CX0 1 (a 57) (d 57) ["rule"] (lift K m 1 spPaths) := by
  refine dfn T.f57 sc_rule_paths rfl (fun cdv A outer s0 H E En hr => ⟨_, (dss_cons (ds_setL 1 sc_rule_paths.nd da_nil)
      (dss_cons (ds_for rfl (di_zip (by rfl) T.z_zip (da_cons (de_ix ix_kdict (o_kix T.k51) (de_glob (d := .any (.ref (a 51))) (v := .ref (a 51)) (by rfl) T.g51 rfl (fun _ => rfl)) (de_ix ix_seq o_ix (dv 0) de_int)) (da_cons (de_slice sl_all o_sl (dv 0) (do_some de_int) do_none) da_nil))) (dg_tup (n := 2) rfl (dgs_cons (dg_name 2 sc_rule_paths.nd) (dgs_cons (dg_name 3 sc_rule_paths.nd) dgs_nil)))
        (dss_one (ds_if (dt_cmp (op_eqD (u64 hr)) o_eq (dv 2) de_str)
          (dss_one (ds_ext 1 (de_lc2 (own := [("row", 4), ("path", 5)]) (vs1 := [5]) sc_rule_paths.nd (di_seq (dv 3)) (blkOk_by (N := names_rule_paths) (sc := defScope s_rule_paths) (by decide +kernel)) (fun _ _ _ _ _ => (dg_name 4 sc_rule_paths.nd)) (fun _ _ _ _ _ => (di_seq (dv 4))) (fun _ _ _ _ _ => (dg_name 5 sc_rule_paths.nd)) (fun _ _ _ _ _ => (dv 5)))))
          (dss_one (ds_if (dt_cmp (op_eqD (u64 hr)) o_eq (dv 2) de_str)
            (dss_one (ds_app 1 (dv 3)))
            (dss_one (ds_if (dt_cmp (op_neD (u64 hr)) o_ne (dv 2) de_str)
              (dss_one (ds_ext 1 (de_callTy call_list_of o_list (by rfl) T.z_list (by decide +kernel) (da_cons (dv 3) da_nil))))
              dss_nil)))))))
      (dss_one (ds_ret (dv 1))))), fun ds s Qd h => ?_⟩)
  exact read_rule_paths42 ds s Qd h
abbrev names_overlap : List Str := ["path", "other"]
theorem sc_overlap : FnScope names_overlap ["path", "other"] (defScope s_overlap) := ⟨rfl, rfl, rfl, by decide +kernel, rfl, by decide +kernel, by decide +kernel⟩
theorem len_overlap {m : Mem} : ∀ ds s Qd, (spOvl : DSp m) ds s Qd → ds.length = 2 := spOvl_len
theorem ok_overlap {m : Mem} (T : Tx w K mg base a d e ed) : FnG P w K mg base CX0 2 (a 11) (d 11) ["path", "other"] (lift K m 2 spOvl) := by
  have G_covers := ok_covers (P := P) (w := w) (base := base) (m := m) T
  refine dfn T.f11 sc_overlap rfl (fun cdv A outer s0 H E En hr => ⟨_, (dss_one (ds_ret (de_or (de_call G_covers len_covers (hr.mono (by decide)) (by rfl) T.g10 T.f10.kp T.b10 (da_cons (dv 0) (da_cons (dv 1) da_nil))) (de_one (de_call G_covers len_covers (hr.mono (by decide)) (by rfl) T.g10 T.f10.kp T.b10 (da_cons (dv 1) (da_cons (dv 0) da_nil))))))), fun ds s Qd h => ?_⟩)
  exact read_overlap29 ds s Qd h
abbrev names__any_overlap : List Str := ["paths", "other", "index", "path"]
theorem sc__any_overlap : FnScope names__any_overlap ["paths"] (defScope s__any_overlap) := ⟨rfl, rfl, rfl, by decide +kernel, rfl, by decide +kernel, by decide +kernel⟩
theorem len__any_overlap {m : Mem} : ∀ ds s Qd, (spAny : DSp m) ds s Qd → ds.length = 1 := spAny_len
theorem ok__any_overlap {m : Mem} (T : Tx w K mg base a d e ed) : FnG P w K mg base CX0 3 (a 58) (d 58) ["paths"] (lift K m 1 spAny) := by
  have G_overlap := ok_overlap (P := P) (w := w) (base := base) (m := m) T
  refine dfn T.f58 sc__any_overlap rfl (fun cdv A outer s0 H E En hr => ⟨_, (dss_one (ds_ret (de_callB (cr_any rfl) o_any (by rfl) T.z_any (by decide +kernel) (da_cons (de_lc2 (own := [("index", 2), ("path", 3), ("other", 1)]) (vs1 := [1]) sc__any_overlap.nd (di_enumA (by rfl) T.z_enumerate (da_cons (dv 0) da_nil)) (blkOk_by (N := names__any_overlap) (sc := defScope s__any_overlap) (by decide +kernel)) (fun _ _ _ _ _ => (dg_tup (n := 2) rfl (dgs_cons (dg_name 2 sc__any_overlap.nd) (dgs_cons (dg_name 3 sc__any_overlap.nd) dgs_nil)))) (fun _ _ _ _ _ => (di_seq (de_slice sl_all o_sl (dv 0) do_none (do_some (dv 2))))) (fun _ _ _ _ _ => (dg_name 1 sc__any_overlap.nd)) (fun _ _ _ _ _ => (de_call G_overlap len_overlap (hr.mono (by decide)) (by rfl) T.g11 T.f11.kp T.b11 (da_cons (dv 3) (da_cons (dv 1) da_nil))))) da_nil)))), fun ds s Qd h => ?_⟩)
  exact read_any_overlap29 ds s Qd h
abbrev names_rule_error : List Str := ["value", "name", "item"]
theorem sc_rule_error : FnScope names_rule_error ["value"] (defScope s_rule_error) := ⟨rfl, rfl, rfl, by decide +kernel, rfl, by decide +kernel, by decide +kernel⟩
theorem len_rule_error {m : Mem} : ∀ ds s Qd, (spWord : DSp m) ds s Qd → ds.length = 1 := spWord_len
theorem ok_rule_error {m : Mem} (T : Tx w K mg base a d e ed) : FnG P w K mg base CX0 7 (a 59) (d 59) ["value"] (lift K m 1 spWord) := by
  have G__fits := ok__fits (P := P) (w := w) (base := base) (m := m) T
  have G_rule_paths := ok_rule_paths (P := P) (w := w) (base := base) (m := m) T
  have G__any_overlap := ok__any_overlap (P := P) (w := w) (base := base) (m := m) T
  refine dfn T.f59 sc_rule_error rfl (fun cdv A outer s0 H E En hr => ⟨_, (dss_cons (ds_if (PW.pt (dw_or (dt_not (dt_truth (de_callB call_isi o_isi (by rfl) T.z_isinstance (by decide +kernel) (da_cons (dv 0) (da_cons (de_bltn (v := .ty "tuple") (by rfl) T.z_tuple (by decide +kernel) rfl) da_nil))))) (dw_or (dt_cmp (op_eqD (u64 hr)) o_eq (de_callB (DL.CallR.or call_len call_lenD) o_len (by rfl) T.z_len (by decide +kernel) (da_cons (dv 0) da_nil)) de_int) (dw_or1 (dt_not (dt_truth (de_callB call_isi o_isi (by rfl) T.z_isinstance (by decide +kernel) (da_cons (de_ix ix_seq o_ix (dv 0) de_int) (da_cons (de_bltn (v := .ty "str") (by rfl) T.z_str (by decide +kernel) rfl) da_nil)))))))))
        (dss_one (ds_ret de_str))
        dss_nil)
      (dss_cons (ds_if (PW.pt (dw_or (dt_cmp (op_notKin T.k51) (o_kin T.k51) (de_ix ix_seq o_ix (dv 0) de_int) (de_glob (d := .any (.ref (a 51))) (v := .ref (a 51)) (by rfl) T.g51 rfl (fun _ => rfl))) (dw_or1 (dt_cmp (op_neD (u64 hr)) o_ne (de_callB (DL.CallR.or call_len call_lenD) o_len (by rfl) T.z_len (by decide +kernel) (da_cons (dv 0) da_nil)) (de_op op_addA o_add de_int (de_callB (DL.CallR.or call_len call_lenD) o_len (by rfl) T.z_len (by decide +kernel) (da_cons (de_ix ix_kdict (o_kix T.k51) (de_glob (d := .any (.ref (a 51))) (v := .ref (a 51)) (by rfl) T.g51 rfl (fun _ => rfl)) (de_ix ix_seq o_ix (dv 0) de_int)) da_nil)))))))
        (dss_one (ds_ret de_str))
        dss_nil)
      (dss_cons (ds_for rfl (di_zip (by rfl) T.z_zip (da_cons (de_ix ix_kdict (o_kix T.k51) (de_glob (d := .any (.ref (a 51))) (v := .ref (a 51)) (by rfl) T.g51 rfl (fun _ => rfl)) (de_ix ix_seq o_ix (dv 0) de_int)) (da_cons (de_slice sl_all o_sl (dv 0) (do_some de_int) do_none) da_nil))) (dg_tup (n := 2) rfl (dgs_cons (dg_name 1 sc_rule_error.nd) (dgs_cons (dg_name 2 sc_rule_error.nd) dgs_nil)))
        (dss_one (ds_if (dt_not (dt_truth (de_call G__fits len__fits (hr.mono (by decide)) (by rfl) T.g56 T.f56.kp T.b56 (da_cons (dv 1) (da_cons (dv 2) (da_cons (de_ix ix_seq o_ix (dv 0) de_int) da_nil))))))
          (dss_one (ds_ret (dv 1)))
          dss_nil)))
      (dss_cons (ds_if (dt_truth (de_call G__any_overlap len__any_overlap (hr.mono (by decide)) (by rfl) T.g58 T.f58.kp T.b58 (da_cons (de_ifExp (dt_cmp (op_eqD (u64 hr)) o_eq (de_ix ix_seq o_ix (dv 0) de_int) de_str) (de_ix ix_seq o_ix (dv 0) de_int) (de_call G_rule_paths len_rule_paths (hr.mono (by decide)) (by rfl) T.g57 T.f57.kp T.b57 (da_cons (dv 0) da_nil))) da_nil)))
        (dss_one (ds_ret de_str))
        dss_nil)
      (dss_one (ds_ret de_non)))))), fun ds s Qd h => ?_⟩)
  exact read_rule_error42 ds s Qd h
abbrev names_book_error : List Str := ["rules", "index", "rule", "word"]
theorem sc_book_error : FnScope names_book_error ["rules"] (defScope s_book_error) := ⟨rfl, rfl, rfl, by decide +kernel, rfl, by decide +kernel, by decide +kernel⟩
theorem len_book_error {m : Mem} : ∀ ds s Qd, (spBE42 : DSp m) ds s Qd → ds.length = 1 := spBE42_len
theorem ok_book_error {m : Mem} (T : Tx w K mg base a d e ed) : FnG P w K mg base CX0 8 (a 61) (d 61) ["rules"] (lift K m 1 spBE42) := by
  have G_rule_error := ok_rule_error (P := P) (w := w) (base := base) (m := m) T
  refine dfn T.f61 sc_book_error rfl (fun cdv A outer s0 H E En hr => ⟨_, (dss_cons (ds_if (PW.pt (dw_or (dt_not (dt_truth (de_callB call_isi o_isi (by rfl) T.z_isinstance (by decide +kernel) (da_cons (dv 0) (da_cons (de_bltn (v := .ty "tuple") (by rfl) T.z_tuple (by decide +kernel) rfl) da_nil))))) (dw_or1 (dt_cmp op_gtA o_gt (de_callB (DL.CallR.or call_len call_lenD) o_len (by rfl) T.z_len (by decide +kernel) (da_cons (dv 0) da_nil)) (de_globI (by rfl) T.c_MAX_RULES)))))
        (dss_one (ds_ret (de_tup (da_cons de_non (da_cons de_str da_nil)))))
        dss_nil)
      (dss_cons (ds_for rfl (di_enumA (by rfl) T.z_enumerate (da_cons (dv 0) da_nil)) (dg_tup (n := 2) rfl (dgs_cons (dg_name 1 sc_book_error.nd) (dgs_cons (dg_name 2 sc_book_error.nd) dgs_nil)))
        (dss_cons (ds_set 3 sc_book_error.nd (de_call G_rule_error len_rule_error (hr.mono (by decide)) (by rfl) T.g59 T.f59.kp T.b59 (da_cons (dv 2) da_nil)))
        (dss_cons (ds_if (dt_cmp op_notN o_notN (dv 3) de_non)
          (dss_one (ds_ret (de_tup (da_cons (dv 1) (da_cons (dv 3) da_nil)))))
          dss_nil)
        (dss_one (ds_if (dt_cmp (op_inTP (u65 hr)) (o_inTP (neg := false)) (dv 2) (de_slice sl_all o_sl (dv 0) do_none (do_some (dv 1))))
          (dss_one (ds_ret (de_tup (da_cons (dv 1) (da_cons de_str da_nil)))))
          dss_nil)))))
      (dss_one (ds_ret de_non)))), fun ds s Qd h => ?_⟩)
  exact read_book_error42 ds s Qd h
abbrev names_Book___init__ : List Str := ["self", "rules", "error"]
theorem sc_Book___init__ : FnScope names_Book___init__ ["self", "rules"] (defScope s_Book___init__) := ⟨rfl, rfl, rfl, by decide +kernel, rfl, by decide +kernel, by decide +kernel⟩
theorem len_Book___init__ {m : Mem} : ∀ ds s Qd Qx, ((spBI42 (a 16)) : ISpX m) ds s Qd Qx → ds.length = 1 := spBI42_len
theorem ok_Book___init__ {m : Mem} (T : Tx w K mg base a d e ed) : FnG P w K mg base (L2.CX P w) 9 (a 4150) (d 4150) ["self", "rules"] (liftIX K m (a 63) 1 (spBI42 (a 16))) := by
  have G_book_error := ok_book_error (P := P) (w := w) (base := base) (m := m) T
  refine dfnIX T.f4150 sc_Book___init__ rfl (fun cdv A outer s0 H E F0 H0 s0' hr => ⟨_, (dss_cons (ds_set 2 sc_Book___init__.nd (de_call G_book_error len_book_error (hr.mono (by decide)) (by rfl) T.g61 T.f61.kp T.b61 (da_cons (dv 1) da_nil)))
      (dss_cons (ds_if (dt_cmp op_notN o_notN (dv 2) de_non)
        (dss_one (ds_raise rfl (takes_of rfl rfl rfl rfl) T.xc16 T.ty16 T.i16 T.t16 (oi_BadBook T) (hr.mono (by decide)) T.bi16 (by rfl) T.g16 (dv 2)))
        dss_nil)
      (dss_one (ds_fst 0 T.cl63.cl T.na63_rules (dv 1))))), fun ds s Qd Qx x dx h => ?_⟩)
  exact read_book_init42 ds s Qd Qx x dx h
abbrev names_Book_rules : List Str := ["self"]
theorem sc_Book_rules : FnScope names_Book_rules ["self"] (defScope s_Book_rules) := ⟨rfl, rfl, rfl, by decide +kernel, rfl, by decide +kernel, by decide +kernel⟩
theorem ok_Book_rules {m : Mem} (T : Tx w K mg base a d e ed) : FnG P w K mg base CX0 1 (a 4151) (d 4151) ["self"] (lift K m 1 (spGetR (a 63))) := by
  refine dfn T.f4151 sc_Book_rules rfl (fun cdv A outer s0 H E En hr => ⟨_, (dss_one (ds_ret (de_fld T.cl63.cl T.na63_rules (dv 0)))), fun ds s Qd h => ?_⟩)
  exact read_getr46 (a := fun _ => a 63) ds s Qd h
abbrev names__law_told : List Str := ["_law_value", "_law_found", "error", "_law_others"]
theorem sc__law_told : FnScope names__law_told ["_law_value"] (defScope s__law_told) := ⟨rfl, rfl, rfl, by decide +kernel, rfl, by decide +kernel, by decide +kernel⟩
theorem len__law_told {m : Mem} : ∀ ds s Qd, (spTold42 : DSp m) ds s Qd → ds.length = 1 := spTold42_len
theorem ok__law_told {m : Mem} (T : Tx w K mg base a d e ed) : FnG P w K mg base CX0 11 (a 89) (d 89) ["_law_value"] (lift K m 1 spTold42) := by
  have G_Book___init__ := ok_Book___init__ (P := P) (w := w) (base := base) (m := m) T
  have G_Book_rules := ok_Book_rules (P := P) (w := w) (base := base) (m := m) T
  refine dfn T.f89 sc__law_told rfl (fun cdv A outer s0 H E En hr => ⟨_, (dss_cons (ds_set 1 sc__law_told.nd (de_lst da_nil))
      (dss_cons (ds_tryK [a 16] rfl rfl sc__law_told.nd (i := 2) (by rfl) (by rfl) (⟨by rfl, by decide, .inl T.g16⟩) rfl (List.forall_mem_cons.mpr ⟨T.em16_16, fun _ z => absurd z List.not_mem_nil⟩) (fun W pn xe tk hpa => (dss_one (ds_setLPMX 1 sc__law_told.nd tk T.M63 G_Book___init__ len_Book___init__ (hr.mono (by decide)) (by rfl) T.g63 T.b4150 T.cl63.cl T.p4151 G_Book_rules (hr.mono (by decide)) T.b4151 (by decide +kernel) (da_cons (dv 0) da_nil)))) (fun a' pn => (dss_cons (ds_set 3 sc__law_told.nd (de_isKT [(a 16, false)] (ws := [.ref (a 17), .ref (a 18), .ref (a 21), .ref (a 22)]) (us := [.ref (a 17), .ref (a 18), .ref (a 21), .ref (a 22)]) (List.forall_mem_cons.mpr ⟨⟨T.xc16, T.kt16_17_18_21_22⟩, fun _ z => absurd z List.not_mem_nil⟩) rfl (Nat.le_of_ble_eq_true rfl) (by rfl) T.z_isinstance (dv 2) (da_cons (de_glob (d := .any (.ref (a 17))) (v := .ref (a 17)) (by rfl) T.g17 rfl (fun _ => rfl)) (da_cons (de_glob (d := .any (.ref (a 18))) (v := .ref (a 18)) (by rfl) T.g18 rfl (fun _ => rfl)) (da_cons (de_glob (d := .any (.ref (a 21))) (v := .ref (a 21)) (by rfl) T.g21 rfl (fun _ => rfl)) (da_cons (de_glob (d := .any (.ref (a 22))) (v := .ref (a 22)) (by rfl) T.g22 rfl (fun _ => rfl)) da_nil))))))
        (dss_one (ds_set 1 sc__law_told.nd (de_lst (da_cons de_str (da_cons (de_kf T.xc16 T.nf16error (dv 2)) (da_cons (de_isK [(a 16, true)] (List.forall_mem_cons.mpr ⟨⟨T.xc16, T.ki16_15⟩, fun _ z => absurd z List.not_mem_nil⟩) (.own _) (by rfl) T.z_isinstance (dv 2) (de_glob (d := .any (.ref (a 15))) (v := .ref (a 15)) (by rfl) T.g15 rfl (fun _ => rfl))) (da_cons (de_isK [(a 16, true)] (List.forall_mem_cons.mpr ⟨⟨T.xc16, T.ki16_ValueError⟩, fun _ z => absurd z List.not_mem_nil⟩) (.ty _) (by rfl) T.z_isinstance (dv 2) (de_bltn (v := .ty "ValueError") (by rfl) T.z_ValueError (by decide +kernel) rfl)) (da_cons (dv 3) da_nil)))))))))))
      (dss_one (ds_ret (dv 1))))), fun ds s Qd h => ?_⟩)
  exact read_told42 ds s Qd h
abbrev names__law_right : List Str := ["_law_value", "_law_told_here", "_law_kept", "_law_due"]
theorem sc__law_right : FnScope names__law_right ["_law_value"] (defScope s__law_right) := ⟨rfl, rfl, rfl, by decide +kernel, rfl, by decide +kernel, by decide +kernel⟩
theorem len__law_right {m : Mem} : ∀ ds s Qd, (spRight42 : DSp m) ds s Qd → ds.length = 1 := spRight42_len
theorem ok__law_right {m : Mem} (T : Tx w K mg base a d e ed) : FnG P w K mg base CX0 12 (a 90) (d 90) ["_law_value"] (lift K m 1 spRight42) := by
  have G__law_same := ok__law_same (P := P) (w := w) (base := base) (m := m) T 6
  have len__law_same := len__law_same (m := m) 6
  have G__law_against := ok__law_against (P := P) (w := w) (base := base) (m := m) T
  have G__law_told := ok__law_told (P := P) (w := w) (base := base) (m := m) T
  refine dfn T.f90 sc__law_right rfl (fun cdv A outer s0 H E En hr => ⟨_, (dss_cons (ds_par 2 3 sc__law_right.nd (da_cons (de_callB (call_reprD T.sys hr.g (u65 hr)) o_repr (by rfl) T.z_repr (by decide +kernel) (da_cons (dv 0) da_nil)) (da_cons (de_call G__law_against len__law_against (hr.mono (by decide)) (by rfl) T.g88 T.f88.kp T.b88 (da_cons (dv 0) da_nil)) da_nil)))
      (dss_cons (ds_set 1 sc__law_right.nd (de_ifExp (dt_cmp op_isN o_isN (dv 3) de_non) (de_lst (da_cons de_str (da_cons (dv 0) da_nil))) (de_lst (da_cons de_str (da_cons (dv 3) (da_cons de_bl (da_cons de_bl (da_cons de_bl da_nil))))))))
      (dss_one (ds_ret (de_and (de_call G__law_same len__law_same (hr.mono (by decide)) (by rfl) T.g78 T.f78.kp T.b78 (da_cons (de_call G__law_told len__law_told (hr.mono (by decide)) (by rfl) T.g89 T.f89.kp T.b89 (da_cons (dv 0) da_nil)) (da_cons (dv 1) da_nil))) (de_one (de_cmp op_eq o_eqT (de_callB (call_reprD T.sys hr.g (u65 hr)) o_repr (by rfl) T.z_repr (by decide +kernel) (da_cons (dv 0) da_nil)) (dv 2)))))))), fun ds s Qd h => ?_⟩)
  exact read_right42 ds s Qd h
abbrev names__law_odd : List Str := ["_law_reel_here", "_law_some"]
theorem sc__law_odd : FnScope names__law_odd ["_law_reel_here"] (defScope s__law_odd) := ⟨rfl, rfl, rfl, by decide +kernel, rfl, by decide +kernel, by decide +kernel⟩
theorem len__law_odd : ∀ ds s Qd, (R29.spOdd : DSp Mem.deck) ds s Qd → ds.length = 1 := R29.spOdd_len
theorem ok__law_odd (T : Tx w K mg base a d e ed) : FnG P w K mg base CX0 3 (a 79) (d 79) ["_law_reel_here"] (lift K Mem.deck 1 R29.spOdd) := by
  have G__law_pick := ok__law_pick (P := P) (w := w) (base := base) T
  refine dfn T.f79 sc__law_odd rfl (fun cdv A outer s0 H E En hr => ⟨_, (dss_cons (ds_set 1 sc__law_odd.nd (de_lst (da_cons de_non (da_cons de_bl (da_cons de_bl (da_cons de_int (da_cons de_int (da_cons (de_un un_neg o_neg de_int) (da_cons de_int (da_cons (de_op op_pow o_pow de_int de_int) (da_cons de_str (da_cons de_str (da_cons de_str (da_cons de_str (da_cons de_str (da_cons de_str (da_cons de_str da_nil)))))))))))))))))
      (dss_cons (ds_set 1 sc__law_odd.nd (de_op op_addA o_add (dv 1) (de_lst (da_cons (de_tup da_nil) (da_cons (de_tup (da_cons de_str da_nil)) (da_cons (de_tup (da_cons de_str (da_cons de_str da_nil))) (da_cons (de_tup (da_cons (de_tup (da_cons de_str (da_cons de_str da_nil))) da_nil)) (da_cons (de_lst da_nil) (da_cons (de_lst (da_cons de_str (da_cons de_str da_nil))) (da_cons de_dict0 (da_cons (de_dictS (ks := [Str.ofString "a"]) (pps_str de_str pps_nil')) (da_cons (de_tup (da_cons de_non da_nil)) (da_cons (de_tup (da_cons (de_lst da_nil) da_nil)) (da_cons (de_tup (da_cons de_str (da_cons de_int da_nil))) da_nil))))))))))))))
      (dss_one (ds_ret (de_call G__law_pick len__law_pick (hr.mono (by decide)) (by rfl) T.g67 T.f67.kp T.b67 (da_cons (dv 0) (da_cons (dv 1) da_nil))))))), fun ds s Qd h => ?_⟩)
  exact read_odd29 ds s Qd h
abbrev names__law_bent : List Str := ["_law_reel_here", "_law_value", "_law_deep", "_law_at", "_law_swapped", "_law_some"]
theorem sc__law_bent : FnScope names__law_bent ["_law_reel_here", "_law_value", "_law_deep"] (defScope s__law_bent) := ⟨rfl, rfl, rfl, by decide +kernel, rfl, by decide +kernel, by decide +kernel⟩
theorem len__law_bent (n : Nat) : ∀ ds s Qd, (spBent n : DSp Mem.deck) ds s Qd → ds.length = 3 := spBent_len n
theorem ok__law_bent (T : Tx w K mg base a d e ed) : ∀ n, FnG P w K mg base CX0 (n + 3) (a 80) (d 80) ["_law_reel_here", "_law_value", "_law_deep"] (lift K Mem.deck 3 (spBent n))
  | 0 => fnG_never rfl
  | n + 1 => by
    have G__law_bent := ok__law_bent T n
    have len__law_bent := len__law_bent n
    have G__law_pull := ok__law_pull (P := P) (w := w) (base := base) T
    have G__law_pick := ok__law_pick (P := P) (w := w) (base := base) T
    have G__law_odd := ok__law_odd (P := P) (w := w) (base := base) T
    refine dfn T.f80 sc__law_bent rfl (fun cdv A outer s0 H E En hr => ⟨_, (dss_cons (ds_if (PW.pt (dw_and (dt_truth (de_callB call_isi o_isi (by rfl) T.z_isinstance (by decide +kernel) (da_cons (dv 1) (da_cons (de_bltn (v := .ty "tuple") (by rfl) T.z_tuple (by decide +kernel) rfl) da_nil)))) (dw_and (dt_cmp op_gtA o_gt (de_callB (DL.CallR.or call_len call_lenD) o_len (by rfl) T.z_len (by decide +kernel) (da_cons (dv 1) da_nil)) de_int) (dw_and (dt_cmp op_gtA o_gt (dv 2) de_int) (dw_and1 (dt_cmp op_gtA o_gt (de_call G__law_pull len__law_pull (hr.mono (by omega)) (by rfl) T.g66 T.f66.kp T.b66 (da_cons (dv 0) (da_cons de_int da_nil))) de_int))))))
        (dss_cons (ds_set 3 sc__law_bent.nd (de_call G__law_pull len__law_pull (hr.mono (by omega)) (by rfl) T.g66 T.f66.kp T.b66 (da_cons (dv 0) (da_cons (de_callB (DL.CallR.or call_len call_lenD) o_len (by rfl) T.z_len (by decide +kernel) (da_cons (dv 1) da_nil)) da_nil))))
        (dss_one (ds_ret (de_op op_addA o_add (de_op op_addA o_add (de_slice sl_all o_sl (dv 1) do_none (do_some (dv 3))) (de_tup (da_cons (de_call G__law_bent len__law_bent (hr.mono (by omega)) (by rfl) T.g80 T.f80.kp T.b80 (da_cons (dv 0) (da_cons (de_ix ix_seq o_ix (dv 1) (dv 3)) (da_cons (de_op op_sub o_sub (dv 2) de_int) da_nil)))) da_nil))) (de_slice sl_all o_sl (dv 1) (do_some (de_op op_addA o_add (dv 3) de_int)) do_none)))))
        dss_nil)
      (dss_cons (ds_if (dt_truth (de_callB call_isi o_isi (by rfl) T.z_isinstance (by decide +kernel) (da_cons (dv 1) (da_cons (de_bltn (v := .ty "tuple") (by rfl) T.z_tuple (by decide +kernel) rfl) da_nil))))
        (dss_cons (ds_set 4 sc__law_bent.nd (de_op op_addA o_add (de_op op_addA o_add (de_slice sl_all o_sl (dv 1) (do_some de_int) (do_some de_int)) (de_slice sl_all o_sl (dv 1) do_none (do_some de_int))) (de_slice sl_all o_sl (dv 1) (do_some de_int) do_none)))
        (dss_cons (ds_set 5 sc__law_bent.nd (de_lst (da_cons (de_slice sl_all o_sl (dv 1) (do_some de_int) do_none) (da_cons (de_slice sl_all o_sl (dv 1) do_none (do_some (de_un un_neg o_neg de_int))) (da_cons (de_op op_addA o_add (dv 1) (de_slice sl_all o_sl (dv 1) (do_some (de_un un_neg o_neg de_int)) do_none)) (da_cons (de_revT (dv 1)) (da_cons (de_callTy call_list_of o_list (by rfl) T.z_list (by decide +kernel) (da_cons (dv 1) da_nil)) (da_cons (dv 4) (da_cons (de_call G__law_odd len__law_odd (hr.mono (by omega)) (by rfl) T.g79 T.f79.kp T.b79 (da_cons (dv 0) da_nil)) da_nil)))))))))
        (dss_one (ds_ret (de_call G__law_pick len__law_pick (hr.mono (by omega)) (by rfl) T.g67 T.f67.kp T.b67 (da_cons (dv 0) (da_cons (dv 5) da_nil)))))))
        dss_nil)
      (dss_cons (ds_if (PW.pt (dw_or (dt_truth (de_callB call_isi o_isi (by rfl) T.z_isinstance (by decide +kernel) (da_cons (dv 1) (da_cons (de_bltn (v := .ty "bool") (by rfl) T.z_bool (by decide +kernel) rfl) da_nil)))) (dw_or1 (dt_cmp op_isN o_isN (dv 1) de_non))))
        (dss_one (ds_ret (de_call G__law_odd len__law_odd (hr.mono (by omega)) (by rfl) T.g79 T.f79.kp T.b79 (da_cons (dv 0) da_nil))))
        dss_nil)
      (dss_cons (ds_if (dt_truth (de_callB call_isi o_isi (by rfl) T.z_isinstance (by decide +kernel) (da_cons (dv 1) (da_cons (de_bltn (v := .ty "int") (by rfl) T.z_int (by decide +kernel) rfl) da_nil))))
        (dss_one (ds_ret (de_call G__law_pick len__law_pick (hr.mono (by omega)) (by rfl) T.g67 T.f67.kp T.b67 (da_cons (dv 0) (da_cons (de_lst (da_cons (de_op op_addA o_add (dv 1) de_int) (da_cons (de_op op_sub o_sub (dv 1) de_int) (da_cons (de_cmp (op_eqD (u64 hr)) o_eq (dv 1) de_int) (da_cons (de_un un_neg o_neg de_int) (da_cons (de_callTy call_str_int o_strI (by rfl) T.z_str (by decide +kernel) (da_cons (dv 1) da_nil)) (da_cons (de_call G__law_odd len__law_odd (hr.mono (by omega)) (by rfl) T.g79 T.f79.kp T.b79 (da_cons (dv 0) da_nil)) da_nil))))))) da_nil)))))
        dss_nil)
      (dss_cons (ds_if (dt_truth (de_callB call_isi o_isi (by rfl) T.z_isinstance (by decide +kernel) (da_cons (dv 1) (da_cons (de_bltn (v := .ty "str") (by rfl) T.z_str (by decide +kernel) rfl) da_nil))))
        (dss_cons (ds_set 5 sc__law_bent.nd (de_lst (da_cons (de_op op_addA o_add (dv 1) de_str) (da_cons (de_slice sl_all o_sl (dv 1) (do_some de_int) do_none) (da_cons (de_op op_addA o_add (dv 1) de_str) (da_cons (de_m0 PySem.F.plainAttrs_str PySem.F.slot_str_upper PySem.F.type_str_upper mt_upper o_upper (dv 1)) (da_cons (de_op op_addA o_add (dv 1) de_str) (da_cons (de_lst (da_cons (dv 1) da_nil)) (da_cons (de_call G__law_odd len__law_odd (hr.mono (by omega)) (by rfl) T.g79 T.f79.kp T.b79 (da_cons (dv 0) da_nil)) da_nil)))))))))
        (dss_one (ds_ret (de_call G__law_pick len__law_pick (hr.mono (by omega)) (by rfl) T.g67 T.f67.kp T.b67 (da_cons (dv 0) (da_cons (dv 5) da_nil))))))
        dss_nil)
      (dss_one (ds_ret (de_call G__law_odd len__law_odd (hr.mono (by omega)) (by rfl) T.g79 T.f79.kp T.b79 (da_cons (dv 0) da_nil))))))))), fun ds s Qd h => ?_⟩)
    exact read_bent29 n ds s Qd h
abbrev names__law_texts : List Str := ["_law_value", "_law_found", "_law_part"]
theorem sc__law_texts : FnScope names__law_texts ["_law_value"] (defScope s__law_texts) := ⟨rfl, rfl, rfl, by decide +kernel, rfl, by decide +kernel, by decide +kernel⟩
theorem len__law_texts {m : Mem} (n : Nat) : ∀ ds s Qd, (spTx n : DSp m) ds s Qd → ds.length = 1 := spTx_len n
theorem ok__law_texts {m : Mem} (T : Tx w K mg base a d e ed) : ∀ n, FnG P w K mg base CX0 (n) (a 85) (d 85) ["_law_value"] (lift K m 1 (spTx n))
  | 0 => fnG_never rfl
  | n + 1 => by
    have G__law_texts := ok__law_texts (m := m) T n
    have len__law_texts := len__law_texts (m := m) n
    refine dfn T.f85 sc__law_texts rfl (fun cdv A outer s0 H E En hr => ⟨_, (dss_cons (ds_if (dt_not (dt_truth (de_callB call_isi o_isi (by rfl) T.z_isinstance (by decide +kernel) (da_cons (dv 0) (da_cons (de_bltn (v := .ty "tuple") (by rfl) T.z_tuple (by decide +kernel) rfl) da_nil)))))
        (dss_one (ds_ret (de_lst (da_cons (dv 0) da_nil))))
        dss_nil)
      (dss_cons (ds_set 1 sc__law_texts.nd (de_lst da_nil))
      (dss_cons (ds_for rfl (di_seq (dv 0)) (dg_name 2 sc__law_texts.nd)
        (dss_one (ds_set 1 sc__law_texts.nd (de_op op_addA o_add (dv 1) (de_call G__law_texts len__law_texts hr (by rfl) T.g85 T.f85.kp T.b85 (da_cons (dv 2) da_nil))))))
      (dss_one (ds_ret (dv 1)))))), fun ds s Qd h => ?_⟩)
    exact read_texts29 n ds s Qd h
abbrev names__law_put : List Str := ["_law_value", "_law_old", "_law_new", "_law_part"]
theorem sc__law_put : FnScope names__law_put ["_law_value", "_law_old", "_law_new"] (defScope s__law_put) := ⟨rfl, rfl, rfl, by decide +kernel, rfl, by decide +kernel, by decide +kernel⟩
theorem len__law_put {m : Mem} (n : Nat) : ∀ ds s Qd, (spPut n : DSp m) ds s Qd → ds.length = 3 := spPut_len n
theorem ok__law_put {m : Mem} (T : Tx w K mg base a d e ed) : ∀ n, FnG P w K mg base CX0 (n) (a 86) (d 86) ["_law_value", "_law_old", "_law_new"] (lift K m 3 (spPut n))
  | 0 => fnG_never rfl
  | n + 1 => by
    have G__law_put := ok__law_put (m := m) T n
    have len__law_put := len__law_put (m := m) n
    refine dfn T.f86 sc__law_put rfl (fun cdv A outer s0 H E En hr => ⟨_, (dss_cons (ds_if (dt_truth (de_callB call_isi o_isi (by rfl) T.z_isinstance (by decide +kernel) (da_cons (dv 0) (da_cons (de_bltn (v := .ty "tuple") (by rfl) T.z_tuple (by decide +kernel) rfl) da_nil))))
        (dss_one (ds_ret (de_callTy call_tuple_of o_tuple (by rfl) T.z_tuple (by decide +kernel) (da_cons (de_lc (own := [("_law_part", 3)]) sc__law_put.nd (di_seq (dv 0)) (blkOk_by (N := names__law_put) (sc := defScope s__law_put) (by decide +kernel)) (fun _ _ _ _ _ => (dg_name 3 sc__law_put.nd)) (fun _ _ _ _ _ => dts_nil) (fun _ _ _ _ _ => (de_call G__law_put len__law_put hr (by rfl) T.g86 T.f86.kp T.b86 (da_cons (dv 3) (da_cons (dv 1) (da_cons (dv 2) da_nil)))))) da_nil))))
        dss_nil)
      (dss_one (ds_ret (de_ifExp (dt_cmp (op_eqD (u64 hr)) o_eq (dv 0) (dv 1)) (dv 2) (dv 0))))), fun ds s Qd h => ?_⟩)
    exact read_put29 n ds s Qd h
abbrev names__law_closer : List Str := ["_law_reel_here", "_law_rule_here", "_law_texts_here", "_law_old", "_law_new"]
theorem sc__law_closer : FnScope names__law_closer ["_law_reel_here", "_law_rule_here"] (defScope s__law_closer) := ⟨rfl, rfl, rfl, by decide +kernel, rfl, by decide +kernel, by decide +kernel⟩
theorem len__law_closer : ∀ ds s Qd, (spCl : DSp Mem.deck) ds s Qd → ds.length = 2 := spCl_len
theorem ok__law_closer (T : Tx w K mg base a d e ed) : FnG P w K mg base CX0 6 (a 87) (d 87) ["_law_reel_here", "_law_rule_here"] (lift K Mem.deck 2 spCl) := by
  have G__law_pick := ok__law_pick (P := P) (w := w) (base := base) T
  have G__law_texts := ok__law_texts (P := P) (w := w) (base := base) (m := Mem.deck) T 5
  have len__law_texts := len__law_texts (m := Mem.deck) 5
  have G__law_put := ok__law_put (P := P) (w := w) (base := base) (m := Mem.deck) T 5
  have len__law_put := len__law_put (m := Mem.deck) 5
  refine dfn T.f87 sc__law_closer rfl (fun cdv A outer s0 H E En hr => ⟨_, (dss_cons (ds_set 2 sc__law_closer.nd (de_call G__law_texts len__law_texts (hr.mono (by decide)) (by rfl) T.g85 T.f85.kp T.b85 (da_cons (dv 1) da_nil)))
      (dss_cons (ds_par 3 4 sc__law_closer.nd (da_cons (de_call G__law_pick len__law_pick (hr.mono (by decide)) (by rfl) T.g67 T.f67.kp T.b67 (da_cons (dv 0) (da_cons (dv 2) da_nil))) (da_cons (de_call G__law_pick len__law_pick (hr.mono (by decide)) (by rfl) T.g67 T.f67.kp T.b67 (da_cons (dv 0) (da_cons (dv 2) da_nil))) da_nil)))
      (dss_one (ds_ret (de_call G__law_put len__law_put (hr.mono (by decide)) (by rfl) T.g86 T.f86.kp T.b86 (da_cons (dv 1) (da_cons (dv 3) (da_cons (de_call G__law_pick len__law_pick (hr.mono (by decide)) (by rfl) T.g67 T.f67.kp T.b67 (da_cons (dv 0) (da_cons (de_lst (da_cons (dv 4) (da_cons (de_op op_addA o_add (dv 4) de_str) (da_cons (de_ix ix_seq o_ix (de_m PySem.F.plainAttrs_str PySem.F.slot_str_rpartition PySem.F.type_str_rpartition mt_rpartition o_rpart (dv 4) (da_cons de_str da_nil)) de_int) da_nil)))) da_nil))) da_nil)))))))), fun ds s Qd h => ?_⟩)
  exact read_closer42 ds s Qd h
abbrev names__law_changed : List Str := ["_law_reel_here", "_law_some", "_law_new", "_law_values", "_law_at", "_law_to"]
theorem sc__law_changed : FnScope names__law_changed ["_law_reel_here", "_law_some"] (defScope s__law_changed) := ⟨rfl, rfl, rfl, by decide +kernel, rfl, by decide +kernel, by decide +kernel⟩
theorem len__law_changed : ∀ ds s Qd, (spCh42 : DSp Mem.deck) ds s Qd → ds.length = 2 := spCh42_len
theorem ok__law_changed (T : Tx w K mg base a d e ed) : FnG P w K mg base CX0 8 (a 91) (d 91) ["_law_reel_here", "_law_some"] (lift K Mem.deck 2 spCh42) := by
  have G__law_pull := ok__law_pull (P := P) (w := w) (base := base) T
  have G__law_pick := ok__law_pick (P := P) (w := w) (base := base) T
  have G__law_odd := ok__law_odd (P := P) (w := w) (base := base) T
  have G__law_bent := ok__law_bent (P := P) (w := w) (base := base) T 4
  have len__law_bent := len__law_bent 4
  have G__law_closer := ok__law_closer (P := P) (w := w) (base := base) T
  refine dfn T.f91 sc__law_changed rfl (fun cdv A outer s0 H E En hr => ⟨_, (dss_cons (ds_if (dt_cmp (op_eqD (u64 hr)) o_eq (dv 1) (de_tup da_nil))
        (dss_one (ds_ret (de_call G__law_pick len__law_pick (hr.mono (by decide)) (by rfl) T.g67 T.f67.kp T.b67 (da_cons (dv 0) (da_cons (de_lst (da_cons (de_lst da_nil) (da_cons de_non (da_cons (de_tup (da_cons (de_tup da_nil) da_nil)) (da_cons (de_tup (da_cons de_str da_nil)) (da_cons (de_call G__law_odd len__law_odd (hr.mono (by decide)) (by rfl) T.g79 T.f79.kp T.b79 (da_cons (dv 0) da_nil)) da_nil)))))) da_nil)))))
        dss_nil)
      (dss_cons (ds_par 4 5 sc__law_changed.nd (da_cons (de_call G__law_pull len__law_pull (hr.mono (by decide)) (by rfl) T.g66 T.f66.kp T.b66 (da_cons (dv 0) (da_cons (de_callB (DL.CallR.or call_len call_lenD) o_len (by rfl) T.z_len (by decide +kernel) (da_cons (dv 1) da_nil)) da_nil))) (da_cons (de_call G__law_pull len__law_pull (hr.mono (by decide)) (by rfl) T.g66 T.f66.kp T.b66 (da_cons (dv 0) (da_cons (de_op op_addA o_add (de_callB (DL.CallR.or call_len call_lenD) o_len (by rfl) T.z_len (by decide +kernel) (da_cons (dv 1) da_nil)) de_int) da_nil))) da_nil)))
      (dss_cons (ds_set 2 sc__law_changed.nd (de_call G__law_pick len__law_pick (hr.mono (by decide)) (by rfl) T.g67 T.f67.kp T.b67 (da_cons (dv 0) (da_cons (de_lst (da_cons (de_call G__law_bent len__law_bent (hr.mono (by decide)) (by rfl) T.g80 T.f80.kp T.b80 (da_cons (dv 0) (da_cons (de_ix ix_seq o_ix (dv 1) (dv 4)) (da_cons de_int da_nil)))) (da_cons (de_call G__law_closer len__law_closer (hr.mono (by decide)) (by rfl) T.g87 T.f87.kp T.b87 (da_cons (dv 0) (da_cons (de_ix ix_seq o_ix (dv 1) (dv 4)) da_nil))) (da_cons (de_call G__law_odd len__law_odd (hr.mono (by decide)) (by rfl) T.g79 T.f79.kp T.b79 (da_cons (dv 0) da_nil)) da_nil)))) da_nil))))
      (dss_cons (ds_set 3 sc__law_changed.nd (de_lst (da_cons (de_op op_addA o_add (de_op op_addA o_add (de_slice sl_all o_sl (dv 1) do_none (do_some (dv 4))) (de_tup (da_cons (dv 2) da_nil))) (de_slice sl_all o_sl (dv 1) (do_some (de_op op_addA o_add (dv 4) de_int)) do_none)) (da_cons (de_op op_addA o_add (de_op op_addA o_add (de_slice sl_all o_sl (dv 1) do_none (do_some (dv 5))) (de_tup (da_cons (de_ix ix_seq o_ix (dv 1) (dv 4)) da_nil))) (de_slice sl_all o_sl (dv 1) (do_some (dv 5)) do_none)) (da_cons (de_callTy call_list_of o_list (by rfl) T.z_list (by decide +kernel) (da_cons (dv 1) da_nil)) (da_cons (de_op op_addA o_add (de_op op_addA o_add (dv 1) (dv 1)) (dv 1)) da_nil))))))
      (dss_one (ds_ret (de_call G__law_pick len__law_pick (hr.mono (by decide)) (by rfl) T.g67 T.f67.kp T.b67 (da_cons (dv 0) (da_cons (de_op op_addA o_add (dv 3) (de_lst (da_cons (de_op op_addA o_add (de_op op_addA o_add (de_slice sl_all o_sl (dv 1) do_none (do_some (dv 5))) (de_tup (da_cons (dv 2) da_nil))) (de_slice sl_all o_sl (dv 1) (do_some (dv 5)) do_none)) (da_cons (de_call G__law_bent len__law_bent (hr.mono (by decide)) (by rfl) T.g80 T.f80.kp T.b80 (da_cons (dv 0) (da_cons (dv 1) (da_cons de_int da_nil)))) da_nil)))) da_nil))))))))), fun ds s Qd h => ?_⟩)
  exact read_changed42 ds s Qd h
abbrev names__law_twice_wrong : List Str := ["_law_reel_here", "_law_some", "_law_few", "_law_new", "_law_value", "_law_place", "_law_at", "_law_to"]
theorem sc__law_twice_wrong : FnScope names__law_twice_wrong ["_law_reel_here", "_law_some"] (defScope s__law_twice_wrong) := ⟨rfl, rfl, rfl, by decide +kernel, rfl, by decide +kernel, by decide +kernel⟩
theorem len__law_twice_wrong : ∀ ds s Qd, (spCh42 : DSp Mem.deck) ds s Qd → ds.length = 2 := spCh42_len
theorem ok__law_twice_wrong (T : Tx w K mg base a d e ed) : FnG P w K mg base CX0 8 (a 92) (d 92) ["_law_reel_here", "_law_some"] (lift K Mem.deck 2 spCh42) := by
  have G__law_pull := ok__law_pull (P := P) (w := w) (base := base) T
  have G__law_pick := ok__law_pick (P := P) (w := w) (base := base) T
  have G__law_odd := ok__law_odd (P := P) (w := w) (base := base) T
  have G__law_bent := ok__law_bent (P := P) (w := w) (base := base) T 4
  have len__law_bent := len__law_bent 4
  refine dfn T.f92 sc__law_twice_wrong rfl (fun cdv A outer s0 H E En hr => ⟨_, (dss_cons (ds_set 2 sc__law_twice_wrong.nd (de_slice sl_all o_sl (dv 1) do_none (do_some de_int)))
      (dss_cons (ds_if (dt_cmp (op_eqD (u64 hr)) o_eq (dv 2) (de_tup da_nil))
        (dss_one (ds_ret (de_tup (da_cons (de_call G__law_odd len__law_odd (hr.mono (by decide)) (by rfl) T.g79 T.f79.kp T.b79 (da_cons (dv 0) da_nil)) (da_cons (de_call G__law_odd len__law_odd (hr.mono (by decide)) (by rfl) T.g79 T.f79.kp T.b79 (da_cons (dv 0) da_nil)) da_nil)))))
        dss_nil)
      (dss_cons (ds_par 6 7 sc__law_twice_wrong.nd (da_cons (de_call G__law_pull len__law_pull (hr.mono (by decide)) (by rfl) T.g66 T.f66.kp T.b66 (da_cons (dv 0) (da_cons (de_callB (DL.CallR.or call_len call_lenD) o_len (by rfl) T.z_len (by decide +kernel) (da_cons (dv 2) da_nil)) da_nil))) (da_cons (de_call G__law_pull len__law_pull (hr.mono (by decide)) (by rfl) T.g66 T.f66.kp T.b66 (da_cons (dv 0) (da_cons (de_op op_addA o_add (de_callB (DL.CallR.or call_len call_lenD) o_len (by rfl) T.z_len (by decide +kernel) (da_cons (dv 2) da_nil)) de_int) da_nil))) da_nil)))
      (dss_cons (ds_set 3 sc__law_twice_wrong.nd (de_call G__law_pick len__law_pick (hr.mono (by decide)) (by rfl) T.g67 T.f67.kp T.b67 (da_cons (dv 0) (da_cons (de_lst (da_cons (de_call G__law_bent len__law_bent (hr.mono (by decide)) (by rfl) T.g80 T.f80.kp T.b80 (da_cons (dv 0) (da_cons (de_ix ix_seq o_ix (dv 2) (dv 6)) (da_cons de_int da_nil)))) (da_cons (de_call G__law_odd len__law_odd (hr.mono (by decide)) (by rfl) T.g79 T.f79.kp T.b79 (da_cons (dv 0) da_nil)) (da_cons (de_tup (da_cons de_str (da_cons (de_tup (da_cons de_str da_nil)) da_nil))) da_nil)))) da_nil))))
      (dss_cons (ds_set 4 sc__law_twice_wrong.nd (de_op op_addA o_add (de_op op_addA o_add (de_slice sl_all o_sl (dv 2) do_none (do_some (dv 7))) (de_tup (da_cons (de_ix ix_seq o_ix (dv 2) (dv 6)) da_nil))) (de_slice sl_all o_sl (dv 2) (do_some (dv 7)) do_none)))
      (dss_cons (ds_set 5 sc__law_twice_wrong.nd (de_call G__law_pull len__law_pull (hr.mono (by decide)) (by rfl) T.g66 T.f66.kp T.b66 (da_cons (dv 0) (da_cons (de_op op_addA o_add (de_callB (DL.CallR.or call_len call_lenD) o_len (by rfl) T.z_len (by decide +kernel) (da_cons (dv 4) da_nil)) de_int) da_nil))))
      (dss_one (ds_ret (de_op op_addA o_add (de_op op_addA o_add (de_slice sl_all o_sl (dv 4) do_none (do_some (dv 5))) (de_tup (da_cons (dv 3) da_nil))) (de_slice sl_all o_sl (dv 4) (do_some (dv 5)) do_none)))))))))), fun ds s Qd h => ?_⟩)
  exact read_twice42 ds s Qd h
abbrev names_law : List Str := ["_law_script", "_law_reel_here", "_law_turn", "_law_spots_here", "_law_some", "_law_value"]
theorem sc_law : FnScope names_law ["_law_script"] (defScope s_law) := ⟨rfl, rfl, rfl, by decide +kernel, rfl, by decide +kernel, by decide +kernel⟩
theorem ok_law (T : Tx w K mg base a d e ed) : FnG P w K mg base CX0 13 (a 93) (d 93) ["_law_script"] (lift K Mem.deck 1 spLaw) := by
  have G__law_reel := ok__law_reel (P := P) (w := w) (base := base) T
  have G__law_names := ok__law_names (P := P) (w := w) (base := base) T
  have G__law_spots := ok__law_spots (P := P) (w := w) (base := base) T
  have G__law_some_rules := ok__law_some_rules (P := P) (w := w) (base := base) T
  have G__law_right := ok__law_right (P := P) (w := w) (base := base) (m := Mem.deck) T
  have G__law_changed := ok__law_changed (P := P) (w := w) (base := base) T
  have G__law_twice_wrong := ok__law_twice_wrong (P := P) (w := w) (base := base) T
  refine dfn T.f93 sc_law rfl (fun cdv A outer s0 H E En hr => ⟨_, (dss_cons (ds_set 1 sc_law.nd (de_call G__law_reel len__law_reel (hr.mono (by decide)) (by rfl) T.g65 T.f65.kp T.b65 (da_cons (dv 0) da_nil)))
      (dss_cons (ds_for rfl (di_range1 (by rfl) T.z_range (da_cons de_int da_nil)) (dg_name 2 sc_law.nd)
        (dss_cons (ds_set 3 sc_law.nd (de_call G__law_spots len__law_spots (hr.mono (by decide)) (by rfl) T.g72 T.f72.kp T.b72 (da_cons (dv 1) (da_cons (de_call G__law_names len__law_names (hr.mono (by decide)) (by rfl) T.g69 T.f69.kp T.b69 (da_cons (dv 1) (da_cons de_int da_nil))) da_nil))))
        (dss_cons (ds_set 4 sc_law.nd (de_call G__law_some_rules len__law_some_rules (hr.mono (by decide)) (by rfl) T.g77 T.f77.kp T.b77 (da_cons (dv 1) (da_cons (dv 3) (da_cons de_int da_nil)))))
        (dss_one (ds_for rfl (di_seq (de_lst (da_cons (dv 4) (da_cons (de_call G__law_changed len__law_changed (hr.mono (by decide)) (by rfl) T.g91 T.f91.kp T.b91 (da_cons (dv 1) (da_cons (dv 4) da_nil))) (da_cons (de_call G__law_changed len__law_changed (hr.mono (by decide)) (by rfl) T.g91 T.f91.kp T.b91 (da_cons (dv 1) (da_cons (dv 4) da_nil))) (da_cons (de_call G__law_twice_wrong len__law_twice_wrong (hr.mono (by decide)) (by rfl) T.g92 T.f92.kp T.b92 (da_cons (dv 1) (da_cons (dv 4) da_nil))) da_nil)))))) (dg_name 5 sc_law.nd)
          (dss_one (ds_if (dt_not (dt_truth (de_call G__law_right len__law_right (hr.mono (by decide)) (by rfl) T.g90 T.f90.kp T.b90 (da_cons (dv 5) da_nil))))
            (dss_one (ds_ret de_bl))
            dss_nil)))))))
      (dss_one (ds_ret de_bl)))), fun ds s Qd h => ?_⟩)
  exact read_law42 ds s Qd h
end
theorem all_mk {l : PySem.W.OpenLaw} {w : World} {K : PySem.W.Frag} {h : Heap} {mg : Str → Option Value} {fa : Addr} (X : K.In h) (G : h.Ns mainGlobals mg) (hfa : mg "law" = some (.ref fa))
    {f65 : Addr} {od65 an65 : Option Addr} {sl65 : Array (Option Value)} {oc65 kV65 dc65 pm65 cd65 ct65 : Value}
    (a65 : PySem.W.nsIn K mainGlobals "_law_reel" = some (some (.ref f65))) (l65 : K.lookup f65 = some ⟨oc65, od65, .func (PySem.W.fnOf "_law_reel" "_law_reel" (defArgs s__law_reel) (defBody s__law_reel) (defScope s__law_reel) .none kV65 dc65 pm65 an65 cd65 ct65), sl65⟩) (c65 : PySem.W.codeIn K cd65 "_law_reel" = true) (k65 : PySem.W.keepIn K (.ref f65) = true)
    {f66 : Addr} {od66 an66 : Option Addr} {sl66 : Array (Option Value)} {oc66 kV66 dc66 pm66 cd66 ct66 : Value}
    (a66 : PySem.W.nsIn K mainGlobals "_law_pull" = some (some (.ref f66))) (l66 : K.lookup f66 = some ⟨oc66, od66, .func (PySem.W.fnOf "_law_pull" "_law_pull" (defArgs s__law_pull) (defBody s__law_pull) (defScope s__law_pull) .none kV66 dc66 pm66 an66 cd66 ct66), sl66⟩) (c66 : PySem.W.codeIn K cd66 "_law_pull" = true) (k66 : PySem.W.keepIn K (.ref f66) = true)
    {f67 : Addr} {od67 an67 : Option Addr} {sl67 : Array (Option Value)} {oc67 kV67 dc67 pm67 cd67 ct67 : Value}
    (a67 : PySem.W.nsIn K mainGlobals "_law_pick" = some (some (.ref f67))) (l67 : K.lookup f67 = some ⟨oc67, od67, .func (PySem.W.fnOf "_law_pick" "_law_pick" (defArgs s__law_pick) (defBody s__law_pick) (defScope s__law_pick) .none kV67 dc67 pm67 an67 cd67 ct67), sl67⟩) (c67 : PySem.W.codeIn K cd67 "_law_pick" = true) (k67 : PySem.W.keepIn K (.ref f67) = true)
    {f69 : Addr} {od69 an69 : Option Addr} {sl69 : Array (Option Value)} {oc69 kV69 dc69 pm69 cd69 ct69 : Value}
    (a69 : PySem.W.nsIn K mainGlobals "_law_names" = some (some (.ref f69))) (l69 : K.lookup f69 = some ⟨oc69, od69, .func (PySem.W.fnOf "_law_names" "_law_names" (defArgs s__law_names) (defBody s__law_names) (defScope s__law_names) .none kV69 dc69 pm69 an69 cd69 ct69), sl69⟩) (c69 : PySem.W.codeIn K cd69 "_law_names" = true) (k69 : PySem.W.keepIn K (.ref f69) = true)
    {f72 : Addr} {od72 an72 : Option Addr} {sl72 : Array (Option Value)} {oc72 kV72 dc72 pm72 cd72 ct72 : Value}
    (a72 : PySem.W.nsIn K mainGlobals "_law_spots" = some (some (.ref f72))) (l72 : K.lookup f72 = some ⟨oc72, od72, .func (PySem.W.fnOf "_law_spots" "_law_spots" (defArgs s__law_spots) (defBody s__law_spots) (defScope s__law_spots) .none kV72 dc72 pm72 an72 cd72 ct72), sl72⟩) (c72 : PySem.W.codeIn K cd72 "_law_spots" = true) (k72 : PySem.W.keepIn K (.ref f72) = true)
    {f70 : Addr} {od70 an70 : Option Addr} {sl70 : Array (Option Value)} {oc70 kV70 dc70 pm70 cd70 ct70 : Value}
    (a70 : PySem.W.nsIn K mainGlobals "_law_under" = some (some (.ref f70))) (l70 : K.lookup f70 = some ⟨oc70, od70, .func (PySem.W.fnOf "_law_under" "_law_under" (defArgs s__law_under) (defBody s__law_under) (defScope s__law_under) .none kV70 dc70 pm70 an70 cd70 ct70), sl70⟩) (c70 : PySem.W.codeIn K cd70 "_law_under" = true) (k70 : PySem.W.keepIn K (.ref f70) = true)
    {f68 : Addr} {od68 an68 : Option Addr} {sl68 : Array (Option Value)} {oc68 kV68 dc68 pm68 cd68 ct68 : Value}
    (a68 : PySem.W.nsIn K mainGlobals "_law_mixed" = some (some (.ref f68))) (l68 : K.lookup f68 = some ⟨oc68, od68, .func (PySem.W.fnOf "_law_mixed" "_law_mixed" (defArgs s__law_mixed) (defBody s__law_mixed) (defScope s__law_mixed) .none kV68 dc68 pm68 an68 cd68 ct68), sl68⟩) (c68 : PySem.W.codeIn K cd68 "_law_mixed" = true) (k68 : PySem.W.keepIn K (.ref f68) = true)
    {f71 : Addr} {od71 an71 : Option Addr} {sl71 : Array (Option Value)} {oc71 kV71 dc71 pm71 cd71 ct71 : Value}
    (a71 : PySem.W.nsIn K mainGlobals "_law_meet" = some (some (.ref f71))) (l71 : K.lookup f71 = some ⟨oc71, od71, .func (PySem.W.fnOf "_law_meet" "_law_meet" (defArgs s__law_meet) (defBody s__law_meet) (defScope s__law_meet) .none kV71 dc71 pm71 an71 cd71 ct71), sl71⟩) (c71 : PySem.W.codeIn K cd71 "_law_meet" = true) (k71 : PySem.W.keepIn K (.ref f71) = true)
    {f73 : Addr} {od73 an73 : Option Addr} {sl73 : Array (Option Value)} {oc73 kV73 dc73 pm73 cd73 ct73 : Value}
    (a73 : PySem.W.nsIn K mainGlobals "_law_alone" = some (some (.ref f73))) (l73 : K.lookup f73 = some ⟨oc73, od73, .func (PySem.W.fnOf "_law_alone" "_law_alone" (defArgs s__law_alone) (defBody s__law_alone) (defScope s__law_alone) .none kV73 dc73 pm73 an73 cd73 ct73), sl73⟩) (c73 : PySem.W.codeIn K cd73 "_law_alone" = true) (k73 : PySem.W.keepIn K (.ref f73) = true)
    {f74 : Addr} {od74 an74 : Option Addr} {sl74 : Array (Option Value)} {oc74 kV74 dc74 pm74 cd74 ct74 : Value}
    (a74 : PySem.W.nsIn K mainGlobals "_law_rows" = some (some (.ref f74))) (l74 : K.lookup f74 = some ⟨oc74, od74, .func (PySem.W.fnOf "_law_rows" "_law_rows" (defArgs s__law_rows) (defBody s__law_rows) (defScope s__law_rows) .none kV74 dc74 pm74 an74 cd74 ct74), sl74⟩) (c74 : PySem.W.codeIn K cd74 "_law_rows" = true) (k74 : PySem.W.keepIn K (.ref f74) = true)
    {f75 : Addr} {od75 an75 : Option Addr} {sl75 : Array (Option Value)} {oc75 kV75 dc75 pm75 cd75 ct75 : Value}
    (a75 : PySem.W.nsIn K mainGlobals "_law_rule_of" = some (some (.ref f75))) (l75 : K.lookup f75 = some ⟨oc75, od75, .func (PySem.W.fnOf "_law_rule_of" "_law_rule_of" (defArgs s__law_rule_of) (defBody s__law_rule_of) (defScope s__law_rule_of) .none kV75 dc75 pm75 an75 cd75 ct75), sl75⟩) (c75 : PySem.W.codeIn K cd75 "_law_rule_of" = true) (k75 : PySem.W.keepIn K (.ref f75) = true)
    {f76 : Addr} {od76 an76 : Option Addr} {sl76 : Array (Option Value)} {oc76 kV76 dc76 pm76 cd76 ct76 : Value}
    (a76 : PySem.W.nsIn K mainGlobals "_law_rule" = some (some (.ref f76))) (l76 : K.lookup f76 = some ⟨oc76, od76, .func (PySem.W.fnOf "_law_rule" "_law_rule" (defArgs s__law_rule) (defBody s__law_rule) (defScope s__law_rule) .none kV76 dc76 pm76 an76 cd76 ct76), sl76⟩) (c76 : PySem.W.codeIn K cd76 "_law_rule" = true) (k76 : PySem.W.keepIn K (.ref f76) = true)
    {f77 : Addr} {od77 an77 : Option Addr} {sl77 : Array (Option Value)} {oc77 kV77 dc77 pm77 cd77 ct77 : Value}
    (a77 : PySem.W.nsIn K mainGlobals "_law_some_rules" = some (some (.ref f77))) (l77 : K.lookup f77 = some ⟨oc77, od77, .func (PySem.W.fnOf "_law_some_rules" "_law_some_rules" (defArgs s__law_some_rules) (defBody s__law_some_rules) (defScope s__law_some_rules) .none kV77 dc77 pm77 an77 cd77 ct77), sl77⟩) (c77 : PySem.W.codeIn K cd77 "_law_some_rules" = true) (k77 : PySem.W.keepIn K (.ref f77) = true)
    {f78 : Addr} {od78 an78 : Option Addr} {sl78 : Array (Option Value)} {oc78 kV78 dc78 pm78 cd78 ct78 : Value}
    (a78 : PySem.W.nsIn K mainGlobals "_law_same" = some (some (.ref f78))) (l78 : K.lookup f78 = some ⟨oc78, od78, .func (PySem.W.fnOf "_law_same" "_law_same" (defArgs s__law_same) (defBody s__law_same) (defScope s__law_same) .none kV78 dc78 pm78 an78 cd78 ct78), sl78⟩) (c78 : PySem.W.codeIn K cd78 "_law_same" = true) (k78 : PySem.W.keepIn K (.ref f78) = true)
    {f81 : Addr} {od81 an81 : Option Addr} {sl81 : Array (Option Value)} {oc81 kV81 dc81 pm81 cd81 ct81 : Value}
    (a81 : PySem.W.nsIn K mainGlobals "_law_path" = some (some (.ref f81))) (l81 : K.lookup f81 = some ⟨oc81, od81, .func (PySem.W.fnOf "_law_path" "_law_path" (defArgs s__law_path) (defBody s__law_path) (defScope s__law_path) .none kV81 dc81 pm81 an81 cd81 ct81), sl81⟩) (c81 : PySem.W.codeIn K cd81 "_law_path" = true) (k81 : PySem.W.keepIn K (.ref f81) = true)
    {f82 : Addr} {od82 an82 : Option Addr} {sl82 : Array (Option Value)} {oc82 kV82 dc82 pm82 cd82 ct82 : Value}
    (a82 : PySem.W.nsIn K mainGlobals "_law_paths" = some (some (.ref f82))) (l82 : K.lookup f82 = some ⟨oc82, od82, .func (PySem.W.fnOf "_law_paths" "_law_paths" (defArgs s__law_paths) (defBody s__law_paths) (defScope s__law_paths) .none kV82 dc82 pm82 an82 cd82 ct82), sl82⟩) (c82 : PySem.W.codeIn K cd82 "_law_paths" = true) (k82 : PySem.W.keepIn K (.ref f82) = true)
    {f83 : Addr} {od83 an83 : Option Addr} {sl83 : Array (Option Value)} {oc83 kV83 dc83 pm83 cd83 ct83 : Value}
    (a83 : PySem.W.nsIn K mainGlobals "_law_item" = some (some (.ref f83))) (l83 : K.lookup f83 = some ⟨oc83, od83, .func (PySem.W.fnOf "_law_item" "_law_item" (defArgs s__law_item) (defBody s__law_item) (defScope s__law_item) .none kV83 dc83 pm83 an83 cd83 ct83), sl83⟩) (c83 : PySem.W.codeIn K cd83 "_law_item" = true) (k83 : PySem.W.keepIn K (.ref f83) = true)
    {f84 : Addr} {od84 an84 : Option Addr} {sl84 : Array (Option Value)} {oc84 kV84 dc84 pm84 cd84 ct84 : Value}
    (a84 : PySem.W.nsIn K mainGlobals "_law_word" = some (some (.ref f84))) (l84 : K.lookup f84 = some ⟨oc84, od84, .func (PySem.W.fnOf "_law_word" "_law_word" (defArgs s__law_word) (defBody s__law_word) (defScope s__law_word) .none kV84 dc84 pm84 an84 cd84 ct84), sl84⟩) (c84 : PySem.W.codeIn K cd84 "_law_word" = true) (k84 : PySem.W.keepIn K (.ref f84) = true)
    {f88 : Addr} {od88 an88 : Option Addr} {sl88 : Array (Option Value)} {oc88 kV88 dc88 pm88 cd88 ct88 : Value}
    (a88 : PySem.W.nsIn K mainGlobals "_law_against" = some (some (.ref f88))) (l88 : K.lookup f88 = some ⟨oc88, od88, .func (PySem.W.fnOf "_law_against" "_law_against" (defArgs s__law_against) (defBody s__law_against) (defScope s__law_against) .none kV88 dc88 pm88 an88 cd88 ct88), sl88⟩) (c88 : PySem.W.codeIn K cd88 "_law_against" = true) (k88 : PySem.W.keepIn K (.ref f88) = true)
    {f10 : Addr} {od10 an10 : Option Addr} {sl10 : Array (Option Value)} {oc10 kV10 dc10 pm10 cd10 ct10 : Value}
    (a10 : PySem.W.nsIn K mainGlobals "covers" = some (some (.ref f10))) (l10 : K.lookup f10 = some ⟨oc10, od10, .func (PySem.W.fnOf "covers" "covers" (defArgs s_covers) (defBody s_covers) (defScope s_covers) .none kV10 dc10 pm10 an10 cd10 ct10), sl10⟩) (c10 : PySem.W.codeIn K cd10 "covers" = true) (k10 : PySem.W.keepIn K (.ref f10) = true)
    {f8 : Addr} {od8 an8 : Option Addr} {sl8 : Array (Option Value)} {oc8 kV8 dc8 pm8 cd8 ct8 : Value}
    (a8 : PySem.W.nsIn K mainGlobals "_is_name" = some (some (.ref f8))) (l8 : K.lookup f8 = some ⟨oc8, od8, .func (PySem.W.fnOf "_is_name" "_is_name" (defArgs s__is_name) (defBody s__is_name) (defScope s__is_name) .none kV8 dc8 pm8 an8 cd8 ct8), sl8⟩) (c8 : PySem.W.codeIn K cd8 "_is_name" = true) (k8 : PySem.W.keepIn K (.ref f8) = true)
    {f9 : Addr} {od9 an9 : Option Addr} {sl9 : Array (Option Value)} {oc9 kV9 dc9 pm9 cd9 ct9 : Value}
    (a9 : PySem.W.nsIn K mainGlobals "is_path" = some (some (.ref f9))) (l9 : K.lookup f9 = some ⟨oc9, od9, .func (PySem.W.fnOf "is_path" "is_path" (defArgs s_is_path) (defBody s_is_path) (defScope s_is_path) .none kV9 dc9 pm9 an9 cd9 ct9), sl9⟩) (c9 : PySem.W.codeIn K cd9 "is_path" = true) (k9 : PySem.W.keepIn K (.ref f9) = true)
    {f53 : Addr} {od53 an53 : Option Addr} {sl53 : Array (Option Value)} {oc53 kV53 dc53 pm53 cd53 ct53 : Value}
    (a53 : PySem.W.nsIn K mainGlobals "_is_rule_path" = some (some (.ref f53))) (l53 : K.lookup f53 = some ⟨oc53, od53, .func (PySem.W.fnOf "_is_rule_path" "_is_rule_path" (defArgs s__is_rule_path) (defBody s__is_rule_path) (defScope s__is_rule_path) .none kV53 dc53 pm53 an53 cd53 ct53), sl53⟩) (c53 : PySem.W.codeIn K cd53 "_is_rule_path" = true) (k53 : PySem.W.keepIn K (.ref f53) = true)
    {f54 : Addr} {od54 an54 : Option Addr} {sl54 : Array (Option Value)} {oc54 kV54 dc54 pm54 cd54 ct54 : Value}
    (a54 : PySem.W.nsIn K mainGlobals "_are_rule_paths" = some (some (.ref f54))) (l54 : K.lookup f54 = some ⟨oc54, od54, .func (PySem.W.fnOf "_are_rule_paths" "_are_rule_paths" (defArgs s__are_rule_paths) (defBody s__are_rule_paths) (defScope s__are_rule_paths) .none kV54 dc54 pm54 an54 cd54 ct54), sl54⟩) (c54 : PySem.W.codeIn K cd54 "_are_rule_paths" = true) (k54 : PySem.W.keepIn K (.ref f54) = true)
    {f55 : Addr} {od55 an55 : Option Addr} {sl55 : Array (Option Value)} {oc55 kV55 dc55 pm55 cd55 ct55 : Value}
    (a55 : PySem.W.nsIn K mainGlobals "_are_rows" = some (some (.ref f55))) (l55 : K.lookup f55 = some ⟨oc55, od55, .func (PySem.W.fnOf "_are_rows" "_are_rows" (defArgs s__are_rows) (defBody s__are_rows) (defScope s__are_rows) .none kV55 dc55 pm55 an55 cd55 ct55), sl55⟩) (c55 : PySem.W.codeIn K cd55 "_are_rows" = true) (k55 : PySem.W.keepIn K (.ref f55) = true)
    {f56 : Addr} {od56 an56 : Option Addr} {sl56 : Array (Option Value)} {oc56 kV56 dc56 pm56 cd56 ct56 : Value}
    (a56 : PySem.W.nsIn K mainGlobals "_fits" = some (some (.ref f56))) (l56 : K.lookup f56 = some ⟨oc56, od56, .func (PySem.W.fnOf "_fits" "_fits" (defArgs s__fits) (defBody s__fits) (defScope s__fits) .none kV56 dc56 pm56 an56 cd56 ct56), sl56⟩) (c56 : PySem.W.codeIn K cd56 "_fits" = true) (k56 : PySem.W.keepIn K (.ref f56) = true)
    {f57 : Addr} {od57 an57 : Option Addr} {sl57 : Array (Option Value)} {oc57 kV57 dc57 pm57 cd57 ct57 : Value}
    (a57 : PySem.W.nsIn K mainGlobals "rule_paths" = some (some (.ref f57))) (l57 : K.lookup f57 = some ⟨oc57, od57, .func (PySem.W.fnOf "rule_paths" "rule_paths" (defArgs s_rule_paths) (defBody s_rule_paths) (defScope s_rule_paths) .none kV57 dc57 pm57 an57 cd57 ct57), sl57⟩) (c57 : PySem.W.codeIn K cd57 "rule_paths" = true) (k57 : PySem.W.keepIn K (.ref f57) = true)
    {f11 : Addr} {od11 an11 : Option Addr} {sl11 : Array (Option Value)} {oc11 kV11 dc11 pm11 cd11 ct11 : Value}
    (a11 : PySem.W.nsIn K mainGlobals "overlap" = some (some (.ref f11))) (l11 : K.lookup f11 = some ⟨oc11, od11, .func (PySem.W.fnOf "overlap" "overlap" (defArgs s_overlap) (defBody s_overlap) (defScope s_overlap) .none kV11 dc11 pm11 an11 cd11 ct11), sl11⟩) (c11 : PySem.W.codeIn K cd11 "overlap" = true) (k11 : PySem.W.keepIn K (.ref f11) = true)
    {f58 : Addr} {od58 an58 : Option Addr} {sl58 : Array (Option Value)} {oc58 kV58 dc58 pm58 cd58 ct58 : Value}
    (a58 : PySem.W.nsIn K mainGlobals "_any_overlap" = some (some (.ref f58))) (l58 : K.lookup f58 = some ⟨oc58, od58, .func (PySem.W.fnOf "_any_overlap" "_any_overlap" (defArgs s__any_overlap) (defBody s__any_overlap) (defScope s__any_overlap) .none kV58 dc58 pm58 an58 cd58 ct58), sl58⟩) (c58 : PySem.W.codeIn K cd58 "_any_overlap" = true) (k58 : PySem.W.keepIn K (.ref f58) = true)
    {f59 : Addr} {od59 an59 : Option Addr} {sl59 : Array (Option Value)} {oc59 kV59 dc59 pm59 cd59 ct59 : Value}
    (a59 : PySem.W.nsIn K mainGlobals "rule_error" = some (some (.ref f59))) (l59 : K.lookup f59 = some ⟨oc59, od59, .func (PySem.W.fnOf "rule_error" "rule_error" (defArgs s_rule_error) (defBody s_rule_error) (defScope s_rule_error) .none kV59 dc59 pm59 an59 cd59 ct59), sl59⟩) (c59 : PySem.W.codeIn K cd59 "rule_error" = true) (k59 : PySem.W.keepIn K (.ref f59) = true)
    {f61 : Addr} {od61 an61 : Option Addr} {sl61 : Array (Option Value)} {oc61 kV61 dc61 pm61 cd61 ct61 : Value}
    (a61 : PySem.W.nsIn K mainGlobals "book_error" = some (some (.ref f61))) (l61 : K.lookup f61 = some ⟨oc61, od61, .func (PySem.W.fnOf "book_error" "book_error" (defArgs s_book_error) (defBody s_book_error) (defScope s_book_error) .none kV61 dc61 pm61 an61 cd61 ct61), sl61⟩) (c61 : PySem.W.codeIn K cd61 "book_error" = true) (k61 : PySem.W.keepIn K (.ref f61) = true)
    {f4150 : Addr} {od4150 an4150 : Option Addr} {sl4150 : Array (Option Value)} {oc4150 kV4150 dc4150 pm4150 cd4150 ct4150 : Value}
    (l4150 : K.lookup f4150 = some ⟨oc4150, od4150, .func (PySem.W.fnOf "__init__" "Book.__init__" (defArgs s_Book___init__) (defBody s_Book___init__) (defScope s_Book___init__) .none kV4150 dc4150 pm4150 an4150 cd4150 ct4150), sl4150⟩) (c4150 : PySem.W.codeIn K cd4150 "Book.__init__" = true) (k4150 : PySem.W.keepIn K (.ref f4150) = true)
    {f4151 : Addr} {od4151 an4151 : Option Addr} {sl4151 : Array (Option Value)} {oc4151 kV4151 dc4151 pm4151 cd4151 ct4151 : Value}
    (l4151 : K.lookup f4151 = some ⟨oc4151, od4151, .func (PySem.W.fnOf "rules" "Book.rules" (defArgs s_Book_rules) (defBody s_Book_rules) (defScope s_Book_rules) .none kV4151 dc4151 pm4151 an4151 cd4151 ct4151), sl4151⟩) (c4151 : PySem.W.codeIn K cd4151 "Book.rules" = true) (k4151 : PySem.W.keepIn K (.ref f4151) = true)
    {f89 : Addr} {od89 an89 : Option Addr} {sl89 : Array (Option Value)} {oc89 kV89 dc89 pm89 cd89 ct89 : Value}
    (a89 : PySem.W.nsIn K mainGlobals "_law_told" = some (some (.ref f89))) (l89 : K.lookup f89 = some ⟨oc89, od89, .func (PySem.W.fnOf "_law_told" "_law_told" (defArgs s__law_told) (defBody s__law_told) (defScope s__law_told) .none kV89 dc89 pm89 an89 cd89 ct89), sl89⟩) (c89 : PySem.W.codeIn K cd89 "_law_told" = true) (k89 : PySem.W.keepIn K (.ref f89) = true)
    {f90 : Addr} {od90 an90 : Option Addr} {sl90 : Array (Option Value)} {oc90 kV90 dc90 pm90 cd90 ct90 : Value}
    (a90 : PySem.W.nsIn K mainGlobals "_law_right" = some (some (.ref f90))) (l90 : K.lookup f90 = some ⟨oc90, od90, .func (PySem.W.fnOf "_law_right" "_law_right" (defArgs s__law_right) (defBody s__law_right) (defScope s__law_right) .none kV90 dc90 pm90 an90 cd90 ct90), sl90⟩) (c90 : PySem.W.codeIn K cd90 "_law_right" = true) (k90 : PySem.W.keepIn K (.ref f90) = true)
    {f79 : Addr} {od79 an79 : Option Addr} {sl79 : Array (Option Value)} {oc79 kV79 dc79 pm79 cd79 ct79 : Value}
    (a79 : PySem.W.nsIn K mainGlobals "_law_odd" = some (some (.ref f79))) (l79 : K.lookup f79 = some ⟨oc79, od79, .func (PySem.W.fnOf "_law_odd" "_law_odd" (defArgs s__law_odd) (defBody s__law_odd) (defScope s__law_odd) .none kV79 dc79 pm79 an79 cd79 ct79), sl79⟩) (c79 : PySem.W.codeIn K cd79 "_law_odd" = true) (k79 : PySem.W.keepIn K (.ref f79) = true)
    {f80 : Addr} {od80 an80 : Option Addr} {sl80 : Array (Option Value)} {oc80 kV80 dc80 pm80 cd80 ct80 : Value}
    (a80 : PySem.W.nsIn K mainGlobals "_law_bent" = some (some (.ref f80))) (l80 : K.lookup f80 = some ⟨oc80, od80, .func (PySem.W.fnOf "_law_bent" "_law_bent" (defArgs s__law_bent) (defBody s__law_bent) (defScope s__law_bent) .none kV80 dc80 pm80 an80 cd80 ct80), sl80⟩) (c80 : PySem.W.codeIn K cd80 "_law_bent" = true) (k80 : PySem.W.keepIn K (.ref f80) = true)
    {f85 : Addr} {od85 an85 : Option Addr} {sl85 : Array (Option Value)} {oc85 kV85 dc85 pm85 cd85 ct85 : Value}
    (a85 : PySem.W.nsIn K mainGlobals "_law_texts" = some (some (.ref f85))) (l85 : K.lookup f85 = some ⟨oc85, od85, .func (PySem.W.fnOf "_law_texts" "_law_texts" (defArgs s__law_texts) (defBody s__law_texts) (defScope s__law_texts) .none kV85 dc85 pm85 an85 cd85 ct85), sl85⟩) (c85 : PySem.W.codeIn K cd85 "_law_texts" = true) (k85 : PySem.W.keepIn K (.ref f85) = true)
    {f86 : Addr} {od86 an86 : Option Addr} {sl86 : Array (Option Value)} {oc86 kV86 dc86 pm86 cd86 ct86 : Value}
    (a86 : PySem.W.nsIn K mainGlobals "_law_put" = some (some (.ref f86))) (l86 : K.lookup f86 = some ⟨oc86, od86, .func (PySem.W.fnOf "_law_put" "_law_put" (defArgs s__law_put) (defBody s__law_put) (defScope s__law_put) .none kV86 dc86 pm86 an86 cd86 ct86), sl86⟩) (c86 : PySem.W.codeIn K cd86 "_law_put" = true) (k86 : PySem.W.keepIn K (.ref f86) = true)
    {f87 : Addr} {od87 an87 : Option Addr} {sl87 : Array (Option Value)} {oc87 kV87 dc87 pm87 cd87 ct87 : Value}
    (a87 : PySem.W.nsIn K mainGlobals "_law_closer" = some (some (.ref f87))) (l87 : K.lookup f87 = some ⟨oc87, od87, .func (PySem.W.fnOf "_law_closer" "_law_closer" (defArgs s__law_closer) (defBody s__law_closer) (defScope s__law_closer) .none kV87 dc87 pm87 an87 cd87 ct87), sl87⟩) (c87 : PySem.W.codeIn K cd87 "_law_closer" = true) (k87 : PySem.W.keepIn K (.ref f87) = true)
    {f91 : Addr} {od91 an91 : Option Addr} {sl91 : Array (Option Value)} {oc91 kV91 dc91 pm91 cd91 ct91 : Value}
    (a91 : PySem.W.nsIn K mainGlobals "_law_changed" = some (some (.ref f91))) (l91 : K.lookup f91 = some ⟨oc91, od91, .func (PySem.W.fnOf "_law_changed" "_law_changed" (defArgs s__law_changed) (defBody s__law_changed) (defScope s__law_changed) .none kV91 dc91 pm91 an91 cd91 ct91), sl91⟩) (c91 : PySem.W.codeIn K cd91 "_law_changed" = true) (k91 : PySem.W.keepIn K (.ref f91) = true)
    {f92 : Addr} {od92 an92 : Option Addr} {sl92 : Array (Option Value)} {oc92 kV92 dc92 pm92 cd92 ct92 : Value}
    (a92 : PySem.W.nsIn K mainGlobals "_law_twice_wrong" = some (some (.ref f92))) (l92 : K.lookup f92 = some ⟨oc92, od92, .func (PySem.W.fnOf "_law_twice_wrong" "_law_twice_wrong" (defArgs s__law_twice_wrong) (defBody s__law_twice_wrong) (defScope s__law_twice_wrong) .none kV92 dc92 pm92 an92 cd92 ct92), sl92⟩) (c92 : PySem.W.codeIn K cd92 "_law_twice_wrong" = true) (k92 : PySem.W.keepIn K (.ref f92) = true)
    {f93 : Addr} {od93 an93 : Option Addr} {sl93 : Array (Option Value)} {oc93 kV93 dc93 pm93 cd93 ct93 : Value}
    (a93 : PySem.W.nsIn K mainGlobals "law" = some (some (.ref f93))) (l93 : K.lookup f93 = some ⟨oc93, od93, .func (PySem.W.fnOf "law" "law" (defArgs s_law) (defBody s_law) (defScope s_law) .none kV93 dc93 pm93 an93 cd93 ct93), sl93⟩) (c93 : PySem.W.codeIn K cd93 "law" = true) (k93 : PySem.W.keepIn K (.ref f93) = true)
    {f15 : Addr} (a15 : PySem.W.nsIn K mainGlobals "RestError" = some (some (.ref f15)))
    {f16 : Addr} (a16 : PySem.W.nsIn K mainGlobals "BadBook" = some (some (.ref f16)))
    {f17 : Addr} (a17 : PySem.W.nsIn K mainGlobals "BadProgram" = some (some (.ref f17)))
    {f18 : Addr} (a18 : PySem.W.nsIn K mainGlobals "BadRule" = some (some (.ref f18)))
    {f21 : Addr} (a21 : PySem.W.nsIn K mainGlobals "Taken" = some (some (.ref f21)))
    {f22 : Addr} (a22 : PySem.W.nsIn K mainGlobals "TooMany" = some (some (.ref f22)))
    {h16 : Addr} {odI16 anI16 : Option Addr} {slI16 : Array (Option Value)} {ocI16 kVI16 dcI16 pmI16 cdI16 ctI16 : Value}
    (i16 : PySem.W.findIn K (.ref f16) "__init__" = some (some (.ref h16))) (t16 : PySem.W.typeIn K (.ref h16) = some (.type "function")) (lI16 : K.lookup h16 = some ⟨ocI16, odI16, .func (PySem.W.fnOf "__init__" "BadBook.__init__" (defArgs si_BadBook) (defBody si_BadBook) (defScope si_BadBook) .none kVI16 dcI16 pmI16 anI16 cdI16 ctI16), slI16⟩) (cI16 : PySem.W.codeIn K cdI16 "BadBook.__init__" = true) (kI16 : PySem.W.keepIn K (.ref h16) = true)
    (kxc16 : xcB K f16 bmV "ValueError.__new__" = true) (kty16 : PySem.W.typeIn K (.ref f16) = some (.type "type"))
    (knf16error : PySem.W.findIn K (.ref f16) "error" = some none)
    (kkt16_17_18_21_22 : PySem.W.kitAny K (.ref f16) [.ref f17, .ref f18, .ref f21, .ref f22] = some false)
    (kki16_15 : PySem.W.kitOne K (.ref f16) (.ref f15) = some true)
    (kki16_ValueError : PySem.W.kitOne K (.ref f16) (.type "ValueError") = some true)
    (kem16_16 : PySem.W.exmOne K (.ref f16) (.ref f16) = some true)
    {f63 : Addr} (a63 : PySem.W.nsIn K mainGlobals "Book" = some (some (.ref f63))) (kow63 : ownB K f63 = true)
    (kmk63 : PySem.W.makesIn K f63 = true) (i63 : PySem.W.findIn K (.ref f63) "__init__" = some (some (.ref f4150))) (kfn63 : PySem.W.isFn K (.ref f4150) = true) (kkp63 : PySem.W.keepIn K (.ref f63) = true)
    (kpg63 : PySem.W.plainGet K f63 Str.empty = true) (khd63 : PySem.W.hasDictIn K f63 = true) (kpo63 : PySem.W.plainOver K f63 = true) (ksa63 : PySem.W.findIn K (.ref f63) "__setattr__" = some (some (.builtin "object.__setattr__")))
    (kha63 : PySem.W.findIn K (.ref f63) "__class__" = some (some (.builtin "object.__class__"))) (khn63 : PySem.W.specialIn K (.builtin "object.__class__") "__get__" = some (some (.builtin "getset_descriptor.__get__"))) (kht63 : PySem.W.takesIn K (.builtin "object.__class__") = some true) (khm63 : PySem.W.mroIn K f63 (.type "object") = some true) (kno63 : PySem.W.kitOne K (.ref f63) (.type "tuple") = some false)
    {q4151 : Addr} {re4151 : List Value} (kpa4151 : PySem.W.findIn K (.ref f63) "rules" = some (some (.ref q4151))) (kpb4151 : PySem.W.specialIn K (.ref q4151) "__get__" = some (some (.builtin "property.__get__"))) (kpc4151 : PySem.W.takesIn K (.ref q4151) = some true) (kpd4151 : PySem.W.recIn K q4151 "property" = some (.ref f4151 :: re4151))
    (kna63_rules : PySem.W.findIn K (.ref f63) "_rules" = some none)
    {p51 : Addr} {es51 : Array DictEntry} {en51 : Nat} (a51 : PySem.W.nsIn K mainGlobals "FORMS" = some (some (.ref p51))) (lt51 : K.lookup p51 = some ⟨.type "dict", none, .dict es51 en51, #[]⟩)
    (kl51 : PySem.W.KeysLit w.params es51.toList) (lw51 : (p51 == sysModules) = false) (ck51 : chk K es51.toList tab_FORMS = true)
    {p52 : Addr} {es52 : Array DictEntry} {en52 : Nat} (a52 : PySem.W.nsIn K mainGlobals "SIZES" = some (some (.ref p52))) (lt52 : K.lookup p52 = some ⟨.type "dict", none, .dict es52 en52, #[]⟩)
    (kl52 : PySem.W.KeysLit w.params es52.toList) (lw52 : (p52 == sysModules) = false) (ck52 : chk K es52.toList tab_SIZES = true)
    (z_ValueError : PySem.W.nsIn K mainGlobals "ValueError" = some none)
    (z_abs : PySem.W.nsIn K mainGlobals "abs" = some none)
    (z_all : PySem.W.nsIn K mainGlobals "all" = some none)
    (z_any : PySem.W.nsIn K mainGlobals "any" = some none)
    (z_bool : PySem.W.nsIn K mainGlobals "bool" = some none)
    (z_enumerate : PySem.W.nsIn K mainGlobals "enumerate" = some none)
    (z_int : PySem.W.nsIn K mainGlobals "int" = some none)
    (z_isinstance : PySem.W.nsIn K mainGlobals "isinstance" = some none)
    (z_len : PySem.W.nsIn K mainGlobals "len" = some none)
    (z_list : PySem.W.nsIn K mainGlobals "list" = some none)
    (z_range : PySem.W.nsIn K mainGlobals "range" = some none)
    (z_repr : PySem.W.nsIn K mainGlobals "repr" = some none)
    (z_str : PySem.W.nsIn K mainGlobals "str" = some none)
    (z_tuple : PySem.W.nsIn K mainGlobals "tuple" = some none)
    (z_zip : PySem.W.nsIn K mainGlobals "zip" = some none)
    {t_MAX_NAMES : Tok} (c_MAX_NAMES : PySem.W.nsIn K mainGlobals "MAX_NAMES" = some (some (.int 6 t_MAX_NAMES)))
    {t_MAX_RULES : Tok} (c_MAX_RULES : PySem.W.nsIn K mainGlobals "MAX_RULES" = some (some (.int 8 t_MAX_RULES)))
    {t_MAX_RULE_NAMES : Tok} (c_MAX_RULE_NAMES : PySem.W.nsIn K mainGlobals "MAX_RULE_NAMES" = some (some (.int 4 t_MAX_RULE_NAMES)))
    {t__MAX_LETTERS : Tok} (c__MAX_LETTERS : PySem.W.nsIn K mainGlobals "_MAX_LETTERS" = some (some (.int 8 t__MAX_LETTERS)))
    : ∃ fd : FuncData, (∀ (s : Shared) (v : Value), BindsTo s fd ⟨[v], []⟩ [("_law_script", v)]) ∧ ∀ base : Heap, K.In base → base.Ns mainGlobals mg → (∃ o, base.get? sysModules = some o) → FnG l.prog w K mg base CX0 13 fa fd ["_law_script"] (lift K Mem.deck 1 spLaw) := by
  have eL := hfa.symm.trans (PySem.W.mg_of X G a93)
  cases eL
  have F65 := fun_mk (st := s__law_reel) l65 c65 k65
  have b65 := F65.binds (ps := ["_law_script"]) fun _ _ _ _ _ _ us hl => match us, hl with | [_], _ => rfl
  have F66 := fun_mk (st := s__law_pull) l66 c66 k66
  have b66 := F66.binds (ps := ["_law_reel_here", "_law_many"]) fun _ _ _ _ _ _ us hl => match us, hl with | [_, _], _ => rfl
  have F67 := fun_mk (st := s__law_pick) l67 c67 k67
  have b67 := F67.binds (ps := ["_law_reel_here", "_law_some"]) fun _ _ _ _ _ _ us hl => match us, hl with | [_, _], _ => rfl
  have F69 := fun_mk (st := s__law_names) l69 c69 k69
  have b69 := F69.binds (ps := ["_law_reel_here", "_law_many"]) fun _ _ _ _ _ _ us hl => match us, hl with | [_, _], _ => rfl
  have F72 := fun_mk (st := s__law_spots) l72 c72 k72
  have b72 := F72.binds (ps := ["_law_reel_here", "_law_names_here"]) fun _ _ _ _ _ _ us hl => match us, hl with | [_, _], _ => rfl
  have F70 := fun_mk (st := s__law_under) l70 c70 k70
  have b70 := F70.binds (ps := ["_law_path_here", "_law_other"]) fun _ _ _ _ _ _ us hl => match us, hl with | [_, _], _ => rfl
  have F68 := fun_mk (st := s__law_mixed) l68 c68 k68
  have b68 := F68.binds (ps := ["_law_reel_here", "_law_some"]) fun _ _ _ _ _ _ us hl => match us, hl with | [_, _], _ => rfl
  have F71 := fun_mk (st := s__law_meet) l71 c71 k71
  have b71 := F71.binds (ps := ["_law_path_here", "_law_other"]) fun _ _ _ _ _ _ us hl => match us, hl with | [_, _], _ => rfl
  have F73 := fun_mk (st := s__law_alone) l73 c73 k73
  have b73 := F73.binds (ps := ["_law_reel_here", "_law_paths_here", "_law_limit"]) fun _ _ _ _ _ _ us hl => match us, hl with | [_, _, _], _ => rfl
  have F74 := fun_mk (st := s__law_rows) l74 c74 k74
  have b74 := F74.binds (ps := ["_law_reel_here", "_law_paths_here"]) fun _ _ _ _ _ _ us hl => match us, hl with | [_, _], _ => rfl
  have F75 := fun_mk (st := s__law_rule_of) l75 c75 k75
  have b75 := F75.binds (ps := ["_law_reel_here", "_law_kind", "_law_spots_here"]) fun _ _ _ _ _ _ us hl => match us, hl with | [_, _, _], _ => rfl
  have F76 := fun_mk (st := s__law_rule) l76 c76 k76
  have b76 := F76.binds (ps := ["_law_reel_here", "_law_spots_here"]) fun _ _ _ _ _ _ us hl => match us, hl with | [_, _], _ => rfl
  have F77 := fun_mk (st := s__law_some_rules) l77 c77 k77
  have b77 := F77.binds (ps := ["_law_reel_here", "_law_spots_here", "_law_limit"]) fun _ _ _ _ _ _ us hl => match us, hl with | [_, _, _], _ => rfl
  have F78 := fun_mk (st := s__law_same) l78 c78 k78
  have b78 := F78.binds (ps := ["_law_found", "_law_due"]) fun _ _ _ _ _ _ us hl => match us, hl with | [_, _], _ => rfl
  have F81 := fun_mk (st := s__law_path) l81 c81 k81
  have b81 := F81.binds (ps := ["_law_value", "_law_limit"]) fun _ _ _ _ _ _ us hl => match us, hl with | [_, _], _ => rfl
  have F82 := fun_mk (st := s__law_paths) l82 c82 k82
  have b82 := F82.binds (ps := ["_law_value", "_law_least", "_law_limit"]) fun _ _ _ _ _ _ us hl => match us, hl with | [_, _, _], _ => rfl
  have F83 := fun_mk (st := s__law_item) l83 c83 k83
  have b83 := F83.binds (ps := ["_law_name", "_law_item_here", "_law_before"]) fun _ _ _ _ _ _ us hl => match us, hl with | [_, _, _], _ => rfl
  have F84 := fun_mk (st := s__law_word) l84 c84 k84
  have b84 := F84.binds (ps := ["_law_value"]) fun _ _ _ _ _ _ us hl => match us, hl with | [_], _ => rfl
  have F88 := fun_mk (st := s__law_against) l88 c88 k88
  have b88 := F88.binds (ps := ["_law_value"]) fun _ _ _ _ _ _ us hl => match us, hl with | [_], _ => rfl
  have F10 := fun_mk (st := s_covers) l10 c10 k10
  have b10 := F10.binds (ps := ["path", "other"]) fun _ _ _ _ _ _ us hl => match us, hl with | [_, _], _ => rfl
  have F8 := fun_mk (st := s__is_name) l8 c8 k8
  have b8 := F8.binds (ps := ["text"]) fun _ _ _ _ _ _ us hl => match us, hl with | [_], _ => rfl
  have F9 := fun_mk (st := s_is_path) l9 c9 k9
  have b9 := F9.binds (ps := ["value"]) fun _ _ _ _ _ _ us hl => match us, hl with | [_], _ => rfl
  have F53 := fun_mk (st := s__is_rule_path) l53 c53 k53
  have b53 := F53.binds (ps := ["value"]) fun _ _ _ _ _ _ us hl => match us, hl with | [_], _ => rfl
  have F54 := fun_mk (st := s__are_rule_paths) l54 c54 k54
  have b54 := F54.binds (ps := ["value", "least", "most"]) fun _ _ _ _ _ _ us hl => match us, hl with | [_, _, _], _ => rfl
  have F55 := fun_mk (st := s__are_rows) l55 c55 k55
  have b55 := F55.binds (ps := ["value"]) fun _ _ _ _ _ _ us hl => match us, hl with | [_], _ => rfl
  have F56 := fun_mk (st := s__fits) l56 c56 k56
  have b56 := F56.binds (ps := ["name", "item", "first"]) fun _ _ _ _ _ _ us hl => match us, hl with | [_, _, _], _ => rfl
  have F57 := fun_mk (st := s_rule_paths) l57 c57 k57
  have b57 := F57.binds (ps := ["rule"]) fun _ _ _ _ _ _ us hl => match us, hl with | [_], _ => rfl
  have F11 := fun_mk (st := s_overlap) l11 c11 k11
  have b11 := F11.binds (ps := ["path", "other"]) fun _ _ _ _ _ _ us hl => match us, hl with | [_, _], _ => rfl
  have F58 := fun_mk (st := s__any_overlap) l58 c58 k58
  have b58 := F58.binds (ps := ["paths"]) fun _ _ _ _ _ _ us hl => match us, hl with | [_], _ => rfl
  have F59 := fun_mk (st := s_rule_error) l59 c59 k59
  have b59 := F59.binds (ps := ["value"]) fun _ _ _ _ _ _ us hl => match us, hl with | [_], _ => rfl
  have F61 := fun_mk (st := s_book_error) l61 c61 k61
  have b61 := F61.binds (ps := ["rules"]) fun _ _ _ _ _ _ us hl => match us, hl with | [_], _ => rfl
  have F4150 := fun_mk (st := s_Book___init__) l4150 c4150 k4150
  have b4150 := F4150.binds (ps := ["self", "rules"]) fun _ _ _ _ _ _ us hl => match us, hl with | [_, _], _ => rfl
  have F4151 := fun_mk (st := s_Book_rules) l4151 c4151 k4151
  have b4151 := F4151.binds (ps := ["self"]) fun _ _ _ _ _ _ us hl => match us, hl with | [_], _ => rfl
  have F89 := fun_mk (st := s__law_told) l89 c89 k89
  have b89 := F89.binds (ps := ["_law_value"]) fun _ _ _ _ _ _ us hl => match us, hl with | [_], _ => rfl
  have F90 := fun_mk (st := s__law_right) l90 c90 k90
  have b90 := F90.binds (ps := ["_law_value"]) fun _ _ _ _ _ _ us hl => match us, hl with | [_], _ => rfl
  have F79 := fun_mk (st := s__law_odd) l79 c79 k79
  have b79 := F79.binds (ps := ["_law_reel_here"]) fun _ _ _ _ _ _ us hl => match us, hl with | [_], _ => rfl
  have F80 := fun_mk (st := s__law_bent) l80 c80 k80
  have b80 := F80.binds (ps := ["_law_reel_here", "_law_value", "_law_deep"]) fun _ _ _ _ _ _ us hl => match us, hl with | [_, _, _], _ => rfl
  have F85 := fun_mk (st := s__law_texts) l85 c85 k85
  have b85 := F85.binds (ps := ["_law_value"]) fun _ _ _ _ _ _ us hl => match us, hl with | [_], _ => rfl
  have F86 := fun_mk (st := s__law_put) l86 c86 k86
  have b86 := F86.binds (ps := ["_law_value", "_law_old", "_law_new"]) fun _ _ _ _ _ _ us hl => match us, hl with | [_, _, _], _ => rfl
  have F87 := fun_mk (st := s__law_closer) l87 c87 k87
  have b87 := F87.binds (ps := ["_law_reel_here", "_law_rule_here"]) fun _ _ _ _ _ _ us hl => match us, hl with | [_, _], _ => rfl
  have F91 := fun_mk (st := s__law_changed) l91 c91 k91
  have b91 := F91.binds (ps := ["_law_reel_here", "_law_some"]) fun _ _ _ _ _ _ us hl => match us, hl with | [_, _], _ => rfl
  have F92 := fun_mk (st := s__law_twice_wrong) l92 c92 k92
  have b92 := F92.binds (ps := ["_law_reel_here", "_law_some"]) fun _ _ _ _ _ _ us hl => match us, hl with | [_, _], _ => rfl
  have F93 := fun_mk (st := s_law) l93 c93 k93
  have b93 := F93.binds (ps := ["_law_script"]) fun _ _ _ _ _ _ us hl => match us, hl with | [_], _ => rfl
  have FI16 := fun_mk (st := si_BadBook) lI16 cI16 kI16
  have bI16 := FI16.binds (ps := ["self", "error"]) fun _ _ _ _ _ _ us hl => match us, hl with | [_, _], _ => rfl
  have T : ∀ base : Heap, (∃ o, base.get? sysModules = some o) → Tx w K mg base (fun i => if i = 15 then f15 else if i = 16 then f16 else if i = 17 then f17 else if i = 18 then f18 else if i = 21 then f21 else if i = 22 then f22 else if i = 65 then f65 else if i = 66 then f66 else if i = 67 then f67 else if i = 69 then f69 else if i = 72 then f72 else if i = 70 then f70 else if i = 68 then f68 else if i = 71 then f71 else if i = 73 then f73 else if i = 74 then f74 else if i = 75 then f75 else if i = 76 then f76 else if i = 77 then f77 else if i = 78 then f78 else if i = 81 then f81 else if i = 82 then f82 else if i = 83 then f83 else if i = 84 then f84 else if i = 88 then f88 else if i = 10 then f10 else if i = 8 then f8 else if i = 9 then f9 else if i = 53 then f53 else if i = 54 then f54 else if i = 55 then f55 else if i = 56 then f56 else if i = 57 then f57 else if i = 11 then f11 else if i = 58 then f58 else if i = 59 then f59 else if i = 61 then f61 else if i = 4150 then f4150 else if i = 4151 then f4151 else if i = 89 then f89 else if i = 90 then f90 else if i = 79 then f79 else if i = 80 then f80 else if i = 85 then f85 else if i = 86 then f86 else if i = 87 then f87 else if i = 91 then f91 else if i = 92 then f92 else if i = 93 then fa else if i = 63 then f63 else if i = 51 then p51 else if i = 52 then p52 else 0) (fun i => if i = 65 then PySem.W.fnOf "_law_reel" "_law_reel" (defArgs s__law_reel) (defBody s__law_reel) (defScope s__law_reel) .none kV65 dc65 pm65 an65 cd65 ct65 else if i = 66 then PySem.W.fnOf "_law_pull" "_law_pull" (defArgs s__law_pull) (defBody s__law_pull) (defScope s__law_pull) .none kV66 dc66 pm66 an66 cd66 ct66 else if i = 67 then PySem.W.fnOf "_law_pick" "_law_pick" (defArgs s__law_pick) (defBody s__law_pick) (defScope s__law_pick) .none kV67 dc67 pm67 an67 cd67 ct67 else if i = 69 then PySem.W.fnOf "_law_names" "_law_names" (defArgs s__law_names) (defBody s__law_names) (defScope s__law_names) .none kV69 dc69 pm69 an69 cd69 ct69 else if i = 72 then PySem.W.fnOf "_law_spots" "_law_spots" (defArgs s__law_spots) (defBody s__law_spots) (defScope s__law_spots) .none kV72 dc72 pm72 an72 cd72 ct72 else if i = 70 then PySem.W.fnOf "_law_under" "_law_under" (defArgs s__law_under) (defBody s__law_under) (defScope s__law_under) .none kV70 dc70 pm70 an70 cd70 ct70 else if i = 68 then PySem.W.fnOf "_law_mixed" "_law_mixed" (defArgs s__law_mixed) (defBody s__law_mixed) (defScope s__law_mixed) .none kV68 dc68 pm68 an68 cd68 ct68 else if i = 71 then PySem.W.fnOf "_law_meet" "_law_meet" (defArgs s__law_meet) (defBody s__law_meet) (defScope s__law_meet) .none kV71 dc71 pm71 an71 cd71 ct71 else if i = 73 then PySem.W.fnOf "_law_alone" "_law_alone" (defArgs s__law_alone) (defBody s__law_alone) (defScope s__law_alone) .none kV73 dc73 pm73 an73 cd73 ct73 else if i = 74 then PySem.W.fnOf "_law_rows" "_law_rows" (defArgs s__law_rows) (defBody s__law_rows) (defScope s__law_rows) .none kV74 dc74 pm74 an74 cd74 ct74 else if i = 75 then PySem.W.fnOf "_law_rule_of" "_law_rule_of" (defArgs s__law_rule_of) (defBody s__law_rule_of) (defScope s__law_rule_of) .none kV75 dc75 pm75 an75 cd75 ct75 else if i = 76 then PySem.W.fnOf "_law_rule" "_law_rule" (defArgs s__law_rule) (defBody s__law_rule) (defScope s__law_rule) .none kV76 dc76 pm76 an76 cd76 ct76 else if i = 77 then PySem.W.fnOf "_law_some_rules" "_law_some_rules" (defArgs s__law_some_rules) (defBody s__law_some_rules) (defScope s__law_some_rules) .none kV77 dc77 pm77 an77 cd77 ct77 else if i = 78 then PySem.W.fnOf "_law_same" "_law_same" (defArgs s__law_same) (defBody s__law_same) (defScope s__law_same) .none kV78 dc78 pm78 an78 cd78 ct78 else if i = 81 then PySem.W.fnOf "_law_path" "_law_path" (defArgs s__law_path) (defBody s__law_path) (defScope s__law_path) .none kV81 dc81 pm81 an81 cd81 ct81 else if i = 82 then PySem.W.fnOf "_law_paths" "_law_paths" (defArgs s__law_paths) (defBody s__law_paths) (defScope s__law_paths) .none kV82 dc82 pm82 an82 cd82 ct82 else if i = 83 then PySem.W.fnOf "_law_item" "_law_item" (defArgs s__law_item) (defBody s__law_item) (defScope s__law_item) .none kV83 dc83 pm83 an83 cd83 ct83 else if i = 84 then PySem.W.fnOf "_law_word" "_law_word" (defArgs s__law_word) (defBody s__law_word) (defScope s__law_word) .none kV84 dc84 pm84 an84 cd84 ct84 else if i = 88 then PySem.W.fnOf "_law_against" "_law_against" (defArgs s__law_against) (defBody s__law_against) (defScope s__law_against) .none kV88 dc88 pm88 an88 cd88 ct88 else if i = 10 then PySem.W.fnOf "covers" "covers" (defArgs s_covers) (defBody s_covers) (defScope s_covers) .none kV10 dc10 pm10 an10 cd10 ct10 else if i = 8 then PySem.W.fnOf "_is_name" "_is_name" (defArgs s__is_name) (defBody s__is_name) (defScope s__is_name) .none kV8 dc8 pm8 an8 cd8 ct8 else if i = 9 then PySem.W.fnOf "is_path" "is_path" (defArgs s_is_path) (defBody s_is_path) (defScope s_is_path) .none kV9 dc9 pm9 an9 cd9 ct9 else if i = 53 then PySem.W.fnOf "_is_rule_path" "_is_rule_path" (defArgs s__is_rule_path) (defBody s__is_rule_path) (defScope s__is_rule_path) .none kV53 dc53 pm53 an53 cd53 ct53 else if i = 54 then PySem.W.fnOf "_are_rule_paths" "_are_rule_paths" (defArgs s__are_rule_paths) (defBody s__are_rule_paths) (defScope s__are_rule_paths) .none kV54 dc54 pm54 an54 cd54 ct54 else if i = 55 then PySem.W.fnOf "_are_rows" "_are_rows" (defArgs s__are_rows) (defBody s__are_rows) (defScope s__are_rows) .none kV55 dc55 pm55 an55 cd55 ct55 else if i = 56 then PySem.W.fnOf "_fits" "_fits" (defArgs s__fits) (defBody s__fits) (defScope s__fits) .none kV56 dc56 pm56 an56 cd56 ct56 else if i = 57 then PySem.W.fnOf "rule_paths" "rule_paths" (defArgs s_rule_paths) (defBody s_rule_paths) (defScope s_rule_paths) .none kV57 dc57 pm57 an57 cd57 ct57 else if i = 11 then PySem.W.fnOf "overlap" "overlap" (defArgs s_overlap) (defBody s_overlap) (defScope s_overlap) .none kV11 dc11 pm11 an11 cd11 ct11 else if i = 58 then PySem.W.fnOf "_any_overlap" "_any_overlap" (defArgs s__any_overlap) (defBody s__any_overlap) (defScope s__any_overlap) .none kV58 dc58 pm58 an58 cd58 ct58 else if i = 59 then PySem.W.fnOf "rule_error" "rule_error" (defArgs s_rule_error) (defBody s_rule_error) (defScope s_rule_error) .none kV59 dc59 pm59 an59 cd59 ct59 else if i = 61 then PySem.W.fnOf "book_error" "book_error" (defArgs s_book_error) (defBody s_book_error) (defScope s_book_error) .none kV61 dc61 pm61 an61 cd61 ct61 else if i = 4150 then PySem.W.fnOf "__init__" "Book.__init__" (defArgs s_Book___init__) (defBody s_Book___init__) (defScope s_Book___init__) .none kV4150 dc4150 pm4150 an4150 cd4150 ct4150 else if i = 4151 then PySem.W.fnOf "rules" "Book.rules" (defArgs s_Book_rules) (defBody s_Book_rules) (defScope s_Book_rules) .none kV4151 dc4151 pm4151 an4151 cd4151 ct4151 else if i = 89 then PySem.W.fnOf "_law_told" "_law_told" (defArgs s__law_told) (defBody s__law_told) (defScope s__law_told) .none kV89 dc89 pm89 an89 cd89 ct89 else if i = 90 then PySem.W.fnOf "_law_right" "_law_right" (defArgs s__law_right) (defBody s__law_right) (defScope s__law_right) .none kV90 dc90 pm90 an90 cd90 ct90 else if i = 79 then PySem.W.fnOf "_law_odd" "_law_odd" (defArgs s__law_odd) (defBody s__law_odd) (defScope s__law_odd) .none kV79 dc79 pm79 an79 cd79 ct79 else if i = 80 then PySem.W.fnOf "_law_bent" "_law_bent" (defArgs s__law_bent) (defBody s__law_bent) (defScope s__law_bent) .none kV80 dc80 pm80 an80 cd80 ct80 else if i = 85 then PySem.W.fnOf "_law_texts" "_law_texts" (defArgs s__law_texts) (defBody s__law_texts) (defScope s__law_texts) .none kV85 dc85 pm85 an85 cd85 ct85 else if i = 86 then PySem.W.fnOf "_law_put" "_law_put" (defArgs s__law_put) (defBody s__law_put) (defScope s__law_put) .none kV86 dc86 pm86 an86 cd86 ct86 else if i = 87 then PySem.W.fnOf "_law_closer" "_law_closer" (defArgs s__law_closer) (defBody s__law_closer) (defScope s__law_closer) .none kV87 dc87 pm87 an87 cd87 ct87 else if i = 91 then PySem.W.fnOf "_law_changed" "_law_changed" (defArgs s__law_changed) (defBody s__law_changed) (defScope s__law_changed) .none kV91 dc91 pm91 an91 cd91 ct91 else if i = 92 then PySem.W.fnOf "_law_twice_wrong" "_law_twice_wrong" (defArgs s__law_twice_wrong) (defBody s__law_twice_wrong) (defScope s__law_twice_wrong) .none kV92 dc92 pm92 an92 cd92 ct92 else if i = 93 then PySem.W.fnOf "law" "law" (defArgs s_law) (defBody s_law) (defScope s_law) .none kV93 dc93 pm93 an93 cd93 ct93 else PySem.W.fnOf "" "" (defArgs (topS 0)) [] (defScope (topS 0)) .none .none .none .none none .none .none) (fun i => if i = 16 then h16 else if i = 4151 then q4151 else 0) (fun i => if i = 16 then PySem.W.fnOf "__init__" "BadBook.__init__" (defArgs si_BadBook) (defBody si_BadBook) (defScope si_BadBook) .none kVI16 dcI16 pmI16 anI16 cdI16 ctI16 else PySem.W.fnOf "" "" (defArgs (topS 0)) [] (defScope (topS 0)) .none .none .none .none none .none .none) := fun base hsys => ⟨F65, PySem.W.mg_of X G a65, b65, F66, PySem.W.mg_of X G a66, b66, F67, PySem.W.mg_of X G a67, b67, F69, PySem.W.mg_of X G a69, b69, F72, PySem.W.mg_of X G a72, b72, F70, PySem.W.mg_of X G a70, b70, F68, PySem.W.mg_of X G a68, b68, F71, PySem.W.mg_of X G a71, b71, F73, PySem.W.mg_of X G a73, b73, F74, PySem.W.mg_of X G a74, b74, F75, PySem.W.mg_of X G a75, b75, F76, PySem.W.mg_of X G a76, b76, F77, PySem.W.mg_of X G a77, b77, F78, PySem.W.mg_of X G a78, b78, F81, PySem.W.mg_of X G a81, b81, F82, PySem.W.mg_of X G a82, b82, F83, PySem.W.mg_of X G a83, b83, F84, PySem.W.mg_of X G a84, b84, F88, PySem.W.mg_of X G a88, b88, F10, PySem.W.mg_of X G a10, b10, F8, PySem.W.mg_of X G a8, b8, F9, PySem.W.mg_of X G a9, b9, F53, PySem.W.mg_of X G a53, b53, F54, PySem.W.mg_of X G a54, b54, F55, PySem.W.mg_of X G a55, b55, F56, PySem.W.mg_of X G a56, b56, F57, PySem.W.mg_of X G a57, b57, F11, PySem.W.mg_of X G a11, b11, F58, PySem.W.mg_of X G a58, b58, F59, PySem.W.mg_of X G a59, b59, F61, PySem.W.mg_of X G a61, b61, F4150, b4150, F4151, b4151, F89, PySem.W.mg_of X G a89, b89, F90, PySem.W.mg_of X G a90, b90, F79, PySem.W.mg_of X G a79, b79, F80, PySem.W.mg_of X G a80, b80, F85, PySem.W.mg_of X G a85, b85, F86, PySem.W.mg_of X G a86, b86, F87, PySem.W.mg_of X G a87, b87, F91, PySem.W.mg_of X G a91, b91, F92, PySem.W.mg_of X G a92, b92, F93, PySem.W.mg_of X G a93, b93, PySem.W.mg_of X G a15, PySem.W.mg_of X G a16, PySem.W.mg_of X G a17, PySem.W.mg_of X G a18, PySem.W.mg_of X G a21, PySem.W.mg_of X G a22, i16, t16, FI16, bI16, xc_of PySem.F.excBase_ValueError PySem.F.store_ValueError kxc16, kty16, knf16error, kkt16_17_18_21_22, kki16_15, kki16_ValueError, kem16_16, PySem.W.mg_of X G a63, ⟨kmk63, i63, kfn63, kkp63⟩, ⟨⟨kpg63, khd63, kpo63, ksa63⟩, kha63, khn63, kht63, khm63, kno63⟩, ownC_of kow63, propOf_mk kpa4151 kpb4151 kpc4151 kpd4151, kna63_rules, PySem.W.mg_of X G a51, ktab_of lt51 kl51 lw51 ck51, PySem.W.mg_of X G a52, ktab_of lt52 kl52 lw52 ck52, hsys, PySem.W.mg_none_of X G z_ValueError, PySem.W.mg_none_of X G z_abs, PySem.W.mg_none_of X G z_all, PySem.W.mg_none_of X G z_any, PySem.W.mg_none_of X G z_bool, PySem.W.mg_none_of X G z_enumerate, PySem.W.mg_none_of X G z_int, PySem.W.mg_none_of X G z_isinstance, PySem.W.mg_none_of X G z_len, PySem.W.mg_none_of X G z_list, PySem.W.mg_none_of X G z_range, PySem.W.mg_none_of X G z_repr, PySem.W.mg_none_of X G z_str, PySem.W.mg_none_of X G z_tuple, PySem.W.mg_none_of X G z_zip, ⟨t_MAX_NAMES, PySem.W.mg_of X G c_MAX_NAMES⟩, ⟨t_MAX_RULES, PySem.W.mg_of X G c_MAX_RULES⟩, ⟨t_MAX_RULE_NAMES, PySem.W.mg_of X G c_MAX_RULE_NAMES⟩, ⟨t__MAX_LETTERS, PySem.W.mg_of X G c__MAX_LETTERS⟩⟩
  exact ⟨PySem.W.fnOf "law" "law" (defArgs s_law) (defBody s_law) (defScope s_law) .none kV93 dc93 pm93 an93 cd93 ct93, fun s v => .of_eq rfl, fun base _ _ hsys => ok_law (P := l.prog) (w := w) (base := base) (T base hsys)⟩
end K42
open PySem PySem.W PyProof.Rows
set_option maxRecDepth 100000 in
set_option maxHeartbeats 0 in
theorem PySem.Challenge.cw_mayrest_k42_books_made_holds : PySem.Challenge.rw_mayrest_k42_books_made.Holds := by
  w_on; o_law; k_head; (case hw => w_witness2)
  k_fill
  refine DL.walkG (l := PySem.Challenge.rw_mayrest_k42_books_made) (n := 63) (k := 13) (x := "_law_script") (sp := fun K => DL.lift K DL.Mem.deck 1 DL.spLaw) rfl (by decide) rfl ⟨rfl, by decide, by decide⟩ (by decide +kernel) (fun w h Y => by first | exact PySem.W.kIn_of Y | exact PySem.W.km_in_of Y) ?F (fun K H a ns hl hO hS => DL.law_start hl hO hS)
  case F =>
    intro w mg fa h KX G hmg
    refine' K42.all_mk KX G hmg ?a65 ?l65 ?c65 ?k65 ?a66 ?l66 ?c66 ?k66 ?a67 ?l67 ?c67 ?k67 ?a69 ?l69 ?c69 ?k69 ?a72 ?l72 ?c72 ?k72 ?a70 ?l70 ?c70 ?k70 ?a68 ?l68 ?c68 ?k68 ?a71 ?l71 ?c71 ?k71 ?a73 ?l73 ?c73 ?k73 ?a74 ?l74 ?c74 ?k74 ?a75 ?l75 ?c75 ?k75 ?a76 ?l76 ?c76 ?k76 ?a77 ?l77 ?c77 ?k77 ?a78 ?l78 ?c78 ?k78 ?a81 ?l81 ?c81 ?k81 ?a82 ?l82 ?c82 ?k82 ?a83 ?l83 ?c83 ?k83 ?a84 ?l84 ?c84 ?k84 ?a88 ?l88 ?c88 ?k88 ?a10 ?l10 ?c10 ?k10 ?a8 ?l8 ?c8 ?k8 ?a9 ?l9 ?c9 ?k9 ?a53 ?l53 ?c53 ?k53 ?a54 ?l54 ?c54 ?k54 ?a55 ?l55 ?c55 ?k55 ?a56 ?l56 ?c56 ?k56 ?a57 ?l57 ?c57 ?k57 ?a11 ?l11 ?c11 ?k11 ?a58 ?l58 ?c58 ?k58 ?a59 ?l59 ?c59 ?k59 ?a61 ?l61 ?c61 ?k61 ?l4150 ?c4150 ?k4150 ?l4151 ?c4151 ?k4151 ?a89 ?l89 ?c89 ?k89 ?a90 ?l90 ?c90 ?k90 ?a79 ?l79 ?c79 ?k79 ?a80 ?l80 ?c80 ?k80 ?a85 ?l85 ?c85 ?k85 ?a86 ?l86 ?c86 ?k86 ?a87 ?l87 ?c87 ?k87 ?a91 ?l91 ?c91 ?k91 ?a92 ?l92 ?c92 ?k92 ?a93 ?l93 ?c93 ?k93 ?a15 ?a16 ?a17 ?a18 ?a21 ?a22 ?i16 ?t16 ?lI16 ?cI16 ?kI16 ?kxc16 ?kty16 ?knf16error ?kkt16_17_18_21_22 ?kki16_15 ?kki16_ValueError ?kem16_16 ?a63 ?kow63 ?kmk63 ?i63 ?kfn63 ?kkp63 ?kpg63 ?khd63 ?kpo63 ?ksa63 ?kha63 ?khn63 ?kht63 ?khm63 ?kno63 ?kpa4151 ?kpb4151 ?kpc4151 ?kpd4151 ?kna63_rules ?a51 ?lt51 ?kl51 ?lw51 ?ck51 ?a52 ?lt52 ?kl52 ?lw52 ?ck52 ?z_ValueError ?z_abs ?z_all ?z_any ?z_bool ?z_enumerate ?z_int ?z_isinstance ?z_len ?z_list ?z_range ?z_repr ?z_str ?z_tuple ?z_zip ?c_MAX_NAMES ?c_MAX_RULES ?c_MAX_RULE_NAMES ?c__MAX_LETTERS
    (case a15 => first | k_is | kernel_rfl | rfl); (case a16 => first | k_is | kernel_rfl | rfl); (case a17 => first | k_is | kernel_rfl | rfl); (case a18 => first | k_is | kernel_rfl | rfl); (case a21 => first | k_is | kernel_rfl | rfl); (case a22 => first | k_is | kernel_rfl | rfl); (case i16 => first | k_is | kernel_rfl | rfl); (case a63 => first | k_is | kernel_rfl | rfl); (case i63 => first | k_is | kernel_rfl | rfl); (case kpa4151 => first | k_is | kernel_rfl | rfl); (case kpd4151 => first | k_is | kernel_rfl | rfl); (case a65 => k_is); (case l65 => k_is); (case c65 => k_is); (case k65 => k_is); (case a66 => k_is); (case l66 => k_is); (case c66 => k_is); (case k66 => k_is); (case a67 => k_is); (case l67 => k_is); (case c67 => k_is); (case k67 => k_is); (case a69 => k_is); (case l69 => k_is); (case c69 => k_is); (case k69 => k_is); (case a72 => k_is); (case l72 => k_is); (case c72 => k_is); (case k72 => k_is); (case a70 => k_is); (case l70 => k_is); (case c70 => k_is); (case k70 => k_is); (case a68 => k_is); (case l68 => k_is); (case c68 => k_is); (case k68 => k_is); (case a71 => k_is); (case l71 => k_is); (case c71 => k_is); (case k71 => k_is); (case a73 => k_is); (case l73 => k_is); (case c73 => k_is); (case k73 => k_is); (case a74 => k_is); (case l74 => k_is); (case c74 => k_is); (case k74 => k_is); (case a75 => k_is); (case l75 => k_is); (case c75 => k_is); (case k75 => k_is); (case a76 => k_is); (case l76 => k_is); (case c76 => k_is); (case k76 => k_is); (case a77 => k_is); (case l77 => k_is); (case c77 => k_is); (case k77 => k_is); (case a78 => k_is); (case l78 => k_is); (case c78 => k_is); (case k78 => k_is); (case a81 => k_is); (case l81 => k_is); (case c81 => k_is); (case k81 => k_is); (case a82 => k_is); (case l82 => k_is); (case c82 => k_is); (case k82 => k_is); (case a83 => k_is); (case l83 => k_is); (case c83 => k_is); (case k83 => k_is); (case a84 => k_is); (case l84 => k_is); (case c84 => k_is); (case k84 => k_is); (case a88 => k_is); (case l88 => k_is); (case c88 => k_is); (case k88 => k_is); (case a10 => k_is); (case l10 => k_is); (case c10 => k_is); (case k10 => k_is); (case a8 => k_is); (case l8 => k_is); (case c8 => k_is); (case k8 => k_is); (case a9 => k_is); (case l9 => k_is); (case c9 => k_is); (case k9 => k_is); (case a53 => k_is); (case l53 => k_is); (case c53 => k_is); (case k53 => k_is); (case a54 => k_is); (case l54 => k_is); (case c54 => k_is); (case k54 => k_is); (case a55 => k_is); (case l55 => k_is); (case c55 => k_is); (case k55 => k_is); (case a56 => k_is); (case l56 => k_is); (case c56 => k_is); (case k56 => k_is); (case a57 => k_is); (case l57 => k_is); (case c57 => k_is); (case k57 => k_is); (case a11 => k_is); (case l11 => k_is); (case c11 => k_is); (case k11 => k_is); (case a58 => k_is); (case l58 => k_is); (case c58 => k_is); (case k58 => k_is); (case a59 => k_is); (case l59 => k_is); (case c59 => k_is); (case k59 => k_is); (case a61 => k_is); (case l61 => k_is); (case c61 => k_is); (case k61 => k_is); (case l4150 => k_is); (case c4150 => k_is); (case k4150 => k_is); (case l4151 => k_is); (case c4151 => k_is); (case k4151 => k_is); (case a89 => k_is); (case l89 => k_is); (case c89 => k_is); (case k89 => k_is); (case a90 => k_is); (case l90 => k_is); (case c90 => k_is); (case k90 => k_is); (case a79 => k_is); (case l79 => k_is); (case c79 => k_is); (case k79 => k_is); (case a80 => k_is); (case l80 => k_is); (case c80 => k_is); (case k80 => k_is); (case a85 => k_is); (case l85 => k_is); (case c85 => k_is); (case k85 => k_is); (case a86 => k_is); (case l86 => k_is); (case c86 => k_is); (case k86 => k_is); (case a87 => k_is); (case l87 => k_is); (case c87 => k_is); (case k87 => k_is); (case a91 => k_is); (case l91 => k_is); (case c91 => k_is); (case k91 => k_is); (case a92 => k_is); (case l92 => k_is); (case c92 => k_is); (case k92 => k_is); (case a93 => k_is); (case l93 => k_is); (case c93 => k_is); (case k93 => k_is); (case t16 => k_is); (case lI16 => k_is); (case cI16 => k_is); (case kI16 => k_is); (case a51 => k_is); (case lt51 => k_is); (case a52 => k_is); (case lt52 => k_is); (case z_ValueError => k_is); (case z_abs => k_is); (case z_all => k_is); (case z_any => k_is); (case z_bool => k_is); (case z_enumerate => k_is); (case z_int => k_is); (case z_isinstance => k_is); (case z_len => k_is); (case z_list => k_is); (case z_range => k_is); (case z_repr => k_is); (case z_str => k_is); (case z_tuple => k_is); (case z_zip => k_is); (case c_MAX_NAMES => k_is); (case c_MAX_RULES => k_is); (case c_MAX_RULE_NAMES => k_is); (case c__MAX_LETTERS => k_is)
    (case lw51 => kernel_rfl); (case ck51 => kernel_rfl); (case lw52 => kernel_rfl); (case ck52 => kernel_rfl)
    (case kxc16 => first | k_is | kernel_rfl | rfl | decide +kernel); (case kty16 => first | k_is | kernel_rfl | rfl | decide +kernel); (case knf16error => first | k_is | kernel_rfl | rfl | decide +kernel); (case kkt16_17_18_21_22 => first | k_is | kernel_rfl | rfl | decide +kernel); (case kki16_15 => first | k_is | kernel_rfl | rfl | decide +kernel); (case kki16_ValueError => first | k_is | kernel_rfl | rfl | decide +kernel); (case kem16_16 => first | k_is | kernel_rfl | rfl | decide +kernel); (case kow63 => first | k_is | kernel_rfl | rfl | decide +kernel); (case kmk63 => first | k_is | kernel_rfl | rfl | decide +kernel); (case kfn63 => first | k_is | kernel_rfl | rfl | decide +kernel); (case kkp63 => first | k_is | kernel_rfl | rfl | decide +kernel); (case kpg63 => first | k_is | kernel_rfl | rfl | decide +kernel); (case khd63 => first | k_is | kernel_rfl | rfl | decide +kernel); (case kpo63 => first | k_is | kernel_rfl | rfl | decide +kernel); (case ksa63 => first | k_is | kernel_rfl | rfl | decide +kernel); (case kha63 => first | k_is | kernel_rfl | rfl | decide +kernel); (case khn63 => first | k_is | kernel_rfl | rfl | decide +kernel); (case kht63 => first | k_is | kernel_rfl | rfl | decide +kernel); (case khm63 => first | k_is | kernel_rfl | rfl | decide +kernel); (case kno63 => first | k_is | kernel_rfl | rfl | decide +kernel); (case kpb4151 => first | k_is | kernel_rfl | rfl | decide +kernel); (case kpc4151 => first | k_is | kernel_rfl | rfl | decide +kernel); (case kna63_rules => first | k_is | kernel_rfl | rfl | decide +kernel)
    (case kl51 => repeat' (first | exact True.intro | refine ⟨⟨_, _, rfl, rfl⟩, ?_⟩)); (case kl52 => repeat' (first | exact True.intro | refine ⟨⟨_, _, rfl, rfl⟩, ?_⟩))

